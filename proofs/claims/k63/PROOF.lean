import PyProof.Rows.All
import Wide.All
import OpenK.AllK
import Wide.FinOn
import PyProof.FString3
import PyProof.Rows.StrIntSpec
import PyProof.EqAt
import PyProof.EqKinds
import PyProof.TupleCall
import HandS.ForExc
import HandS.Comp
import HandS.Iter
import HandS.Dict
import HandS.Walk
import HandS.IsInst
import HandS.ExcInit
import HandS.ExcField
import HandS.WideBits
import HandS.TupAny
import HandS.Deep
import HandS.Conv
import HandS.FStr
import HandS.Text
import HandS.Defaults
import HandS.ExcOwn
import KE.BitLaws
import KE.OsArith
import KE.KStateDown
import HandS.Ends
import HandS.Head0
import HandS.Head1
import HandS.Head2
import HandS.HeadHook1
import HandS.HeadHook2
import PyProof.Rows.BitMore
import KE.KSortKey
import HandS.SortKw
import HandS.Keys
import PyProof.Draws
import PyProof.EnumMake
import KE.GoesMore
import HandS.CallSlots
import KE.SortCalls
import HandS.SortInts
import PyProof.TupleOfSeq
import HandS.Exc
import HandS.WordsDict
import HandS.Style
import HandS.SlotsOwn
import KE.SortData
import HandS.RaiseMore
import PySem.Challenge.RW_blindtwins_k63_whole_three_factors
set_option linter.all false
namespace BT
/-! ### masks and lots -/
theorem or_and_add : ∀ (a b : Nat), (a ||| b) + (a &&& b) = a + b := by
  intro a
  induction a using Nat.strongRecOn with
  | _ a ih =>
    intro b
    by_cases h : a = 0
    · subst h; simp
    · have ih' := ih (a / 2) (by omega) (b / 2)
      have e1 : (a ||| b) = 2 * (a / 2 ||| b / 2) + ((a % 2) ||| (b % 2)) := by
        apply Nat.eq_of_testBit_eq
        intro i
        cases i with
        | zero =>
          simp [Nat.testBit_zero, Nat.or_mod_two_eq_one, Nat.add_mod, Nat.mul_mod]
        | succ i =>
          rw [Nat.testBit_succ, Nat.testBit_succ]
          have : (2 * (a / 2 ||| b / 2) + (a % 2 ||| b % 2)) / 2 = (a / 2 ||| b / 2) := by
            rcases Nat.mod_two_eq_zero_or_one a with h1 | h1 <;> rcases Nat.mod_two_eq_zero_or_one b with h2 | h2 <;> simp [h1, h2] <;> omega
          rw [this, Nat.or_div_two]
      have e2 : (a &&& b) = 2 * (a / 2 &&& b / 2) + ((a % 2) &&& (b % 2)) := by
        apply Nat.eq_of_testBit_eq
        intro i
        cases i with
        | zero =>
          simp [Nat.testBit_zero, Nat.and_mod_two_eq_one, Nat.add_mod, Nat.mul_mod]
        | succ i =>
          rw [Nat.testBit_succ, Nat.testBit_succ]
          have : (2 * (a / 2 &&& b / 2) + (a % 2 &&& b % 2)) / 2 = (a / 2 &&& b / 2) := by
            rcases Nat.mod_two_eq_zero_or_one a with h1 | h1 <;> rcases Nat.mod_two_eq_zero_or_one b with h2 | h2 <;> simp [h1, h2] <;> omega
          rw [this, Nat.and_div_two]
      rw [e1, e2]
      rcases Nat.mod_two_eq_zero_or_one a with h1 | h1 <;> rcases Nat.mod_two_eq_zero_or_one b with h2 | h2 <;> simp [h1, h2] <;> omega
theorem xor_and_add : ∀ (a b : Nat), (a ^^^ b) + 2 * (a &&& b) = a + b := by
  intro a b
  have h := or_and_add a b
  have e : (a ||| b) = (a ^^^ b) ||| (a &&& b) := by
    apply Nat.eq_of_testBit_eq
    intro i
    simp only [Nat.testBit_or, Nat.testBit_xor, Nat.testBit_and]
    cases a.testBit i <;> cases b.testBit i <;> rfl
  have d : (a ^^^ b) &&& (a &&& b) = 0 := by
    apply Nat.eq_of_testBit_eq
    intro i
    simp only [Nat.testBit_and, Nat.testBit_xor, Nat.zero_testBit]
    cases a.testBit i <;> cases b.testBit i <;> rfl
  have h2 := or_and_add (a ^^^ b) (a &&& b)
  rw [d] at h2
  omega
/-- the mask of a lot -/
def maskN (l : List Nat) : Nat := l.foldl (fun m p => m ||| 2 ^ p) 0
theorem maskN_nil : maskN [] = 0 := rfl
theorem maskN_snoc (l : List Nat) (p : Nat) : maskN (l ++ [p]) = maskN l ||| 2 ^ p := by
  unfold maskN; rw [List.foldl_append]; rfl
theorem testBit_foldl : ∀ (l : List Nat) (m i : Nat), (l.foldl (fun m p => m ||| 2 ^ p) m).testBit i = (m.testBit i || decide (i ∈ l))
  | [], m, i => by simp
  | p :: l, m, i => by
    rw [List.foldl_cons, testBit_foldl l, Nat.testBit_or, Nat.testBit_two_pow]
    by_cases h : p = i
    · subst h; simp
    · have h' : ¬ i = p := fun e => h e.symm
      simp [h, h']
theorem testBit_maskN (l : List Nat) (i : Nat) : (maskN l).testBit i = decide (i ∈ l) := by
  unfold maskN; rw [testBit_foldl]; simp
theorem maskN_lt {l : List Nat} {n : Nat} (h : ∀ p ∈ l, p < n) : maskN l < 2 ^ n := by
  apply Nat.lt_pow_two_of_testBit
  intro i hi
  rw [testBit_maskN]
  exact decide_eq_false fun hm => by have := h i hm; omega
/-- the lot of a mask, looked for below n -/
def lotB (n m : Nat) : List Nat := (List.range n).filter m.testBit
theorem lotB_mem {n m p : Nat} : p ∈ lotB n m ↔ p < n ∧ m.testBit p = true := by unfold lotB; simp
theorem lotB_asc (n m : Nat) : (lotB n m).Pairwise (· < ·) := List.Pairwise.filter _ List.pairwise_lt_range
theorem asc_ext : ∀ {a b : List Nat}, a.Pairwise (· < ·) → b.Pairwise (· < ·) → (∀ p, p ∈ a ↔ p ∈ b) → a = b
  | [], [], _, _, _ => rfl
  | [], y :: b, _, _, h => absurd ((h y).mpr (List.mem_cons_self ..)) (by simp)
  | x :: a, [], _, _, h => absurd ((h x).mp (List.mem_cons_self ..)) (by simp)
  | x :: a, y :: b, ha, hb, h => by
    have ha' := List.pairwise_cons.mp ha
    have hb' := List.pairwise_cons.mp hb
    have e : x = y := by
      have h1 := (h x).mp (List.mem_cons_self ..)
      have h2 := (h y).mpr (List.mem_cons_self ..)
      rcases List.mem_cons.mp h1 with e | e
      · exact e
      · rcases List.mem_cons.mp h2 with e2 | e2
        · exact e2.symm
        · have := hb'.1 x e
          have := ha'.1 y e2
          omega
    subst e
    rw [asc_ext ha'.2 hb'.2 fun p => ?_]
    constructor
    · intro hp
      rcases List.mem_cons.mp ((h p).mp (List.mem_cons_of_mem _ hp)) with e | e
      · have := ha'.1 p hp; omega
      · exact e
    · intro hp
      rcases List.mem_cons.mp ((h p).mpr (List.mem_cons_of_mem _ hp)) with e | e
      · have := hb'.1 p hp; omega
      · exact e
theorem lotB_more {n k m : Nat} (hm : m < 2 ^ n) (h : n ≤ k) : lotB k m = lotB n m := by
  refine asc_ext (lotB_asc _ _) (lotB_asc _ _) fun p => ?_
  rw [lotB_mem, lotB_mem]
  constructor
  · rintro ⟨h1, h2⟩
    refine ⟨?_, h2⟩
    refine Nat.lt_of_not_le fun hp => ?_
    rw [Nat.testBit_lt_two_pow (Nat.lt_of_lt_of_le hm (Nat.pow_le_pow_right (by omega) hp))] at h2
    cases h2
  · rintro ⟨h1, h2⟩
    exact ⟨by omega, h2⟩
theorem lotB_same {n k m : Nat} (hn : m < 2 ^ n) (hk : m < 2 ^ k) : lotB n m = lotB k m := by
  rcases Nat.le_total n k with h | h
  · exact (lotB_more hn h).symm
  · exact lotB_more hk h
theorem lotB_maskN {l : List Nat} {n : Nat} (ha : l.Pairwise (· < ·)) (h : ∀ p ∈ l, p < n) : lotB n (maskN l) = l := by
  refine asc_ext (lotB_asc _ _) ha fun p => ?_
  rw [lotB_mem, testBit_maskN]
  simp
  exact fun hp => h p hp
/-- the number of bits -/
def bitsN (m : Nat) : Nat := if m = 0 then 0 else m.log2 + 1
theorem lt_bitsN (m : Nat) : m < 2 ^ bitsN m := by
  unfold bitsN
  by_cases h : m = 0
  · subst h; simp
  · rw [if_neg h]; exact Nat.lt_log2_self
theorem bitsN_le {m n : Nat} (h : m < 2 ^ n) : bitsN m ≤ n := by
  unfold bitsN
  by_cases h0 : m = 0
  · simp [h0]
  · rw [if_neg h0]; exact (Nat.log2_lt h0).mpr h
/-- the lot of a mask -/
def lotN (m : Nat) : List Nat := lotB (bitsN m) m
theorem lotN_eq {n m : Nat} (h : m < 2 ^ n) : lotN m = lotB n m := lotB_same (lt_bitsN m) h
theorem lotN_asc (m : Nat) : (lotN m).Pairwise (· < ·) := lotB_asc _ _
theorem lotN_lt {n m : Nat} (h : m < 2 ^ n) : ∀ p ∈ lotN m, p < n := fun p hp => by
  rw [lotN_eq h] at hp; exact (lotB_mem.mp hp).1
theorem mem_lotN {m p : Nat} : p ∈ lotN m ↔ m.testBit p = true := by
  unfold lotN
  rw [lotB_mem]
  constructor
  · exact fun h => h.2
  · intro h
    refine ⟨Nat.lt_of_not_le fun hp => ?_, h⟩
    rw [Nat.testBit_lt_two_pow (Nat.lt_of_lt_of_le (lt_bitsN m) (Nat.pow_le_pow_right (by omega) hp))] at h
    cases h
theorem lotN_maskN {l : List Nat} (ha : l.Pairwise (· < ·)) : lotN (maskN l) = l := by
  refine asc_ext (lotN_asc _) ha fun p => ?_
  rw [mem_lotN, testBit_maskN]; simp
theorem maskN_lotN (m : Nat) : maskN (lotN m) = m := by
  apply Nat.eq_of_testBit_eq
  intro i
  rw [testBit_maskN]
  by_cases h : m.testBit i = true
  · rw [h]; exact decide_eq_true (mem_lotN.mpr h)
  · have h' : m.testBit i = false := by simpa using h
    rw [h']; exact decide_eq_false fun q => h (mem_lotN.mp q)
/-! ### the number of ones -/
def pop (m : Nat) : Nat := (lotN m).length
theorem range_succ_map (n : Nat) : List.range (n + 1) = 0 :: (List.range n).map Nat.succ := List.range_succ_eq_map
theorem lotB_succ (n m : Nat) : lotB (n + 1) m = (if m % 2 = 1 then [0] else []) ++ (lotB n (m / 2)).map Nat.succ := by
  unfold lotB
  rw [range_succ_map, List.filter_cons]
  have e : (List.map Nat.succ (List.range n)).filter m.testBit = ((List.range n).filter (m / 2).testBit).map Nat.succ := by
    rw [List.filter_map]
    congr 1
    apply List.filter_congr
    intro x _
    simp [Function.comp, Nat.testBit_succ]
  rw [e]
  have e0 : m.testBit 0 = decide (m % 2 = 1) := Nat.testBit_zero m
  rw [e0]
  by_cases h : m % 2 = 1 <;> simp [h]
theorem pop_zero : pop 0 = 0 := rfl
theorem pop_step (m : Nat) : pop m = m % 2 + pop (m / 2) := by
  have h1 : m < 2 ^ (bitsN (m / 2) + 1) := by
    have := lt_bitsN (m / 2)
    rw [Nat.pow_succ]; omega
  unfold pop
  rw [lotN_eq h1, lotB_succ, List.length_append, List.length_map, lotN_eq (lt_bitsN (m / 2))]
  rcases Nat.mod_two_eq_zero_or_one m with h | h <;> simp [h]
/-- the ones among the binary digits -/
theorem count_digits (m : Nat) : (Nat.toDigits 2 m).count '1' = pop m := by
  induction m using Nat.strongRecOn with
  | _ m ih =>
    by_cases h : m < 2
    · rcases (by omega : m = 0 ∨ m = 1) with rfl | rfl
      · rfl
      · decide
    · have e : Nat.toDigits 2 m = Nat.toDigits 2 (m / 2) ++ Nat.toDigits 2 (m % 2) := by
        rw [Nat.toDigits_append_toDigits (by omega) (by omega) (by omega)]
        congr 1
        omega
      rw [e, List.count_append, ih (m / 2) (by omega), ih (m % 2) (by omega), pop_step m]
      rcases Nat.mod_two_eq_zero_or_one m with h2 | h2
      · rw [h2]; show pop (m / 2) + 0 = 0 + pop (m / 2); omega
      · rw [h2]; have : pop 1 = 1 := by decide
        rw [this]; omega
/-- the common places of two lots, counted -/
theorem pop_and {a b : List Nat} (ha : a.Pairwise (· < ·)) : pop (maskN a &&& maskN b) = (a.filter fun p => decide (p ∈ b)).length := by
  unfold pop
  congr 1
  refine asc_ext (lotN_asc _) (ha.filter _) fun p => ?_
  rw [mem_lotN, Nat.testBit_and, testBit_maskN, testBit_maskN]
  simp
/-! ### sums -/
/-- in how many of the lots the place is -/
def oftenL (lots : List (List Nat)) (p : Nat) : Nat := (lots.map fun l => l.count p).sum
def xorL (lots : List (List Nat)) : Nat := lots.foldl (fun m l => m ^^^ maskN l) 0
theorem xorL_snoc (ls : List (List Nat)) (l : List Nat) : xorL (ls ++ [l]) = xorL ls ^^^ maskN l := by
  unfold xorL; rw [List.foldl_append]; rfl
theorem asc_nodup {l : List Nat} (h : l.Pairwise (· < ·)) : l.Nodup := h.imp fun hab => by omega
theorem asc_count {l : List Nat} (h : l.Pairwise (· < ·)) (p : Nat) : l.count p = if p ∈ l then 1 else 0 := by
  by_cases hm : p ∈ l
  · rw [if_pos hm]
    have h1 : l.count p ≤ 1 := List.nodup_iff_count.mp (asc_nodup h) p
    have h2 := List.count_pos_iff.mpr hm
    omega
  · rw [if_neg hm]; exact List.count_eq_zero.mpr hm
theorem testBit_xorF : ∀ (ls : List (List Nat)) (m i : Nat), (∀ l ∈ ls, l.Pairwise (· < ·)) →
    (ls.foldl (fun m l => m ^^^ maskN l) m).testBit i = decide (((if m.testBit i then 1 else 0) + oftenL ls i) % 2 = 1)
  | [], m, i, _ => by
    cases h : m.testBit i <;> simp [h, oftenL]
  | l :: ls, m, i, h => by
    rw [List.foldl_cons, testBit_xorF ls _ i fun l' hl => h l' (List.mem_cons_of_mem _ hl), Nat.testBit_xor, testBit_maskN]
    have e : oftenL (l :: ls) i = (if i ∈ l then 1 else 0) + oftenL ls i := by
      unfold oftenL
      rw [List.map_cons, List.sum_cons, asc_count (h l (List.mem_cons_self ..))]
    rw [e]
    by_cases hi : i ∈ l <;> cases hm : m.testBit i <;> simp [hi, hm] <;> omega
theorem testBit_xorL {ls : List (List Nat)} (h : ∀ l ∈ ls, l.Pairwise (· < ·)) (i : Nat) : (xorL ls).testBit i = decide (oftenL ls i % 2 = 1) := by
  unfold xorL; rw [testBit_xorF ls 0 i h]; simp
theorem xorF_lt {n : Nat} : ∀ (ls : List (List Nat)) (m : Nat), m < 2 ^ n → (∀ l ∈ ls, ∀ p ∈ l, p < n) → ls.foldl (fun m l => m ^^^ maskN l) m < 2 ^ n
  | [], m, hm, _ => hm
  | l :: ls, m, hm, h => xorF_lt ls _ (Nat.xor_lt_two_pow hm (maskN_lt (h l (List.mem_cons_self ..)))) fun l' hl => h l' (List.mem_cons_of_mem _ hl)
theorem xorL_lt {n : Nat} {ls : List (List Nat)} (h : ∀ l ∈ ls, ∀ p ∈ l, p < n) : xorL ls < 2 ^ n := xorF_lt ls 0 (Nat.two_pow_pos n) h
/-- the sum as the law counts it -/
theorem lotN_xorL {n : Nat} {ls : List (List Nat)} (ha : ∀ l ∈ ls, l.Pairwise (· < ·)) (h : ∀ l ∈ ls, ∀ p ∈ l, p < n) :
    lotN (xorL ls) = (List.range n).filter fun p => decide (oftenL ls p % 2 = 1) := by
  rw [lotN_eq (xorL_lt h)]
  unfold lotB
  apply List.filter_congr
  intro p _
  exact testBit_xorL ha p
end BT

set_option Elab.async false
set_option linter.all false
set_option maxRecDepth 100000
set_option maxHeartbeats 2000000
namespace BT
open PySem PySem.Spec PyProof.Rows Builtin Builtin.Float
/-- the binary digits of a number as a text -/
def binText (n : Nat) : Str := ⟨((Nat.toDigits 2 n).map Char.toNat).toArray⟩
section
variable {prog : Program} {w : World} {A : Around} {E : Value → Shared → Prop} {s : Shared}
def fB : FormatSpec := { align := 62, type := some 98 }
theorem fB_eq : parseFormatSpec (Str.ofString "b").cps.toList "int" 62 = .ok fB := by rfl
theorem binText_len {n k : Nat} (h : n < 2 ^ k) (hk : 1 ≤ k) : (binText n).length ≤ k := by
  show ((Nat.toDigits 2 n).map Char.toNat).toArray.size ≤ k
  rw [List.size_toArray, List.length_map]
  induction k generalizing n with
  | zero => omega
  | succ k ih =>
    by_cases h2 : n < 2
    · rw [Nat.toDigits_of_lt_base h2]; show 1 ≤ k + 1; omega
    · have e : Nat.toDigits 2 n = Nat.toDigits 2 (n / 2) ++ Nat.toDigits 2 (n % 2) := by
        rw [Nat.toDigits_append_toDigits (by omega) (by omega) (by omega)]
        congr 1
        omega
      have hk1 : 1 ≤ k := by
        rcases Nat.eq_zero_or_pos k with e0 | e0
        · subst e0; exact absurd h h2
        · exact e0
      have q := ih (n := n / 2) (by rw [Nat.pow_succ] at h; omega) hk1
      rw [e, List.length_append, Nat.toDigits_of_lt_base (show n % 2 < 2 by omega)]
      show _ + 1 ≤ _
      omega
theorem ret_as {x y : Str} {Q : Fin → Shared → Prop} (e : x = y) (h : wpAny (model prog w) A (retStr y) Q E s) : wpAny (model prog w) A (retStr x) Q E s := e ▸ h
theorem fmt_b {n k : Nat} {t : Tok} {Q : Value → Shared → Prop} (hk : n < 2 ^ k) (h1 : 1 ≤ k) (hk2 : k ≤ 1000)
    (h : Q (.str (binText n) (s.toks + 1)) { s with toks := s.toks + 1 + 1 }) : wpAny (model prog w) A (formatField (.int (n : Int) t) (Str.ofString "b")) Q E s := by
  have hlen : (binText n).length ≤ sizeLine := Nat.le_trans (binText_len hk h1) (Nat.le_trans hk2 (by decide))
  have hb : (Str.ofString "b").length ≤ sizeLine := by decide
  show wpAny _ _ (holding [.int (n : Int) t] (pyFormat (.int (n : Int) t) (Str.ofString "b"))) Q E s
  apply wpAny_holding
  unfold pyFormat
  refine (wpAny_bind (wpAny_mkStr ?_ hb) :)
  refine (wpAny_bind (m := callSpecial? (.int (n : Int) t) (Str.ofString "__format__") [.str (Str.ofString "b") s.toks]) (wpAny_callSpecial?_slot (name := Str.ofString "__format__") (typeIs_int _ _ t) slot_int_format ?_) :)
  refine (wpAny_call (codeAny_call_builtin slot_int_format.plain entry_int_format (slot_int_format.check _ _ _ _ _ _ _ _ (typeIs_int _ _ t) (args_int_format _ _) ?_)) :)
  unfold Builtin.«int.__format__»
  have hne : ((Str.ofString "b").length == 0) = false := by decide
  have hasc : (((Str.ofString "b").cps.toList.drop 1).any (· ≥ 128) || ((Str.ofString "b").cps.getD 0 0 ≥ 128 && !([60, 62, 61, 94] : List Nat).contains ((Str.ofString "b").cps.getD 1 0))) = false := by decide
  simp only [selfAndOne, noKeywords, Int.intOfSelf, asInt?, asStr?, List.isEmpty_nil, if_true, pure_bind, bind_pure, bind_assoc, hne, hasc, Bool.false_eq_true, if_false,
    show (Value.str (Str.ofString "b") s.toks == Value.none) = false from rfl]
  refine (wpAny_bind (wpAny_typeNameOf (T := "str") (typeIs_str _ _ _) (by decide) fun _ => ?_) :)
  refine (wpAny_bind (wpAny_typeNameOfCut_int ?_) :)
  obtain ⟨f, hf⟩ : ∃ f : FormatSpec, f = fB := ⟨_, rfl⟩
  have hp : parseFormatSpec (Str.ofString "b").cps.toList "int" 62 = .ok f := by rw [hf]; exact fB_eq
  have f1 : f.type = some 98 := by rw [hf]; rfl
  have f2 : f.precision = none := by rw [hf]; rfl
  have f3 : f.noNeg0 = false := by rw [hf]; rfl
  have f4 : f.width = none := by rw [hf]; rfl
  simp only [hp, f1]
  rw [if_pos (by decide)]
  show wpAny _ _ (if _ then _ else _) _ _ _
  rw [if_neg (by simp [f2])]
  show wpAny _ _ (if _ then _ else _) _ _ _
  rw [if_neg (by simp [f3])]
  show wpAny _ _ (if _ then _ else _) _ _ _
  rw [if_neg (by decide)]
  show wpAny _ _ (if _ then _ else _) _ _ _
  rw [if_neg (by decide)]
  show wpAny _ _ (if _ then _ else _) _ _ _
  rw [if_neg (by simp [f4])]
  show wpAny _ _ (retStr _) _ _ _
  have hdig : (Nat.toDigits 2 n).isEmpty = false := by
    have q := tDigits_len_ge 2 n
    cases e : Nat.toDigits 2 n with
    | nil => rw [e] at q; simp at q
    | cons _ _ => rfl
  have hneg : decide ((n : Int) < 0) = false := decide_eq_false (by omega)
  refine ret_as (y := binText n) ?_ ?_
  · rw [hneg, hf]
    conv => lhs; whnf
    apply congrArg Str.mk
    apply congrArg List.toArray
    have hemp : Nat.toDigits 2 n ≠ [] := fun e => by rw [e] at hdig; cases hdig
    have e88 : (((some 98).getD (if ((Str.ofString "b").cps.back? == some 0) = true then 0 else 100) == 88) = true) ↔ False := by decide
    have e2 : ((n : Int).natAbs) = n := rfl
    simp [fB, hemp, e88, e2]
  unfold retStr
  refine wpAny_bind (wpAny_mkStr (wpAny_pure ?_) hlen)
  show wpAny _ _ (isInstance _ _ >>= _) _ _ _
  exact wpAny_bind (wpAny_isInstance (typeIs_str _ _ _) isSubtype_str_str (wpAny_pure h))
end
end BT

set_option Elab.async false
set_option linter.all false
set_option maxRecDepth 100000
set_option maxHeartbeats 2000000
namespace BT
open PySem PySem.Spec PyProof.Rows L2
/-! ### data that lies in the tracked heap -/
def kD : Key → PyData
  | .inl i => .int i
  | .inr x => .str x
mutual
inductive Dv (H : Hp) : V → PyData → Prop
  | non : Dv H .non .none
  | bl (b : Bool) : Dv H (.bl b) (.bool b)
  | int (i : Int) : Dv H (.int i) (.int i)
  | str (x : Str) : Dv H (.str x) (.str x)
  | lst {a : Addr} {xs : List V} {ds : List PyData} : H a = some (.lst xs) → DvA H xs ds → Dv H (.ref a) (.list ds)
  | tup {a : Addr} {xs : List V} {ds : List PyData} : H a = some (.tup xs) → DvA H xs ds → Dv H (.ref a) (.tuple ds)
  | dct {a : Addr} {kvs : List (Key × V)} {es : List (PyData × PyData)} : H a = some (.dK kvs) → DvK H kvs es → Dv H (.ref a) (.dict es)
inductive DvA (H : Hp) : List V → List PyData → Prop
  | nil : DvA H [] []
  | cons {v : V} {vs : List V} {d : PyData} {ds : List PyData} : Dv H v d → DvA H vs ds → DvA H (v :: vs) (d :: ds)
inductive DvK (H : Hp) : List (Key × V) → List (PyData × PyData) → Prop
  | nil : DvK H [] []
  | cons {k : Key} {v : V} {r : List (Key × V)} {d : PyData} {es : List (PyData × PyData)} : Dv H v d → DvK H r es → DvK H ((k, v) :: r) ((kD k, d) :: es)
end
mutual
theorem Dv.mono {H H' : Hp} (S : Same H H') : ∀ (d : PyData) (v : V), Dv H v d → Dv H' v d
  | .none, _, h => by cases h; exact .non
  | .bool b, _, h => by cases h; exact .bl b
  | .int i, _, h => by cases h; exact .int i
  | .str x, _, h => by cases h; exact .str x
  | .list ds, _, h => by
    cases h with
    | lst e a => exact .lst (S _ _ e) (DvA.mono S ds _ a)
  | .tuple ds, _, h => by
    cases h with
    | tup e a => exact .tup (S _ _ e) (DvA.mono S ds _ a)
  | .dict es, _, h => by
    cases h with
    | dct e a => exact .dct (S _ _ e) (DvK.mono S es _ a)
theorem DvA.mono {H H' : Hp} (S : Same H H') : ∀ (ds : List PyData) (vs : List V), DvA H vs ds → DvA H' vs ds
  | [], _, h => by cases h; exact .nil
  | d :: ds, _, h => by
    cases h with
    | cons h1 h2 => exact .cons (Dv.mono S d _ h1) (DvA.mono S ds _ h2)
theorem DvK.mono {H H' : Hp} (S : Same H H') : ∀ (es : List (PyData × PyData)) (vs : List (Key × V)), DvK H vs es → DvK H' vs es
  | [], _, h => by cases h; exact .nil
  | (_, d) :: es, _, h => by
    cases h with
    | cons h1 h2 => exact .cons (Dv.mono S d _ h1) (DvK.mono S es _ h2)
end
theorem DvA.append {H : Hp} : ∀ {xs : List V} {ds : List PyData} {ys : List V} {es : List PyData}, DvA H xs ds → DvA H ys es → DvA H (xs ++ ys) (ds ++ es)
  | _, _, _, _, .nil, h => h
  | _, _, _, _, .cons a r, h => .cons a (DvA.append r h)
theorem DvA.length {H : Hp} : ∀ {xs : List V} {ds : List PyData}, DvA H xs ds → xs.length = ds.length
  | _, _, .nil => rfl
  | _, _, .cons _ r => congrArg Nat.succ (DvA.length r)
theorem DvA.get {H : Hp} : ∀ {xs : List V} {ds : List PyData} {i : Nat} {v : V}, DvA H xs ds → xs[i]? = some v → ∃ d, ds[i]? = some d ∧ Dv H v d
  | _, _, _, _, .nil, h => by simp at h
  | _, _, 0, v, .cons (d := d) a r, h => ⟨d, rfl, by have e : _ = v := Option.some.inj h; rw [← e]; exact a⟩
  | _, _, i + 1, v, .cons a r, h => by
    obtain ⟨d, h1, h2⟩ := DvA.get (i := i) r h
    exact ⟨d, h1, h2⟩
/-! ### lots -/
/-- a lot as values, as data -/
def lotV (l : List Nat) : List V := l.map fun p : Nat => .int (p : Int)
def lotD (l : List Nat) : PyData := .tuple (l.map fun p : Nat => .int (p : Int))
theorem lotA (H : Hp) : ∀ l : List Nat, DvA H (lotV l) (l.map fun p : Nat => PyData.int (p : Int))
  | [] => .nil
  | p :: l => .cons (.int _) (lotA H l)
theorem Dv.lot {H : Hp} {a : Addr} {l : List Nat} (h : H a = some (.tup (lotV l))) : Dv H (.ref a) (lotD l) := .tup h (lotA H l)
/-! ### what holds no lists, what no dicts -/
mutual
def hasList : PyData → Bool
  | .none | .bool _ | .int _ | .str _ => false
  | .list _ => true
  | .tuple xs => hasListA xs
  | .dict kvs => hasListK kvs
def hasListA : List PyData → Bool
  | [] => false
  | x :: xs => hasList x || hasListA xs
def hasListK : List (PyData × PyData) → Bool
  | [] => false
  | (_, v) :: r => hasList v || hasListK r
end
section
variable {X : Cx} {pins : List (Addr × Obj)} {σ : L2.St} {H : Hp} {s : Shared}
theorem pairs_reads {h : Heap} {w : World} {P : Program} : ∀ (ds : List (PyData × PyData)) {es : List DictEntry} {vs : List (Key × Value)} {kvs : List (Key × V)}, Pairs (mixKind P w) es vs → KV kvs vs → DvK H kvs ds →
    ReadsAll h (es.map (·.key)) (ds.map (·.1)) [] ∧ es.map (·.val) = vs.map (·.2)
  | [], es, vs, kvs, hp, r, a => by
    cases a
    cases r
    cases hp
    exact ⟨.nil, rfl⟩
  | (kd, d) :: ds, es, vs, kvs, hp, r, a => by
    cases a with
    | cons a1 a2 =>
      cases r with
      | cons r1 r2 =>
        cases hp with
        | cons hk hv hp2 =>
          rename_i k v kvr q vr e er
          obtain ⟨h1, h2⟩ := pairs_reads ds hp2 r2 a2
          obtain ⟨qk, qv⟩ := q
          obtain ⟨rk, _⟩ := r1
          have rk' : k = qk := rk
          subst rk'
          refine ⟨?_, ?_⟩
          · have hk' : keyIs k e.key = true := hk
            rcases keyIs_shape hk' with ⟨i, t, e1, e2⟩ | ⟨x, t, e1, e2⟩
            · subst e1
              show ReadsAll h (e.key :: _) (PyData.int i :: _) ([] ++ [])
              rw [e2]
              exact .cons (.int i t) h1
            · subst e1
              show ReadsAll h (e.key :: _) (PyData.str x :: _) ([] ++ [])
              rw [e2]
              exact .cons (.str x t) h1
          · show e.val :: _ = qv :: _
            rw [h2, hv]
mutual
theorem Dv.reads (I : Inv X pins σ H s) : ∀ (d : PyData) (v : V) (u : Value), Dv H v d → RelV v u → ∃ as, Reads s.heap u d as ∧ (hasList d = false → sysModules ∉ as)
  | .none, _, _, h, r => by cases h; cases r; exact ⟨_, .none, fun _ => by simp⟩
  | .bool b, _, _, h, r => by cases h; cases r; exact ⟨_, .bool b, fun _ => by simp⟩
  | .int i, _, _, h, r => by cases h; obtain ⟨t, rfl⟩ := r; exact ⟨_, .int i t, fun _ => by simp⟩
  | .str x, _, _, h, r => by cases h; obtain ⟨t, rfl⟩ := r; exact ⟨_, .str x t, fun _ => by simp⟩
  | .list ds, _, _, h, r => by
    cases h with
    | lst hs ha =>
      cases r
      obtain ⟨its, rv, ⟨o, n, ho, hc, _, hd⟩, _⟩ := I.list (.inl (.inl hs))
      obtain ⟨as, hr, _⟩ := Dv.readsAll I ds _ its ha rv
      exact ⟨_, .list ho hc hd hr, fun z => by simp [hasList] at z⟩
  | .tuple ds, _, _, h, r => by
    cases h with
    | tup hs ha =>
      cases r
      obtain ⟨its, rv, ⟨o, ho, hc, n, hd⟩, _⟩ := I.tuple (.inl (.inl hs))
      obtain ⟨as, hr, hn⟩ := Dv.readsAll I ds _ its ha rv
      exact ⟨_, .tuple ho hc hd hr, fun z => hn (by simpa [hasList] using z)⟩
  | .dict es, _, _, h, r => by
    cases h with
    | dct hs ha =>
      cases r
      obtain ⟨_, hm, vs, kv, o, ens, ep, ho, hx, hd, _, hp, _⟩ := (show ObjOk X.prog X.w H s.heap _ (.dK _) from I.hok _ _ hs)
      obtain ⟨h1, h2⟩ := pairs_reads (h := s.heap) _ hp kv ha
      obtain ⟨bs, h3, h4⟩ := Dv.readsK I es _ vs ha kv
      refine ⟨_, .dict ho hx.1 hd h1 (by rw [h2]; exact h3), fun z hb => ?_⟩
      have hne := beq_eq_false_iff_ne.mp hm
      rcases List.mem_append.mp hb with hb | hb
      · rcases List.mem_cons.mp hb with e | e
        · exact hne e.symm
        · simp at e
      · exact h4 (by simpa [hasList] using z) hb
theorem Dv.readsAll (I : Inv X pins σ H s) : ∀ (ds : List PyData) (vs : List V) (us : List Value), DvA H vs ds → Vals vs us → ∃ as, ReadsAll s.heap us ds as ∧ (hasListA ds = false → sysModules ∉ as)
  | [], _, _, h, r => by cases h; cases r; exact ⟨_, .nil, fun _ => by simp⟩
  | d :: ds, _, _, h, r => by
    cases h with
    | cons h1 h2 =>
      cases r with
      | cons r1 r2 =>
        obtain ⟨as, q1, n1⟩ := Dv.reads I d _ _ h1 r1
        obtain ⟨bs, q2, n2⟩ := Dv.readsAll I ds _ _ h2 r2
        refine ⟨_, .cons q1 q2, fun z hb => ?_⟩
        simp only [hasListA, Bool.or_eq_false_iff] at z
        rcases List.mem_append.mp hb with hb | hb
        · exact n1 z.1 hb
        · exact n2 z.2 hb
theorem Dv.readsK (I : Inv X pins σ H s) : ∀ (es : List (PyData × PyData)) (kvs : List (Key × V)) (vs : List (Key × Value)), DvK H kvs es → KV kvs vs → ∃ as, ReadsAll s.heap (vs.map (·.2)) (es.map (·.2)) as ∧ (hasListK es = false → sysModules ∉ as)
  | [], _, _, h, r => by cases h; cases r; exact ⟨_, .nil, fun _ => by simp⟩
  | (_, d) :: es, _, _, h, r => by
    cases h with
    | cons h1 h2 =>
      cases r with
      | cons r1 r2 =>
        obtain ⟨as, q1, n1⟩ := Dv.reads I d _ _ h1 r1.2
        obtain ⟨bs, q2, n2⟩ := Dv.readsK I es _ _ h2 r2
        refine ⟨_, .cons q1 q2, fun z hb => ?_⟩
        simp only [hasListK, Bool.or_eq_false_iff] at z
        rcases List.mem_append.mp hb with hb | hb
        · exact n1 z.1 hb
        · exact n2 z.2 hb
end
end
/-! ### the size of the text of data -/
def strOk (x : Str) : Bool := x.cps.toList.all fun c => decide (c < 16 ^ 8)
mutual
def okI : PyData → Bool
  | .none | .bool _ => true
  | .int i => decide (i.natAbs < 10 ^ 40)
  | .str x => strOk x
  | .list xs | .tuple xs => okIA xs
  | .dict kvs => okIK kvs
def okIA : List PyData → Bool
  | [] => true
  | x :: xs => okI x && okIA xs
def okIK : List (PyData × PyData) → Bool
  | [] => true
  | (k, v) :: r => okI k && okI v && okIK r
end
mutual
def dW : PyData → Nat
  | .none => 4
  | .bool _ => 5
  | .int _ => 41
  | .str x => 10 * x.length + 2
  | .list xs | .tuple xs => dWA xs + 3
  | .dict kvs => dWK kvs + 2
def dWA : List PyData → Nat
  | [] => 0
  | x :: xs => dW x + 2 + dWA xs
def dWK : List (PyData × PyData) → Nat
  | [] => 0
  | (k, v) :: r => dW k + dW v + 4 + dWK r
end
theorem join_le : ∀ ts : List Str, (Str.join ", " ts).length ≤ piled ts
  | [] => Nat.zero_le _
  | t :: ts => by have := join_length_add (t :: ts) (by simp); omega
theorem len1 : (("(" : String) : Str).length = 1 := rfl
theorem len2 : (("{" : String) : Str).length = 1 := rfl
theorem len3 : (("}" : String) : Str).length = 1 := rfl
theorem len4 : ((": " : String) : Str).length = 2 := rfl
theorem len5 : (("[" : String) : Str).length = 1 := rfl
theorem len6 : (("]" : String) : Str).length = 1 := rfl
theorem tupleText_le (ts : List Str) : (tupleText ts).length ≤ piled ts + 3 := by
  have e3 : (((if ts.length == 1 then ",)" else ")" : String) : Str)).length ≤ 2 := by split <;> decide
  have := join_le ts
  unfold tupleText
  rw [strLen_append, strLen_append, len1]
  omega
theorem dictText_le (ts : List Str) : (dictText ts).length ≤ piled ts + 2 := by
  have := join_le ts
  unfold dictText
  rw [strLen_append, strLen_append, len2, len3]
  omega
theorem listText_le (ts : List Str) : (listText ts).length ≤ piled ts + 2 := by
  unfold listText
  rw [strLen_append, len6]
  cases ts with
  | nil => decide
  | cons t ts =>
    show (textFrom (0 + 1) _ ts).length + 1 ≤ _
    rw [textFrom_length_pos ts (0 + 1) _ (by omega), strLen_append, strLen_append, len5]
    show 1 + 0 + t.length + piled ts + 1 ≤ (t.length + 2) + piled ts + 2
    omega
theorem piled_cons' (t : Str) (ts : List Str) : piled (t :: ts) = t.length + 2 + piled ts := by simp [piled]
theorem strOk_of {x : Str} (h : strOk x = true) : ∀ c ∈ x.cps.toList, c < 16 ^ 8 := fun c hc => of_decide_eq_true (List.all_eq_true.mp h c hc)
theorem int_shown {i : Int} (h : i.natAbs < 10 ^ 40) : (Str.ofString (toString i)).length ≤ 41 := by
  rw [PySem.ofString_length]
  exact int_text_length_le10 (by decide) h
mutual
theorem shown_le : ∀ d : PyData, okI d = true → d.shown.length ≤ dW d
  | .none, _ => by decide
  | .bool b, _ => by cases b <;> decide
  | .int i, h => int_shown (of_decide_eq_true (by simpa only [okI] using h))
  | .str x, h => by
    simp only [PyData.shown, dW]
    exact StrLaws.reprText_len x (strOk_of (by simpa only [okI] using h))
  | .list xs, h => by
    have q := shownA_le xs (by simpa only [okI] using h)
    have := listText_le (PyData.shownAll xs)
    simp only [PyData.shown, dW]
    omega
  | .tuple xs, h => by
    have q := shownA_le xs (by simpa only [okI] using h)
    have := tupleText_le (PyData.shownAll xs)
    simp only [PyData.shown, dW]
    omega
  | .dict es, h => by
    have q := shownK_le es (by simpa only [okI] using h)
    have := dictText_le (PyData.shownKv es)
    simp only [PyData.shown, dW]
    omega
theorem shownA_le : ∀ ds : List PyData, okIA ds = true → piled (PyData.shownAll ds) ≤ dWA ds
  | [], _ => Nat.le_refl _
  | d :: ds, h => by
    simp only [okIA, Bool.and_eq_true] at h
    have h1 := shown_le d h.1
    have h2 := shownA_le ds h.2
    simp only [PyData.shownAll, dWA]
    rw [piled_cons']
    omega
theorem shownK_le : ∀ es : List (PyData × PyData), okIK es = true → piled (PyData.shownKv es) ≤ dWK es
  | [], _ => Nat.le_refl _
  | (k, v) :: es, h => by
    simp only [okIK, Bool.and_eq_true] at h
    have h1 := shown_le k h.1.1
    have h2 := shown_le v h.1.2
    have h3 := shownK_le es h.2
    simp only [PyData.shownKv, dWK]
    rw [piled_cons', strLen_append, strLen_append, len4]
    omega
end
theorem log40 {i : Int} (h : i.natAbs < 10 ^ 40) : i.natAbs.log2 < 1920 := by
  by_cases h0 : i.natAbs = 0
  · rw [h0]; decide
  · exact (Nat.log2_lt h0).mpr (Nat.lt_trans h (by decide +kernel))
mutual
theorem showable_of : ∀ d : PyData, okI d = true → d.showable = true
  | .none, _ => rfl
  | .bool _, _ => rfl
  | .int i, h => by
    simp only [okI] at h
    simp only [PyData.showable]
    exact decide_eq_true (log40 (of_decide_eq_true h))
  | .str _, _ => rfl
  | .list xs, h => by
    simp only [PyData.showable]
    exact showableA_of xs (by simpa only [okI] using h)
  | .tuple xs, h => by
    simp only [PyData.showable]
    exact showableA_of xs (by simpa only [okI] using h)
  | .dict es, h => by
    simp only [PyData.showable]
    exact showableK_of es (by simpa only [okI] using h)
theorem showableA_of : ∀ ds : List PyData, okIA ds = true → PyData.showableAll ds = true
  | [], _ => rfl
  | d :: ds, h => by
    simp only [okIA, Bool.and_eq_true] at h
    simp only [PyData.showableAll, Bool.and_eq_true]
    exact ⟨showable_of d h.1, showableA_of ds h.2⟩
theorem showableK_of : ∀ es : List (PyData × PyData), okIK es = true → PyData.showableKv es = true
  | [], _ => rfl
  | (k, v) :: es, h => by
    simp only [okIK, Bool.and_eq_true] at h
    simp only [PyData.showableKv, Bool.and_eq_true]
    exact ⟨⟨showable_of k h.1.1, showable_of v h.1.2⟩, showableK_of es h.2⟩
end
/-- data whose text is short: n, a bound of it -/
structure Sm (n : Nat) (d : PyData) : Prop where
  ok : okI d = true
  w : dW d ≤ n
  dp : d.depth ≤ 40
  dl : d.hasDict = true → hasList d = false
/-- data that repr can take -/
structure Sr (d : PyData) : Prop where
  ok : okI d = true
  w : dW d ≤ 1000000
  dp : d.depth ≤ 60
  dl : d.hasDict = true → hasList d = false
theorem Sm.mono {n m : Nat} {d : PyData} (h : Sm n d) (l : n ≤ m) : Sm m d := ⟨h.ok, Nat.le_trans h.w l, h.dp, h.dl⟩
theorem Sm.sr {n : Nat} {d : PyData} (h : Sm n d) (l : n ≤ 1000000) : Sr d := ⟨h.ok, Nat.le_trans h.w l, by have := h.dp; omega, h.dl⟩
section
variable {X : Cx}
/-- repr(x), x a tuple (or another object) of short data -/
def rRepr : List V → Hp → VK → Prop := fun xs H Q => ∃ (a : Addr) (d : PyData), xs = [.ref a] ∧ Dv H (.ref a) d ∧ Sr d ∧ Q (.str d.shown) H
theorem call_repr (hg : X.A.guards = some []) (hu : X.A.units + 64 < cLine) : CallR X (.builtin "repr") rRepr := by
  intro pins s σ H xs us Q I r h
  obtain ⟨a, d, rfl, hd, sm, q⟩ := h
  obtain ⟨u, rfl, r1⟩ := vals1 r
  cases (show u = Value.ref a from r1)
  obtain ⟨as, rd, hn⟩ := Dv.reads I d (.ref a) (.ref a) hd rfl
  have hz : d.shown.length ≤ sizeLine := by
    have h1 := shown_le d sm.ok
    have h2 := sm.w
    rw [sizeLine_eq]
    omega
  refine repr_of_reads' rd (showable_of d sm.ok) (fun z => hn (sm.dl z)) hg (by have := sm.dp; omega) (fun _ _ e => e) (fun h' u tk k => ?_) hz
  exact ⟨.str d.shown, H, I.kept (h' := h') (t' := tk) k, ⟨u, rfl⟩, q⟩
/-- f'{n:b}' -/
def tFmtB (te : TE) : TE := fun σ H Q => te σ H fun x H1 => ∃ (n k : Nat), x = .int (n : Int) ∧ n < 2 ^ k ∧ 1 ≤ k ∧ k ≤ 1000 ∧ Q (.str (binText n)) H1
theorem pe_fmtB {e : Expr} {te : TE} {j : Nat} {p1 p2 p3 : Pos} (he : PE X e te) : PE X (.JoinedStr [.FormattedValue e (-1) (some (.JoinedStr [.Constant (.str (Str.ofString "b")) j p1] p2)) p3] pos) (tFmtB te) := by
  refine pe_joined1 ⟨fun pins s σ H Q I h => ?_⟩
  refine wpAny_FormattedValue_spec (thn (he.run pins s σ H _ I h) fun v s1 hv => ?_)
  obtain ⟨x, H1, I1, r1, n, k, rfl, hk, h1, h2, q⟩ := hv
  obtain ⟨t, rfl⟩ := r1
  refine thn ((pe_joined1 (pe_str (x := Str.ofString "b"))).run pins s1 σ H1 (fun v H' => v = .str (Str.ofString "b") ∧ Q (.str (binText n)) H') I1 ⟨rfl, q⟩) fun u s2 hu => ?_
  obtain ⟨y, H2, I2, r2, rfl, q2⟩ := hu
  obtain ⟨t2, rfl⟩ := r2
  exact ⟨_, _, rfl, fmt_b hk h1 h2 ⟨.str (binText n), H2, I2.tok _, ⟨_, rfl⟩, q2⟩⟩
end
end BT

set_option Elab.async false
set_option linter.all false
set_option maxRecDepth 100000
set_option maxHeartbeats 2000000
namespace BT
open PySem PySem.Spec PyProof.Rows L2
/-! ### defs that want to know that no repr is under way: as FnOk, with that one premise more -/
structure FnG (P : Program) (w : World) (K : PySem.W.Frag) (mg : Str → Option Value) (base : Heap) (k : Nat) (f : Addr) (fd : FuncData) (ps : List Str) (sp : Sp) : Prop where
  many : ∀ vs H Q E, sp vs H Q E → vs.length = ps.length
  goes : ∀ (A : Around) (outer : List Env) (s : Shared) (H : Hp) (args : Args) (us : List Value) (vs : List V) (Q : VK), Room k A → A.guards = some [] → Env0 P w K mg base A outer s H → BindsTo s fd args (ps.zip us) → Vals vs us → sp vs H Q E0 →
    codeAny (model P w) A (.call (.ref f) args) (CR CX0 outer P w H s Q E0) s
section
variable {P : Program} {w : World} {K : PySem.W.Frag} {mg : Str → Option Value} {base : Heap}
theorem fn_ofG {k : Nat} {f : Addr} {nm qual : Str} {pr : Arguments} {bd : List Stmt} {sc : Scope} {dV kV dc pm cdv ct oc : Value} {an od : Option Addr}
    {sl : Array (Option Value)} {N ps : List Str} {sp : Sp} (lk : K.lookup f = some ⟨oc, od, .func (PySem.W.fnOf nm qual pr bd sc dV kV dc pm an cdv ct), sl⟩) (hcd : PySem.W.codeIn K cdv qual = true) (S : FnScope N ps sc)
    (many : ∀ vs H Q E, sp vs H Q E → vs.length = ps.length)
    (hbody : ∀ (A : Around) (outer : List Env) (s : Shared) (H : Hp) (vs : List V) (Q : VK), Room k (A.deeper (envOfC qual sc s.heap.objs.size f cdv)) → A.guards = some [] → sp vs H Q E0 →
      ∃ t, PSs (cxOf CX0 P w K mg base N qual sc f cdv A outer s H E0) bd t ∧ t { nx := fun _ H' => Q .non H', rt := Q } (start N vs) H) :
    FnG P w K mg base (k + 1) f (PySem.W.fnOf nm qual pr bd sc dV kV dc pm an cdv ct) ps sp := by
  refine ⟨many, fun A outer s H args us vs Q room gd e0 bind rel hsp => ?_⟩
  have hlen := many _ _ _ _ hsp
  have keepB : ∀ b o, base.get? b = some o → s.heap.get? b = some o := fun b o e => (e0.bs b o e).1
  have KX : K.In s.heap := e0.mod.kin.keeps keepB
  have noLim : s.heap.NoLimit := e0.mod.nolimit.keeps keepB
  have kinds : ∀ y ∈ ps.zip us, sc.names.lookup y.1 = some .local ∨ (sc.names.lookup y.1 = some .cell ∧ ((cellsFrom (s.heap.objs.size + 1) sc.names []).lookup y.1).isSome = true) := by
    rintro ⟨n, v⟩ hy
    have hn := (List.of_mem_zip hy).1
    rcases S.par n hn with q | q
    · left; exact q
    · right; exact ⟨q, PySem.W.cellsFrom_some _ _ _ (.inl q)⟩
  refine codeAny_call_function room.depth (KX _ _ lk) rfl S.co S.gen rfl (PySem.W.codeRec_of KX hcd) (bind _ _ _ _ ?g1)
  refine wpAny_newFunctionEnv_cells S.kind kinds (fun env he s1 x => ?g2)
  subst he
  refine And.intro (noLim.keeps x.toInCall.keep) (codeAny_func ?g3)
  obtain ⟨t, run, hq⟩ := hbody A outer s H vs Q (room.deeper _) gd hsp
  have I := inv_start (CX := CX0) (E := E0) S room.hd e0 hlen rel x
  refine wpAny_mono (run.run [] s1 (start N vs) H _ I hq) (fun fl s' out => ?g4) (fun _ _ out => out)
  have done : ∀ {τ : L2.St} {H' : Hp} {v : V} {u : Value}, Inv (cxOf CX0 P w K mg base N qual sc f cdv A outer s H E0) [] τ H' s' → RelV v u → Q v H' → CE outer P w H s Q u s' := by
    intro τ H' v u J rv q
    exact ⟨v, H', J.os, J.bare, J.base, J.hok, rv, q⟩
  cases fl with
  | brk => obtain ⟨_, _, _, q⟩ := out; exact q.elim
  | cont => obtain ⟨_, _, _, q⟩ := out; exact q.elim
  | next => obtain ⟨τ, H', J, q⟩ := out; exact done (v := V.non) (u := Value.none) J rfl q
  | ret u => obtain ⟨v, τ, H', J, rv, q⟩ := out; exact done J rv q
theorem Fun.okG {x qual : Str} {st : Stmt} {f : Addr} {fd : FuncData} {N ps : List Str} {k : Nat} {sp : Sp} (F : Fun K x qual st f fd) (S : FnScope N ps (defScope st)) (many : ∀ vs H Q E, sp vs H Q E → vs.length = ps.length)
    (hbody : ∀ (cdv : Value) (A : Around) (outer : List Env) (s : Shared) (H : Hp) (vs : List V) (Q : VK), Room k (A.deeper (envOfC qual (defScope st) s.heap.objs.size f cdv)) → A.guards = some [] → sp vs H Q E0 →
      ∃ t, PSs (cxOf CX0 P w K mg base N qual (defScope st) f cdv A outer s H E0).nox (defBody st) t ∧ t { nx := fun _ H' => Q .non H', rt := Q } (start N vs) H) : FnG P w K mg base (k + 1) f fd ps sp := by
  obtain ⟨oc, od, kV, dc, pm, an, cdv, ct, sl, e, lk, hcd⟩ := F.ex
  subst e
  refine fn_ofG lk hcd S many fun A outer s H vs Q room gd hsp => ?_
  obtain ⟨t, h, q⟩ := hbody cdv A outer s H vs Q room gd hsp
  exact ⟨t, h.nox, q⟩
end
section
variable {X : Cx} {k : Nat} {f : Addr} {fd : FuncData} {ps : List Str} {sp : Sp} {x : Str} {p pos : Pos} {e : Expr} {es : List Expr} {t : TA}
theorem run_fnG {pins : List (Addr × Obj)} {σ : L2.St} {H : Hp} {s : Shared} {Q : VK} {us : List Value} {vs : List V} (F : FnG X.prog X.w X.K X.mg X.base k f fd ps sp) (room : Room k X.A) (gd : X.A.guards = some []) (hb : Binds X.K fd ps [])
    (I : Inv X pins σ H s) (r : Vals vs us) (h : sp vs H Q E0) : wpAny (model X.prog X.w) X.A (call (.ref f) us) (EP X pins σ Q) X.xe s := by
  have many : us.length = ps.length := r.length.symm.trans (F.many _ _ _ _ h)
  have bt := hb s us I.kIn (by rw [List.append_nil]; exact many)
  rw [List.append_nil] at bt
  refine wpAny_call (codeAny_mono (F.goes X.A X.stack s H ⟨us, []⟩ us vs Q room gd I.env0 bt r h) fun res s' out => ?_)
  cases res with
  | error er => exact False.elim out
  | ok fl =>
    cases fl with
    | next => exact out.elim
    | brk => exact out.elim
    | cont => exact out.elim
    | ret u => exact I.after out
theorem pe_callG (F : FnG X.prog X.w X.K X.mg X.base k f fd ps sp) (room : Room k X.A) (gd : X.A.guards = some []) (hg : Gl X x) (hm : X.mg x = some (.ref f)) (hk : PySem.W.keepIn X.K (.ref f) = true) (hb : Binds X.K fd ps [])
    (ha : PA X (e :: es) t) (hdb : (x == ("__debug__" : Str)) = false := by decide) (he : starEach (e :: es) X.env = (false, eval e X.env) :: starEach es X.env := by rfl) (hpl : (backTo pos (starEach es X.env)).any (·.1) = false := by rfl) :
    PE X (.Call (.Name x p) (e :: es) [] pos) (fun σ H Q => t σ H fun vs H1 => sp vs H1 Q E0) := by
  refine ⟨fun pins s σ H Q I h => wpAny_Call_Name_kw (ld_glob I hg hm ?_ hdb)⟩
  refine PySem.W.callWith_K (h₀ := X.base) I.ok.mod.kin hk (thn (ha.run pos pins s σ H _ I h) fun us s1 out => ?_) he hpl
  obtain ⟨vs, H1, I1, r, q⟩ := out
  exact ⟨I1.kIn, run_fnG F room gd hb I1 r q⟩
end
end BT

set_option Elab.async false
set_option linter.all false
set_option maxRecDepth 100000
set_option maxHeartbeats 2000000
namespace BT
open PySem PySem.Spec PyProof.Rows L2
/-! ### heaps: the law's source of draws -/
theorem del_get {H : Hp} {a b : Addr} {o : HO} (h : L2.del H a b = some o) : b ≠ a ∧ H b = some o := by
  by_cases e : b = a
  · rw [e, del_same] at h; cases h
  · rw [del_ne e] at h; exact ⟨e, h⟩
/-- at a the source stands: two numbers (l: a list of numbers that stands, it may be a itself) -/
structure Src (l a : Addr) (H : Hp) : Prop where
  at_ : ∃ i b c cl n w : Int, True ∧ H a = some (.lst [.int i, .int b])
  nums : ∃ ns : List Int, H l = some (.lst (ns.map V.int))
/-- behind some deeds that draw from the source at a: it stands as a source, all else stands as it stood -/
structure Keeps (l a : Addr) (H H' : Hp) : Prop where
  src : Src l a H'
  same : ∀ b o, b ≠ a → H b = some o → H' b = some o
theorem Keeps.refl {l a : Addr} {H : Hp} (s : Src l a H) : Keeps l a H H := ⟨s, fun _ _ _ h => h⟩
theorem Keeps.trans {l a : Addr} {H H1 H2 : Hp} (k : Keeps l a H H1) (j : Keeps l a H1 H2) : Keeps l a H H2 := ⟨j.src, fun b o n h => j.same b o n (k.same b o n h)⟩
theorem Keeps.del {l a : Addr} {H H' : Hp} (k : Keeps l a H H') : Same (L2.del H a) (L2.del H' a) := fun b o h => by
  obtain ⟨n, e⟩ := del_get h
  rw [del_ne n]
  exact k.same b o n e
theorem Keeps.of_same {l a : Addr} {H H' : Hp} (s : Src l a H) (k : Same H H') : Keeps l a H H' := by
  obtain ⟨i, b, c, cl, n, w, h0, h1⟩ := s.at_
  obtain ⟨ns, h2⟩ := s.nums
  exact ⟨⟨⟨i, b, c, cl, n, w, h0, k _ _ h1⟩, ⟨ns, k _ _ h2⟩⟩, fun b o _ h => k b o h⟩
theorem Src.free_ne {l a : Addr} {H : Hp} (s : Src l a H) {p : Addr} (h : H p = none) : p ≠ a ∧ p ≠ l := by
  obtain ⟨i, b, c, cl, n, w, h0, h1⟩ := s.at_
  obtain ⟨ns, h2⟩ := s.nums
  exact ⟨fun e => (by rw [e, h1] at h; cases h), fun e => (by rw [e, h2] at h; cases h)⟩
/-- an object that is new since H is laid or written -/
theorem Keeps.own {l a : Addr} {H H' : Hp} (s : Src l a H) (k : Keeps l a H H') {p : Addr} {o : HO} (h : H p = none) : Keeps l a H (upd H' p o) := by
  obtain ⟨n1, n2⟩ := s.free_ne h
  obtain ⟨i, b, c, cl, n, w, h0, h1⟩ := k.src.at_
  obtain ⟨ns, h2⟩ := k.src.nums
  refine ⟨⟨⟨i, b, c, cl, n, w, h0, by rw [upd_ne (Ne.symm n1)]; exact h1⟩, ⟨ns, by rw [upd_ne (Ne.symm n2)]; exact h2⟩⟩, fun q u hq e => ?_⟩
  rw [upd_ne (ne_of_none e h)]
  exact k.same q u hq e
theorem Keeps.free {l a : Addr} {H H' : Hp} (s : Src l a H) (k : Keeps l a H H') {p : Addr} (h : H' p = none) : H p = none := by
  cases e : H p with
  | none => rfl
  | some o =>
    by_cases q : p = a
    · obtain ⟨i, b, c, cl, n, w, h0, h1⟩ := k.src.at_
      rw [q, h1] at h; cases h
    · rw [k.same p o q e] at h; cases h
theorem Keeps.new {l a : Addr} {H H' : Hp} (s : Src l a H) (k : Keeps l a H H') {p : Addr} {o : HO} (h : H' p = none) : Keeps l a H (upd H' p o) := k.own s (k.free s h)
theorem Same.new {H H' : Hp} (k : Same H H') {p : Addr} {o : HO} (h : H' p = none) : Same H (upd H' p o) := fun b u e => by
  rw [upd_ne (ne_of_none (k b u e) h)]; exact k b u e
theorem Same.own {H H' : Hp} (k : Same H H') {p : Addr} {o : HO} (h : H p = none) : Same H (upd H' p o) := fun b u e => by
  rw [upd_ne (ne_of_none e h)]; exact k b u e
theorem Dv.keeps {l a : Addr} {H H' : Hp} {v : V} {d : PyData} (k : Keeps l a H H') (h : Dv (L2.del H a) v d) : Dv (L2.del H' a) v d := Dv.mono k.del d v h
theorem Dv.undel {a : Addr} {H : Hp} {v : V} {d : PyData} (h : Dv (L2.del H a) v d) : Dv H v d := Dv.mono (fun b o e => (del_get e).2) d v h
/-! ### a def that stands: its name, its promise -/
structure DefOk (P : Program) (w : World) (K : PySem.W.Frag) (mg : Str → Option Value) (base : Heap) (CX : CXT) (k : Nat) (x : Str) (ps : List Str) (sp : Sp) : Prop where
  ex : ∃ (f : Addr) (fd : FuncData), FnOk P w K mg base CX k f fd ps sp ∧ mg x = some (.ref f) ∧ PySem.W.keepIn K (.ref f) = true ∧ Binds K fd ps []
structure DefG (P : Program) (w : World) (K : PySem.W.Frag) (mg : Str → Option Value) (base : Heap) (k : Nat) (x : Str) (ps : List Str) (sp : Sp) : Prop where
  ex : ∃ (f : Addr) (fd : FuncData), FnG P w K mg base k f fd ps sp ∧ mg x = some (.ref f) ∧ PySem.W.keepIn K (.ref f) = true ∧ Binds K fd ps []
abbrev FnP (K : PySem.W.Frag) (x : Str) (st : Stmt) (f : Addr) (fd : FuncData) : Prop := FunD K x x (defArgs st) (defBody st) (defScope st) [] [] f fd
section
variable {P : Program} {w : World} {K : PySem.W.Frag} {mg : Str → Option Value} {base : Heap}
theorem okG_of {x : Str} {st : Stmt} {f : Addr} {fd : FuncData} {N ps : List Str} {k : Nat} {sp : Sp} (F : FnP K x st f fd) (S : FnScope N ps (defScope st)) (many : ∀ vs H Q E, sp vs H Q E → vs.length = ps.length)
    (hbody : ∀ (cdv : Value) (A : Around) (outer : List Env) (s : Shared) (H : Hp) (vs : List V) (Q : VK), Room k (A.deeper (envOfC x (defScope st) s.heap.objs.size f cdv)) → A.guards = some [] → sp vs H Q E0 →
      ∃ t, PSs (cxOf CX0 P w K mg base N x (defScope st) f cdv A outer s H E0).nox (defBody st) t ∧ t { nx := fun _ H' => Q .non H', rt := Q } (start N vs) H) : FnG P w K mg base (k + 1) f fd ps sp := by
  obtain ⟨oc, od, dV, kV, dc, pm, an, cdv, ct, sl, e, lk, hcd, _⟩ := F.ex
  subst e
  refine fn_ofG lk hcd S many fun A outer s H vs Q room gd hsp => ?_
  obtain ⟨t, h, q⟩ := hbody cdv A outer s H vs Q room gd hsp
  exact ⟨t, h.nox, q⟩
end
section
variable {X : Cx} {k j : Nat} {ps : List Str} {sp : Sp} {x : Str} {p pos : Pos} {e : Expr} {es : List Expr} {t : TA}
theorem pe_d (D : DefOk X.prog X.w X.K X.mg X.base CX0 k x ps sp) (hr : Room j X.A) (hg : Gl X x) (ha : PA X (e :: es) t) (hk : k ≤ j := by decide) (hdb : (x == ("__debug__" : Str)) = false := by decide)
    (he : starEach (e :: es) X.env = (false, eval e X.env) :: starEach es X.env := by rfl) (hpl : (backTo pos (starEach es X.env)).any (·.1) = false := by rfl) : PE X (.Call (.Name x p) (e :: es) [] pos) (tCall sp [] E0 t) := by
  obtain ⟨f, fd, F, hm, hkp, hb⟩ := D.ex
  exact pe_call F (hr.mono hk) hg hm hkp hb .nil pass0 ha hdb he hpl
theorem pe_dX {E : XK} (D : DefOk X.prog X.w X.K X.mg X.base (L2.CX X.prog X.w) k x ps sp) (hr : Room j X.A) (hg : Gl X x) (hx : Passes (L2.CX X.prog X.w) X E) (ha : PA X (e :: es) t) (hk : k ≤ j := by decide) (hdb : (x == ("__debug__" : Str)) = false := by decide)
    (he : starEach (e :: es) X.env = (false, eval e X.env) :: starEach es X.env := by rfl) (hpl : (backTo pos (starEach es X.env)).any (·.1) = false := by rfl) : PE X (.Call (.Name x p) (e :: es) [] pos) (tCall sp [] E t) := by
  obtain ⟨f, fd, F, hm, hkp, hb⟩ := D.ex
  exact pe_call F (hr.mono hk) hg hm hkp hb .nil hx ha hdb he hpl
/-- a def that may raise, called where nothing may be raised (its promise tells that it is not) -/
theorem pe_dN (D : DefOk X.prog X.w X.K X.mg X.base (L2.CX X.prog X.w) k x ps sp) (hr : Room j X.A) (hg : Gl X x) (ha : PA X (e :: es) t) (hk : k ≤ j := by decide) (hdb : (x == ("__debug__" : Str)) = false := by decide)
    (he : starEach (e :: es) X.env = (false, eval e X.env) :: starEach es X.env := by rfl) (hpl : (backTo pos (starEach es X.env)).any (·.1) = false := by rfl) : PE X (.Call (.Name x p) (e :: es) [] pos) (tCall sp [] E0 t) := pe_dX D hr hg passL ha hk hdb he hpl
theorem pe_dS {E : L2.St → XK} (D : DefOk X.prog X.w X.K X.mg X.base (L2.CX X.prog X.w) k x ps sp) (hr : Room j X.A) (hg : Gl X x) (hx : ∀ σ, PassesAt (L2.CX X.prog X.w) X σ (E σ)) (ha : PA X (e :: es) t) (hk : k ≤ j := by decide) (hdb : (x == ("__debug__" : Str)) = false := by decide)
    (he : starEach (e :: es) X.env = (false, eval e X.env) :: starEach es X.env := by rfl) (hpl : (backTo pos (starEach es X.env)).any (·.1) = false := by rfl) : PE X (.Call (.Name x p) (e :: es) [] pos) (tCallS sp E t) := by
  obtain ⟨f, fd, F, hm, hkp, hb⟩ := D.ex
  exact pe_callS F (hr.mono hk) hg hm hkp hb hx ha hdb he hpl
theorem pe_dG (D : DefG X.prog X.w X.K X.mg X.base k x ps sp) (hr : Room j X.A) (gd : X.A.guards = some []) (hg : Gl X x) (ha : PA X (e :: es) t) (hk : k ≤ j := by decide) (hdb : (x == ("__debug__" : Str)) = false := by decide)
    (he : starEach (e :: es) X.env = (false, eval e X.env) :: starEach es X.env := by rfl) (hpl : (backTo pos (starEach es X.env)).any (·.1) = false := by rfl) : PE X (.Call (.Name x p) (e :: es) [] pos) (fun σ H Q => t σ H fun vs H1 => sp vs H1 Q E0) := by
  obtain ⟨f, fd, F, hm, hkp, hb⟩ := D.ex
  exact pe_callG F (hr.mono hk) gd hg hm hkp hb ha hdb he hpl
end
/-! ### the package's errors: one __init__, its attribute what -/
def spInit (K : PySem.W.Frag) : Sp := fun vs H Q _ => ∃ (a C : Addr) (y : V), vs = [.ref a, y] ∧ OexC K C ∧ PySem.W.findIn K (.ref C) "what" = some none ∧ H a = some (exo a C none) ∧
  ∀ dx, H dx = none → dx ≠ a → Q .non (upd (upd H dx (exd dx [("what", y)])) a (exo a C (some dx)))
structure ErrC (P : Program) (w : World) (K : PySem.W.Frag) (mg : Str → Option Value) (base : Heap) (x : Str) (C : Addr) : Prop where
  g : mg x = some (.ref C)
  oex : OexC K C
  xf : XfC K C
  noW : PySem.W.findIn K (.ref C) "what" = some none
  exm : PySem.W.exmOne K (.ref C) (.ref C) = some true
  ini : ∃ (fI : Addr) (fd : FuncData), PySem.W.findIn K (.ref C) "__init__" = some (some (.ref fI)) ∧ PySem.W.typeIn K (.ref fI) = some (.type "function") ∧
    FnOk P w K mg base CX0 1 fI fd ["self", "what"] (spInit K) ∧ Binds K fd ["self", "what"] []
/-- a reading that may be weakened -/
def MonoE (te : TE) : Prop := ∀ (σ : L2.St) (H : Hp) (Q Q' : VK), (∀ v H', Q v H' → Q' v H') → te σ H Q → te σ H Q'
theorem mono_var (i : Nat) : MonoE (tVar i) := fun _ _ _ _ h ⟨v, e, q⟩ => ⟨v, e, h _ _ q⟩
theorem mono_int (i : Int) : MonoE (tC (.int i)) := fun _ _ _ _ h q => h _ _ q
theorem mono_neg (i : Int) : MonoE (tUn (rU fun i => .int (-i)) (tC (.int i))) := fun _ _ _ _ h ⟨j, e, q⟩ => ⟨j, e, h _ _ q⟩
theorem upd_comm_del {H : Hp} {a d : Addr} {u o1 o2 o3 : HO} (ha : H a = none) (hda : d ≠ a) : upd (L2.del (upd (upd (upd H a o1) d o2) a o3) a) d u = upd H d u := by
  funext b
  by_cases hb : b = d
  · rw [hb, upd_same, upd_same]
  · rw [upd_ne hb, upd_ne hb]
    by_cases hc : b = a
    · rw [hc, del_same, ha]
    · rw [del_ne hc, upd_ne hc, upd_ne hb, upd_ne hc]
section
variable {X : Cx} {k : Nat} {x : Str} {C : Addr} {e : Expr} {te : TE} {p pos p2 : Pos}
theorem pmk_err (D : ErrC X.prog X.w X.K X.mg X.base x C) (hr : Room k X.A) (hg : Gl X x) (he : PE X e te) (mono : MonoE te) (hk : 2 ≤ k := by decide)
    (hdb : (x == ("__debug__" : Str)) = false := by decide) (hs : starEach [e] X.env = (false, eval e X.env) :: starEach [] X.env := by rfl) (hpl : (backTo pos (starEach [] X.env)).any (·.1) = false := by rfl) :
    PMk X (.Call (.Name x p) [e] [] pos) (fun σ H Q => te σ H fun v H1 => ∀ d, H1 d = none → Q (.ref C) (some d) (upd H1 d (.xd [("what", v)]))) := by
  obtain ⟨fI, fd, iC, tI, F, hb⟩ := D.ini
  have q := pmk_oex (X := X) (CX := CX0) (x := x) (p := p) (pos := pos) (C := C) (e := e) (es := []) D.oex iC tI F (hr.mono hk) hb .nil pass0 hg D.g (pa_cons he pa_nil hs) hdb hs hpl
  intro pins s σ H Q I h
  refine q pins s σ H Q I (mono σ H _ _ (fun v H1 h1 => ?_) h)
  refine ⟨(by show 1 ≤ 1000; decide), fun a ha => ⟨a, C, v, rfl, D.oex, D.noW, upd_same, fun dx hd hne => ?_⟩⟩
  have hd1 : H1 dx = none := by rw [upd_ne hne] at hd; exact hd
  refine ⟨rfl, dx, [("what", v)], upd_same, by rw [upd_ne hne, upd_same], hd1, ?_⟩
  rw [upd_comm_del ha hne]
  exact h1 dx hd1
/-- raise X(e) in a def that errors leave -/
theorem ps_err {W : WX} (D : ErrC X.prog X.w X.K X.mg X.base x C) (hr : Room k X.A) (hc : X.calm = true) (tk : Takes X W) (hg : Gl X x) (he : PE X e te) (mono : MonoE te) (hk : 2 ≤ k := by decide)
    (hdb : (x == ("__debug__" : Str)) = false := by decide) (hs : starEach [e] X.env = (false, eval e X.env) :: starEach [] X.env := by rfl) (hpl : (backTo pos (starEach [] X.env)).any (·.1) = false := by rfl) :
    PS X (.Raise (some (.Call (.Name x p) [e] [] pos)) none p2) (fun _ σ H => te σ H fun v H1 => ∀ d, H1 d = none → W (.ref C) (some d) σ (upd H1 d (.xd [("what", v)]))) :=
  ps_raise hc tk (pmk_err D hr hg he mono hk hdb hs hpl)
end
/-! ### kinds of values -/
def tyD : PyData → String
  | .none => "NoneType"
  | .bool _ => "bool"
  | .int _ => "int"
  | .str _ => "str"
  | .list _ => "list"
  | .tuple _ => "tuple"
  | .dict _ => "dict"
theorem Dv.ty {K : PySem.W.Frag} {H : Hp} {v : V} {d : PyData} (h : Dv H v d) : TyX K H v (.type (tyD d)) := by
  cases h with
  | non => exact .base .non
  | bl b => exact .base (.bl b)
  | int i => exact .base (.int i)
  | str x => exact .base (.str x)
  | lst e _ => exact .base (.lst e)
  | tup e _ => exact .base (.tup e)
  | dct e _ => exact .base (.dK e)
def isS (T t : String) : Bool := t == T || (T == "int" && t == "bool")
def isD (T : String) (d : PyData) : Bool := isS T (tyD d)
def kinds : List String := ["NoneType", "bool", "int", "str", "list", "tuple", "dict"]
theorem tyD_mem (d : PyData) : tyD d ∈ kinds := by cases d <;> simp [tyD, kinds]
theorem kit_of {K : PySem.W.Frag} {T : String} (h : (kinds.all fun t => decide (kitB t T = some (isS T t))) = true) (d : PyData) : PySem.W.kitOne K (.type (tyD d)) (.type T) = some (isD T d) :=
  kit_ty (of_decide_eq_true (List.all_eq_true.mp h _ (tyD_mem d)))
theorem kit_int {K : PySem.W.Frag} (d : PyData) : PySem.W.kitOne K (.type (tyD d)) (.type "int") = some (isD "int" d) := kit_of (by decide +kernel) d
theorem kit_bool {K : PySem.W.Frag} (d : PyData) : PySem.W.kitOne K (.type (tyD d)) (.type "bool") = some (isD "bool" d) := kit_of (by decide +kernel) d
theorem kit_tuple {K : PySem.W.Frag} (d : PyData) : PySem.W.kitOne K (.type (tyD d)) (.type "tuple") = some (isD "tuple" d) := kit_of (by decide +kernel) d
theorem kit_list {K : PySem.W.Frag} (d : PyData) : PySem.W.kitOne K (.type (tyD d)) (.type "list") = some (isD "list" d) := kit_of (by decide +kernel) d
theorem kit_dict {K : PySem.W.Frag} (d : PyData) : PySem.W.kitOne K (.type (tyD d)) (.type "dict") = some (isD "dict" d) := kit_of (by decide +kernel) d
/-- isinstance(x, T), T a built-in class, x data -/
def rIsD (T : String) : List V → Hp → VK → Prop := fun xs H Q => ∃ (x : V) (d : PyData), xs = [x, .ty T] ∧ Dv H x d ∧ Q (.bl (isD T d)) H
section
variable {X : Cx}
theorem call_isD {T : String} (hk : ∀ d, PySem.W.kitOne X.K (.type (tyD d)) (.type T) = some (isD T d)) : CallR X (.builtin "isinstance") (rIsD T) := by
  intro pins s σ H xs us Q I r h
  obtain ⟨x, d, rfl, hd, q⟩ := h
  exact call_isi pins s σ H _ us Q I r ⟨x, .ty T, _, _, _, rfl, .ty T, hd.ty, hk d, q⟩
/-- isinstance(e, T) -/
theorem pe_isD {T : String} {e : Expr} {te : TE} {x : Str} {p p2 pos : Pos} (hg : Gl X "isinstance") (hm : X.mg "isinstance" = none) (gT : Gl X x) (mT : X.mg x = none) (bT : bootBuiltins x = some (.type T)) (hk : ∀ d, PySem.W.kitOne X.K (.type (tyD d)) (.type T) = some (isD T d)) (he : PE X e te)
    (hn : x ≠ "__name__" := by decide) (hdb : (x == ("__debug__" : Str)) = false := by decide)
    (hs : starEach [e, .Name x p2] X.env = (false, eval e X.env) :: starEach [.Name x p2] X.env := by rfl) (hs2 : starEach [.Name x p2] X.env = (false, eval (.Name x p2) X.env) :: starEach [] X.env := by rfl) (hpl : (backTo pos (starEach [.Name x p2] X.env)).any (·.1) = false := by rfl) :
    PE X (.Call (.Name "isinstance" p) [e, .Name x p2] [] pos) (tCB (rIsD T) (tCons te (tCons (tC (.ty T)) tNil))) :=
  pe_callB (call_isD hk) hg hm PyProof.Rows.boot_isinstance (pa_cons he (pa_cons (pe_bltn (v := .ty T) gT mT bT rfl hn hdb) pa_nil hs2) hs) (by decide) (by decide) hs hpl
end
end BT

set_option Elab.async false
set_option linter.all false
set_option maxRecDepth 100000
set_option maxHeartbeats 4000000
namespace BT
open PySem PySem.Spec PyProof.Rows L2
/-! ### the end: the law's def called with the script, where no repr is under way -/
/-- the heap that knows the script alone (where the module does not hold it) -/
def scrH (K : PySem.W.Frag) (a : Addr) (o : Obj) (xs : List V) : Hp := fun b => if b = a ∧ K.lookup a = none then some (.frz o (.lst xs)) else none
theorem scrH_cases (K : PySem.W.Frag) (a : Addr) (o : Obj) (xs : List V) (b : Addr) : scrH K a o xs b = none ∨ (b = a ∧ K.lookup a = none ∧ scrH K a o xs b = some (.frz o (.lst xs))) := by
  by_cases h : b = a ∧ K.lookup a = none
  · exact .inr ⟨h.1, h.2, if_pos h⟩
  · exact .inl (if_neg h)
theorem scrH_some {K : PySem.W.Frag} {a b : Addr} {o : Obj} {xs : List V} {u : HO} (h : scrH K a o xs b = some u) : b = a ∧ K.lookup a = none ∧ u = .frz o (.lst xs) := by
  rcases scrH_cases K a o xs b with q | ⟨h1, h2, q⟩
  · rw [h] at q; cases q
  · rw [h] at q
    exact ⟨h1, h2, Option.some.inj q⟩
theorem law_callG {P : Program} {w : World} {K : PySem.W.Frag} {mg mb : Str → Option Value} {k : Nat} {fa a : Addr} {fd : FuncData} {x : Str} {sp : Sp} {s : Shared} {vs : List Value} {ns : List Int}
    (hK : K.In s.heap) (hm : s.heap.Ns mainGlobals mg) (hb : s.heap.Ns builtinsNs mb) (hbb : ∀ x : Str, x ≠ "__name__" → mb x = bootBuiltins x) (hlim : s.heap.NoLimit) (hg : s.gens = #[])
    (ha : s.heap.get? a = some { cls := .type "list", data := .seq vs.toArray }) (hi : IntsAre vs ns) (hl : ns.length ≤ sizeLine) (hr : Room k callerA)
    (F : ∀ base : Heap, K.In base → base.Ns mainGlobals mg → FnG P w K mg base k fa fd [x] sp) (hbind : ∀ (s : Shared) (u : Value), BindsTo s fd ⟨[u], []⟩ [(x, u)])
    (hsp : ∀ H : Hp, SqL K H a (ns.map V.int) → sp [.ref a] H (fun v _ => v = .bl true) E0) :
    codeAny (model P w) callerA (.call (.ref fa) ⟨[.ref a], []⟩) (fun r s' => r = .ok (.ret (.bool true)) ∧ OldK s.heap s'.heap ∧ s'.os = s.os ∧ AllBare s'.gens) s := by
  have rv := vals_ints hi
  have hlen := hi.length
  obtain ⟨o, ho⟩ : ∃ o : Obj, o = { cls := .type "list", data := .seq vs.toArray } := ⟨_, rfl⟩
  rw [← ho] at ha
  obtain ⟨H, hH⟩ : ∃ H : Hp, H = scrH K a o (ns.map V.int) := ⟨_, rfl⟩
  have inv : ∀ {b : Addr} {u : HO}, H b = some u → b = a ∧ K.lookup a = none ∧ u = .frz o (.lst (ns.map V.int)) := fun e => scrH_some (hH ▸ e)
  have hS : SqL K H a (ns.map V.int) := by
    cases e : K.lookup a with
    | none =>
      refine .inl (.inr ⟨o, ?_⟩)
      rw [hH]; exact if_pos ⟨rfl, e⟩
    | some ob =>
      have e2 := hK a ob e
      rw [ha] at e2
      cases Option.some.inj e2
      exact .inr ⟨o, vs.toArray, _, e, by rw [ho], by rw [ho], by rw [ho], by rw [List.size_toArray, hlen]; exact hl, rv⟩
  have hok : HOk P w H s.heap := fun b u e => by
    obtain ⟨rfl, _, rfl⟩ := inv e
    rw [ho] at ha ⊢
    exact ⟨ha, by rw [List.length_map]; exact hl, vs, _, rv, ha⟩
  -- what the base keeps
  have keep : ∀ {b : Addr} {ob : Obj}, s.heap.get? b = some ob → H b = none → (hidT s.heap H).get? b = some ob := fun e n => hidT_get e n
  have noDict : ∀ {b : Addr} {ob : Obj} {es : Array DictEntry} {ep : Nat}, s.heap.get? b = some ob → ob.data = .dict es ep → H b = none := fun {b ob es ep} e d => by
    cases q : H b with
    | none => rfl
    | some u =>
      obtain ⟨rfl, _, _⟩ := inv q
      rw [ha] at e
      cases Option.some.inj e
      rw [ho] at d
      cases (show Data.seq vs.toArray _ = Data.dict es ep from d)
  have nsB : ∀ {b : Addr} {m : Str → Option Value}, s.heap.Ns b m → (hidT s.heap H).Ns b m := fun {b m} h => by
    obtain ⟨ob, es, ep, e, d, r⟩ := h
    exact ⟨ob, es, ep, keep e (noDict e d), d, r⟩
  have kB : K.In (hidT s.heap H) := fun b ob e => keep (hK b ob e) (by
    cases q : H b with
    | none => rfl
    | some u =>
      obtain ⟨rfl, n, _⟩ := inv q
      rw [n] at e; cases e)
  have limB : (hidT s.heap H).NoLimit := by
    obtain ⟨mc, h1, h2⟩ := hlim
    exact ⟨mc, nsB h1, h2⟩
  have env : Env0 P w K mg (hidT s.heap H) callerA [] s H :=
    { frames := rfl, mod := ⟨kB, nsB hm, ⟨mb, nsB hb, hbb⟩, limB⟩, bs := fun b ob e => of_hidT e, bsz := Nat.le_of_eq (hidT_size _ _), funs := trivial, frf := fun b hb => absurd (show b ∈ ([] : List Addr) from hb) (by simp), hok := hok, bare := .of_eq hg }
  refine codeAny_mono ((F _ kB (nsB hm)).goes callerA [] s H ⟨[.ref a], []⟩ [.ref a] [.ref a] _ hr rfl env (hbind s (.ref a)) (.cons rfl .nil) (hsp H hS)) fun r s' out => ?_
  rcases r with er | fl
  · exact (show False from out).elim
  · cases fl with
    | ret u =>
      obtain ⟨v, H', hos, hbare, un, hok', r1, q⟩ := out
      cases (show v = .bl true from q)
      cases (show u = Value.bool true from r1)
      refine ⟨rfl, OldK.of_keep fun b ob e => ?_, hos, hbare⟩
      cases q : H b with
      | none => exact un.keep b ob e q (fun z => nomatch (show b ∈ ([] : List Addr) from z)) (by simp)
      | some u =>
        obtain ⟨rfl, _, rfl⟩ := inv q
        have z := un.frzs b o _ q
        obtain ⟨e1, _⟩ := hok b _ q
        obtain ⟨e2, _⟩ := hok' b _ z
        rw [e1] at e
        cases Option.some.inj e
        exact e2
    | next => exact (show False from out).elim
    | brk => exact (show False from out).elim
    | cont => exact (show False from out).elim
theorem walk_G {l : PySem.W.OpenLaw} {n k : Nat} {q : Program} {loose : List Str} {XP : (Str → Option Value) → Heap → Prop} {YP : World → Heap → Prop} {d : DefRec} {x : Str}
    (hn : l.most = some n) (hz : n ≤ sizeLine) (hd : d.params.defaults = []) (hr : Room k callerA)
    (F : ∀ (w : World) (mg : Str → Option Value) (fa : Addr) (h : Heap), YP w h → h.Ns mainGlobals mg → mg d.name = some (.ref fa) →
      ∃ (K : PySem.W.Frag) (fd : FuncData) (sp : Sp), K.In h ∧ (∀ (s : Shared) (u : Value), BindsTo s fd ⟨[u], []⟩ [(x, u)]) ∧
        (∀ (H : Hp) (a : Addr) (ns : List Int), ns.length ≤ n → SqL K H a (ns.map V.int) → sp [.ref a] H (fun v _ => v = .bl true) E0) ∧
        ∀ base : Heap, K.In base → base.Ns mainGlobals mg → FnG l.prog w K mg base k fa fd [x] sp) :
    PySem.W.WalkO q loose XP YP l.row.toRowW d [] (fun f vs => PySem.call f vs) := by
  refine Att.attach_call hn hd fun w s0 s mg mb fa o pm cd doc a vs ns G Y ho hdt hcd hmg hobj hints hlen hg => ?_
  obtain ⟨K, fd, sp, hK, hbind, hsp, hF⟩ := F w mg fa _ Y G.T.g hmg
  exact law_callG hK G.T.g G.T.b G.T.builtins G.T.nolimit hg hobj hints (Nat.le_trans hlen hz) hr hF hbind fun H hS => hsp H a ns hlen hS
/-! ### the package's error classes, looked at -/
def oexB (K : PySem.W.Frag) (C : Addr) : Bool := match K.lookup C with
  | some ⟨.type "type", _, .cls cd, sl⟩ => (match cd.mro, sl.toList with
    | .ref C' :: bm, [_, _, _, _, some (.builtin n), _] => decide (C' = C) && (decide (n = "ValueError.__new__") && ((!cd.hasDel) && (cd.hasDict && PySem.HandSPX.refsVE bm)))
    | _, _ => false)
  | _ => false
theorem oexB_ok {K : PySem.W.Frag} {C : Addr} (h : oexB K C = true) : ∃ nm q N bs bm sn sub ab col dd k0 k1 k2 k3 k5, K.lookup C = some (excClassObj nm q C N bs bm true sn sub ab col dd k0 k1 k2 k3 k5 "ValueError.__new__") ∧ PySem.HandSPX.refsVE bm = true := by
  unfold oexB at h
  split at h
  · rename_i dd cd sl e
    split at h
    · rename_i C' bm k0 k1 k2 k3 n k5 hm hs
      simp only [Bool.and_eq_true, decide_eq_true_eq, Bool.not_eq_true'] at h
      obtain ⟨rfl, rfl, h1, h2, h3⟩ := h
      obtain ⟨nm, bs, mro, N, qn, hd, sn, sub, ab, col, del⟩ := cd
      dsimp only at hm h1 h2
      subst hm h1 h2
      obtain ⟨l⟩ := sl
      dsimp only at hs
      subst hs
      exact ⟨nm, qn, N, bs, bm, sn, sub, ab, col, dd, k0, k1, k2, k3, k5, e, h3⟩
    · cases h
  · cases h
/-- an error class x: over BlindError, with its __init__ -/
def errB (K : PySem.W.Frag) (x : Str) : Bool :=
  oexB K (He.ga K x) && (decide (PySem.W.findIn K (.ref (He.ga K x)) "__setattr__" = some (some (.builtin "object.__setattr__"))) && (decide (PySem.W.subIn K (.ref (He.ga K x)) (.type "BaseException") = some true) && (decide (PySem.W.typeIn K (.ref (He.ga K x)) = some (.type "type")) &&
  (PySem.W.keepIn K (.ref (He.ga K x)) && (xfB K (He.ga K x) && (decide (PySem.W.findIn K (.ref (He.ga K x)) "what" = some none) && (decide (PySem.W.exmOne K (.ref (He.ga K x)) (.ref (He.ga K x)) = some true) &&
  (decide (PySem.W.findIn K (.ref (He.ga K x)) "__init__" = some (some (.ref (He.fAd K ("BlindError", some "__init__"))))) && (decide (PySem.W.typeIn K (.ref (He.fAd K ("BlindError", some "__init__"))) = some (.type "function")) && He.eqO (PySem.W.nsIn K mainGlobals x) (some (some (.ref (He.ga K x)))))))))))))
theorem errB_ok {P : Program} {w : World} {K : PySem.W.Frag} {mg : Str → Option Value} {base h : Heap} {x : Str} {fd : FuncData} (X : K.In h) (G : h.Ns mainGlobals mg) (b : errB K x = true)
    (F : FnOk P w K mg base CX0 1 (He.fAd K ("BlindError", some "__init__")) fd ["self", "what"] (spInit K)) (hb : Binds K fd ["self", "what"] []) : ErrC P w K mg base x (He.ga K x) := by
  unfold errB at b
  simp only [Bool.and_eq_true, decide_eq_true_eq] at b
  obtain ⟨b1, b2, b3, b4, b5, b6, b7, b8, b9, b10, b11⟩ := b
  exact ⟨PySem.W.mg_of X G (He.eqO_ok b11), ⟨oexB_ok b1, b2, b3, b4, b5⟩, xfB_ok b6, b7, b8, ⟨_, fd, b9, b10, F, hb⟩⟩
/-! ### the hook -/
abbrev AlX : Type := Bool × He.AlD
def obsX (fa : List He.Fa) (fn : List He.DefD) (xs : List Str) (K : PySem.W.Frag) : AlX := (xs.all (errB K), He.obsD fa fn K)
def obsXG (n : Nat) (fa : List He.Fa) (fn : List He.DefD) (xs : List Str) (g : Addr → Option Obj) : AlX := obsX fa fn xs (He.frG g (He.asD g n))
def hookX (n : Nat) (fa : List He.Fa) (fn : List He.DefD) (xs : List Str) : PySem.W.Hook where
  α := AlX
  obs := fun s => obsXG n fa fn xs s.heap.get?
  val := fun _ => (true, He.valD fn)
  says := fun _ h => ∃ K : PySem.W.Frag, K.In h ∧ xs.all (errB K) = true ∧ He.SaysD fa fn K
  of := fun _ _ e => ⟨_, He.frG_in, congrArg (fun z : AlX => z.1) e, congrArg (fun z : AlX => z.2) e⟩
  keeps := fun _ _ _ h k => by
    obtain ⟨K, h1, h2, h3⟩ := h
    exact ⟨K, PySem.W.Frag.In.keeps h1 k, h2, h3⟩
theorem obsXG_eq {n : Nat} {fa : List He.Fa} {fn : List He.DefD} {xs : List Str} {g : Addr → Option Obj} {s : Shared} (h : ∀ a, g a = s.heap.get? a) : obsXG n fa fn xs g = (hookX n fa fn xs).obs s := by
  cases (show g = s.heap.get? from funext h)
  rfl
theorem err_of {K : PySem.W.Frag} {xs : List Str} (c : xs.all (errB K) = true) (i : Nat) {x : Str} (h : xs[i]? = some x := by rfl) : errB K x = true := List.all_eq_true.mp c x (List.mem_of_getElem? h)
end BT

set_option linter.all false
namespace BT
open PySem PySem.Spec PyProof.Rows
/-! ### bits of numbers of any sign -/
def iBit (y : Int) (i : Nat) : Bool := if 0 ≤ y then y.toNat.testBit i else !(Builtin.bitNot y).toNat.testBit i
def andN (m : Nat) (y : Int) : Nat := if 0 ≤ y then m &&& y.toNat else m ^^^ (m &&& (Builtin.bitNot y).toNat)
theorem bitAnd_andN (m : Nat) (y : Int) : Builtin.bitAnd (m : Int) y = ((andN m y : Nat) : Int) := by
  unfold andN
  by_cases h : 0 ≤ y
  · rw [if_pos h, bitAnd_pp (Int.natCast_nonneg _) h, Int.toNat_natCast]
  · rw [if_neg h, bitAnd_pn (Int.natCast_nonneg _) h, Int.toNat_natCast]
    generalize (Builtin.bitNot y).toNat = z
    have h1 := xor_and_add m (m &&& z)
    have h2 : m &&& (m &&& z) = m &&& z := by
      apply Nat.eq_of_testBit_eq
      intro i
      simp only [Nat.testBit_and]
      cases m.testBit i <;> simp
    rw [h2] at h1
    omega
theorem testBit_andN (m : Nat) (y : Int) (i : Nat) : (andN m y).testBit i = (m.testBit i && iBit y i) := by
  unfold andN iBit
  by_cases h : 0 ≤ y
  · rw [if_pos h, if_pos h, Nat.testBit_and]
  · rw [if_neg h, if_neg h, Nat.testBit_xor, Nat.testBit_and]
    cases m.testBit i <;> cases (Builtin.bitNot y).toNat.testBit i <;> rfl
theorem iBit_nat (y i : Nat) : iBit (y : Int) i = y.testBit i := by
  unfold iBit; rw [if_pos (Int.natCast_nonneg _), Int.toNat_natCast]
theorem iBit_neg1 (i : Nat) : iBit (-1) i = true := by
  unfold iBit
  rw [if_neg (by decide)]
  have e : (Builtin.bitNot (-1)).toNat = 0 := by decide
  rw [e, Nat.zero_testBit]; rfl
theorem iBit_not (y i : Nat) : iBit (Builtin.bitNot (y : Int)) i = !y.testBit i := by
  unfold iBit
  have h : ¬ 0 ≤ Builtin.bitNot (y : Int) := by unfold Builtin.bitNot; omega
  have e : (Builtin.bitNot (Builtin.bitNot (y : Int))).toNat = y := by unfold Builtin.bitNot; omega
  rw [if_neg h, e]
theorem andN_nat (m y : Nat) : andN m (y : Int) = m &&& y := by
  apply Nat.eq_of_testBit_eq
  intro i
  rw [testBit_andN, iBit_nat, Nat.testBit_and]
theorem andN_neg1 (m : Nat) : andN m (-1) = m := by
  apply Nat.eq_of_testBit_eq
  intro i
  rw [testBit_andN, iBit_neg1, Bool.and_true]
theorem two_pow_inj {a b : Nat} (h : 2 ^ a = 2 ^ b) : a = b := by
  have q := congrArg Nat.log2 h
  rwa [Nat.log2_two_pow, Nat.log2_two_pow] at q
/-! ### the lowest one -/
def lowN (m : Nat) : Nat := andN m (-(m : Int))
theorem bitAnd_low (m : Nat) : Builtin.bitAnd (m : Int) (-(m : Int)) = ((lowN m : Nat) : Int) := bitAnd_andN m _
theorem lowN_zero : lowN 0 = 0 := rfl
theorem low_even (k : Nat) : lowN (2 * k) = 2 * lowN k := by
  rcases Nat.eq_zero_or_pos k with h | h
  · subst h; rfl
  · have e : ∀ m : Nat, 0 < m → lowN m = m ^^^ (m &&& (m - 1)) := fun m hm => by
      unfold lowN andN
      rw [if_neg (by omega)]
      have e2 : (Builtin.bitNot (-(m : Int))).toNat = m - 1 := by unfold Builtin.bitNot; omega
      rw [e2]
    rw [e _ (by omega), e _ h]
    apply Nat.eq_of_testBit_eq
    intro i
    cases i with
    | zero =>
      simp only [Nat.testBit_xor, Nat.testBit_and, Nat.testBit_zero]
      have h1 : (2 * k) % 2 = 0 := by omega
      have h2 : (2 * (k ^^^ (k &&& (k - 1)))) % 2 = 0 := by omega
      simp [h1, h2]
    | succ i =>
      have h1 : (2 * k) / 2 = k := by omega
      have h2 : (2 * k - 1) / 2 = k - 1 := by omega
      have h3 : (2 * (k ^^^ (k &&& (k - 1)))) / 2 = k ^^^ (k &&& (k - 1)) := by omega
      rw [Nat.testBit_xor, Nat.testBit_and, Nat.testBit_succ, Nat.testBit_succ, Nat.testBit_succ, h1, h2, h3, Nat.testBit_xor, Nat.testBit_and]
theorem low_odd (k : Nat) : lowN (2 * k + 1) = 1 := by
  unfold lowN andN
  rw [if_neg (by omega)]
  have e2 : (Builtin.bitNot (-((2 * k + 1 : Nat) : Int))).toNat = 2 * k := by unfold Builtin.bitNot; omega
  rw [e2]
  apply Nat.eq_of_testBit_eq
  intro i
  cases i with
  | zero =>
    simp only [Nat.testBit_xor, Nat.testBit_and, Nat.testBit_zero]
    have h1 : (2 * k + 1) % 2 = 1 := by omega
    have h2 : (2 * k) % 2 = 0 := by omega
    simp [h1, h2]
  | succ i =>
    have h1 : (2 * k + 1) / 2 = k := by omega
    have h2 : (2 * k) / 2 = k := by omega
    rw [Nat.testBit_xor, Nat.testBit_and, Nat.testBit_succ, Nat.testBit_succ, Nat.testBit_succ, h1, h2]
    cases k.testBit i <;> simp
/-- the place of the lowest one -/
theorem low_spec : ∀ m : Nat, m ≠ 0 → ∃ k, lowN m = 2 ^ k ∧ m.testBit k = true ∧ ∀ j, j < k → m.testBit j = false := by
  intro m
  induction m using Nat.strongRecOn with
  | _ m ih =>
    intro h
    rcases Nat.mod_two_eq_zero_or_one m with h2 | h2
    · have e : m = 2 * (m / 2) := by omega
      obtain ⟨k, h3, h4, h5⟩ := ih (m / 2) (by omega) (by omega)
      refine ⟨k + 1, ?_, ?_, fun j hj => ?_⟩
      · rw [e, low_even, h3, Nat.pow_succ]; omega
      · rw [Nat.testBit_succ]; exact h4
      · cases j with
        | zero => rw [Nat.testBit_zero, h2]; rfl
        | succ j => rw [Nat.testBit_succ]; exact h5 j (by omega)
    · have e : m = 2 * (m / 2) + 1 := by omega
      refine ⟨0, ?_, ?_, fun j hj => absurd hj (by omega)⟩
      · rw [e, low_odd]
      · rw [Nat.testBit_zero, h2]; rfl
theorem low_ne {m : Nat} (h : m ≠ 0) : lowN m ≠ 0 := by
  obtain ⟨k, e, _⟩ := low_spec m h
  rw [e]; exact Nat.ne_of_gt (Nat.two_pow_pos k)
theorem low_eq_zero {m : Nat} : lowN m = 0 ↔ m = 0 := ⟨fun h => Classical.byContradiction fun q => low_ne q h, fun h => by rw [h]; rfl⟩
theorem and_pow_ne {m k : Nat} : m &&& 2 ^ k ≠ 0 ↔ m.testBit k = true := by
  constructor
  · intro h
    refine Classical.byContradiction fun q => h ?_
    apply Nat.eq_of_testBit_eq
    intro i
    rw [Nat.testBit_and, Nat.testBit_two_pow, Nat.zero_testBit]
    by_cases e : k = i
    · subst e; simp [q]
    · simp [e]
  · intro h e
    have q := congrArg (fun z => z.testBit k) e
    simp only [Nat.testBit_and, Nat.testBit_two_pow, Nat.zero_testBit, h] at q
    exact absurd q (by simp)
theorem and_pow_zero {m k : Nat} : m &&& 2 ^ k = 0 ↔ m.testBit k = false := by
  constructor
  · intro h
    cases e : m.testBit k with
    | false => rfl
    | true => exact absurd h (and_pow_ne.mpr e)
  · intro h
    refine Classical.byContradiction fun q => ?_
    rw [and_pow_ne.mp q] at h; cases h
/-! ### rows: as the program reckons them -/
def clearStep (part : Int) (m row : Nat) : Nat := if m &&& lowN (andN row part) ≠ 0 then m ^^^ row else m
def clearedF (part : Int) (m : Nat) (rows : List Nat) : Nat := rows.foldl (clearStep part) m
def sweepStep (part : Int) (st : List Nat × List Nat) (mask : Nat) : List Nat × List Nat :=
  if lowN (andN (clearedF part mask st.1) part) ≠ 0 then
    (st.1.map (fun row => if row &&& lowN (andN (clearedF part mask st.1) part) ≠ 0 then row ^^^ clearedF part mask st.1 else row) ++ [clearedF part mask st.1], st.2)
  else (st.1, st.2 ++ [clearedF part mask st.1])
def sweepF (part : Int) (masks : List Nat) : List Nat × List Nat := masks.foldl (sweepStep part) ([], [])
theorem sweepF_snoc (part : Int) (ms : List Nat) (m : Nat) : sweepF part (ms ++ [m]) = sweepStep part (sweepF part ms) m := by
  unfold sweepF; rw [List.foldl_append]; rfl
theorem clearedF_snoc (part : Int) (m : Nat) (rows : List Nat) (r : Nat) : clearedF part m (rows ++ [r]) = clearStep part (clearedF part m rows) r := by
  unfold clearedF; rw [List.foldl_append]; rfl
/-- rows whose firsts in the part stand alone -/
def Alone (part : Int) (rows : List Nat) : Prop := ∃ ks : List Nat, ks.length = rows.length ∧
  ∀ (i : Nat) (r k : Nat), rows[i]? = some r → ks[i]? = some k → lowN (andN r part) = 2 ^ k ∧ ∀ (j : Nat) (s : Nat), rows[j]? = some s → (s.testBit k = true ↔ j = i)
theorem clearedF_bits {part : Int} {rows ks : List Nat} (hl : ks.length = rows.length) (h : ∀ (i : Nat) (r k : Nat), rows[i]? = some r → ks[i]? = some k → lowN (andN r part) = 2 ^ k ∧ ∀ (j : Nat) (s : Nat), rows[j]? = some s → (s.testBit k = true ↔ j = i)) (m : Nat) :
    ∀ n, n ≤ rows.length → ∀ (i k : Nat), ks[i]? = some k → (clearedF part m (rows.take n)).testBit k = if i < n then false else m.testBit k := by
  intro n
  induction n with
  | zero => intro _ i k _; simp [clearedF]
  | succ n ih =>
    intro hn i k hk
    have hlt : n < rows.length := by omega
    have hrow : rows[n]? = some rows[n] := List.getElem?_eq_getElem hlt
    rw [List.take_add_one, hrow]
    show (clearedF part m (rows.take n ++ [rows[n]])).testBit k = _
    rw [clearedF_snoc]
    obtain ⟨kn, hkn⟩ : ∃ kn, ks[n]? = some kn := ⟨_, List.getElem?_eq_getElem (by omega)⟩
    obtain ⟨e1, e2⟩ := h n _ kn hrow hkn
    have ik : i < ks.length := (List.getElem?_eq_some_iff.mp hk).1
    have hri : rows[i]? = some rows[i] := List.getElem?_eq_getElem (by omega)
    obtain ⟨f1, f2⟩ := h i _ k hri hk
    have old := ih (by omega) i k hk
    have oldn := ih (by omega) n kn hkn
    unfold clearStep
    rw [e1]
    have bn : rows[n].testBit k = decide (n = i) := by
      have q := f2 n _ hrow
      by_cases e : n = i
      · rw [decide_eq_true e]; exact q.mpr e
      · rw [decide_eq_false e]
        cases z : rows[n].testBit k with
        | false => rfl
        | true => exact absurd (q.mp z) e
    by_cases c : clearedF part m (rows.take n) &&& 2 ^ kn ≠ 0
    · rw [if_pos c, Nat.testBit_xor, old, bn]
      have c2 := and_pow_ne.mp c
      by_cases e : n = i
      · subst e
        have ek : k = kn := Option.some.inj (hk.symm.trans hkn)
        subst ek
        rw [old] at c2
        rw [if_neg (by omega)] at c2
        rw [if_neg (by omega), if_pos (by omega), c2, decide_eq_true rfl]; rfl
      · rw [decide_eq_false e, Bool.xor_false]
        by_cases g : i < n
        · rw [if_pos g, if_pos (by omega)]
        · rw [if_neg g, if_neg (by omega)]
    · rw [if_neg c, old]
      have c2 : (clearedF part m (rows.take n)).testBit kn = false := by
        cases z : (clearedF part m (rows.take n)).testBit kn with
        | false => rfl
        | true => exact absurd (and_pow_ne.mpr z) c
      by_cases e : n = i
      · subst e
        have ek : k = kn := Option.some.inj (hk.symm.trans hkn)
        subst ek
        rw [old] at c2
        rw [if_neg (by omega)] at c2
        rw [if_neg (by omega), if_pos (by omega), c2]
      · by_cases g : i < n
        · rw [if_pos g, if_pos (by omega)]
        · rw [if_neg g, if_neg (by omega)]
theorem alone_nil (part : Int) : Alone part [] := ⟨[], rfl, fun i r k h => by simp at h⟩
theorem alone_step {part : Int} {rows : List Nat} (A : Alone part rows) (mask : Nat) (hlow : lowN (andN (clearedF part mask rows) part) ≠ 0) :
    Alone part (rows.map (fun row => if row &&& lowN (andN (clearedF part mask rows) part) ≠ 0 then row ^^^ clearedF part mask rows else row) ++ [clearedF part mask rows]) := by
  obtain ⟨ks, hl, h⟩ := A
  have hb := clearedF_bits hl h mask rows.length (Nat.le_refl _)
  rw [List.take_length] at hb
  have hne : andN (clearedF part mask rows) part ≠ 0 := fun e => hlow (by rw [e]; rfl)
  obtain ⟨kr, ek, b1, b2⟩ := low_spec _ hne
  generalize clearedF part mask rows = rest at hb ek b1 b2
  rw [ek]
  have rk : rest.testBit kr = true ∧ iBit part kr = true := by
    rw [testBit_andN, Bool.and_eq_true] at b1; exact b1
  -- no first of a row is kr
  have kne : ∀ (i k : Nat), ks[i]? = some k → k ≠ kr ∧ rest.testBit k = false := fun i k hk => by
    have q := hb i k hk
    have ik : i < ks.length := (List.getElem?_eq_some_iff.mp hk).1
    rw [if_pos (by omega)] at q
    exact ⟨fun e => (by rw [e, rk.1] at q; cases q), q⟩
  have bits : ∀ (row i k : Nat), rows[i]? = some row → ks[i]? = some k → ∀ j, j < k → (row.testBit j && iBit part j) = false := fun row i k hr hk j hj => by
    obtain ⟨e1, _⟩ := h i row k hr hk
    have hn : andN row part ≠ 0 := fun e => by
      rw [e, lowN_zero] at e1
      exact absurd e1.symm (Nat.ne_of_gt (Nat.two_pow_pos k))
    obtain ⟨k2, e2, _, e4⟩ := low_spec _ hn
    have ee : k2 = k := two_pow_inj (e2.symm.trans e1)
    subst ee
    rw [← testBit_andN]; exact e4 j hj
  have uniq : ∀ {m k : Nat}, m.testBit k = true → (∀ j, j < k → m.testBit j = false) → lowN m = 2 ^ k := fun {m k} h1 h2 => by
    have hm : m ≠ 0 := fun e => by rw [e, Nat.zero_testBit] at h1; cases h1
    obtain ⟨k2, e1, e2, e3⟩ := low_spec m hm
    have : k2 = k := by
      rcases Nat.lt_trichotomy k2 k with q | q | q
      · rw [h2 k2 q] at e2; cases e2
      · exact q
      · rw [e3 k q] at h1; cases h1
    rw [e1, this]
  refine ⟨ks ++ [kr], by simp [hl], fun i r k hr hk => ?_⟩
  have lm : (rows.map fun row => if row &&& 2 ^ kr ≠ 0 then row ^^^ rest else row).length = rows.length := List.length_map ..
  have getNew : ∀ (j s : Nat), (rows.map (fun row => if row &&& 2 ^ kr ≠ 0 then row ^^^ rest else row) ++ [rest])[j]? = some s → (j < rows.length ∧ ∃ row, rows[j]? = some row ∧ s = if row &&& 2 ^ kr ≠ 0 then row ^^^ rest else row) ∨ (j = rows.length ∧ s = rest) := fun j s hs => by
    by_cases hj : j < rows.length
    · left
      rw [List.getElem?_append_left (by rw [lm]; exact hj), List.getElem?_map] at hs
      rw [List.getElem?_eq_getElem hj] at hs
      exact ⟨hj, _, List.getElem?_eq_getElem hj, (Option.some.inj hs).symm⟩
    · right
      have hj2 := (List.getElem?_eq_some_iff.mp hs).1
      rw [List.length_append, lm, List.length_singleton] at hj2
      have ej : j = rows.length := by omega
      subst ej
      rw [List.getElem?_append_right (by rw [lm]; exact Nat.le_refl _), lm, Nat.sub_self] at hs
      exact ⟨rfl, (Option.some.inj hs).symm⟩
  rcases getNew i r hr with ⟨hi, row, hrow, rfl⟩ | ⟨rfl, rfl⟩
  · rw [List.getElem?_append_left (by omega)] at hk
    obtain ⟨e1, e2⟩ := h i row k hrow hk
    obtain ⟨kn, rn⟩ := kne i k hk
    have rb : row.testBit k = true := (e2 i row hrow).mpr rfl
    have low := bits row i k hrow hk
    have pk : iBit part k = true := by
      have hn : andN row part ≠ 0 := fun e => by
        rw [e, lowN_zero] at e1
        exact absurd e1.symm (Nat.ne_of_gt (Nat.two_pow_pos k))
      obtain ⟨k2, q2, q3, _⟩ := low_spec _ hn
      have ee : k2 = k := two_pow_inj (q2.symm.trans e1)
      subst ee
      rw [testBit_andN, Bool.and_eq_true] at q3; exact q3.2
    refine ⟨uniq ?_ fun j hj => ?_, fun j s hs => ?_⟩
    · rw [testBit_andN, pk, Bool.and_true]
      split
      · rw [Nat.testBit_xor, rb, rn]; rfl
      · exact rb
    · rw [testBit_andN]
      split
      · rename_i c
        have c2 := and_pow_ne.mp c
        -- the row has kr, so kr is no place below its first
        have hkr : k < kr := by
          rcases Nat.lt_trichotomy k kr with q | q | q
          · exact q
          · exact absurd q kn
          · have z := low kr q
            rw [c2, rk.2] at z; cases z
        have z1 := low j hj
        have z2 := b2 j (by omega)
        rw [testBit_andN] at z2
        rw [Nat.testBit_xor]
        cases p : iBit part j with
        | false => rw [Bool.and_false]
        | true =>
          rw [p, Bool.and_true] at z1 z2
          rw [z1, z2]; rfl
      · exact low j hj
    · rcases getNew j s hs with ⟨hj, row2, hrow2, rfl⟩ | ⟨rfl, rfl⟩
      · have q := e2 j row2 hrow2
        split
        · rw [Nat.testBit_xor, rn, Bool.xor_false]; exact q
        · exact q
      · rw [rn]
        exact ⟨fun z => absurd z (by decide), fun z => absurd z (by omega)⟩
  · rw [List.getElem?_append_right (by omega), hl, Nat.sub_self] at hk
    have ekk : kr = k := Option.some.inj hk
    subst ekk
    refine ⟨ek, fun j s hs => ?_⟩
    rcases getNew j s hs with ⟨hj, row2, hrow2, rfl⟩ | ⟨rfl, rfl⟩
    · constructor
      · intro z
        split at z
        · rename_i c
          rw [Nat.testBit_xor, and_pow_ne.mp c, rk.1] at z; cases z
        · rename_i c
          exact absurd (and_pow_ne.mpr z) c
      · intro z; omega
    · exact ⟨fun _ => rfl, fun _ => rk.1⟩
theorem sweep_alone (part : Int) (ms : List Nat) : Alone part (sweepF part ms).1 := by
  have key : ∀ (ms : List Nat) (st : List Nat × List Nat), Alone part st.1 → Alone part (ms.foldl (sweepStep part) st).1 := by
    intro ms
    induction ms with
    | nil => intro st h; exact h
    | cons m ms ih =>
      intro st h
      rw [List.foldl_cons]
      refine ih _ ?_
      unfold sweepStep
      split
      · rename_i c
        exact alone_step h m c
      · exact h
  exact key ms ([], []) (alone_nil part)
end BT

set_option Elab.async false
set_option linter.all false
set_option maxRecDepth 100000
set_option maxHeartbeats 4000000
namespace BT
open PySem PySem.Spec PySem.Calls PyProof.Rows
section
variable {prog : Program} {w : World} {A : Around} {E : Value → Shared → Prop} {s : Shared} {a kS : Addr} {vs : List Value} {kz : List Int} {keys : Array Value} {e e1 : Nat} {P : PySem.Fin → Shared → Prop}
/-- the heap when the keys are let go and the sorted items are put back -/
def putBack (h : Heap) (kS a : Addr) (out : Array Value) : Heap := (h.update kS (Obj.mapSeq fun _ => #[])).update a (Obj.mapSeq fun _ => out)
theorem key_tail {st : SortSt} (gk : s.heap.get? kS = some (seqObj "list" keys e)) (ga : s.heap.get? a = some (seqObj "list" #[] e1)) (ne : kS ≠ a) (hk : IntsAre keys.toList kz) (hl : kz.length = vs.length) (lim : vs.length < 64)
    (hp : (arrOf st).Perm (keys.zip vs.toArray)) (hs : SortedTo (arrOf st) (arrOf st).size) (hf : failedOf st = none)
    (h : ∀ out : Array Value, KskOut false kz vs out.toList → out.size = vs.length → P (.done (.ret .none)) { s with heap := putBack s.heap kS a out }) :
    wpAny (model prog w) A (ksk_tail a false e1 (.ref kS) st) P E s := by
  have sk : keys.size = vs.length := by
    have := hk.length
    rw [Array.length_toList] at this
    omega
  have so : ((arrOf st).map (·.2)).size = vs.length := by rw [Array.size_map, hp.size_eq, Array.size_zip, sk, List.size_toArray, Nat.min_self]
  have lim2 : vs.length ≤ sizeLine := by rw [sizeLine_eq]; omega
  have keep := Heap.SameBut.update s.heap kS (Obj.mapSeq fun _ => (#[] : Array Value))
  have ga2 : (s.heap.update kS (Obj.mapSeq fun _ => (#[] : Array Value))).get? a = some (seqObj "list" #[] e1) := (keep.2 a (Ne.symm ne)).trans ga
  unfold ksk_tail
  dsimp only
  refine wpAny_bind (listUpdate_at gk rfl ?_ (by rw [sk]; exact lim2) (Nat.zero_le _))
  refine wpAny_bind (wpAny_letGo (wpAny_bind (seqEpoch_at ga2 rfl ?_)))
  refine wpAny_bind (listUpdate_at ga2 rfl ?_ (Nat.zero_le _) ?_)
  · rw [hf]
    simp only [bne_self_eq_false, Bool.false_eq_true, if_false]
    exact wpAny_pure (h _ (ksk_out (b := false) hk hp hs) so)
  · show ((arrOf st).map (·.2)).size ≤ _
    rw [so]; omega
theorem key_end (gk : s.heap.get? kS = some (seqObj "list" keys e)) (ga : s.heap.get? a = some (seqObj "list" #[] e1)) (ne : kS ≠ a) (hk : IntsAre keys.toList kz) (hl : kz.length = vs.length) (lim : vs.length < 64)
    (h : ∀ out : Array Value, KskOut false kz vs out.toList → out.size = vs.length → P (.done (.ret .none)) { s with heap := putBack s.heap kS a out }) :
    wpAny (model prog w) A (ksk_end a false vs.toArray e1 (.ref kS) keys) P E s := by
  have sk : keys.size = vs.length := by
    have := hk.length
    rw [Array.length_toList] at this
    omega
  have sz : (keys.zip vs.toArray).size = vs.length := by rw [Array.size_zip, sk, List.size_toArray, Nat.min_self]
  unfold ksk_end
  simp only [Bool.false_eq_true, if_false]
  by_cases few : vs.toArray.size < 2
  · rw [if_pos few, if_pos few]
    refine wpAny_bind (wpAny_pure ?_)
    rw [StateT.run_pure]
    refine wpAny_bind (wpAny_pure ?_)
    dsimp only
    refine key_tail (st := SortSt.mk' general' (keys.zip vs.toArray) #[] 7 none) gk ga ne hk hl lim (Array.Perm.refl _) (fun i j hij hj => ?_) rfl h
    have hj' : j < (keys.zip vs.toArray).size := hj
    rw [sz] at hj'
    rw [List.size_toArray] at few
    obtain rfl : i = j := by omega
    exact Int.le_refl _
  · rw [if_neg few, if_neg few]
    rw [List.size_toArray] at few
    rw [ksk_kind hk (by rw [sk]; omega)]
    refine wpAny_bind (wpAny_pure (wpAny_bind (wpAny_mono (wpS_sortRuns (a₀ := keys.zip vs.toArray) (st := SortSt.mk' oneType' (keys.zip vs.toArray) #[] 7 none)
      (Q := fun _ z => (arrOf z).Perm (keys.zip vs.toArray) ∧ failedOf z = none ∧ SortedTo (arrOf z) (keys.zip vs.toArray).size) (ksk_intKeys hk) ⟨Array.Perm.refl _, rfl, rfl, rfl⟩ (by rw [sz]; omega) (by rw [sz]; exact lim) fun z h1 h2 h3 => ⟨h1, h2, h3⟩) ?_ fun _ _ x => x)))
    rintro ⟨⟨⟩, z⟩ s' ⟨rfl, hp, hf, hs⟩
    dsimp only
    exact key_tail gk ga ne hk hl lim hp (by rw [hp.size_eq]; exact hs) hf h
end
end BT
namespace BT
open PySem PySem.Spec PyProof.Rows L2
section
variable {X : Cx} {pins : List (Addr × Obj)} {σ : L2.St} {H : Hp} {s : Shared}
/-- what the keys are: f answers .int (kz i) for the i-th item, and changes nothing -/
def KeyTurn (X : Cx) (H : Hp) (f : Value) (vs : List Value) (kz : List Int) : Prop := ∀ (i : Nat) (v : Value) (k : Int), vs[i]? = some v → kz[i]? = some k → ∀ (pins : List (Addr × Obj)) (σ : L2.St) (s : Shared), Inv X pins σ H s →
  wpAny (model X.prog X.w) X.A.in1.in1 (call f [v]) (fun r s' => ∃ t, r = .int k t ∧ Inv X pins σ H s') (fun _ _ => False) s
theorem key_rest {f : Value} {vs : List Value} {kz : List Int} {a kS : Addr} {e1 : Nat} {P : PySem.Fin → Shared → Prop} {E : Value → Shared → Prop} (I : Inv X pins σ H s) (turn : KeyTurn X H f vs kz) (hl : kz.length = vs.length) (lim : vs.length < 64) (ne : kS ≠ a)
    (fa : FpOk X pins H a) (fk : FpOk X pins H kS) (ga : s.heap.get? a = some (seqObj "list" #[] e1)) (gk : s.heap.get? kS = some (seqObj "list" #[] 0))
    (h : ∀ (s' : Shared) (out : Array Value), Inv X pins σ H s' → KskOut false kz vs out.toList → out.size = vs.length → (∃ n, s'.heap.get? a = some (seqObj "list" out n)) → P (.done (.ret .none)) s') :
    wpAny (model X.prog X.w) X.A.in1.in1 (ksk_rest a f false vs.toArray e1 (.ref kS)) P E s := by
  have pinOk : ∀ {s' : Shared} {kA : Array Value} {n : Nat}, s'.heap.get? a = some (seqObj "list" #[] e1) → s'.heap.get? kS = some (seqObj "list" kA n) → Inv X pins σ H s' → Inv X (pins ++ pinsAt [a, kS] s'.heap) σ H s' := fun {s' kA n} g1 g2 I' => by
    refine I'.pinned (fun b hb => ?_) (fun b hb => ?_)
    · rcases List.mem_cons.mp hb with rfl | hb
      · exact fa
      · rw [List.mem_singleton.mp hb]; exact fk
    · rcases List.mem_cons.mp hb with rfl | hb
      · exact ⟨_, g1, fun v z => by cases z⟩
      · rw [List.mem_singleton.mp hb]
        exact ⟨_, g2, fun v z => by cases z⟩
  unfold ksk_rest
  refine wpAny_bind (wpAny_rule ?_)
  rw [List.forIn_toArray]
  refine wpAny_bind (ksk_fold (fun i s' => Inv X pins σ H s' ∧ s'.heap.get? a = some (seqObj "list" #[] e1) ∧ ∃ kA n, s'.heap.get? kS = some (seqObj "list" kA n) ∧ IntsAre kA.toList (kz.take i)) vs 0 s ⟨I, ga, #[], 0, gk, by simpa using IntsAre.nil⟩ ?_ ?_)
  · rintro j x s1 hx ⟨I1, g1, kA, n, g2, hk⟩
    rw [Nat.zero_add] at hk ⊢
    have hj := (List.getElem?_eq_some_iff.mp hx).1
    obtain ⟨k, hkj⟩ : ∃ k, kz[j]? = some k := ⟨_, List.getElem?_eq_getElem (by omega)⟩
    have Ip := pinOk g1 g2 I1
    refine wpAny_bind (wpAny_attempt (wpAny_mono (turn j x k hx hkj _ σ s1 Ip) (fun r s2 hr => ?_) fun _ _ no => no.elim))
    obtain ⟨t, rfl, I2⟩ := hr
    have p1 := (I2.pin (a, seqObj "list" #[] e1) (List.mem_append_right _ (List.mem_append_right _ (mem_pinsAt (by simp) g1)))).1
    have p2 := (I2.pin (kS, seqObj "list" kA n) (List.mem_append_right _ (List.mem_append_right _ (mem_pinsAt (by simp) g2)))).1
    have I3 := I2.unpinned
    have size : kA.size ≤ 63 := by
      have q := hk.length
      rw [Array.length_toList, List.length_take] at q
      omega
    have sb := Heap.SameBut.update s2.heap kS (Obj.mapSeq (·.push (.int k t)))
    obtain ⟨n2, g3⟩ : ∃ n2, (s2.heap.update kS (Obj.mapSeq (·.push (.int k t)))).get? kS = some (seqObj "list" (kA.push (.int k t)) n2) := ⟨_, get?_update_seq p2 (·.push (.int k t))⟩
    refine wpAny_bind (listUpdate_at p2 rfl ?_ (by rw [sizeLine_eq]; omega) (by rw [Array.size_push, sizeLine_eq]; omega))
    refine wpAny_pure ⟨rfl, ?_, (sb.2 a (Ne.symm ne)).trans p1, kA.push (.int k t), n2, g3, ?_⟩
    · exact I3.turned (t' := s2.toks) (fun b o hb e => (sb.2 b hb).trans e) fk.1 fk.2.1 fk.2.2.2.1 fk.2.2.2.2.1 fk.2.2.2.2.2
    · have e1 : kz.take (j + 1) = kz.take j ++ [k] := by rw [List.take_add_one, hkj]; rfl
      rw [e1, Array.toList_push]
      exact ksk_snoc hk
  · rintro s1 ⟨I1, g1, kA, n, g2, hk⟩
    rw [List.take_of_length_le (by omega)] at hk
    refine wpAny_bind (listItems_at g2 rfl ?_)
    refine key_end g2 g1 ne hk hl lim fun out ho hz => ?_
    have b1 := Heap.SameBut.update s1.heap kS (Obj.mapSeq fun _ => (#[] : Array Value))
    have I2 := I1.turned (t' := s1.toks) (fun b o hb e => (b1.2 b hb).trans e) fk.1 fk.2.1 fk.2.2.2.1 fk.2.2.2.2.1 fk.2.2.2.2.2
    have g3 : (s1.heap.update kS (Obj.mapSeq fun _ => (#[] : Array Value))).get? a = some (seqObj "list" #[] e1) := (b1.2 a (Ne.symm ne)).trans g1
    have b2 := Heap.SameBut.update (s1.heap.update kS (Obj.mapSeq fun _ => (#[] : Array Value))) a (Obj.mapSeq fun _ => out)
    have I3 := I2.turned (t' := s1.toks) (fun b o hb e => (b2.2 b hb).trans e) fa.1 fa.2.1 fa.2.2.2.1 fa.2.2.2.2.1 fa.2.2.2.2.2
    exact h _ out I3 ho hz ⟨_, get?_update_seq g3 fun _ => out⟩
/-- the sorted list is a new one -/
def KeyOut (kz : List Int) (xs ys : List V) : Prop := ∃ ps : List (Int × V), ps.Perm (kz.zip xs) ∧ ys = ps.map Prod.snd ∧ ps.Pairwise fun p q => p.1 ≤ q.1
theorem key_out {kz : List Int} {xs : List V} {vs out : List Value} (r : Vals xs vs) (h : KskOut false kz vs out) : ∃ ys, Vals ys out ∧ KeyOut kz xs ys := by
  obtain ⟨ps, hp, rfl, hs⟩ := h
  obtain ⟨qs, h1, h2, h3⟩ : ∃ qs : List (Int × V), qs.Perm (kz.zip xs) ∧ Vals (qs.map Prod.snd) (ps.map Prod.snd) ∧ qs.map Prod.fst = ps.map Prod.fst := by
    have base : ∃ zs : List ((Int × V) × (Int × Value)), zs.map Prod.fst = kz.zip xs ∧ zs.map Prod.snd = kz.zip vs ∧ ∀ z ∈ zs, z.1.1 = z.2.1 ∧ RelV z.1.2 z.2.2 := by
      clear hp hs
      induction r generalizing kz with
      | nil => exact ⟨[], by simp, by simp, fun _ h => nomatch h⟩
      | cons rv _ ih =>
        cases kz with
        | nil => exact ⟨[], by simp, by simp, fun _ h => nomatch h⟩
        | cons k kz =>
          obtain ⟨zs, e1, e2, e3⟩ := ih (kz := kz)
          refine ⟨((k, _), (k, _)) :: zs, by rw [List.map_cons, List.zip_cons_cons, e1], by rw [List.map_cons, List.zip_cons_cons, e2], fun z hz => ?_⟩
          rcases List.mem_cons.mp hz with rfl | hz
          · exact ⟨rfl, rv⟩
          · exact e3 z hz
    obtain ⟨zs, e1, e2, e3⟩ := base
    rw [← e2] at hp
    have key : ∀ {ps : List (Int × Value)} {zs : List ((Int × V) × (Int × Value))}, ps.Perm (zs.map Prod.snd) → ∃ ws : List ((Int × V) × (Int × Value)), ws.Perm zs ∧ ws.map Prod.snd = ps := by
      intro ps
      induction ps with
      | nil =>
        intro zs h
        have := h.symm.eq_nil
        cases zs with
        | nil => exact ⟨[], .refl _, rfl⟩
        | cons z zs => cases this
      | cons p ps ih =>
        intro zs h
        have hm : p ∈ zs.map Prod.snd := h.mem_iff.mp (List.mem_cons_self ..)
        obtain ⟨z, hz, rfl⟩ := List.mem_map.mp hm
        obtain ⟨l1, l2, rfl⟩ := List.append_of_mem hz
        have h2 : ps.Perm ((l1 ++ l2).map Prod.snd) := by
          have h3 : ((l1 ++ z :: l2).map Prod.snd).Perm (z.2 :: (l1 ++ l2).map Prod.snd) := by
            rw [List.map_append, List.map_cons, List.map_append]
            exact List.perm_middle
          exact (List.perm_cons _).mp (h.trans h3)
        obtain ⟨ws, q1, q2⟩ := ih h2
        exact ⟨z :: ws, ((List.perm_cons _).mpr q1).trans List.perm_middle.symm, by rw [List.map_cons, q2]⟩
    obtain ⟨ws, q1, q2⟩ := key hp
    refine ⟨ws.map Prod.fst, by rw [← e1]; exact q1.map _, ?_, ?_⟩
    · rw [← q2]
      have rel : ∀ z ∈ ws, RelV z.1.2 z.2.2 := fun z hz => (e3 z (q1.mem_iff.mp hz)).2
      clear q2 q1
      induction ws with
      | nil => exact .nil
      | cons z ws ih => exact .cons (rel z (List.mem_cons_self ..)) (ih fun y hy => rel y (List.mem_cons_of_mem _ hy))
    · rw [← q2, List.map_map, List.map_map]
      exact List.map_congr_left fun z hz => (e3 z (q1.mem_iff.mp hz)).1
  refine ⟨_, h2, qs, h1, rfl, ?_⟩
  have e : ∀ {as : List (Int × V)} {bs : List (Int × Value)}, as.map Prod.fst = bs.map Prod.fst → bs.Pairwise (fun p q => if false = true then q.1 ≤ p.1 else p.1 ≤ q.1) → as.Pairwise fun p q => p.1 ≤ q.1 := by
    intro as bs e hb
    have e2 : (as.map Prod.fst).Pairwise (· ≤ ·) := by
      rw [e, List.pairwise_map]
      exact hb.imp fun h => by simpa using h
    rw [List.pairwise_map] at e2
    exact e2
  exact e h3 hs
theorem sorted_key {f : Value} {kz : List Int} {l : Addr} {xs : List V} {Q : VK} (I : Inv X pins σ H s) (hs : SqL X.K H l xs) (hl : kz.length = xs.length) (lim : xs.length < 64) (ha1 : argsOk "sorted" ⟨[.ref l], [(Str.ofString "key", f)]⟩) (ha2 : ∀ x, argsOk "list.sort" ⟨[.ref x], [(Str.ofString "key", f)]⟩)
    (ht : ∀ x, Builtin.«list.sort» ⟨[.ref x], [(Str.ofString "key", f)]⟩ = ksk_tree x f false) (turn : ∀ vs : List Value, Vals xs vs → KeyTurn X H f vs kz)
    (q : ∀ (ys : List V) (p : Addr), KeyOut kz xs ys → H p = none → Q (.ref p) (upd H p (.lst ys))) :
    wpAny (model X.prog X.w) X.A (call (.builtin "sorted") [.ref l] [(Str.ofString "key", f)]) (EP X pins σ Q) X.xe s := by
  obtain ⟨vs, rv, pl, hz⟩ := I.list hs
  have lv : xs.length = vs.length := rv.length
  have lim2 : vs.length ≤ sizeLine := by rw [sizeLine_eq]; omega
  refine call_function_entry_kw kind_sorted plain_sorted entry_sorted ha1 ?_
  unfold Builtin.«sorted»
  refine wpAny_bind (m := checkCount "sorted" 1 1 _) (wpAny_pure (wpAny_bind (collect_list pl.isList ?_ lim2)))
  refine wpAny_bind (wpAny_newList ?_ lim2)
  -- the heap with the list to sort
  have sb := Heap.SameBut.update (s.heap.push (seqObj "list" #[] 0)) s.heap.objs.size (Obj.mapSeq (· ++ vs.toArray))
  generalize hh1 : (s.heap.push (seqObj "list" #[] 0)).update s.heap.objs.size (Obj.mapSeq (· ++ vs.toArray)) = h1 at sb
  have s1 : h1.objs.size = s.heap.objs.size + 1 := by rw [← hh1, Heap.size_update, size_push']
  have keep1 : ∀ b o, s.heap.get? b = some o → h1.get? b = some o := fun b o e => by
    have hb := Heap.lt_size e
    rw [sb.2 b (Nat.ne_of_lt hb), Heap.get?_push_ne _ _ _ (Nat.ne_of_lt hb)]
    exact e
  have I1 : Inv X pins σ H { s with heap := h1, toks := s.toks } := I.kept keep1
  generalize hs1 : ({ s with heap := h1, toks := s.toks } : Shared) = t1 at I1
  have e1 : t1.heap = h1 := by rw [← hs1]
  have fa : FpOk X pins H t1.heap.objs.size := I1.fpOk (Nat.le_refl _) (I1.hok.fresh (Nat.le_refl _))
  have I2 : Inv X pins σ H { t1 with heap := t1.heap.push (seqObj "list" vs.toArray 0), toks := t1.toks } := I1.kept fun b o e => Heap.get?_push_of_some _ e
  have g2 : (t1.heap.push (seqObj "list" vs.toArray 0)).get? t1.heap.objs.size = some (seqObj "list" vs.toArray 0) := Heap.get?_push_size _ rfl
  show wpAny _ _ _ _ _ { t1 with heap := t1.heap.push (seqObj "list" vs.toArray 0), toks := t1.toks }
  generalize ha : t1.heap.objs.size = a at fa g2 ⊢
  have alt : a < (t1.heap.push (seqObj "list" vs.toArray 0)).objs.size := by rw [size_push', ha]; exact Nat.lt_succ_self _
  generalize hs2 : ({ t1 with heap := t1.heap.push (seqObj "list" vs.toArray 0), toks := t1.toks } : Shared) = t2 at I2 ⊢
  have e2 : t2.heap = t1.heap.push (seqObj "list" vs.toArray 0) := by rw [← hs2]
  rw [← e2] at g2 alt
  clear hs2 e2
  refine wpAny_bind (wpAny_holding (wpAny_call_entry_kw slot_list_sort ⟨_, g2, rfl⟩ entry_list_sort ?_ (ha2 _)))
  show wpAny (model X.prog X.w) X.A.in1.in1 (Builtin.«list.sort» ⟨[.ref a], [(Str.ofString "key", f)]⟩) _ _ _
  rw [ht a]
  unfold ksk_tree
  obtain ⟨n3, g3⟩ : ∃ n3, (t2.heap.update a (Obj.mapSeq fun _ => (#[] : Array Value))).get? a = some (seqObj "list" #[] n3) := ⟨_, get?_update_seq g2 fun _ => #[]⟩
  have b3 := Heap.SameBut.update t2.heap a (Obj.mapSeq fun _ => (#[] : Array Value))
  refine wpAny_bind (listItems_at g2 rfl (wpAny_bind (listUpdate_at g2 rfl ?_ (by rw [List.size_toArray]; exact lim2) (Nat.zero_le _))))
  refine wpAny_bind (seqEpoch_at g3 rfl (wpAny_bind (wpAny_newTuple ?_ (by show vs.length ≤ _; exact lim2))))
  refine wpAny_bind (wpAny_newList ?_ (Nat.zero_le _))
  refine wpAny_holding ?_
  have I3 := I2.turned (t' := t2.toks) (fun b o hb e => (b3.2 b hb).trans e) fa.1 fa.2.1 fa.2.2.2.1 fa.2.2.2.2.1 fa.2.2.2.2.2
  generalize hs3 : ({ t2 with heap := t2.heap.update a (Obj.mapSeq fun _ => #[]), toks := t2.toks } : Shared) = t3 at I3 ⊢
  have e3 : t3.heap = t2.heap.update a (Obj.mapSeq fun _ => #[]) := by rw [← hs3]
  rw [← e3] at g3
  have a3 : a < t3.heap.objs.size := Heap.lt_size g3
  have I4 : Inv X pins σ H { t3 with heap := t3.heap.push (seqObj "tuple" vs.toArray.toList.toArray 0), toks := t3.toks } := I3.kept fun b o e => Heap.get?_push_of_some _ e
  have g4 : (t3.heap.push (seqObj "tuple" vs.toArray.toList.toArray 0)).get? a = some (seqObj "list" #[] n3) := Heap.get?_push_of_some _ g3
  have a4 : a < (t3.heap.push (seqObj "tuple" vs.toArray.toList.toArray 0)).objs.size := by rw [size_push']; exact Nat.lt_succ_of_lt a3
  generalize hs4 : ({ t3 with heap := t3.heap.push (seqObj "tuple" vs.toArray.toList.toArray 0), toks := t3.toks } : Shared) = t4 at I4 ⊢
  have e4 : t4.heap = t3.heap.push (seqObj "tuple" vs.toArray.toList.toArray 0) := by rw [← hs4]
  rw [← e4] at g4 a4
  have fk : FpOk X pins H t4.heap.objs.size := I4.fpOk (Nat.le_refl _) (I4.hok.fresh (Nat.le_refl _))
  have I5 : Inv X pins σ H { t4 with heap := t4.heap.push (seqObj "list" #[] 0), toks := t4.toks } := I4.kept fun b o e => Heap.get?_push_of_some _ e
  refine key_rest (kS := t4.heap.objs.size) I5 (turn vs rv) (by omega) (by omega) (Nat.ne_of_gt a4) fa fk (Heap.get?_push_of_some _ g4) (Heap.get?_push_size _ rfl) fun s' out I' ho hz' hg => ?_
  obtain ⟨n, hg⟩ := hg
  obtain ⟨ys, ry, hy⟩ := key_out rv ho
  refine ⟨_, rfl, wpAny_pure ⟨_, rfl, .ref a, upd H a (.lst ys), ?_, rfl, q ys a hy fa.1⟩⟩
  refine I'.take (t' := s'.toks) (fun b ob _ e => e) fa ⟨?_, out.toList, n, ry, by rw [Array.toArray_toList]; exact hg⟩
  rw [ry.length, Array.length_toList, hz']; exact lim2
def rSortedKey (K : PySem.W.Frag) (f : Addr) (sp : Sp) : List V → List V → Hp → VK → Prop := fun vs zs H Q => ∃ (l : Addr) (xs : List V) (kz : List Int), vs = [.ref l] ∧ zs = [.ref f] ∧ SqL K H l xs ∧ kz.length = xs.length ∧ xs.length < 64 ∧
  (∀ (i : Nat) (x : V) (k : Int), xs[i]? = some x → kz[i]? = some k → sp [x] H (fun v H' => v = .int k ∧ H' = H) E0) ∧ ∀ (ys : List V) (p : Addr), KeyOut kz xs ys → H p = none → Q (.ref p) (upd H p (.lst ys))
theorem vals_at {xs : List V} {vs : List Value} (r : Vals xs vs) : ∀ {i : Nat} {v : Value}, vs[i]? = some v → ∃ x, xs[i]? = some x ∧ RelV x v := by
  induction r with
  | nil => intro i v h; simp at h
  | cons rv _ ih =>
    intro i v h
    cases i with
    | zero =>
      have e := Option.some.inj h
      exact ⟨_, rfl, e ▸ rv⟩
    | succ i => exact ih h
theorem cr_sortedKeyF {k : Nat} {f : Addr} {fd : FuncData} {y : Str} {sp : Sp} (F : FnOk X.prog X.w X.K X.mg X.base CX0 k f fd [y] sp) (hr : Room (k + 2) X.A) (hb : Binds X.K fd [y] []) : CallRK X (.builtin "sorted") [Str.ofString "key"] (rSortedKey X.K f sp) := by
  intro pins s σ H vs zs us ws Q I r rz h
  obtain ⟨l, xs, kz, rfl, rfl, hs, hl, lim, hk, q⟩ := h
  obtain ⟨u1, rfl, r1⟩ := vals1 r
  obtain ⟨w1, rfl, r2⟩ := vals1 rz
  cases (show u1 = Value.ref l from r1)
  cases (show w1 = Value.ref f from r2)
  refine sorted_key I hs hl lim (ksk_s1 _ _) (fun x => ksk_l1 _ _) (fun x => ksk_t1 _ _) (fun vs rv i v k hv hk2 pins σ s I' => ?_) q
  obtain ⟨x, hx, rx⟩ := vals_at rv hv
  refine wpAny_call (codeAny_mono (F.run X.A.in1.in1 X.stack s H ⟨[v], []⟩ [v] [x] _ E0 hr.in1.in1 I'.env0.in1.in1 (hb s [v] I'.kIn rfl) (.cons rx .nil) (hk i x k hx hk2)) fun r s' hq => ?_)
  cases r with
  | error e => exact hq.elim
  | ok fl =>
    cases fl with
    | ret u =>
      obtain ⟨v', H', I2, rv', e, e2⟩ := I'.after hq
      subst e e2
      obtain ⟨t, rfl⟩ := rv'
      exact ⟨t, rfl, I2⟩
    | next => exact False.elim hq
    | brk => exact False.elim hq
    | cont => exact False.elim hq
end
section
variable {X : Cx} {k j : Nat} {y x : Str} {sp : Sp} {p p2 kpos pos : Pos} {e : Expr} {te : TE}
/-- sorted(e, key=x), x a def of one number that changes nothing -/
def tSortedKey (K : PySem.W.Frag) (mg : Str → Option Value) (x : Str) (sp : Sp) (te : TE) : TE := fun σ H Q => ∃ f, mg x = some (.ref f) ∧ tCKw (rSortedKey K f sp) (tCons te tNil) (tCons (tC (.ref f)) tNil) σ H Q
theorem pe_sortedKey (D : DefOk X.prog X.w X.K X.mg X.base CX0 k x [y] sp) (hr : Room j X.A) (hg : Gl X "sorted") (hm : X.mg "sorted" = none) (hgx : Gl X x) (he : PE X e te) (hk : k + 2 ≤ j := by decide) (hdb : (x == ("__debug__" : Str)) = false := by decide)
    (h1 : backTo pos (starEach [e] X.env) = (false, eval e X.env) :: backTo pos (starEach [] X.env) := by rfl) (h2 : (backTo pos (starEach [e] X.env)).any (·.1) = false := by rfl) (h0 : starEach [e] X.env = (false, eval e X.env) :: starEach [] X.env := by rfl)
    (h3 : (backToKw pos (keywordEach [⟨some (Str.ofString "key"), .Name x p2, kpos⟩] X.env)).all (·.1.isSome) = true := by rfl) (h4 : (backToKw pos (keywordEach [⟨some (Str.ofString "key"), .Name x p2, kpos⟩] X.env)).any (·.1.isNone) = false := by rfl)
    (h5 : (backToKw pos (keywordEach [⟨some (Str.ofString "key"), .Name x p2, kpos⟩] X.env)).filterMap (·.1) = [Str.ofString "key"] := by rfl) :
    PE X (.Call (.Name "sorted" p) [e] [⟨some (Str.ofString "key"), .Name x p2, kpos⟩] pos) (tSortedKey X.K X.mg x sp te) := by
  obtain ⟨f, fd, F, hmx, hkp, hb⟩ := D.ex
  have q := pe_callBK (X := X) (x := "sorted") (p := p) (pos := pos) (e := e) (es := []) (kws := [⟨some (Str.ofString "key"), .Name x p2, kpos⟩]) (cr_sortedKeyF F (hr.mono hk) hb) hg hm (by decide +kernel) (pa_cons he pa_nil h0) (pk_cons (pe_glob (v := .ref f) (hd := hdb) hgx hmx rfl) pk_nil) (by decide) (by decide) h1 h2 h3 h4 h5
  refine ⟨fun pins s σ H Q I h => ?_⟩
  obtain ⟨f2, e2, h⟩ := h
  rw [hmx] at e2
  cases e2
  exact q.run pins s σ H Q I h
end
end BT

set_option Elab.async false
set_option linter.all false
namespace BT
open PySem PySem.Spec PyProof.Rows L2
theorem perm_map_inv {α β : Type} (F : α → β) : ∀ {ps : List β} {zs : List α}, ps.Perm (zs.map F) → ∃ ws : List α, ws.Perm zs ∧ ws.map F = ps
  | [], zs, h => by
    have e := h.symm.eq_nil
    cases zs with
    | nil => exact ⟨[], .refl _, rfl⟩
    | cons z zs => cases e
  | p :: ps, zs, h => by
    obtain ⟨z, hz, rfl⟩ := List.mem_map.mp (h.mem_iff.mp (List.mem_cons_self ..))
    obtain ⟨l1, l2, rfl⟩ := List.append_of_mem hz
    have h3 : ((l1 ++ z :: l2).map F).Perm (F z :: (l1 ++ l2).map F) := by
      rw [List.map_append, List.map_cons, List.map_append]
      exact List.perm_middle
    obtain ⟨ws, q1, q2⟩ := perm_map_inv F ((List.perm_cons _).mp (h.trans h3))
    exact ⟨z :: ws, ((List.perm_cons _).mpr q1).trans List.perm_middle.symm, by rw [List.map_cons, q2]⟩
theorem sorted_one {α : Type} (key : α → Nat) : ∀ {a b : List α}, a.Perm b → a.Pairwise (fun x y => key x ≤ key y) → b.Pairwise (fun x y => key x ≤ key y) → (∀ x ∈ b, ∀ y ∈ b, key x = key y → x = y) → a = b
  | [], b, h, _, _, _ => h.symm.eq_nil.symm
  | x :: a, [], h, _, _, _ => by have := h.eq_nil; cases this
  | x :: a, y :: b, h, ha, hb, hk => by
    have ha' := List.pairwise_cons.mp ha
    have hb' := List.pairwise_cons.mp hb
    have hx : x ∈ y :: b := h.mem_iff.mp (List.mem_cons_self ..)
    have hy : y ∈ x :: a := h.mem_iff.mpr (List.mem_cons_self ..)
    have e : x = y := by
      rcases List.mem_cons.mp hx with e | hx2
      · exact e
      · rcases List.mem_cons.mp hy with e | hy2
        · exact e.symm
        · exact hk x hx y (List.mem_cons_self ..) (Nat.le_antisymm (ha'.1 y hy2) (hb'.1 x hx2))
    subst e
    rw [sorted_one key ((List.perm_cons _).mp h) ha'.2 hb'.2 fun p hp q hq => hk p (List.mem_cons_of_mem _ hp) q (List.mem_cons_of_mem _ hq)]
/-- sorted by the lowest place -/
def insLow (x : Nat) : List Nat → List Nat
  | [] => [x]
  | y :: r => if lowN x ≤ lowN y then x :: y :: r else y :: insLow x r
def sortLow (l : List Nat) : List Nat := l.foldr insLow []
theorem insLow_perm (x : Nat) : ∀ l : List Nat, (insLow x l).Perm (x :: l)
  | [] => .refl _
  | y :: r => by
    unfold insLow
    split
    · exact .refl _
    · exact ((insLow_perm x r).cons y).trans (List.Perm.swap x y r)
theorem sortLow_perm : ∀ l : List Nat, (sortLow l).Perm l
  | [] => .refl _
  | x :: l => (insLow_perm x (sortLow l)).trans ((sortLow_perm l).cons x)
theorem insLow_sorted (x : Nat) : ∀ l : List Nat, l.Pairwise (fun a b => lowN a ≤ lowN b) → (insLow x l).Pairwise fun a b => lowN a ≤ lowN b
  | [], _ => List.pairwise_singleton _ _
  | y :: r, h => by
    have h' := List.pairwise_cons.mp h
    unfold insLow
    split
    · rename_i c
      refine List.pairwise_cons.mpr ⟨fun z hz => ?_, h⟩
      rcases List.mem_cons.mp hz with rfl | hz
      · exact c
      · exact Nat.le_trans c (h'.1 z hz)
    · rename_i c
      refine List.pairwise_cons.mpr ⟨fun z hz => ?_, insLow_sorted x r h'.2⟩
      rcases List.mem_cons.mp ((insLow_perm x r).mem_iff.mp hz) with rfl | hz
      · omega
      · exact h'.1 z hz
theorem sortLow_sorted : ∀ l : List Nat, (sortLow l).Pairwise fun a b => lowN a ≤ lowN b
  | [] => .nil
  | x :: l => insLow_sorted x _ (sortLow_sorted l)
def reduceF (ms : List Nat) : List Nat := sortLow (sweepF (-1) ms).1
theorem alone_inj {rows : List Nat} (A : Alone (-1) rows) : ∀ x ∈ rows, ∀ y ∈ rows, lowN x = lowN y → x = y := fun x hx y hy e => by
  obtain ⟨ks, hl, h⟩ := A
  obtain ⟨i, hi, rfl⟩ := List.getElem_of_mem hx
  obtain ⟨j, hj, rfl⟩ := List.getElem_of_mem hy
  obtain ⟨a1, a2⟩ := h i _ ks[i] (List.getElem?_eq_getElem hi) (List.getElem?_eq_getElem (by omega))
  obtain ⟨b1, b2⟩ := h j _ ks[j] (List.getElem?_eq_getElem hj) (List.getElem?_eq_getElem (by omega))
  rw [andN_neg1] at a1 b1
  have ek : ks[i] = ks[j] := two_pow_inj (a1.symm.trans (e.trans b1))
  have q := (b2 j _ (List.getElem?_eq_getElem hj)).mpr rfl
  have z := (a2 j _ (List.getElem?_eq_getElem hj)).mp (by rw [ek]; exact q)
  subst z; rfl
theorem zip_map2 {α β γ : Type} (f : α → β) (g : α → γ) : ∀ l : List α, (l.map f).zip (l.map g) = l.map fun x => (f x, g x)
  | [] => rfl
  | x :: l => by rw [List.map_cons, List.map_cons, List.zip_cons_cons, zip_map2 f g l, List.map_cons]
theorem key_reduce {ms : List Nat} {ys : List V} (h : KeyOut ((sweepF (-1) ms).1.map fun m => ((lowN m : Nat) : Int)) (lotV (sweepF (-1) ms).1) ys) : ys = lotV (reduceF ms) := by
  obtain ⟨ps, hp, rfl, hs⟩ := h
  unfold lotV at hp
  rw [zip_map2] at hp
  obtain ⟨ws, h1, rfl⟩ := perm_map_inv _ hp
  have hw : ws.Pairwise fun a b => lowN a ≤ lowN b := by
    rw [List.pairwise_map] at hs
    exact hs.imp fun h => Int.ofNat_le.mp h
  have e : ws = reduceF ms := sorted_one lowN (h1.trans (sortLow_perm _).symm) hw (sortLow_sorted _) fun x hx y hy => alone_inj (sweep_alone (-1) ms) x ((sortLow_perm _).mem_iff.mp hx) y ((sortLow_perm _).mem_iff.mp hy)
  rw [List.map_map, ← e]
  rfl
end BT

set_option Elab.async false
set_option linter.all false
set_option maxRecDepth 100000
set_option maxHeartbeats 2000000
namespace BT
open PySem PySem.Spec PyProof.Rows L2
/-! ### walks over a list or a tuple -/
def iSeq (K : PySem.W.Frag) (te : TE) : TI := fun σ H R => te σ H fun x H1 => ∃ (a : Addr) (xs : List V), x = .ref a ∧ ((SqL K H1 a xs ∧ R (Itl K a) H1) ∨ (SqT K H1 a xs ∧ R (Itt K a) H1))
section
variable {X : Cx} {tg e : Expr} {te : TE}
theorem pi_seq (he : PE X e te) : PI X tg e (iSeq X.K te) := by
  refine ⟨fun pins s σ H R I h => thn (he.run pins s σ H _ I h) fun v s1 out => ?_⟩
  obtain ⟨x, H1, I1, r, a, xs, rfl, w⟩ := out
  cases r
  rcases w with ⟨hq, q⟩ | ⟨hq, q⟩
  · obtain ⟨its, rv, p, hz⟩ := I1.list hq
    exact wpAny_pyIter_list p.isList (pi_one (tk := s1.toks) I1 _ (turn_list a _) ⟨_, Heap.get?_push_size _ rfl, rfl, rfl⟩ q)
  · obtain ⟨its, rv, p, hz⟩ := I1.tuple hq
    exact wpAny_pyIter_tuple (show s1.heap.IsTuple a its.toArray from p) (pi_one (tk := s1.toks) I1 _ (turn_tuple a _) ⟨_, Heap.get?_push_size _ rfl, rfl, rfl⟩ q)
end
/-- numbers in a list or a tuple -/
def NatsAt (H : Hp) (a : Addr) (ns : List Nat) : Prop := H a = some (.lst (lotV ns)) ∨ H a = some (.tup (lotV ns))
theorem NatsAt.same {H H' : Hp} {a : Addr} {ns : List Nat} (s : Same H H') (h : NatsAt H a ns) : NatsAt H' a ns := h.imp (s a _) (s a _)
theorem for_seq {K : PySem.W.Frag} {a : Addr} {xs : List V} {g : TG} {tb : TS} {D : Ends} {σ : L2.St} {H : Hp} (Pv : Nat → L2.St → Hp → Prop) (h0 : Pv 0 σ H) (hl : (∀ i σ H, i ≤ xs.length → Pv i σ H → H a = some (.lst xs)) ∨ (∀ i σ H, i ≤ xs.length → Pv i σ H → H a = some (.tup xs)))
    (hs : ∀ i x σ H, xs[i]? = some x → Pv i σ H → g x σ H fun σ2 H2 => tb { D with nx := Pv (i + 1), ct := Pv (i + 1), bk := D.nx } σ2 H2) (hd : ∀ σ H, Pv xs.length σ H → D.nx σ H) :
    (SqL K H a xs ∧ ∃ W : Nat → Nat → L2.St → Hp → Prop, (∃ m, W 0 m σ H) ∧ ∀ i m σ H, W i m σ H → ((Itl K a).stop i H ∧ D.nx σ H) ∨ ((Itl K a).go i H ∧ ∃ N : L2.St → Hp → Prop, (∀ σ' H', N σ' H' → ∃ m', m' < m ∧ W (i + 1) m' σ' H') ∧ ∀ x H', (Itl K a).yld i H x H' → g x σ H' fun σ2 H2 => tb { D with nx := N, ct := N, bk := D.nx } σ2 H2)) ∨
    (SqT K H a xs ∧ ∃ W : Nat → Nat → L2.St → Hp → Prop, (∃ m, W 0 m σ H) ∧ ∀ i m σ H, W i m σ H → ((Itt K a).stop i H ∧ D.nx σ H) ∨ ((Itt K a).go i H ∧ ∃ N : L2.St → Hp → Prop, (∀ σ' H', N σ' H' → ∃ m', m' < m ∧ W (i + 1) m' σ' H') ∧ ∀ x H', (Itt K a).yld i H x H' → g x σ H' fun σ2 H2 => tb { D with nx := N, ct := N, bk := D.nx } σ2 H2)) := by
  rcases hl with hl | hl
  · exact .inl ⟨.inl (.inl (hl 0 σ H (Nat.zero_le _) h0)), for_list Pv h0 (fun i σ H hi p => .inl (.inl (hl i σ H hi p))) hs hd⟩
  · exact .inr ⟨.inl (.inl (hl 0 σ H (Nat.zero_le _) h0)), for_tup Pv h0 (fun i σ H hi p => .inl (.inl (hl i σ H hi p))) hs hd⟩
/-- the same in a comprehension -/
theorem lc_seq {K : PySem.W.Frag} {a : Addr} {xs : List V} {g : TG} {tt : TT} {te : TE} {vs : List Nat} {σ : L2.St} {H0 : Hp} {Qd : Addr → Hp → Prop} (hn : H0 a = some (.lst xs) ∨ H0 a = some (.tup xs)) (Pv : Addr → Nat → Hp → Prop) (h0 : ∀ D, H0 D = none → Pv D 0 (upd H0 D (.lst [])))
    (hl : ∀ D i H, H0 D = none → i ≤ xs.length → Pv D i H → ∀ o, H0 a = some o → H a = some o)
    (hs : ∀ D i x H, H0 D = none → xs[i]? = some x → Pv D i H → g x (wipe σ vs) H fun σ2 H2 => wipe σ2 vs = wipe σ vs ∧ tt σ2 H2 fun b H3 => if b = true then te σ2 H3 fun y H4 => ∃ acc, H4 D = some (.lst acc) ∧ acc.length < sizeLine ∧ Pv D (i + 1) (upd H4 D (.lst (acc ++ [y]))) else Pv D (i + 1) H3)
    (hd : ∀ D H, H0 D = none → Pv D xs.length H → Qd D H) :
    (SqL K H0 a xs ∧ ∀ D, H0 D = none → ∃ W : Nat → Nat → Hp → Prop, (∃ m, W 0 m (upd H0 D (.lst []))) ∧ ∀ i m H, W i m H → ((Itl K a).stop i H ∧ Qd D H) ∨ ((Itl K a).go i H ∧ ∃ Nx : Hp → Prop, (∀ H', Nx H' → ∃ m', m' < m ∧ W (i + 1) m' H') ∧ ∀ x H', (Itl K a).yld i H x H' → g x (wipe σ vs) H' fun σ2 H2 => wipe σ2 vs = wipe σ vs ∧ tt σ2 H2 fun b H3 => if b = true then te σ2 H3 fun y H4 => ∃ acc, H4 D = some (.lst acc) ∧ acc.length < sizeLine ∧ Nx (upd H4 D (.lst (acc ++ [y]))) else Nx H3)) ∨
    (SqT K H0 a xs ∧ ∀ D, H0 D = none → ∃ W : Nat → Nat → Hp → Prop, (∃ m, W 0 m (upd H0 D (.lst []))) ∧ ∀ i m H, W i m H → ((Itt K a).stop i H ∧ Qd D H) ∨ ((Itt K a).go i H ∧ ∃ Nx : Hp → Prop, (∀ H', Nx H' → ∃ m', m' < m ∧ W (i + 1) m' H') ∧ ∀ x H', (Itt K a).yld i H x H' → g x (wipe σ vs) H' fun σ2 H2 => wipe σ2 vs = wipe σ vs ∧ tt σ2 H2 fun b H3 => if b = true then te σ2 H3 fun y H4 => ∃ acc, H4 D = some (.lst acc) ∧ acc.length < sizeLine ∧ Nx (upd H4 D (.lst (acc ++ [y]))) else Nx H3)) := by
  rcases hn with hn | hn
  · exact .inl ⟨.inl (.inl hn), fun D hD => lc_list (Pv D) (h0 D hD) (fun i H hi p => .inl (.inl (hl D i H hD hi p _ hn))) (fun i x H hx p => hs D i x H hD hx p) fun H p => hd D H hD p⟩
  · exact .inr ⟨.inl (.inl hn), fun D hD => lc_tup (Pv D) (h0 D hD) (fun i H hi p => .inl (.inl (hl D i H hD hi p _ hn))) (fun i x H hx p => hs D i x H hD hx p) fun H p => hd D H hD p⟩
end BT

set_option Elab.async false
set_option linter.all false
set_option maxRecDepth 100000
set_option maxHeartbeats 4000000
namespace PySem
open AutoSeq1 (wpAny_loadPart')
/-- enumerate of a tuple: its iterator, then the enumerate object -/
theorem BT_enum_new (t : Addr) (items : Array Value) (n : Nat) (dct : Option Addr) (sl : Array (Option Value)) :
    Meets (Builtin.«enumerate.__new__» ⟨[.type "enumerate", .ref t], []⟩) (fun _ R s => s.heap.get? t = some { cls := .type "tuple", dict := dct, data := .seq items n, slots := sl } ∧
      R (.ok (.ret (.ref (s.heap.push { cls := .type "tuple_iterator", data := .fields #[.ref t, .int 0 0] }).objs.size)))
        { s with heap := (s.heap.push { cls := .type "tuple_iterator", data := .fields #[.ref t, .int 0 0] }).push { cls := .type "enumerate", data := .fields #[.none, .bool false, .ref s.heap.objs.size, rawInt 0, .none, .none] } }) :=
  .of_wp fun prog w A R s h => by
    obtain ⟨hp, g, d, tk, os⟩ := s; obtain ⟨ht, h⟩ := h
    have hT : Heap.IsTuple (Shared.heap ⟨hp, g, d, tk, os⟩) t items := ⟨_, ht, rfl, n, rfl⟩
    have sub := sub_enumerate
    wp_walk using wpAny_loadPart' ht
    refine wpAny_stack_any fun st => wpAny_pure ?_
    split
    · rename_i c _ _ _ _ _
      cases (c == Value.type "enumerate") <;> (wp_walk using wpAny_loadPart' ht, wpAny_pyIter_tuple hT; exact ⟨_, rfl, h⟩)
    · wp_walk using wpAny_loadPart' ht, wpAny_pyIter_tuple hT
      exact ⟨_, rfl, h⟩
end PySem
namespace BT
open PySem PySem.Spec PyProof.Rows L2
section
variable {prog : Program} {w : World} {A : Around} {E : Value → Shared → Prop} {s : Shared}
theorem call_enum_tup {t : Addr} {items : Array Value} {Q : Value → Shared → Prop} (hT : s.heap.IsTuple t items)
    (h : ∀ h' : Heap, IsEnum h' (s.heap.objs.size + 1) s.heap.objs.size 0 .none → h'.IsTupleIter s.heap.objs.size t 0 → (∀ b o, s.heap.get? b = some o → h'.get? b = some o) → Q (.ref (s.heap.objs.size + 1)) { s with heap := h' }) :
    wpAny (model prog w) A (call (.type "enumerate") [.ref t]) Q E s := by
  obtain ⟨⟨c, dct, dt, sl⟩, ht, hc, n, hd⟩ := hT
  cases (show c = .type "tuple" from hc)
  cases (show dt = .seq items n from hd)
  refine callType_new F.called_enumerate (by decide) (F.typeCall_enumerate_1 _) (F.newCall_enumerate_1 _) (fun _ => F.args_object_init_2 _ _) F.entry_enumerate_new (BT_enum_new t items n dct sl) ⟨ht, ?_⟩
  have size1 : (s.heap.push { cls := .type "tuple_iterator", data := .fields #[.ref t, .int 0 0] }).objs.size = s.heap.objs.size + 1 := Heap.size_push ..
  show _ ∧ _
  rw [size1]
  have he : IsEnum ((s.heap.push { cls := .type "tuple_iterator", data := .fields #[.ref t, .int 0 0] }).push { cls := .type "enumerate", data := .fields #[.none, .bool false, .ref s.heap.objs.size, rawInt 0, .none, .none] }) (s.heap.objs.size + 1) s.heap.objs.size 0 .none := by
    rw [← size1]
    exact Heap.get?_push_size _ rfl
  exact ⟨⟨_, he, rfl⟩, h _ he ⟨_, Heap.get?_push_of_some _ (Heap.get?_push_size _ rfl), rfl, rfl⟩ fun b o x => Heap.get?_push_of_some _ (Heap.get?_push_of_some _ x)⟩
theorem draws_tup (hh : A.handled = none) (it t : Addr) (ne : t ≠ it) (items : Array Value) : Draws prog w A it [it, t] items.size (fun i v => items[i]? = some v) (fun i h => h.IsTupleIter it t i ∧ h.IsTuple t items) := by
  constructor
  · rintro i h ⟨⟨o, ho, _⟩, _⟩
    exact ⟨o, ho⟩
  · rintro i h h' ⟨⟨o, ho, r⟩, ⟨u, hu, q⟩⟩ k
    exact ⟨⟨o, k it (by simp) o ho, r⟩, ⟨u, k t (by simp) u hu, q⟩⟩
  · rintro i s Q E hi ⟨h1, h2⟩ hQ
    exact wpAny_nextOf_tuple_item h1 h2 (x := items[i]) (by simp [hi]) fun h' g1 sb => hQ _ h' s.toks (by simp [hi]) ⟨g1, h2.extBut sb.extBut ne⟩ sb
  · rintro s Q E ⟨h1, h2⟩ hE
    exact wpAny_nextOf_tuple_end hh h1 h2 (by simp) hE
end
/-- the tuple at a, its items with their numbers in new pairs -/
def IteT (K : PySem.W.Frag) (a : Addr) : It where
  go := fun i H => ∃ (xs : List V) (x : V), SqT K H a xs ∧ xs[i]? = some x
  yld := fun i H v H' => ∃ T x, v = .ref T ∧ H T = none ∧ H' = upd H T (.tup [.int (i : Nat), x]) ∧ ∀ xs, SqT K H a xs → xs[i]? = some x
  stop := fun i H => ∃ xs : List V, SqT K H a xs ∧ xs.length = i
theorem turn_enumT {P : Program} {w : World} {K : PySem.W.Frag} {elts : List Expr} {kk : Nat} {tpos : Pos} (a e it : Addr) :
    Turn P w K (.Tuple elts kk tpos) (IteT K a) [e, it] e (fun i h => (∃ old, IsEnum h e it ((i : Nat) : Int) old) ∧ h.IsTupleIter it a i ∧ e ≠ it ∧ a ≠ e ∧ a ≠ it) where
  mem := List.mem_cons_self ..
  obj := by
    rintro i h ⟨⟨old, he⟩, ⟨o, ho, _, hd⟩, _⟩ b hb
    rcases List.mem_cons.mp hb with rfl | hb
    · exact ⟨_, he, fun v q => by cases q⟩
    · rw [List.mem_singleton.mp hb]
      exact ⟨o, ho, fun v q => by rw [hd] at q; cases q⟩
  keep := by
    rintro i h h' ⟨⟨old, he⟩, ⟨o, ho, r⟩, n⟩ k
    exact ⟨⟨old, k e (by simp) _ he⟩, ⟨o, k it (by simp) _ ho, r⟩, n⟩
  item := by
    intro X hP hw hK hc i pins s σ H E I hf st hg
    subst hP hw hK
    obtain ⟨⟨old, he⟩, hit, ne, n1, n2⟩ := st
    obtain ⟨xs, x, hq, hx⟩ := hg
    obtain ⟨its, rv, p, hz⟩ := I.tuple hq
    obtain ⟨u, hu, ru⟩ := rv.get hx
    have lt1 := Heap.lt_size he
    have lt2 : it < s.heap.objs.size := by obtain ⟨_, q, _⟩ := hit; exact Heap.lt_size q
    have hi : i < its.toArray.size := by
      rw [List.size_toArray]
      exact (List.getElem?_eq_some_iff.mp hu).1
    refine wpAny_pyNext_enum_itemD (draws_tup (A := X.A.in1) (I.ok.hd hc) it a n2 its.toArray) he ⟨hit, show s.heap.IsTuple a its.toArray from p⟩ hi ne (by simp [ne, Ne.symm n1]) fun y h' tk hy ho hst hT hsz hk => ?_
    have ey : y = u := by
      rw [List.getElem?_toArray] at hy
      exact Option.some.inj (hy.symm.trans hu)
    subst ey
    refine ⟨_, rfl, wpAny_letOwnedTupleGo_enum (s := { s with heap := h', toks := tk + 1 }) ho fun h2 he2 sb => ?_⟩
    have g : h2.get? s.heap.objs.size = some { cls := .type "tuple", data := .seq #[.int i tk, y] } := (sb.2 _ (Nat.ne_of_gt lt1)).trans hT
    have new : ObjOk X.prog X.w (upd H s.heap.objs.size (.tup [.int (i : Nat), x])) h2 s.heap.objs.size (.tup [.int (i : Nat), x]) := ⟨by show 2 ≤ sizeLine; decide, [.int i tk, y], .cons ⟨_, rfl⟩ (.cons ru .nil), ⟨_, g, rfl, _, rfl⟩⟩
    have I1 : Inv X pins σ (upd H s.heap.objs.size (.tup [.int (i : Nat), x])) { s with heap := h2, toks := tk + 1 } :=
      I.turnedNew (ch := [e, it]) (fun b ob hb q => (sb.2 b fun z => hb (by simp [z])).trans (hk b ob (fun z => hb (by simp [z])) (fun z => hb (by simp [z])) q)) hf (Nat.le_refl _) new
    refine ⟨.ref s.heap.objs.size, _, I1, rfl, ⟨_, x, rfl, I.hok.fresh (Nat.le_refl _), rfl, fun ys hy => by rw [I.tuple_inj hy hq]; exact hx⟩, ⟨⟨y, ?_⟩, ?_, ne, n1, n2⟩, fun b hb => ?_⟩
    · have e1 : ((i + 1 : Nat) : Int) = (i : Int) + 1 := by omega
      rw [e1]
      exact he2
    · obtain ⟨⟨o, q1, r⟩, _⟩ := hst
      exact ⟨o, (sb.2 it (Ne.symm ne)).trans q1, r⟩
    · have hlt : b < s.heap.objs.size := by
        rcases List.mem_cons.mp hb with rfl | hb
        · exact lt1
        · rw [List.mem_singleton.mp hb]; exact lt2
      rw [upd_ne (Nat.ne_of_lt hlt)]
      exact (hf b hb).1
  done := by
    intro X hP hw hK hc i pins s σ H E I hf st hg
    subst hP hw hK
    obtain ⟨⟨old, he⟩, hit, ne, n1, n2⟩ := st
    obtain ⟨xs, hq, hx⟩ := hg
    obtain ⟨its, rv, p, hz⟩ := I.tuple hq
    obtain ⟨f0, f1, f2, f3, f4, f5⟩ := hf it (by simp)
    have hl := rv.length
    have en : its.toArray.size = i := by rw [List.size_toArray, ← hl, hx]
    subst en
    exact wpAny_pyNext_enum_endD (draws_tup (A := X.A.in1) (I.ok.hd hc) it a n2 its.toArray) he ⟨hit, show s.heap.IsTuple a its.toArray from p⟩ fun h' eb => ⟨rfl, I.turned (t' := s.toks) (fun b o hb q => eb b o hb q) f0 f1 f3 f4 f5⟩
  self := fun A i s Q E st h => let ⟨⟨_, he⟩, _⟩ := st; wpAny_pyIter_enum he h
/-- enumerate of a list or a tuple -/
def iEnumA (K : PySem.W.Frag) (ta : TA) : TI := fun σ H R => ta σ H fun vs H1 => ∃ (a : Addr) (xs : List V), vs = [.ref a] ∧ ((SqL K H1 a xs ∧ R (Ite K a) H1) ∨ (SqT K H1 a xs ∧ R (IteT K a) H1))
theorem pi_enumA {X : Cx} {e : Expr} {ta : TA} {p pos tpos : Pos} {elts : List Expr} {kk : Nat} (hg : Gl X "enumerate") (hm : X.mg "enumerate" = none) (ha : PA X [e] ta) (hs : starEach [e] X.env = [(false, eval e X.env)] := by rfl) :
    PI X (.Tuple elts kk tpos) (.Call (.Name "enumerate" p) [e] [] pos) (iEnumA X.K ta) := by
  refine ⟨fun pins s σ H R I h => Call_ (ld_blt I hg hm boot_enumerate (PyProof.Rows.callWith_type1 (thn (ha.run pos pins s σ H _ I h) fun us s1 out => ?_) hs rfl))⟩
  obtain ⟨vs, H1, I1, r1, a, xs, rfl, w⟩ := out
  obtain ⟨u, rfl, r2⟩ := vals1 r1
  cases (show u = Value.ref a from r2)
  have fresh : ∀ b : Addr, b = s1.heap.objs.size + 1 ∨ b = s1.heap.objs.size → FpOk X pins H1 b := fun b hb => by
    have hle : s1.heap.objs.size ≤ b := by
      rcases hb with z | z
      · rw [z]; exact Nat.le_add_right _ _
      · rw [z]; exact Nat.le_refl _
    exact I1.fpOk hle (I1.hok.fresh hle)
  rcases w with ⟨hq, q⟩ | ⟨hq, q⟩
  · obtain ⟨its, rv, p', hz⟩ := I1.list hq
    refine call_enumerate_list p'.isList fun h' he hit _ hk => wpAny_pyIter_enum he ?_
    exact ⟨_, [s1.heap.objs.size + 1, s1.heap.objs.size], _, _, H1, rfl, I1.kept (t' := s1.toks) hk, turn_enum a _ _, ⟨⟨.none, he⟩, hit, Nat.succ_ne_self _⟩, fun b hb => fresh b (by simpa using hb), q⟩
  · obtain ⟨its, rv, p', hz⟩ := I1.tuple hq
    obtain ⟨ob, hob, _⟩ := id p'
    have lt := Heap.lt_size hob
    refine call_enum_tup (show s1.heap.IsTuple a its.toArray from p') fun h' he hit hk => wpAny_pyIter_enum he ?_
    exact ⟨_, [s1.heap.objs.size + 1, s1.heap.objs.size], _, _, H1, rfl, I1.kept (t' := s1.toks) hk, turn_enumT a _ _, ⟨⟨.none, he⟩, hit, Nat.succ_ne_self _, Nat.ne_of_lt (Nat.lt_succ_of_lt lt), Nat.ne_of_lt lt⟩, fun b hb => fresh b (by simpa using hb), q⟩
theorem walk_enumT {K : PySem.W.Frag} {a : Addr} {xs : List V} : Walk (IteT K a) xs.length (fun H => SqT K H a xs) (YPair (fun i => some (.int (i : Nat))) (fun i => xs[i]?)) := by
  constructor
  · intro i H hi q
    exact ⟨xs, xs[i], q, List.getElem?_eq_getElem hi⟩
  · intro H q
    exact ⟨xs, q, rfl⟩
  · rintro i H v H' _ q ⟨T, x, h1, h2, h3, h4⟩
    exact ⟨T, .int (i : Nat), x, h1, h2, h3, rfl, h4 xs q⟩
/-- a loop over enumerate of a list or a tuple of numbers -/
theorem for_enumA {K : PySem.W.Frag} {a : Addr} {xs : List V} {g : TG} {tb : TS} {D : Ends} {σ : L2.St} {H : Hp} (hn : H a = some (.lst xs) ∨ H a = some (.tup xs)) (Pv : Nat → L2.St → Hp → Prop) (h0 : Pv 0 σ H) (hl : ∀ i σ H', i ≤ xs.length → Pv i σ H' → ∀ o, H a = some o → H' a = some o)
    (hs : ∀ i x σ H' T, xs[i]? = some x → Pv i σ H' → H' T = none → g (.ref T) σ (upd H' T (.tup [.int (i : Nat), x])) fun σ2 H2 => tb { D with nx := Pv (i + 1), ct := Pv (i + 1), bk := D.nx } σ2 H2) (hd : ∀ σ H', Pv xs.length σ H' → D.nx σ H') :
    (SqL K H a xs ∧ ∃ W : Nat → Nat → L2.St → Hp → Prop, (∃ m, W 0 m σ H) ∧ ∀ i m σ H, W i m σ H → ((Ite K a).stop i H ∧ D.nx σ H) ∨ ((Ite K a).go i H ∧ ∃ N : L2.St → Hp → Prop, (∀ σ' H', N σ' H' → ∃ m', m' < m ∧ W (i + 1) m' σ' H') ∧ ∀ x H', (Ite K a).yld i H x H' → g x σ H' fun σ2 H2 => tb { D with nx := N, ct := N, bk := D.nx } σ2 H2)) ∨
    (SqT K H a xs ∧ ∃ W : Nat → Nat → L2.St → Hp → Prop, (∃ m, W 0 m σ H) ∧ ∀ i m σ H, W i m σ H → ((IteT K a).stop i H ∧ D.nx σ H) ∨ ((IteT K a).go i H ∧ ∃ N : L2.St → Hp → Prop, (∀ σ' H', N σ' H' → ∃ m', m' < m ∧ W (i + 1) m' σ' H') ∧ ∀ x H', (IteT K a).yld i H x H' → g x σ H' fun σ2 H2 => tb { D with nx := N, ct := N, bk := D.nx } σ2 H2)) := by
  have turn : ∀ i x σ H1 H2, i < xs.length → Pv i σ H1 → YPair (fun i => some (.int (i : Nat))) (fun i => xs[i]?) i H1 x H2 → g x σ H2 fun σ2 H2 => tb { D with nx := Pv (i + 1), ct := Pv (i + 1), bk := D.nx } σ2 H2 := by
    rintro i v σ H1 H2 hi p ⟨T, x, y, rfl, hT, rfl, hx, hy⟩
    have ex : V.int (i : Nat) = x := Option.some.inj hx
    subst ex
    exact hs i y σ H1 T hy p hT
  rcases hn with hn | hn
  · exact .inl ⟨.inl (.inl hn), for_it walk_enum Pv h0 (fun i σ H' hi p => .inl (.inl (hl i σ H' hi p _ hn))) turn hd⟩
  · exact .inr ⟨.inl (.inl hn), for_it walk_enumT Pv h0 (fun i σ H' hi p => .inl (.inl (hl i σ H' hi p _ hn))) turn hd⟩
end BT

set_option Elab.async false
set_option linter.all false
set_option maxRecDepth 100000
set_option maxHeartbeats 4000000
namespace BT
open PySem PySem.Spec PyProof.Rows L2
/-! ### methods that stand, classes that make -/
structure MethOk (P : Program) (w : World) (K : PySem.W.Frag) (mg : Str → Option Value) (base : Heap) (CX : CXT) (k : Nat) (C : Addr) (m : Str) (ps : List Str) (sp : Sp) : Prop where
  ex : ∃ (f : Addr) (fd : FuncData), FnOk P w K mg base CX k f fd ps sp ∧ Meth K C m f ∧ Binds K fd ps []
structure MakeOk (P : Program) (w : World) (K : PySem.W.Frag) (mg : Str → Option Value) (base : Heap) (CX : CXT) (k : Nat) (C : Addr) (x : Str) (ps : List Str) (sp : Sp) : Prop where
  g : mg x = some (.ref C)
  ex : ∃ (f : Addr) (fd : FuncData), FnOk P w K mg base CX k f fd ps sp ∧ Mk K C f ∧ Binds K fd ps []
abbrev FnM (K : PySem.W.Frag) (x qual : Str) (st : Stmt) (f : Addr) (fd : FuncData) : Prop := FunD K x qual (defArgs st) (defBody st) (defScope st) [] [] f fd
/-- the answer of a method, a call where what is raised is wished for at the slots -/
def tMethS (C : Addr) (m : Str) (sp : Sp) (E : L2.St → XK) (ta : TE) (t : TA) : TE := fun σ H Q => ta σ H fun x H1 => ∃ a dx fs, x = .ref a ∧ H1 a = some (.ins C dx fs) ∧ fs.lookup m = none ∧ t σ H1 fun vs H2 => sp (x :: vs) H2 Q (E σ)
def tMakeS (C : Addr) (sp : Sp) (E : L2.St → XK) (t : TA) : TE := fun σ H Q => t σ H fun vs H1 => ∀ x dx, H1 x = none → H1 dx = none → dx ≠ x → sp (.ref x :: vs) (upd (upd H1 dx (.own x)) x (.ins C dx [])) (fun v H2 => v = .non ∧ Q (.ref x) H2) (E σ)
section
variable {X : Cx} {CX : CXT} {k j : Nat} {C : Addr} {ps : List Str} {sp : Sp} {x m : Str} {p pos apos : Pos} {e o : Expr} {es : List Expr} {ta : TE} {t : TA}
theorem pe_mX {E : XK} {pl : Sem Bool} (D : MethOk X.prog X.w X.K X.mg X.base CX k C m ps sp) (c : Cls X.K C) (he : PE X o ta) (hr : Room j X.A) (hx : Passes CX X E) (ha : PA X (e :: es) t) (hk : k ≤ j := by decide)
    (h1 : starEach (e :: es) X.env = (false, eval e X.env) :: starEach es X.env := by rfl) (h2 : (backTo pos (starEach es X.env)).any (·.1) = false := by rfl)
    (h3 : eval (.Call (.Attribute o m apos) (e :: es) [] pos) X.env = (do
      let v ← eval o X.env
      standAt apos.atName
      let (f, first) ← holding [v] (getMethod v m pl)
      callWith pos f first (backTo pos (starEach (e :: es) X.env)) (backToKw pos (keywordEach [] X.env))) := by rfl) :
    PE X (.Call (.Attribute o m apos) (e :: es) [] pos) (tMeth C m sp [] E ta t) := by
  obtain ⟨f, fd, F, hm, hb⟩ := D.ex
  exact pe_meth (pl := pl) he c hm F (hr.mono hk) hb .nil hx ha h1 h2 h3
theorem pe_m0X {E : XK} {pl : Sem Bool} (D : MethOk X.prog X.w X.K X.mg X.base CX k C m ps sp) (c : Cls X.K C) (he : PE X o ta) (hr : Room j X.A) (hx : Passes CX X E) (hk : k ≤ j := by decide)
    (h3 : eval (.Call (.Attribute o m apos) [] [] pos) X.env = (do
      let v ← eval o X.env
      standAt apos.atName
      let (f, first) ← holding [v] (getMethod v m pl)
      callWith pos f first (backTo pos (starEach [] X.env)) (backToKw pos (keywordEach [] X.env))) := by rfl) :
    PE X (.Call (.Attribute o m apos) [] [] pos) (tMeth C m sp [] E ta tNil) := by
  obtain ⟨f, fd, F, hm, hb⟩ := D.ex
  exact pe_meth0 (pl := pl) he c hm F (hr.mono hk) hb .nil hx h3
theorem pe_mkX {E : XK} (D : MakeOk X.prog X.w X.K X.mg X.base CX k C x ps sp) (hr : Room j X.A) (hg : Gl X x) (hx : Passes CX X E) (ha : PA X (e :: es) t) (hk : k + 1 ≤ j := by decide) (hdb : (x == ("__debug__" : Str)) = false := by decide)
    (h1 : starEach (e :: es) X.env = (false, eval e X.env) :: starEach es X.env := by rfl) (h2 : (backTo pos (starEach es X.env)).any (·.1) = false := by rfl) : PE X (.Call (.Name x p) (e :: es) [] pos) (tMake C sp [] E t) := by
  obtain ⟨f, fd, F, hm, hb⟩ := D.ex
  exact pe_make hm F (hr.mono hk) hg D.g hb .nil hx ha hdb h1 h2
theorem pe_mS {E : L2.St → XK} {pl : Sem Bool} (D : MethOk X.prog X.w X.K X.mg X.base CX k C m ps sp) (c : Cls X.K C) (he : PE X o ta) (hr : Room j X.A) (hx : ∀ σ, PassesAt CX X σ (E σ)) (ha : PA X (e :: es) t) (hk : k ≤ j := by decide)
    (h1 : starEach (e :: es) X.env = (false, eval e X.env) :: starEach es X.env := by rfl) (h2 : (backTo pos (starEach es X.env)).any (·.1) = false := by rfl)
    (h3 : eval (.Call (.Attribute o m apos) (e :: es) [] pos) X.env = (do
      let v ← eval o X.env
      standAt apos.atName
      let (f, first) ← holding [v] (getMethod v m pl)
      callWith pos f first (backTo pos (starEach (e :: es) X.env)) (backToKw pos (keywordEach [] X.env))) := by rfl) :
    PE X (.Call (.Attribute o m apos) (e :: es) [] pos) (tMethS C m sp E ta t) := by
  obtain ⟨f, fd, F, hm, hb⟩ := D.ex
  refine ⟨fun pins s σ H Q I h => PySem.W.methodCall_KW (pl := pl) (thn (he.run pins s σ H _ I h) fun u s1 out => ?_) h3⟩
  obtain ⟨y, H1, I1, ry, a, dx, fs, rfl, ea, l, q⟩ := out
  cases (show u = Value.ref a from ry)
  refine getmeth_ok I1 ea c hm l (PySem.W.callWith_K (first := [.ref a]) (h₀ := X.base) I.ok.mod.kin hm.kp (thn (ha.run pos pins s1 σ H1 _ I1 q) fun us s2 out => ?_) h1 h2)
  obtain ⟨vs, H2, I2, r, q2⟩ := out
  exact ⟨I2.kIn, run_fnSD (us := .ref a :: us) (vs := .ref a :: vs) F (hr.mono hk) hb .nil (hx σ) I2 (.cons rfl r) (by rw [List.append_nil]; exact q2)⟩
theorem pe_m0S {E : L2.St → XK} {pl : Sem Bool} (D : MethOk X.prog X.w X.K X.mg X.base CX k C m ps sp) (c : Cls X.K C) (he : PE X o ta) (hr : Room j X.A) (hx : ∀ σ, PassesAt CX X σ (E σ)) (hk : k ≤ j := by decide)
    (h3 : eval (.Call (.Attribute o m apos) [] [] pos) X.env = (do
      let v ← eval o X.env
      standAt apos.atName
      let (f, first) ← holding [v] (getMethod v m pl)
      callWith pos f first (backTo pos (starEach [] X.env)) (backToKw pos (keywordEach [] X.env))) := by rfl) :
    PE X (.Call (.Attribute o m apos) [] [] pos) (tMethS C m sp E ta tNil) := by
  obtain ⟨f, fd, F, hm, hb⟩ := D.ex
  refine ⟨fun pins s σ H Q I h => PySem.W.methodCall_KW (pl := pl) (thn (he.run pins s σ H _ I h) fun u s1 out => ?_) h3⟩
  obtain ⟨y, H1, I1, ry, a, dx, fs, rfl, ea, l, q⟩ := out
  cases (show u = Value.ref a from ry)
  refine getmeth_ok I1 ea c hm l ?_
  exact PySem.W.callWith_K0 (first := [.ref a]) I1.kIn hm.kp (run_fnSD (us := [.ref a]) (vs := [.ref a]) F (hr.mono hk) hb .nil (hx σ) I1 (.cons rfl .nil) q)
theorem pe_mkS {E : L2.St → XK} (D : MakeOk X.prog X.w X.K X.mg X.base CX k C x ps sp) (hr : Room j X.A) (hg : Gl X x) (hx : ∀ σ, PassesAt CX X σ (E σ)) (ha : PA X (e :: es) t) (hk : k + 1 ≤ j := by decide) (hdb : (x == ("__debug__" : Str)) = false := by decide)
    (h1 : starEach (e :: es) X.env = (false, eval e X.env) :: starEach es X.env := by rfl) (h2 : (backTo pos (starEach es X.env)).any (·.1) = false := by rfl) : PE X (.Call (.Name x p) (e :: es) [] pos) (tMakeS C sp E t) := by
  obtain ⟨f, fd, F, M, hb⟩ := D.ex
  refine ⟨fun pins s σ H Q I h => wpAny_Call_Name_kw (ld_glob I hg D.g (PySem.W.callWith_K (h₀ := X.base) I.ok.mod.kin M.kp (thn (ha.run pos pins s σ H _ I h) fun us s1 out => ?_) h1 h2) hdb)⟩
  obtain ⟨vs, H1, I1, r, q⟩ := out
  refine ⟨I1.kIn, ?_⟩
  have hq := q (s1.heap.objs.size + 1) s1.heap.objs.size (I1.hok.fresh (Nat.le_succ _)) (I1.hok.fresh (Nat.le_refl _)) (Nat.ne_of_lt (Nat.lt_succ_self _))
  have I2 := Inv.made (C := C) I1
  have r2 : Vals (V.ref (s1.heap.objs.size + 1) :: vs) (Value.ref (s1.heap.objs.size + 1) :: us) := .cons rfl r
  have len : (Value.ref (s1.heap.objs.size + 1) :: us).length = ps.length := by
    rw [← r2.length]
    exact F.len _ _ _ _ hq
  have bt := hb _ (Value.ref (s1.heap.objs.size + 1) :: us) I2.kIn (by rw [List.append_nil]; exact len)
  rw [List.append_nil] at bt
  refine wpAny_call (make_map (f := f) I1.kIn M.makes M.init (beq_iff_eq.mp M.fn) (codeAny_mono (F.run _ X.stack _ _ ⟨Value.ref (s1.heap.objs.size + 1) :: us, []⟩ (Value.ref (s1.heap.objs.size + 1) :: us) _ _ (E σ) ((hr.mono hk).make C us []) (I2.env0.make C us []) bt r2 hq) fun r s' out => ?_))
  cases r with
  | error er => exact hx σ pins _ _ er s' I2 out
  | ok fl =>
    cases fl with
    | ret u =>
      obtain ⟨v, H', I3, rv, ev, q3⟩ := I2.after out
      subst ev
      exact ⟨rv, ⟨V.ref (s1.heap.objs.size + 1), H', I3, rfl, q3⟩⟩
    | next => exact False.elim out
    | brk => exact False.elim out
    | cont => exact False.elim out
end
end BT

set_option Elab.async false
set_option linter.all false
set_option maxRecDepth 100000
set_option maxHeartbeats 4000000
namespace BT
open PySem PySem.Spec PyProof.Rows L2
theorem ints_at : ∀ {vs : List Value} {ns : List Int}, IntsAre vs ns → ∀ {i : Nat} {v : Value}, vs[i]? = some v → ∃ t, v = .int (ns.getD i 0) t
  | _, _, .nil, i, v, h => by simp at h
  | _, _, .cons n t r, 0, v, h => ⟨t, (Option.some.inj h).symm⟩
  | _, _, .cons n t r, i + 1, v, h => ints_at r (i := i) h
theorem any_ints : ∀ ns : List Int, (List.range ns.length).any (fun i => ns.getD i 0 != 0) = ns.any (· != 0)
  | [] => rfl
  | n :: ns => by
    rw [List.length_cons, List.range_succ_eq_map, List.any_cons, List.any_map, List.any_cons, ← any_ints ns]
    rfl
/-- any of a list of whole numbers -/
def rAnyI (K : PySem.W.Frag) : List V → Hp → VK → Prop := fun vs H Q => ∃ (a : Addr) (ns : List Int), vs = [V.ref a] ∧ SqL K H a (ns.map V.int) ∧ Q (.bl (ns.any (· != 0))) H
theorem cr_anyI {X : Cx} (hc : X.calm = true) : CallR X (.builtin "any") (rAnyI X.K) := by
  intro pins s σ H vs us Q I r h
  obtain ⟨a, ns, rfl, hs, q⟩ := h
  obtain ⟨u, rfl, r1⟩ := vals1 r
  cases (show u = Value.ref a from r1)
  obtain ⟨its, rv, hl, _⟩ := I.list hs
  have hi : IntsAre its ns := rv.ints
  have tr : TruthOf X.prog X.w X.A.in1 (fun i v => its.toArray[i]? = some v) (fun i => ns.getD i 0 != 0) := fun i v s Q E hv hq => by
    have hv : its.toArray[i]? = some v := hv
    rw [List.getElem?_toArray] at hv
    obtain ⟨t, rfl⟩ := ints_at hi hv
    exact truthy_int hq
  refine call_any_walk (iter_any hl.isList fun s2 e2 st hne => ?_)
  subst e2
  refine ⟨_, _, _, _, _, _, _, rfl, Walks.list (A := X.A.in1) (I.ok.hd hc) _ a hne its.toArray, st, tr, fun h' tk hk => ⟨.bl _, H, I.kept fun b o eo => hk b o (fun hm => ?_) (Heap.get?_push_of_some _ eo), ?_, q⟩⟩
  · rcases List.mem_cons.mp hm with e | hm
    · exact absurd (e ▸ Heap.lt_size eo) (Nat.lt_irrefl _)
    · cases hm
  · show Value.bool _ = Value.bool _
    rw [← any_ints, List.size_toArray, hi.length]
end BT

set_option Elab.async false
set_option linter.all false
set_option maxRecDepth 100000
set_option maxHeartbeats 4000000
namespace BT
open PySem PySem.W PySem.SeqAt PySem.Calls PyProof.Rows
section
variable {prog : Program} {w : World} {A : Around} {E : Value → Shared → Prop} {s : Shared}
theorem call_tup_lt {Q : Value → Shared → Prop} {l b : Addr} {items items2 : Array Value} {e r : Nat → Bool} (hl : s.heap.IsTuple l items) (hb : s.heap.IsTuple b items2)
    (he : ∀ j (h1 : j < items.size) (h2 : j < items2.size), EqAt A.in1 s items[j] items2[j] (e j)) (hr : ∀ j (h1 : j < items.size) (h2 : j < items2.size), e j = false → RcLt A.in1 s items[j] items2[j] (r j))
    (h : Q (.bool (firstLt e r (decide (items.size < items2.size)) (List.range (min items.size items2.size)))) s) : wpAny (model prog w) A (call (.builtin "tuple.__lt__") [.ref l, .ref b]) Q E s := by
  obtain ⟨⟨c1, d1, t1, sl1⟩, ho, hc, n, hd⟩ := id hl
  obtain ⟨⟨c2, d2, t2, sl2⟩, ho2, hc2, n2, hd2⟩ := id hb
  simp only at hc hd hc2 hd2
  subst hc hd hc2 hd2
  exact call_meets F.slot_tuple_lt ⟨_, ho, rfl⟩ F.entry_tuple_lt (F.args_tuple_lt_2 _ _) (tuple_ltAt l b items items2 n n2 d1 d2 sl1 sl2 e r) ⟨ho, ho2, he, hr, h⟩
/-- a tuple against a tuple, in whatever way the sort compares -/
theorem one_lt_tup {f : Bool} {xs ys : List PyData} {a b : Value} {as bs : List Addr} {Q : Bool → Shared → Prop} (ra : Reads s.heap a (.tuple xs) as) (rb : Reads s.heap b (.tuple ys) bs) (h : alikeAll xs ys = true)
    (hu : A.units + min (PyData.tuple xs).depth (PyData.tuple ys).depth < cLine) (hq : Q (dataLt (.tuple xs) (.tuple ys)) s) : wpAny (model prog w) A (oneLt' f a b) Q E s := by
  cases f with
  | false => exact oneLt_alike (fun h => by cases h) ra rb (by simpa [alike] using h) (by simp) hu hq
  | true =>
    cases ra with
    | @tuple l o vs n _ as1 h1 h2 h3 h4 =>
      cases rb with
      | @tuple l' o' vs' n' _ bs1 k1 k2 k3 k4 =>
        have n1 : vs.size = xs.length := by simpa using ReadsAll.length _ _ _ h4
        have n2 : vs'.size = ys.length := by simpa using ReadsAll.length _ _ _ k4
        rw [dataLt_tuple, ← firstLt_toks xs ys h, ← n1, ← n2] at hq
        rw [oneLt'_eq]
        simp only [if_true]
        refine wpAny_bind (wpAny_cRoomFor (room_here hu) (wpAny_bind (wpAny_callSpecialIfBound?_slot (T := "tuple") ⟨_, h1, h2⟩ F.slot_tuple_lt
          (call_tup_lt (e := pairEq xs ys) (r := fun j => dataLt (xs.getD j .none) (ys.getD j .none)) ⟨_, h1, h2, _, h3⟩ ⟨_, k1, k2, _, k3⟩ (fun j j1 j2 => ?_) (fun j j1 j2 hj => ?_) ?_))))
        · have q := eqAt_alikeAll xs ys A.in1 s vs.toList vs'.toList _ _ h4 k4 h (room_in hu) j (by simpa using j1) (by simpa using j2)
          simpa using q
        · have q := rcLt_alikeAll xs ys A.in1 s vs.toList vs'.toList _ _ h4 k4 h (room_in hu) j (by simpa using j1) (by simpa using j2) hj
          simpa using q
        · exact wpAny_truthy_bool hq
end
section
variable {M : Model} {A : Around} {E : Value → Shared → Prop} {s : Shared}
theorem mapM_each {α β : Type} {f : α → Sem β} {R : α → β → Prop} : ∀ (l : List α) {Q : List β → Shared → Prop}, (∀ v ∈ l, ∃ r, R v r ∧ ∀ (Q' : β → Shared → Prop), Q' r s → wpAny M A (f v) Q' E s) → (∀ rs : List β, EachIs R l rs → Q rs s) → wpAny M A (l.mapM f) Q E s
  | [], _, _, h => by
    rw [List.mapM_nil]
    exact wpAny_pure (h [] .nil)
  | x :: l, Q, hf, h => by
    rw [List.mapM_cons]
    obtain ⟨r, hr, hx⟩ := hf x (List.mem_cons_self ..)
    exact wpAny_bind (hx _ (wpAny_bind (mapM_each l (Q := fun bs s' => wpAny M A (pure (r :: bs)) Q E s') (fun v hv => hf v (List.mem_cons_of_mem _ hv)) fun rs hrs => wpAny_pure (h (r :: rs) (.cons hr hrs)))))
end
section
variable {prog : Program} {w : World} {A : Around} {s : Shared}
/-- tuples of any lengths that are alike can be sorted -/
theorem sorts_tups {vs : List Value} {ds : List PyData} (e : EachIs (fun v d => ∃ as, Reads s.heap v d as) vs ds) (hal : AllAlike ds) (ht : ∀ d, d ∈ ds → ∃ xs, d = .tuple xs) (hu : ∀ d, d ∈ ds → A.units + d.depth < cLine) : SortsAt prog w A s (dataKind s.heap ds) vs := by
  by_cases full : ∀ d, d ∈ ds → ∃ x r, d = .tuple (x :: r)
  · exact SortsAt.data e hal (.inl full) hu
  -- one at least is empty
  have room : ∀ {d d' : PyData}, d ∈ ds → A.units + min d.depth d'.depth < cLine := fun {d d'} hd => Nat.lt_of_le_of_lt (Nat.add_le_add_left (Nat.min_le_left _ _) _) (hu d hd)
  have lt : ∀ f : Bool, ∀ (E : Value → Shared → Prop) (x y : Value) (a b : (dataKind s.heap ds).α) {Q : Bool → Shared → Prop}, (dataKind s.heap ds).keyOf x = some a → (dataKind s.heap ds).keyOf y = some b → Q ((dataKind s.heap ds).blt a b) s → wpAny (model prog w) A (oneLt' f x y) Q E s := by
    intro f E x y a b Q ha hb hq
    obtain ⟨d, as, hd, ra, rfl⟩ := dataKind_inv ha
    obtain ⟨d', as', hd', rb, rfl⟩ := dataKind_inv hb
    obtain ⟨xs, rfl⟩ := ht d hd
    obtain ⟨ys, rfl⟩ := ht d' hd'
    exact one_lt_tup ra rb (by simpa [alike] using hal _ hd _ hd') (room hd) hq
  refine ⟨fun v hv => ?_, ?_⟩
  · obtain ⟨d, hd, as, r⟩ := e.left v hv
    exact ⟨_, dataKind_some hal hd r⟩
  have firsts : ∀ v, v ∈ vs → ∃ r : Option Value, (∃ d as, d ∈ ds ∧ Reads s.heap v d as ∧ (r.isSome = true ↔ ∃ x t, d = .tuple (x :: t))) ∧ ∀ {E : Value → Shared → Prop} (Q' : Option Value → Shared → Prop), Q' r s → wpAny (model prog w) A (firstOfTuple' v) Q' E s := by
    intro v hv
    obtain ⟨d, hd, as, r⟩ := e.left v hv
    obtain ⟨xs, rfl⟩ := ht d hd
    have r' := r
    cases r with
    | @tuple l o vs n _ as1 h1 h2 h3 h4 =>
      refine ⟨vs[0]?, ⟨_, _, hd, r', ?_⟩, fun {E} Q' hq => ?_⟩
      · have n1 : vs.size = xs.length := by simpa using ReadsAll.length _ _ _ h4
        cases xs with
        | nil =>
          have : vs[0]? = none := by simp at n1 ⊢; exact n1
          rw [this]
          exact ⟨fun h => absurd h (by decide), fun ⟨x, t, h⟩ => PyData.noConfusion h fun h => by cases h⟩
        | cons x t =>
          have h0 : 0 < vs.size := by rw [n1]; simp
          rw [Array.getElem?_eq_getElem h0]
          exact ⟨fun _ => ⟨x, t, rfl⟩, fun _ => rfl⟩
      · rw [kas_first_eq]
        refine wpAny_bind (wpAny_typeOf (T := "tuple") ⟨_, h1, h2⟩ ?_)
        rw [if_neg (by simp)]
        exact wpAny_bind (listItems_at h1 h3 (wpAny_pure hq))
  cases ds with
  | nil => exact absurd (fun d hd => by cases hd) full
  | cons d0 ds0 =>
    obtain ⟨xs0, e0⟩ := ht d0 (List.mem_cons_self ..)
    cases vs with
    | nil => cases e
    | cons v0 vs0 =>
      have e' := e
      cases e with
      | cons h0 t0 =>
        obtain ⟨as0, rd0⟩ := h0
        have notall : ∀ rs : List (Option Value), EachIs (fun v r => ∃ d as, d ∈ d0 :: ds0 ∧ Reads s.heap v d as ∧ (r.isSome = true ↔ ∃ x t, d = .tuple (x :: t))) (v0 :: vs0) rs → ¬ (rs.toArray.all (·.isSome)) = true := by
          intro rs hrs hall
          refine full fun d hd => ?_
          have key : ∀ {vs : List Value} {ds : List PyData} {rs : List (Option Value)}, EachIs (fun v d => ∃ as, Reads s.heap v d as) vs ds → EachIs (fun v r => ∃ d as, d ∈ d0 :: ds0 ∧ Reads s.heap v d as ∧ (r.isSome = true ↔ ∃ x t, d = .tuple (x :: t))) vs rs → (∀ d ∈ ds, d ∈ d0 :: ds0) → (∀ r ∈ rs, r.isSome = true) → ∀ d ∈ ds, ∃ x t, d = .tuple (x :: t) := by
            intro vs ds rs h1
            induction h1 generalizing rs with
            | nil => intro _ _ _ d hd; cases hd
            | cons hr _ ih =>
              intro h2 hm hsome d hd
              cases h2 with
              | cons q t =>
                rcases List.mem_cons.mp hd with rfl | hd
                · obtain ⟨d2, as2, m2, r2, i2⟩ := q
                  obtain ⟨as1, r1⟩ := hr
                  have ed : d2 = d := alike_unique _ _ _ _ _ (hal _ m2 _ (hm d (List.mem_cons_self ..))) r2 r1
                  rw [← ed]
                  exact i2.mp (hsome _ (List.mem_cons_self ..))
                · exact ih t (fun d hd => hm d (List.mem_cons_of_mem _ hd)) (fun r hr => hsome r (List.mem_cons_of_mem _ hr)) d hd
          refine key e' hrs (fun d hd => hd) (fun r hr => ?_) d hd
          simp only [List.all_toArray, List.all_eq_true] at hall
          exact hall r hr
        have kinds : ∀ (E : Value → Shared → Prop) {Q : SortKind → Shared → Prop}, Q (if xs0.isEmpty = true then oneType' else general') s → wpAny (model prog w) A (keyKind' (v0 :: vs0).toArray) Q E s := by
          intro E Q hq
          rw [keyKind'_eq, List.mapM_toArray, map_eq_pure_bind]
          refine wpAny_bind (wpAny_bind (mapM_each (R := fun v r => ∃ d as, d ∈ d0 :: ds0 ∧ Reads s.heap v d as ∧ (r.isSome = true ↔ ∃ x t, d = .tuple (x :: t))) _ (fun v hv => ?_) fun rs hrs => wpAny_pure ?_))
          · obtain ⟨r, h1, h2⟩ := firsts v hv
            exact ⟨r, h1, h2⟩
          · rw [if_neg (notall rs hrs)]
            cases hrs with
            | cons q t =>
              obtain ⟨d2, as2, m2, r2, i2⟩ := q
              have ed : d2 = d0 := alike_unique _ _ _ _ _ (hal _ m2 _ (List.mem_cons_self ..)) r2 rd0
              subst ed
              subst e0
              rename_i r rs2
              cases xs0 with
              | nil =>
                have hr0 : r = none := by
                  cases hr : r with
                  | none => rfl
                  | some z =>
                    obtain ⟨x, t, e⟩ := i2.mp (by rw [hr]; rfl)
                    cases e
                subst hr0
                rw [if_neg (by simp)]
                rw [oneTypeOnly'_eq, List.mapM_toArray, map_eq_pure_bind]
                refine wpAny_bind (wpAny_bind (wpAny_bind (kas_mapM (r := Value.type "tuple") _ (fun v hv Q' hq' => ?_) (wpAny_pure ?_))))
                · obtain ⟨d, hd, as, rr⟩ := e'.left v hv
                  obtain ⟨xs, rfl⟩ := ht d hd
                  cases rr with
                  | @tuple l o ws n _ as1 h1 h2 h3 h4 => exact wpAny_typeOf (T := "tuple") ⟨_, h1, h2⟩ hq'
                · have hall : ((List.map (fun _ => Value.type "tuple") (v0 :: vs0)).toArray.all fun x => x == Value.type "tuple") = true := by
                    simp only [List.all_toArray, List.all_map, List.all_eq_true]
                    intro _ _
                    rfl
                  have h00 : (List.map (fun _ => Value.type "tuple") (v0 :: vs0)).toArray[0]? = some (Value.type "tuple") := by simp
                  rw [h00]
                  simp only [hall, if_true]
                  exact wpAny_pure (wpAny_pure hq)
              | cons x0 t0' =>
                have hr0 : r.isSome = true := i2.mpr ⟨x0, t0', rfl⟩
                obtain ⟨z, rfl⟩ := Option.isSome_iff_exists.mp hr0
                rw [if_pos (by simp)]
                exact wpAny_pure hq
        refine ⟨if xs0.isEmpty = true then oneType' else general', ?_, fun _ E Q hq => kinds E hq⟩
        cases xs0 with
        | nil =>
          intro E x y a b Q ha hb hq
          show wpAny (model prog w) A (oneLt' true x y) Q E s
          exact lt true E x y a b ha hb hq
        | cons x t =>
          intro E x y a b Q ha hb hq
          show wpAny (model prog w) A (oneLt' false x y) Q E s
          exact lt false E x y a b ha hb hq
end
end BT
namespace BT
open PySem PySem.Spec PySem.W PySem.SeqAt PyProof.Rows L2
/-- data sorted by the order of tuples -/
noncomputable def sortD (ds : List PyData) : List PyData := ds.mergeSort (sortLe (listOrd itemOrd) false keyToks)
/-- tuples of whole numbers -/
def TupD (d : PyData) : Prop := ∃ ns : List Int, d = .tuple (ns.map PyData.int)
theorem alike_ints : ∀ a b : List Int, alikeAll (a.map PyData.int) (b.map PyData.int) = true
  | [], _ => by simp [alikeAll]
  | _ :: _, [] => by simp [alikeAll]
  | x :: a, y :: b => by
    rw [List.map_cons, List.map_cons, alikeAll, alike, alike_ints a b]; rfl
theorem tups_alike {ds : List PyData} (h : ∀ d ∈ ds, TupD d) : AllAlike ds := fun d hd e he => by
  obtain ⟨a, rfl⟩ := h d hd
  obtain ⟨b, rfl⟩ := h e he
  simp only [alike]
  exact alike_ints a b
theorem tup_depth {d : PyData} (h : TupD d) : d.depth ≤ 1 := by
  obtain ⟨a, rfl⟩ := h
  have : PyData.depthAll (a.map PyData.int) ≤ 0 := by
    induction a with
    | nil => simp [PyData.depthAll]
    | cons x a ih =>
      rw [List.map_cons]
      simp only [PyData.depthAll, PyData.depth]
      omega
  simp only [PyData.depth]
  omega
section
variable {X : Cx}
/-- sorted(xs), xs a list of tuples of whole numbers of any lengths -/
def rSortedD (K : PySem.W.Frag) : List V → Hp → VK → Prop := fun vs H Q => ∃ (a : Addr) (xs : List V) (ds : List PyData), vs = [V.ref a] ∧ H a = some (.lst xs) ∧ DvA H xs ds ∧ (∀ d ∈ ds, TupD d) ∧ ∀ (ys : List V) (p : Addr), DvA H ys (sortD ds) → H p = none → Q (.ref p) (upd H p (.lst ys))
theorem each_of {H : Hp} : ∀ {xs : List V} {ds : List PyData} {vs : List Value}, DvA H xs ds → Vals xs vs → EachIs (fun v d => ∃ x, RelV x v ∧ Dv H x d) vs ds
  | _, _, _, .nil, .nil => .nil
  | _, _, _, .cons h1 h2, .cons r1 r2 => .cons ⟨_, r1, h1⟩ (each_of h2 r2)
theorem of_each {H : Hp} : ∀ {ds : List PyData} {vs : List Value}, EachIs (fun v d => ∃ x, RelV x v ∧ Dv H x d) vs ds → ∃ xs, Vals xs vs ∧ DvA H xs ds
  | _, _, .nil => ⟨[], .nil, .nil⟩
  | _, _, .cons h t => by
    obtain ⟨x, r, d⟩ := h
    obtain ⟨xs, rs, ds⟩ := of_each t
    exact ⟨x :: xs, .cons r rs, .cons d ds⟩
theorem each_and {α β : Type} {R : α → β → Prop} {S : β → Prop} : ∀ {as : List α} {bs : List β}, EachIs R as bs → (∀ b ∈ bs, S b) → EachIs (fun a b => R a b ∧ S b) as bs
  | _, _, .nil, _ => .nil
  | _, _, .cons h t, hs => .cons ⟨h, hs _ (List.mem_cons_self ..)⟩ (each_and t fun b hb => hs b (List.mem_cons_of_mem _ hb))
theorem cr_sortedD (hu : X.A.units + 64 < cLine) : CallR X (.builtin "sorted") (rSortedD X.K) := by
  intro pins s σ H vs us Q I r h
  obtain ⟨a, xs, ds, rfl, ha, hA, ht, q⟩ := h
  obtain ⟨u, rfl, r1⟩ := vals1 r
  cases (show u = Value.ref a from r1)
  obtain ⟨its, rv, pl, hz⟩ := I.list (.inl (.inl ha))
  have lv := rv.length
  have I2 : Inv X pins σ H { s with heap := sortingHeap (copyHeap s.heap its) (s.heap.objs.size + 1) its, toks := s.toks } := I.kept fun b o e => sorting_copy_old e
  have each := each_of hA rv
  have reads : EachIs (fun v d => ∃ as, Reads (sortingHeap (copyHeap s.heap its) (s.heap.objs.size + 1) its) v d as) its ds := each.mono fun v d h => by
    obtain ⟨x, rx, dx⟩ := h
    obtain ⟨as, h1, _⟩ := Dv.reads I2 d x v dx rx
    exact ⟨as, h1⟩
  have hal := tups_alike ht
  have S : SortsAt X.prog X.w X.A.in1.in1 { s with heap := sortingHeap (copyHeap s.heap its) (s.heap.objs.size + 1) its } (dataKind (sortingHeap (copyHeap s.heap its) (s.heap.objs.size + 1) its) ds) its :=
    sorts_tups (s := { s with heap := sortingHeap (copyHeap s.heap its) (s.heap.objs.size + 1) its }) reads hal (fun d hd => by obtain ⟨ns, e⟩ := ht d hd; exact ⟨_, e⟩) fun d hd => by
      have := tup_depth (ht d hd)
      show X.A.units + 1 + 1 + d.depth < cLine
      omega
  refine sorted_vals pl.isList S (by rw [← lv]; exact hz) ?_
  have keys : EachIs (fun v d => (dataKind (sortingHeap (copyHeap s.heap its) (s.heap.objs.size + 1) its) ds).keyOf v = some (keyToks d)) its ds := (each_and reads (S := fun d => d ∈ ds) fun d hd => hd).mono fun v d h => by
    obtain ⟨⟨as, r⟩, hd⟩ := h
    exact dataKind_some hal hd r
  have out := sortVals_each (κ := dataKind (sortingHeap (copyHeap s.heap its) (s.heap.objs.size + 1) its) ds) (rev := false) keyToks each keys
  obtain ⟨ys, ry, hy⟩ := of_each out
  obtain ⟨ep, he⟩ := PyProof.Rows.sortedAll_at s.heap its (sortVals (dataKind (sortingHeap (copyHeap s.heap its) (s.heap.objs.size + 1) its) ds) false its its).toArray
  refine ⟨.ref _, upd H (s.heap.objs.size + 1) (.lst ys), I.laid (t' := s.toks) (fun _ _ => PyProof.Rows.sortedAll_old) (Nat.le_succ _) ⟨?_, _, ep, ry, he⟩, rfl, q ys _ hy (I.hok.fresh (Nat.le_succ _))⟩
  rw [ry.length, sortVals_length false rfl, ← lv]
  exact hz
end
end BT

set_option Elab.async false
set_option linter.all false
set_option maxRecDepth 100000
set_option maxHeartbeats 4000000
namespace BT
open PySem PySem.Spec PySem.Calls PyProof.Rows L2
section
variable {X : Cx}
/-- sorted(t), t a tuple of whole numbers -/
def rSortedTI (K : PySem.W.Frag) : List V → Hp → VK → Prop := fun vs H Q => ∃ (a : Addr) (ns : List Int), vs = [V.ref a] ∧ H a = some (.tup (ns.map V.int)) ∧ ∀ (ns' : List Int) (p : Addr), ns'.Perm ns → ns'.Pairwise (· ≤ ·) → H p = none → Q (.ref p) (upd H p (.lst (ns'.map V.int)))
theorem cr_sortedTI : CallR X (.builtin "sorted") (rSortedTI X.K) := by
  intro pins s σ H vs us Q I r h
  obtain ⟨a, ns, rfl, ha, q⟩ := h
  obtain ⟨u, rfl, r1⟩ := vals1 r
  cases (show u = Value.ref a from r1)
  obtain ⟨its, rv, tp, hz⟩ := I.tuple (.inl (.inl ha))
  have hi := rv.ints
  have lv := rv.length
  have lim : its.length ≤ sizeLine := by rw [← lv]; exact hz
  obtain ⟨o, ho, hc, n, hd⟩ := id tp
  refine Calls.call_function_entry kind_sorted plain_sorted entry_sorted (args_sorted1 _) ?_
  unfold Builtin.«sorted»
  refine wpAny_bind (m := checkCount "sorted" 1 1 _) (wpAny_pure (wpAny_bind (wpAny_collect_seq a (.inr rfl) ho hc hd (fun h1 keep => ?_) (by rw [List.size_toArray]; exact lim))))
  have I1 : Inv X pins σ H { s with heap := h1, toks := s.toks } := I.kept keep
  show wpAny _ _ _ _ _ { s with heap := h1, toks := s.toks }
  generalize ({ s with heap := h1, toks := s.toks } : Shared) = t1 at I1 ⊢
  have el : its.toArray.toList = its := by simp
  rw [el]
  refine wpAny_bind (wpAny_newList ?_ lim)
  have fresh : H t1.heap.objs.size = none := I1.hok.fresh (Nat.le_refl _)
  have g2 : (t1.heap.push (seqObj "list" its.toArray 0)).get? t1.heap.objs.size = some (seqObj "list" its.toArray 0) := Heap.get?_push_size _ rfl
  have I2 : Inv X pins σ (upd H t1.heap.objs.size (.lst (ns.map V.int))) { t1 with heap := t1.heap.push (seqObj "list" its.toArray 0), toks := t1.toks } :=
    I1.laid (fun b o e => Heap.get?_push_of_some _ e) (Nat.le_refl _) ⟨hz, its, 0, rv, g2⟩
  show wpAny _ _ _ _ _ { t1 with heap := t1.heap.push (seqObj "list" its.toArray 0), toks := t1.toks }
  generalize ha2 : t1.heap.objs.size = b at fresh g2 I2 ⊢
  generalize hs2 : ({ t1 with heap := t1.heap.push (seqObj "list" its.toArray 0), toks := t1.toks } : Shared) = t2 at I2 ⊢
  have e2 : t2.heap = t1.heap.push (seqObj "list" its.toArray 0) := by rw [← hs2]
  rw [← e2] at g2
  refine wpAny_bind (wpAny_holding (wpAny_call_entry slot_list_sort ⟨_, g2, rfl⟩ entry_list_sort (SrtO.list_sort_ord SrtO.swo_int g2 lim (fun h2 => SrtO.ints_sortable hi h2) fun out h1 h2 => ⟨_, rfl, ?_⟩) (args_list_sort _)))
  obtain ⟨k1, k2, k3⟩ := SrtO.ints_out hi h1 h2
  obtain ⟨ep, he⟩ := PyProof.Rows.sortedHeap_at (vs := its) (out := out.toArray) g2
  have hlen : ((out.map SrtO.iv).map V.int).length ≤ sizeLine := by
    rw [List.length_map, k2.length_eq]
    rw [List.length_map] at hz
    exact hz
  refine wpAny_pure ⟨_, rfl, .ref b, upd (upd H b (.lst (ns.map V.int))) b (.lst ((out.map SrtO.iv).map V.int)), I2.write (e := b) (t' := t2.toks) (by rw [upd_same]; trivial) (.inl rfl) (fun c u hb hu => ?_) ⟨_, he⟩ ⟨hlen, out, ep, vals_of_ints k1, he⟩, rfl, ?_⟩
  · rw [PyProof.Rows.sortedHeap_old hb (Heap.lt_size hu)]
    exact hu
  · rw [upd_upd]
    exact q _ b k2 k3 fresh
end
/-! ### the order of sorted tuples is one -/
theorem sortD_perm (ds : List PyData) : (sortD ds).Perm ds := List.mergeSort_perm _ _
end BT

set_option Elab.async false
set_option linter.all false
set_option maxRecDepth 100000
set_option maxHeartbeats 4000000
namespace BT
open PySem PySem.Spec PyProof.Rows L2
/-! ### try with more than one clause 'except x as n' -/
/-- the clauses, and what they wish, each behind those ahead of it -/
inductive Clauses (X : Cx) (Wout : WX) : List ExceptHandler → (Ends → WX) → Prop
  | nil : Clauses X Wout [] fun _ => Wout
  | cons {x n : Str} {c : Value} {i : Nat} {ts : Addr → Value → Option Addr → TS} {b₀ : Stmt} {suite : List Stmt} {np pos' : Pos} {hds : List ExceptHandler} {W : Ends → WX} (hi : X.N[i]? = some n) (hln : X.env.kindOf n = some .local) (hc : Names X x c)
      (hsu : ∀ (a : Addr) (oe : Obj) (cls : Value) (d : Option Addr) (pn : List (Addr × Obj)), Zc cls d oe → (∃ vs, oe.data = .fields vs) → PSs (X.suite a ((a, oe) :: pn)) (b₀ :: suite) (ts a cls d)) (r : Clauses X Wout hds W) :
      Clauses X Wout (.ExceptHandler (some (.Name x np)) (some n) (b₀ :: suite) pos' :: hds) fun D => wAs X.K c i ts (W D) D
/-- an exception that has come down to the clauses -/
structure Down (X : Cx) (pins : List (Addr × Obj)) (σ : L2.St) (H : Hp) (cls : Value) (d : Option Addr) (B : Heap) (a : Addr) (sI s : Shared) : Prop where
  inv : Inv X pins σ H sI
  nb : ∀ b o, sI.heap.get? b = some o → b ∉ frs X.stack → B.get? b = some o
  up : sI.heap.UpToSlots s.heap
  na : H a = none
  os : s.os = sI.os
  ag : AllBare s.gens
  fl : HandSPX.FlyingZ B (X.env :: X.outer) a (Zc cls d) s.heap
section
variable {X : Cx} {pins : List (Addr × Obj)} {σ : L2.St} {H : Hp} {cls : Value} {d : Option Addr} {B : Heap} {a : Addr} {sI s : Shared} {Wout : WX}
theorem Down.now (q : Down X pins σ H cls d B a sI s) : Inv X pins σ H s := q.inv.landed q.nb q.fl.1 q.up q.os q.ag
theorem Down.obj (q : Down X pins σ H cls d B a sI s) (hf : X.env.frame = some X.env.locals) : ∃ oe vs, s.heap.get? a = some oe ∧ Zc cls d oe ∧ oe.data = .fields vs ∧ a ≠ X.env.locals ∧ a ∉ X.fs := by
  obtain ⟨oe, vs, e, z, dt⟩ := q.fl.there
  have no : a ∉ frs (X.env :: X.outer) := fun hm => by
    obtain ⟨_, o2, e2, bad⟩ := q.fl.2.2.1.mem hm
    rw [e] at e2
    cases e2
    exact bad _ dt
  refine ⟨oe, vs, e, z, dt, fun h => no ?_, fun h => no ?_⟩
  · exact List.mem_filterMap.mpr ⟨X.env, List.mem_cons_self, by rw [hf, h]⟩
  · obtain ⟨v, hv, p⟩ := List.mem_filterMap.mp h
    exact List.mem_filterMap.mpr ⟨v, List.mem_cons_of_mem _ hv, p⟩
theorem Down.rest {D : Ends} (ok : X.Ok) (hs : X.stack = X.env :: X.outer) (hf : X.env.frame = some X.env.locals) (hN : X.N.Nodup) (tk : Takes X Wout) {hds : List ExceptHandler} {W : Ends → WX} (hh : Clauses X Wout hds W) :
    ∀ {s : Shared}, Down X pins σ H cls d B a sI s → W D cls d σ H → wpAny (model X.prog X.w) X.A (handleBy (.ref a) X.env hds) (SP X pins D) X.xe s := by
  induction hh with
  | nil =>
    intro s q w
    obtain ⟨oe, vs, T, oT, ty, he, hz, hd, h1, hr⟩ := q.fl.2.2.2
    refine wpAny_handleBy_nil ?_
    unfold PySem.passOn
    refine wpAny_bind (wpAny_field he hd h1 ?_)
    rw [if_neg (show ¬ ((Value.ref T == Value.none) = true) from by simp)]
    have last : wpAny (model X.prog X.w) X.A (setFlight (.ref a) X.env.frame) (fun _ s4 => wpAny (model X.prog X.w) X.A (throw (.ref a) : Sem Flow) (SP X pins D) X.xe s4) X.xe s := by
      rw [hf]
      exact HandSPX.setFlight_upZ q.fl fun h4 held up4 => wpAny_throw (tk _ _ ⟨a, B, sI, pins, σ, H, cls, d, rfl, q.inv, q.nb, q.up.trans up4, .inr (.inr (by rw [hs]; exact held)), q.na, q.os, q.ag, w⟩)
    first
      | exact wpAny_bind (wpAny_pure (wpAny_bind last))
      | exact wpAny_bind last
  | @cons x n c i ts b₀ suite np pos' hds W hi hln hc hsu r ih =>
    intro s q w
    obtain ⟨b, hb, yes, no⟩ := w
    obtain ⟨oe, vs, e, z, dt, nL, nF⟩ := q.obj hf
    have inS := q.now.suite e dt q.na nL nF
    have ty : PySem.W.Looks (model X.prog X.w) s.heap (typeOf (.ref a)) cls := fun A Q E s k p => wpAny_typeOf_ref (k _ _ e) (by rw [z.1]; exact p)
    have ask : ∀ {Q : Value → Shared → Prop} {E : Value → Shared → Prop}, Q c s → wpAny (model X.prog X.w) (X.A.mark (some (.ref a))) (eval (.Name x np) X.env) Q E s := fun {Q E} p => by
      rcases hc with ⟨g, nd, m | ⟨m, bt, nn⟩⟩
      · exact ld_glob (X := X.suite a ((a, oe) :: (X.pn ++ pins))) inS g m p nd
      · exact ld_blt (X := X.suite a ((a, oe) :: (X.pn ++ pins))) inS g m bt p nn nd
    refine wpAny_handleBy_cons (codeAny_handlers_test ?_) (by intro p; cases p)
    refine ask ((PySem.W.exm_one (M := model X.prog X.w) q.now.kIn ty hb).here ?_)
    cases b with
    | false => exact ih q (no rfl)
    | true =>
      refine codeAny_handlers_suite_as (HandSPX.lands_againZ q.fl fun h4 fl4 up4 => ?_)
      have q4 : Down X pins σ H cls d B a sI { s with heap := h4 } := ⟨q.inv, q.nb, q.up.trans up4, q.na, q.os, q.ag, fl4⟩
      obtain ⟨oe4, vs4, e4, z4, dt4, nL4, nF4⟩ := q4.obj hf
      refine store_ok (X := X.suite a ((a, oe4) :: (X.pn ++ pins))) (v := .ref a) (q4.now.suite e4 dt4 q.na nL4 nF4) hN hi (.inl hln) rfl (fun s5 I5 => ?_) (.inr hln)
      refine wpAny_mono ((hsu a oe4 cls d (X.pn ++ pins) z4 ⟨_, dt4⟩).run [] s5 _ H _ I5 (yes rfl a q.na)) (fun f s6 hsp => ?_) (fun _ _ p => False.elim p)
      have leave : ∀ {σ6 : L2.St} {H6 : Hp} {Q : Shared → Prop}, Inv (X.suite a ((a, oe4) :: (X.pn ++ pins))) [] σ6 H6 s6 → (∀ s7, Inv X pins (σ6.set i none) H6 s7 → Q s7) →
          wpAny (model X.prog X.w) X.A (do bindName X.env n .none; unbindBehindTheSuite X.env n pos') (fun _ s7 => Q s7) X.xe s6 := fun I6 k => gone_ok (I6.unsuite ok) hN hi hln k
      cases f with
      | next => obtain ⟨_, _, I6, p⟩ := hsp; exact leave I6 fun _ I7 => ⟨_, _, I7, p⟩
      | brk => obtain ⟨_, _, I6, p⟩ := hsp; exact leave I6 fun _ I7 => ⟨_, _, I7, p⟩
      | cont => obtain ⟨_, _, I6, p⟩ := hsp; exact leave I6 fun _ I7 => ⟨_, _, I7, p⟩
      | ret u => obtain ⟨_, _, _, I6, rv, p⟩ := hsp; exact leave I6 fun _ I7 => ⟨_, _, _, I7, rv, p⟩
theorem ps_tryAs {body : List Stmt} {h₀ : ExceptHandler} {hds : List ExceptHandler} {pos : Pos} {tb : WX → TS} {W : Ends → WX} (hs : X.stack = X.env :: X.outer) (hf : X.env.frame = some X.env.locals) (hN : X.N.Nodup) (tk : Takes X Wout)
    (hb : ∀ (W : WX) (pn : List (Addr × Obj)) (xe : Value → Shared → Prop), Takes (X.tr pn xe) W → PassesOwn (model X.prog X.w) X.A X.env xe → PSs (X.tr pn xe) body (tb W)) (hh : Clauses X Wout (h₀ :: hds) W) :
    PS X (.Try body (h₀ :: hds) [] [] pos) (fun D σ H => tb (W D) D σ H) := by
  refine ⟨fun pins s σ H D I h => ?_⟩
  have ok := I.ok
  have hfr : X.A.frames = some (X.env :: X.outer) := by rw [ok.frames, hs]
  refine wpAny_Try_except (wpAny_mono ((hb (W D) (X.pn ++ pins) (fun e s₁ => wpAny (model X.prog X.w) X.A (noteFrame e X.env) (fun _ s₂ => wpAny (model X.prog X.w) X.A (setFlight e none) (fun _ s₃ =>
    wpAny (model X.prog X.w) X.A (handleBy e X.env (h₀ :: hds)) (SP X pins D) X.xe s₃) X.xe s₂) X.xe s₁) (fun u s' thrown => ?_) PassesOwn.looking).run [] s σ H D (I.toTry _) h) (fun f s1 hsp => ?_) fun e s1 he => he)
  · obtain ⟨a, B, sI, pins', σ', H', cls, d, rfl, I', nb, up, sky, na, os, ag, w⟩ := thrown
    have sky' : Sky B (X.env :: X.outer) a (Zc cls d) X.env.locals s'.heap := by rw [← hs]; exact sky
    exact Sky.land Zc.steady hfr hf sky' fun h3 fl3 up3 => Down.rest (pins := pins) ok hs hf hN tk hh (s := { s' with heap := h3 }) ⟨I'.ofTry ok, nb, up.trans up3, na, os, ag, fl3⟩ w
  · cases f with
    | next => obtain ⟨_, _, I1, p⟩ := hsp; exact wpAny_execs_nil ⟨_, _, I1.ofTry ok, p⟩
    | brk => obtain ⟨_, _, I1, p⟩ := hsp; exact ⟨_, _, I1.ofTry ok, p⟩
    | cont => obtain ⟨_, _, I1, p⟩ := hsp; exact ⟨_, _, I1.ofTry ok, p⟩
    | ret u => obtain ⟨_, _, _, I1, rv, p⟩ := hsp; exact ⟨_, _, _, I1.ofTry ok, rv, p⟩
end
end BT

set_option Elab.async false
set_option linter.all false
set_option maxRecDepth 100000
set_option maxHeartbeats 2000000
theorem L2.Room.units5 {k : Nat} {A : PySem.Around} (r : L2.Room k A) : A.units + 65 < PySem.cLine := by have := r.un; omega
namespace DL
open PySem PySem.Spec PyProof.Rows L2 BT
structure Bi3 (mg : Str → Option Value) : Prop where
  str : mg "str" = none
  dict : mg "dict" = none
/-! ### data, by value -/
inductive D where
  | non | bl (b : Bool) | int (i : Int) | str (x : Str)
  | tup (xs : List D) | lst (xs : List D) | dct (kvs : List (Key × D)) | obj (c : Str) (fs : List (Str × D))
/-- a heap that is read in part -/
abbrev Fz (B : Addr → Prop) (H : Hp) : Addr → HO → Prop := fun b o => ¬ B b ∧ H b = some o
mutual
/-- the value v is the data d -/
inductive Dx (ad : Str → Addr) (F : Addr → HO → Prop) : V → D → Prop
  | non : Dx ad F .non .non
  | bl (b : Bool) : Dx ad F (.bl b) (.bl b)
  | int (i : Int) : Dx ad F (.int i) (.int i)
  | str (x : Str) : Dx ad F (.str x) (.str x)
  | tup {a : Addr} {vs : List V} {ds : List D} : F a (.tup vs) → DxA ad F vs ds → Dx ad F (.ref a) (.tup ds)
  | lst {a : Addr} {vs : List V} {ds : List D} : F a (.lst vs) → DxA ad F vs ds → Dx ad F (.ref a) (.lst ds)
  | dct {a : Addr} {kvs : List (Key × V)} {es : List (Key × D)} : F a (.dK kvs) → DxK ad F kvs es → Dx ad F (.ref a) (.dct es)
  | obj {a dx : Addr} {c : Str} {fvs : List (Str × V)} {fs : List (Str × D)} : F a (.ins (ad c) dx fvs) → DxF ad F fvs fs → Dx ad F (.ref a) (.obj c fs)
inductive DxA (ad : Str → Addr) (F : Addr → HO → Prop) : List V → List D → Prop
  | nil : DxA ad F [] []
  | cons {v : V} {vs : List V} {d : D} {ds : List D} : Dx ad F v d → DxA ad F vs ds → DxA ad F (v :: vs) (d :: ds)
inductive DxK (ad : Str → Addr) (F : Addr → HO → Prop) : List (Key × V) → List (Key × D) → Prop
  | nil : DxK ad F [] []
  | cons {k : Key} {v : V} {vs : List (Key × V)} {d : D} {ds : List (Key × D)} : Dx ad F v d → DxK ad F vs ds → DxK ad F ((k, v) :: vs) ((k, d) :: ds)
inductive DxF (ad : Str → Addr) (F : Addr → HO → Prop) : List (Str × V) → List (Str × D) → Prop
  | nil : DxF ad F [] []
  | cons {k : Str} {v : V} {vs : List (Str × V)} {d : D} {ds : List (Str × D)} : Dx ad F v d → DxF ad F vs ds → DxF ad F ((k, v) :: vs) ((k, d) :: ds)
end
section
variable {ad : Str → Addr} {F F' : Addr → HO → Prop}
mutual
theorem Dx.mono (S : ∀ b o, F b o → F' b o) : ∀ {v : V} {d : D}, Dx ad F v d → Dx ad F' v d
  | _, _, .non => .non
  | _, _, .bl b => .bl b
  | _, _, .int i => .int i
  | _, _, .str x => .str x
  | _, _, .tup e a => .tup (S _ _ e) (DxA.mono S a)
  | _, _, .lst e a => .lst (S _ _ e) (DxA.mono S a)
  | _, _, .dct e a => .dct (S _ _ e) (DxK.mono S a)
  | _, _, .obj e a => .obj (S _ _ e) (DxF.mono S a)
theorem DxA.mono (S : ∀ b o, F b o → F' b o) : ∀ {v : List V} {d : List D}, DxA ad F v d → DxA ad F' v d
  | _, _, .nil => .nil
  | _, _, .cons a r => .cons (Dx.mono S a) (DxA.mono S r)
theorem DxK.mono (S : ∀ b o, F b o → F' b o) : ∀ {v : List (Key × V)} {d : List (Key × D)}, DxK ad F v d → DxK ad F' v d
  | _, _, .nil => .nil
  | _, _, .cons a r => .cons (Dx.mono S a) (DxK.mono S r)
theorem DxF.mono (S : ∀ b o, F b o → F' b o) : ∀ {v : List (Str × V)} {d : List (Str × D)}, DxF ad F v d → DxF ad F' v d
  | _, _, .nil => .nil
  | _, _, .cons a r => .cons (Dx.mono S a) (DxF.mono S r)
end
theorem DxA.append : ∀ {xs : List V} {ds : List D} {ys : List V} {es : List D}, DxA ad F xs ds → DxA ad F ys es → DxA ad F (xs ++ ys) (ds ++ es)
  | _, _, _, _, .nil, h => h
  | _, _, _, _, .cons a r, h => .cons a (DxA.append r h)
theorem DxA.length : ∀ {xs : List V} {ds : List D}, DxA ad F xs ds → xs.length = ds.length
  | _, _, .nil => rfl
  | _, _, .cons _ r => congrArg Nat.succ (DxA.length r)
theorem DxA.get : ∀ {xs : List V} {ds : List D} {i : Nat} {v : V}, DxA ad F xs ds → xs[i]? = some v → ∃ d, ds[i]? = some d ∧ Dx ad F v d
  | _, _, _, _, .nil, h => by simp at h
  | _, _, 0, v, .cons (d := d) a r, h => ⟨d, rfl, by have e : _ = v := Option.some.inj h; rw [← e]; exact a⟩
  | _, _, i + 1, v, .cons a r, h => by
    obtain ⟨d, h1, h2⟩ := DxA.get (i := i) r h
    exact ⟨d, h1, h2⟩
theorem DxA.getD : ∀ {xs : List V} {ds : List D} {i : Nat} {d : D}, DxA ad F xs ds → ds[i]? = some d → ∃ v, xs[i]? = some v ∧ Dx ad F v d
  | _, _, _, _, .nil, h => by simp at h
  | _, _, 0, d, .cons (v := v) a r, h => ⟨v, rfl, by have e : _ = d := Option.some.inj h; rw [← e]; exact a⟩
  | _, _, i + 1, d, .cons a r, h => by
    obtain ⟨v, h1, h2⟩ := DxA.getD (i := i) r h
    exact ⟨v, h1, h2⟩
theorem DxA.take : ∀ {xs : List V} {ds : List D} (j : Nat), DxA ad F xs ds → DxA ad F (xs.take j) (ds.take j)
  | _, _, 0, _ => .nil
  | _, _, _ + 1, .nil => .nil
  | _, _, j + 1, .cons a r => .cons a (DxA.take j r)
theorem DxA.drop : ∀ {xs : List V} {ds : List D} (j : Nat), DxA ad F xs ds → DxA ad F (xs.drop j) (ds.drop j)
  | _, _, 0, r => r
  | _, _, _ + 1, .nil => .nil
  | _, _, j + 1, .cons a r => DxA.drop j r
theorem DxF.lookup : ∀ {fvs : List (Str × V)} {fs : List (Str × D)} {f : Str} {d : D}, DxF ad F fvs fs → fs.lookup f = some d → ∃ v, fvs.lookup f = some v ∧ Dx ad F v d
  | _, _, _, _, .nil, h => by simp at h
  | _, _, f, d, .cons (k := k) a r, h => by
    rw [List.lookup_cons] at h ⊢
    split at h
    · have := Option.some.inj h
      subst this
      exact ⟨_, rfl, a⟩
    · exact DxF.lookup r h
theorem DxF.lookup_none : ∀ {fvs : List (Str × V)} {fs : List (Str × D)} {f : Str}, DxF ad F fvs fs → fs.lookup f = none → fvs.lookup f = none
  | _, _, _, .nil, h => rfl
  | _, _, f, .cons (k := k) a r, h => by
    rw [List.lookup_cons] at h ⊢
    split at h
    · cases h
    · exact DxF.lookup_none r h
end
/-! ### the frame: what stands stays, but for the law's source -/
abbrev SO := Option (Addr × Addr)
structure Wd (B : Addr → Prop) (s : SO) (H : Hp) : Prop where
  al : ∀ b, B b → ∃ o, H b = some o ∧ ∀ xs, o ≠ .tup xs
  sr : ∀ l a, s = some (l, a) → Src l a H ∧ B a ∧ B l
structure Frm (s : SO) (H H' : Hp) : Prop where
  st : ∀ b o, (∀ l a, s = some (l, a) → b ≠ a) → H b = some o → H' b = some o
  sr : ∀ l a, s = some (l, a) → Src l a H'
section
variable {B : Addr → Prop} {s : SO} {H H1 H2 : Hp}
theorem Wd.refl (w : Wd B s H) : Frm s H H := ⟨fun _ _ _ h => h, fun l a e => (w.sr l a e).1⟩
theorem Frm.trans (f : Frm s H H1) (g : Frm s H1 H2) : Frm s H H2 := ⟨fun b o n h => g.st b o n (f.st b o n h), g.sr⟩
theorem Wd.same (w : Wd B s H) (S : Same H H1) : Frm s H H1 := ⟨fun b o _ h => S b o h, fun l a e => (Keeps.of_same (w.sr l a e).1 S).src⟩
theorem Wd.new (w : Wd B s H) {p : Addr} {o : HO} (h : H p = none) : Frm s H (upd H p o) := w.same (Same.new (Same.refl H) h)
theorem Wd.frm (w : Wd B s H) (f : Frm s H H1) : Wd B s H1 := ⟨fun b h => by
    obtain ⟨o, e, nt⟩ := w.al b h
    by_cases q : ∃ l, s = some (l, b)
    · obtain ⟨l, q⟩ := q
      obtain ⟨i, x, c, cl, n, y, _, h1⟩ := (f.sr l b q).at_
      exact ⟨_, h1, fun _ e => (nomatch e)⟩
    · exact ⟨o, f.st b o (fun l a e he => q ⟨l, he ▸ e⟩) e, nt⟩, fun l a e => ⟨f.sr l a e, (w.sr l a e).2⟩⟩
theorem Wd.nb (w : Wd B s H) {p : Addr} (h : H p = none) : ¬ B p := fun q => by
  obtain ⟨o, e, _⟩ := w.al p q
  rw [h] at e; cases e
theorem Wd.nt (w : Wd B s H) {p : Addr} {xs : List V} (h : H p = some (.tup xs)) : ¬ B p := fun q => by
  obtain ⟨o, e, n⟩ := w.al p q
  rw [h] at e
  exact n xs (Option.some.inj e).symm
theorem Wd.fz (w : Wd B s H) (f : Frm s H H1) : ∀ b o, Fz B H b o → Fz B H1 b o := fun b o h => ⟨h.1, f.st b o (fun l a e q => h.1 (q ▸ (w.sr l a e).2.1)) h.2⟩
theorem Wd.dx {ad : Str → Addr} {v : V} {d : D} (w : Wd B s H) (f : Frm s H H1) (h : Dx ad (Fz B H) v d) : Dx ad (Fz B H1) v d := h.mono (w.fz f)
end
/-! ### slots -/
inductive Sl where
  | un | dat (d : D) | own (xs : List D) | ownD (kvs : List (Key × D)) | src | exc (a x : Addr) (d : D)
def SlR (ad : Str → Addr) (B : Addr → Prop) (s : SO) (H : Hp) (o : Option (Option V)) : Sl → Prop
  | .un => True
  | .dat d => ∃ v, o = some (some v) ∧ Dx ad (Fz B H) v d
  | .own xs => ∃ p vs, o = some (some (.ref p)) ∧ B p ∧ (∀ l a, s = some (l, a) → p ≠ a) ∧ H p = some (.lst vs) ∧ DxA ad (Fz B H) vs xs
  | .ownD xs => ∃ p vs, o = some (some (.ref p)) ∧ B p ∧ (∀ l a, s = some (l, a) → p ≠ a) ∧ H p = some (.dK vs) ∧ DxK ad (Fz B H) vs xs
  | .src => ∃ l a, s = some (l, a) ∧ o = some (some (.ref a))
  | .exc a x d => ∃ v, o = some (some (.ref a)) ∧ H x = some (.xd [("what", v)]) ∧ Dx ad (Fz B H) v d
theorem SlR.frm {ad : Str → Addr} {B : Addr → Prop} {s : SO} {H H1 : Hp} {o : Option (Option V)} (w : Wd B s H) (f : Frm s H H1) : ∀ {sl : Sl}, SlR ad B s H o sl → SlR ad B s H1 o sl
  | .un, h => h
  | .dat d, ⟨v, e, h⟩ => ⟨v, e, w.dx f h⟩
  | .own xs, ⟨p, vs, e, b, n, h, r⟩ => ⟨p, vs, e, b, n, f.st _ _ n h, r.mono (w.fz f)⟩
  | .ownD xs, ⟨p, vs, e, b, n, h, r⟩ => ⟨p, vs, e, b, n, f.st _ _ n h, r.mono (w.fz f)⟩
  | .src, h => h
  | .exc a x d, ⟨v, e, h, r⟩ => ⟨v, e, f.st _ _ (fun l a' es q => by
      obtain ⟨i, y, c, cl, n, z, _, h1⟩ := (w.sr l a' es).1.at_
      rw [q, h1] at h; cases h) h, w.dx f r⟩
structure RepE (ad : Str → Addr) (B : Addr → Prop) (s : SO) (H : Hp) (σ : L2.St) (ρ : List Sl) : Prop where
  wd : Wd B s H
  sl : ∀ (i : Nat) (sl : Sl), ρ[i]? = some sl → SlR ad B s H (σ[i]?) sl
  len : σ.length = ρ.length
abbrev DXt := List Sl → Str → D → Prop
abbrev DE := List Sl → (D → Prop) → DXt → Prop
abbrev DT := List Sl → (Bool → Prop) → DXt → Prop
abbrev DA := List Sl → (List Sl → Prop) → DXt → Prop
structure Wl (ad : Str → Addr) (E : L2.St → XK) (Ed : DXt) (B : Addr → Prop) (s : SO) (ρ : List Sl) (σ : L2.St) (H : Hp) : Prop where
  rep : RepE ad B s H σ ρ
  tie : ∀ cn d v x H', Frm s H H' → Dx ad (Fz B H') v d → H' x = none → Ed ρ cn d → E σ (.ref (ad cn)) (some x) (upd H' x (.xd [("what", v)]))
section
variable {ad : Str → Addr} {E : L2.St → XK} {Ed : DXt} {B : Addr → Prop} {s : SO} {ρ : List Sl} {σ : L2.St} {H H1 : Hp}
theorem Wl.wd (w : Wl ad E Ed B s ρ σ H) : Wd B s H := w.rep.wd
theorem Wl.frm (w : Wl ad E Ed B s ρ σ H) (f : Frm s H H1) : Wl ad E Ed B s ρ σ H1 := ⟨⟨w.wd.frm f, fun i sl e => (w.rep.sl i sl e).frm w.wd f, w.rep.len⟩, fun cn d v x H' g => w.tie cn d v x H' (f.trans g)⟩
theorem Wl.refl (w : Wl ad E Ed B s ρ σ H) : Frm s H H := w.wd.refl
end
/-! ### readings by value -/
def teD (ad : Str → Addr) (E : L2.St → XK) (Ed : DXt) (f : DE) : TE := fun σ H Q => ∃ B s ρ Qd, Wl ad E Ed B s ρ σ H ∧ f ρ Qd Ed ∧ ∀ d v H', Qd d → Frm s H H' → Dx ad (Fz B H') v d → Q v H'
def ttD (ad : Str → Addr) (E : L2.St → XK) (Ed : DXt) (f : DT) : TT := fun σ H Q => ∃ B s ρ Qd, Wl ad E Ed B s ρ σ H ∧ f ρ Qd Ed ∧ ∀ b H', Qd b → Frm s H H' → Q b H'
/-- an argument: data, or the source -/
def ArR (ad : Str → Addr) (B : Addr → Prop) (s : SO) (H : Hp) (v : V) : Sl → Prop
  | .dat d => Dx ad (Fz B H) v d
  | .src => ∃ l a, s = some (l, a) ∧ v = .ref a
  | _ => False
inductive ArA (ad : Str → Addr) (B : Addr → Prop) (s : SO) (H : Hp) : List V → List Sl → Prop
  | nil : ArA ad B s H [] []
  | cons {v : V} {vs : List V} {a : Sl} {as : List Sl} : ArR ad B s H v a → ArA ad B s H vs as → ArA ad B s H (v :: vs) (a :: as)
theorem ArR.frm {ad : Str → Addr} {B : Addr → Prop} {s : SO} {H H1 : Hp} {v : V} (w : Wd B s H) (f : Frm s H H1) : ∀ {a : Sl}, ArR ad B s H v a → ArR ad B s H1 v a
  | .dat d, h => w.dx f h
  | .src, h => h
theorem ArA.frm {ad : Str → Addr} {B : Addr → Prop} {s : SO} {H H1 : Hp} (w : Wd B s H) (f : Frm s H H1) : ∀ {vs : List V} {as : List Sl}, ArA ad B s H vs as → ArA ad B s H1 vs as
  | _, _, .nil => .nil
  | _, _, .cons a r => .cons (a.frm w f) (ArA.frm w f r)
theorem ArA.length {ad : Str → Addr} {B : Addr → Prop} {s : SO} {H : Hp} : ∀ {vs : List V} {as : List Sl}, ArA ad B s H vs as → vs.length = as.length
  | _, _, .nil => rfl
  | _, _, .cons _ r => congrArg Nat.succ (ArA.length r)
/-- arguments of a built-in: all data -/
theorem ArA.dat {ad : Str → Addr} {B : Addr → Prop} {s : SO} {H : Hp} : ∀ {vs : List V} {ds : List D}, ArA ad B s H vs (ds.map Sl.dat) → DxA ad (Fz B H) vs ds
  | _, [], .nil => .nil
  | _, _ :: _, .cons a r => .cons a (ArA.dat r)
def taD (ad : Str → Addr) (E : L2.St → XK) (Ed : DXt) (n : Nat) (f : DA) : TA := fun σ H Q => ∃ B s ρ Qd, Wl ad E Ed B s ρ σ H ∧ f ρ Qd Ed ∧ ∀ as vs H', Qd as → as.length = n → Frm s H H' → ArA ad B s H' vs as → Q vs H'
structure PD (X : Cx) (ad : Str → Addr) (E : L2.St → XK) (Ed : DXt) (e : Expr) (f : DE) : Prop where
  pe : PE X e (teD ad E Ed f)
structure TD (X : Cx) (ad : Str → Addr) (E : L2.St → XK) (Ed : DXt) (e : Expr) (f : DT) : Prop where
  pt : PT X e (ttD ad E Ed f)
structure AD (X : Cx) (ad : Str → Addr) (E : L2.St → XK) (Ed : DXt) (es : List Expr) (n : Nat) (f : DA) : Prop where
  pa : PA X es (taD ad E Ed n f)
theorem weakE {X : Cx} {e : Expr} {t t' : TE} (h : PE X e t) (k : ∀ σ H Q, t' σ H Q → t σ H Q) : PE X e t' := ⟨fun pins s σ H Q I q => h.run pins s σ H Q I (k σ H Q q)⟩
theorem weakT {X : Cx} {e : Expr} {t t' : TT} (h : PT X e t) (k : ∀ σ H Q, t' σ H Q → t σ H Q) : PT X e t' := ⟨fun pins s σ H Q I q => h.run pins s σ H Q I (k σ H Q q)⟩
theorem weakA {X : Cx} {e : List Expr} {t t' : TA} (h : PA X e t) (k : ∀ σ H Q, t' σ H Q → t σ H Q) : PA X e t' := ⟨fun pos pins s σ H Q I q => h.run pos pins s σ H Q I (k σ H Q q)⟩
theorem weakS {X : Cx} {e : Stmt} {t t' : TS} (h : PS X e t) (k : ∀ D σ H, t' D σ H → t D σ H) : PS X e t' := ⟨fun pins s σ H D I q => h.run pins s σ H D I (k D σ H q)⟩
theorem weakSs {X : Cx} {e : List Stmt} {t t' : TS} (h : PSs X e t) (k : ∀ D σ H, t' D σ H → t D σ H) : PSs X e t' := ⟨fun pins s σ H D I q => h.run pins s σ H D I (k D σ H q)⟩
section
variable {X : Cx} {ad : Str → Addr} {E : L2.St → XK} {Ed : DXt} {a b : Expr} {fa fb : DE} {pos : Pos}
/-! ### names, constants -/
def eV (i : Nat) : DE := fun ρ Q _ => match ρ[i]? with
  | some (.dat d) => Q d
  | _ => False
theorem pdv {x : Str} (i : Nat) (h : PE X (.Name x pos) (tVar i)) : PD X ad E Ed (.Name x pos) (eV i) := ⟨weakE h fun σ H Q ⟨B, s, ρ, Qd, W, h, k⟩ => by
  unfold eV at h
  split at h
  · rename_i d e
    obtain ⟨v, ev, hv⟩ := W.rep.sl i _ e
    exact ⟨v, ev, k d v H h W.refl hv⟩
  · exact h.elim⟩
def eC (d : D) : DE := fun _ Q _ => Q d
theorem pdInt {i : Int} {j : Nat} : PD X ad E Ed (.Constant (.int i) j pos) (eC (.int i)) := ⟨weakE pe_int fun σ H Q ⟨B, s, ρ, Qd, W, h, k⟩ => k _ _ H h W.refl (.int i)⟩
theorem pdBl {i : Bool} {j : Nat} : PD X ad E Ed (.Constant (.bool i) j pos) (eC (.bl i)) := ⟨weakE pe_bl fun σ H Q ⟨B, s, ρ, Qd, W, h, k⟩ => k _ _ H h W.refl (.bl i)⟩
theorem pdNon {j : Nat} : PD X ad E Ed (.Constant .none j pos) (eC .non) := ⟨weakE pe_non fun σ H Q ⟨B, s, ρ, Qd, W, h, k⟩ => k _ _ H h W.refl .non⟩
theorem pdStr {x : Str} {j : Nat} : PD X ad E Ed (.Constant (.str x) j pos) (eC (.str x)) := ⟨weakE pe_str fun σ H Q ⟨B, s, ρ, Qd, W, h, k⟩ => k _ _ H h W.refl (.str x)⟩
theorem pdGlobI {x : Str} {i : Int} {t : Tok} (hg : Gl X x) (hm : X.mg x = some (.int i t)) (hd : (x == ("__debug__" : Str)) = false := by decide) : PD X ad E Ed (.Name x pos) (eC (.int i)) := ⟨weakE (pe_glob (v := .int i) hg hm ⟨_, rfl⟩ hd) fun σ H Q ⟨B, s, ρ, Qd, W, h, k⟩ => k _ _ H h W.refl (.int i)⟩
/-! ### two-place operations -/
def OpD (ad : Str → Addr) (r : R2) (o : D → D → (D → Prop) → Prop) : Prop := ∀ (B : Addr → Prop) (s : SO) (H : Hp) (x y : V) (dx dy : D) (Qd : D → Prop) (Q : VK), Wd B s H → Dx ad (Fz B H) x dx → Dx ad (Fz B H) y dy → o dx dy Qd →
  (∀ d v H', Qd d → Frm s H H' → Dx ad (Fz B H') v d → Q v H') → r x y H Q
def e2 (o : D → D → (D → Prop) → Prop) (fa fb : DE) : DE := fun ρ Q Ed => fa ρ (fun x => fb ρ (fun y => o x y Q) Ed) Ed
theorem e2_of {r : R2} {o : D → D → (D → Prop) → Prop} (hr : OpD ad r o) : ∀ σ H Q, teD ad E Ed (e2 o fa fb) σ H Q → tOp r (teD ad E Ed fa) (teD ad E Ed fb) σ H Q := fun σ H Q ⟨B, s, ρ, Qd, W, h, k⟩ =>
  ⟨B, s, ρ, _, W, h, fun x v H1 hx f1 dx => ⟨B, s, ρ, _, W.frm f1, hx, fun y u H2 hy f2 dy => hr B s H2 v u x y Qd Q (W.frm (f1.trans f2)).wd ((W.frm f1).wd.dx f2 dx) dy hy fun d v' H' hd f' dd => k d v' H' hd (f1.trans (f2.trans f')) dd⟩⟩
theorem pdOp {op : Operator} {r : R2} {o : D → D → (D → Prop) → Prop} (ho : OpR X (binaryOp op) r) (hr : OpD ad r o) (ha : PD X ad E Ed a fa) (hb : PD X ad E Ed b fb) : PD X ad E Ed (.BinOp a op b pos) (e2 o fa fb) := ⟨weakE (pe_op ho ha.pe hb.pe) (e2_of hr)⟩
theorem pdCmp {op : CmpOp} {r : R2} {o : D → D → (D → Prop) → Prop} (ho : OpR X (compareOp op) r) (hr : OpD ad r o) (ha : PD X ad E Ed a fa) (hb : PD X ad E Ed b fb) (hm : behindInMarks op b = false) : PD X ad E Ed (.Compare a [op] [b] pos) (e2 o fa fb) := ⟨weakE (pe_cmpR ho ha.pe hb.pe hm) (e2_of hr)⟩
/-- a test by a comparison -/
def t2 (o : D → D → (D → Prop) → Prop) (fa fb : DE) : DT := fun ρ Q Ed => fa ρ (fun x => fb ρ (fun y => o x y fun d => match d with | .bl c => Q c | _ => False) Ed) Ed
theorem tdCmp {op : CmpOp} {r : R2} {o : D → D → (D → Prop) → Prop} (ho : OpR X (compareOp op) r) (hr : OpD ad r o) (ha : PD X ad E Ed a fa) (hb : PD X ad E Ed b fb) (hm : behindInMarks op b = false) : TD X ad E Ed (.Compare a [op] [b] pos) (t2 o fa fb) :=
  ⟨weakT (pt_cmpR ho ha.pe hb.pe hm) fun σ H Q ⟨B, s, ρ, Qd, W, h, k⟩ => e2_of (E := E) (Ed := Ed) hr σ H _ ⟨B, s, ρ, _, W, h, fun d v H' hd f dv => by
    cases d with
    | bl c => cases dv; exact ⟨c, rfl, k c H' hd f⟩
    | _ => exact hd.elim⟩⟩
theorem OpD.or {r1 r2 : R2} {o1 o2 : D → D → (D → Prop) → Prop} (h1 : OpD ad r1 o1) (h2 : OpD ad r2 o2) : OpD ad (fun x y H Q => r1 x y H Q ∨ r2 x y H Q) (fun x y Q => o1 x y Q ∨ o2 x y Q) := fun B s H x y dx dy Qd Q w a b h k => h.imp (fun h => h1 B s H x y dx dy Qd Q w a b h k) (fun h => h2 B s H x y dx dy Qd Q w a b h k)
theorem OpR.or {f : Value → Value → Sem Value} {r1 r2 : R2} (h1 : OpR X f r1) (h2 : OpR X f r2) : OpR X f (fun x y H Q => r1 x y H Q ∨ r2 x y H Q) := fun pins s σ H x y v u Q I a b h => h.elim (h1 pins s σ H x y v u Q I a b) (h2 pins s σ H x y v u Q I a b)
theorem OpD.im {r : R2} {o o' : D → D → (D → Prop) → Prop} (h : OpD ad r o) (k : ∀ x y Q, o' x y Q → o x y Q) : OpD ad r o' := fun B s H x y dx dy Qd Q w a b g => h B s H x y dx dy Qd Q w a b (k _ _ _ g)
/-- ints in, an int or a flag out -/
def oI (g : Int → Int → D) : D → D → (D → Prop) → Prop
  | .int i, .int j, Q => Q (g i j)
  | _, _, _ => False
def oIC (C : Int → Int → Prop) (g : Int → Int → D) : D → D → (D → Prop) → Prop
  | .int i, .int j, Q => C i j ∧ Q (g i j)
  | _, _, _ => False
theorem dI {g : Int → Int → V} {g' : Int → Int → D} (hg : ∀ i j F, Dx ad F (g i j) (g' i j)) : OpD ad (rI0 g) (oI g') := fun B s H x y dx dy Qd Q w a b h k => by
  unfold oI at h
  split at h
  · rename_i i j
    cases a
    cases b
    exact ⟨i, j, rfl, rfl, k _ _ H h w.refl (hg i j _)⟩
  · exact h.elim
theorem dIC {C : Int → Int → Prop} {g : Int → Int → V} {g' : Int → Int → D} (hg : ∀ i j F, Dx ad F (g i j) (g' i j)) : OpD ad (rI C g) (oIC C g') := fun B s H x y dx dy Qd Q w a b h k => by
  unfold oIC at h
  split at h
  · rename_i i j
    cases a
    cases b
    exact ⟨i, j, rfl, rfl, h.1, k _ _ H h.2 w.refl (hg i j _)⟩
  · exact h.elim
end
end DL

set_option Elab.async false
set_option linter.all false
set_option maxRecDepth 100000
set_option maxHeartbeats 2000000
namespace DL
open PySem PySem.Spec PyProof.Rows L2 BT
/-! ### data as the model's plain data -/
mutual
/-- data that == and in may compare -/
def pyN : D → Option PyData
  | .non => some .none
  | .bl b => some (.bool b)
  | .int i => some (.int i)
  | .str x => some (.str x)
  | .tup xs => (pyNs xs).map .tuple
  | .lst xs => (pyNs xs).map .list
  | .dct _ => none
  | .obj _ _ => none
def pyNs : List D → Option (List PyData)
  | [] => some []
  | x :: xs => (pyN x).bind fun p => (pyNs xs).map (p :: ·)
end
mutual
/-- data that repr may show -/
def pyR : D → Option PyData
  | .non => some .none
  | .bl b => some (.bool b)
  | .int i => some (.int i)
  | .str x => some (.str x)
  | .tup xs => (pyRs xs).map .tuple
  | .lst xs => (pyRs xs).map .list
  | .dct es => (pyRk es).map .dict
  | .obj _ _ => none
def pyRs : List D → Option (List PyData)
  | [] => some []
  | x :: xs => (pyR x).bind fun p => (pyRs xs).map (p :: ·)
def pyRk : List (Key × D) → Option (List (PyData × PyData))
  | [] => some []
  | (k, x) :: xs => (pyR x).bind fun p => (pyRk xs).map ((kD k, p) :: ·)
end
section
variable {ad : Str → Addr} {B : Addr → Prop} {H : Hp} {K : PySem.W.Frag}
mutual
theorem Dx.dp : ∀ {d : D} {v : V} {p : PyData}, Dx ad (Fz B H) v d → pyN d = some p → Dp K H v p
  | .non, _, _, h, e => by cases h; cases (Option.some.inj e); exact .non
  | .bl b, _, _, h, e => by cases h; cases (Option.some.inj e); exact .bl b
  | .int b, _, _, h, e => by cases h; cases (Option.some.inj e); exact .int b
  | .str b, _, _, h, e => by cases h; cases (Option.some.inj e); exact .str b
  | .tup xs, _, _, h, e => by
    obtain ⟨ps, e1, e2⟩ := Option.map_eq_some_iff.mp (by simpa only [pyN] using e)
    subst e2
    cases h with
    | tup a r => exact .tup (.inl (.inl a.2)) (DxA.dp r e1)
  | .lst xs, _, _, h, e => by
    obtain ⟨ps, e1, e2⟩ := Option.map_eq_some_iff.mp (by simpa only [pyN] using e)
    subst e2
    cases h with
    | lst a r => exact .lst (.inl (.inl a.2)) (DxA.dp r e1)
  | .dct _, _, _, _, e => by simp [pyN] at e
  | .obj _ _, _, _, _, e => by simp [pyN] at e
theorem DxA.dp : ∀ {d : List D} {v : List V} {p : List PyData}, DxA ad (Fz B H) v d → pyNs d = some p → DpAll K H v p
  | [], _, _, h, e => by
    cases h
    cases (Option.some.inj (by simpa only [pyNs] using e : some [] = some _))
    exact .nil
  | x :: xs, _, _, h, e => by
    obtain ⟨p, e1, e2⟩ := Option.bind_eq_some_iff.mp (by simpa only [pyNs] using e)
    obtain ⟨ps, e3, e4⟩ := Option.map_eq_some_iff.mp e2
    subst e4
    cases h with
    | cons a r => exact .cons (Dx.dp a e1) (DxA.dp r e3)
end
mutual
theorem Dx.dv : ∀ {d : D} {v : V} {p : PyData}, Dx ad (Fz B H) v d → pyR d = some p → Dv H v p
  | .non, _, _, h, e => by cases h; cases (Option.some.inj e); exact .non
  | .bl b, _, _, h, e => by cases h; cases (Option.some.inj e); exact .bl b
  | .int b, _, _, h, e => by cases h; cases (Option.some.inj e); exact .int b
  | .str b, _, _, h, e => by cases h; cases (Option.some.inj e); exact .str b
  | .tup xs, _, _, h, e => by
    obtain ⟨ps, e1, e2⟩ := Option.map_eq_some_iff.mp (by simpa only [pyR] using e)
    subst e2
    cases h with
    | tup a r => exact .tup a.2 (DxA.dv r e1)
  | .lst xs, _, _, h, e => by
    obtain ⟨ps, e1, e2⟩ := Option.map_eq_some_iff.mp (by simpa only [pyR] using e)
    subst e2
    cases h with
    | lst a r => exact .lst a.2 (DxA.dv r e1)
  | .dct es, _, _, h, e => by
    obtain ⟨ps, e1, e2⟩ := Option.map_eq_some_iff.mp (by simpa only [pyR] using e)
    subst e2
    cases h with
    | dct a r => exact .dct a.2 (DxK.dv r e1)
  | .obj _ _, _, _, _, e => by simp [pyR] at e
theorem DxA.dv : ∀ {d : List D} {v : List V} {p : List PyData}, DxA ad (Fz B H) v d → pyRs d = some p → DvA H v p
  | [], _, _, h, e => by
    cases h
    cases (Option.some.inj (by simpa only [pyRs] using e : some [] = some _))
    exact .nil
  | x :: xs, _, _, h, e => by
    obtain ⟨p, e1, e2⟩ := Option.bind_eq_some_iff.mp (by simpa only [pyRs] using e)
    obtain ⟨ps, e3, e4⟩ := Option.map_eq_some_iff.mp e2
    subst e4
    cases h with
    | cons a r => exact .cons (Dx.dv a e1) (DxA.dv r e3)
theorem DxK.dv : ∀ {d : List (Key × D)} {v : List (Key × V)} {p : List (PyData × PyData)}, DxK ad (Fz B H) v d → pyRk d = some p → DvK H v p
  | [], _, _, h, e => by
    cases h
    cases (Option.some.inj (by simpa only [pyRk] using e : some [] = some _))
    exact .nil
  | (k, x) :: xs, _, _, h, e => by
    obtain ⟨p, e1, e2⟩ := Option.bind_eq_some_iff.mp (by simpa only [pyRk] using e)
    obtain ⟨ps, e3, e4⟩ := Option.map_eq_some_iff.mp e2
    subst e4
    cases h with
    | cons a r => exact .cons (Dx.dv a e1) (DxK.dv r e3)
end
end
section
variable {X : Cx} {ad : Str → Addr} {E : L2.St → XK} {Ed : DXt} {a b : Expr} {fa fb : DE} {pos : Pos} {es : List Expr} {n : Nat} {ga : DA}
/-! ### arguments -/
def aN : DA := fun _ Q _ => Q []
def aC (f : DE) (g : DA) : DA := fun ρ Q Ed => f ρ (fun d => g ρ (fun as => Q (.dat d :: as)) Ed) Ed
/-- a name as an argument: data, or the source -/
def aV (i : Nat) (g : DA) : DA := fun ρ Q Ed => match ρ[i]? with
  | some (.dat d) => g ρ (fun as => Q (.dat d :: as)) Ed
  | some .src => g ρ (fun as => Q (.src :: as)) Ed
  | _ => False
theorem adN : AD X ad E Ed [] 0 aN := ⟨weakA pa_nil fun σ H Q ⟨B, s, ρ, Qd, W, h, k⟩ => k _ _ H h rfl W.refl .nil⟩
theorem adC (ha : PD X ad E Ed a fa) (hr : AD X ad E Ed es n ga) (hs : starEach (a :: es) X.env = (false, eval a X.env) :: starEach es X.env := by rfl) : AD X ad E Ed (a :: es) (n + 1) (aC fa ga) :=
  ⟨weakA (pa_cons ha.pe hr.pa hs) fun σ H Q ⟨B, s, ρ, Qd, W, h, k⟩ => ⟨B, s, ρ, _, W, h, fun d v H1 hd f1 dv => ⟨B, s, ρ, _, W.frm f1, hd, fun as vs H2 ha hl f2 da =>
    k _ _ H2 ha (congrArg Nat.succ hl) (f1.trans f2) (.cons ((W.frm f1).wd.dx f2 dv) da)⟩⟩⟩
theorem adV {x : Str} (i : Nat) (ha : PE X (.Name x pos) (tVar i)) (hr : AD X ad E Ed es n ga) (hs : starEach (.Name x pos :: es) X.env = (false, eval (.Name x pos) X.env) :: starEach es X.env := by rfl) : AD X ad E Ed (.Name x pos :: es) (n + 1) (aV i ga) :=
  ⟨weakA (pa_cons ha hr.pa hs) fun σ H Q ⟨B, s, ρ, Qd, W, h, k⟩ => by
    unfold aV at h
    split at h
    · rename_i d e
      obtain ⟨v, ev, hv⟩ := W.rep.sl i _ e
      exact ⟨v, ev, B, s, ρ, _, W, h, fun as vs H2 ha hl f2 da => k _ _ H2 ha (congrArg Nat.succ hl) f2 (.cons (W.wd.dx f2 hv) da)⟩
    · rename_i e
      obtain ⟨l, c, es, ev⟩ := W.rep.sl i _ e
      exact ⟨.ref c, ev, B, s, ρ, _, W, h, fun as vs H2 ha hl f2 da => k _ _ H2 ha (congrArg Nat.succ hl) f2 (.cons ⟨l, c, es, rfl⟩ da)⟩
    · exact h.elim⟩
/-- all of them data -/
def dats : List Sl → Option (List D)
  | [] => some []
  | .dat d :: r => (dats r).map (d :: ·)
  | _ => none
theorem dats_ok : ∀ {as : List Sl} {ds : List D}, dats as = some ds → as = ds.map Sl.dat
  | [], ds, h => by cases (Option.some.inj (by simpa only [dats] using h : some [] = some _)); rfl
  | .dat d :: r, ds, h => by
    obtain ⟨ps, e1, e2⟩ := Option.map_eq_some_iff.mp (by simpa only [dats] using h)
    subst e2
    rw [dats_ok e1]; rfl
  | .un :: _, _, h => by simp [dats] at h
  | .own _ :: _, _, h => by simp [dats] at h
  | .ownD _ :: _, _, h => by simp [dats] at h
  | .src :: _, _, h => by simp [dats] at h
  | .exc _ _ _ :: _, _, h => by simp [dats] at h
/-! ### tuples, lists -/
def eTup (g : DA) : DE := fun ρ Q Ed => g ρ (fun as => match dats as with
  | some ds => Q (.tup ds)
  | none => False) Ed
def eLst (g : DA) : DE := fun ρ Q Ed => g ρ (fun as => match dats as with
  | some ds => Q (.lst ds)
  | none => False) Ed
theorem pdTup {kk : Nat} (h : AD X ad E Ed es n ga) (hn : n ≤ 1000 := by decide) : PD X ad E Ed (.Tuple es kk pos) (eTup ga) :=
  ⟨weakE (pe_tup h.pa) fun σ H Q ⟨B, s, ρ, Qd, W, h, k⟩ => ⟨B, s, ρ, _, W, h, fun as vs H1 ha hl f1 da => by
    split at ha
    · rename_i ds e
      rw [dats_ok e] at da hl
      have := da.length
      refine ⟨by rw [this, hl, sizeLine_eq]; omega, fun p hp => ?_⟩
      have w1 := (W.frm f1).wd
      have f2 := w1.new (o := .tup vs) hp
      exact k _ _ _ ha (f1.trans f2) (.tup ⟨w1.nb hp, upd_same⟩ (da.dat.mono (w1.fz f2)))
    · exact ha.elim⟩⟩
theorem pdLst (h : AD X ad E Ed es n ga) (hn : n ≤ 1000 := by decide) : PD X ad E Ed (.List es pos) (eLst ga) :=
  ⟨weakE (pe_lst h.pa) fun σ H Q ⟨B, s, ρ, Qd, W, h, k⟩ => ⟨B, s, ρ, _, W, h, fun as vs H1 ha hl f1 da => by
    split at ha
    · rename_i ds e
      rw [dats_ok e] at da hl
      have := da.length
      refine ⟨by rw [this, hl, sizeLine_eq]; omega, fun p hp => ?_⟩
      have w1 := (W.frm f1).wd
      have f2 := w1.new (o := .lst vs) hp
      exact k _ _ _ ha (f1.trans f2) (.lst ⟨w1.nb hp, upd_same⟩ (da.dat.mono (w1.fz f2)))
    · exact ha.elim⟩⟩
/-! ### operators -/
def oAdd : D → D → (D → Prop) → Prop
  | .int i, .int j, Q => Q (.int (i + j))
  | .lst xs, .lst ys, Q => xs.length + ys.length ≤ 1000000 ∧ Q (.lst (xs ++ ys))
  | .tup xs, .tup ys, Q => xs.length + ys.length ≤ 1000000 ∧ Q (.tup (xs ++ ys))
  | .str x, .str y, Q => x.length + y.length ≤ 1000000 ∧ Q (.str (x ++ y))
  | _, _, _ => False
theorem pdAdd (ha : PD X ad E Ed a fa) (hb : PD X ad E Ed b fb) : PD X ad E Ed (.BinOp a .Add b pos) (e2 oAdd fa fb) := by
  refine pdOp (OpR.or op_add (OpR.or op_cat (OpR.or op_catA op_add_str))) (fun B s H x y dx dy Qd Q w da db h k => ?_) ha hb
  unfold oAdd at h
  split at h
  · cases da; cases db
    exact .inl ⟨_, _, rfl, rfl, k _ _ H h w.refl (.int _)⟩
  · rename_i xs ys
    cases da with
    | lst ea ra => cases db with
      | lst eb rb =>
        have la := ra.length
        have lb := rb.length
        refine .inr (.inl ⟨_, _, _, _, rfl, rfl, ea.2, eb.2, by rw [la, lb, sizeLine_eq]; omega, fun p hp => ?_⟩)
        exact k _ _ _ h.2 (w.new hp) (.lst ⟨w.nb hp, upd_same⟩ ((ra.append rb).mono (w.fz (w.new hp))))
  · rename_i xs ys
    cases da with
    | tup ea ra => cases db with
      | tup eb rb =>
        have la := ra.length
        have lb := rb.length
        refine .inr (.inr (.inl ⟨_, _, _, _, rfl, rfl, .inl (.inl ea.2), .inl (.inl eb.2), by rw [la, lb, sizeLine_eq]; omega, fun e => ?_, fun _ e => ?_, fun _ _ p hp => ?_⟩))
        · subst e
          cases ra
          exact k _ _ _ h.2 w.refl (.tup eb rb)
        · subst e
          cases rb
          rw [List.append_nil] at h
          exact k _ _ _ h.2 w.refl (.tup ea ra)
        · exact k _ _ _ h.2 (w.new hp) (.tup ⟨w.nb hp, upd_same⟩ ((ra.append rb).mono (w.fz (w.new hp))))
  · cases da; cases db
    exact .inr (.inr (.inr ⟨_, _, rfl, rfl, by rw [sizeLine_eq]; omega, k _ _ H h.2 w.refl (.str _)⟩))
  · exact h.elim
def rep (xs : List D) (k : Nat) : List D := (List.replicate k xs).flatten
def oMul : D → D → (D → Prop) → Prop
  | .int i, .int j, Q => CMul i j ∧ Q (.int (i * j))
  | .lst xs, .int k, Q => 0 ≤ k ∧ k ≤ 1000000 ∧ xs.length * k.toNat ≤ 1000000 ∧ Q (.lst (rep xs k.toNat))
  | _, _, _ => False
theorem DxA.rep {F : Addr → HO → Prop} {xs : List V} {ds : List D} (h : DxA ad F xs ds) : ∀ k : Nat, DxA ad F (List.replicate k xs).flatten (DL.rep ds k)
  | 0 => .nil
  | k + 1 => by
    unfold DL.rep
    rw [List.replicate_succ, List.replicate_succ, List.flatten_cons, List.flatten_cons]
    exact h.append (DxA.rep h k)
theorem pdMul (ha : PD X ad E Ed a fa) (hb : PD X ad E Ed b fb) : PD X ad E Ed (.BinOp a .Mult b pos) (e2 oMul fa fb) := by
  refine pdOp (OpR.or op_mul op_rep) (fun B s H x y dx dy Qd Q w da db h k => ?_) ha hb
  unfold oMul at h
  split at h
  · cases da; cases db
    exact .inl ⟨_, _, rfl, rfl, h.1, k _ _ H h.2 w.refl (.int _)⟩
  · cases db
    cases da with
    | lst ea ra =>
      have la := ra.length
      refine .inr ⟨_, _, _, rfl, rfl, ea.2, by omega, by omega, by rw [la, sizeLine_eq]; omega, fun p hp => ?_⟩
      exact k _ _ _ h.2.2.2 (w.new hp) (.lst ⟨w.nb hp, upd_same⟩ ((ra.rep _).mono (w.fz (w.new hp))))
  · exact h.elim
theorem pdSub (ha : PD X ad E Ed a fa) (hb : PD X ad E Ed b fb) : PD X ad E Ed (.BinOp a .Sub b pos) (e2 (oI fun i j => .int (i - j)) fa fb) := pdOp op_sub (dI fun i j F => .int _) ha hb
theorem pdMod (ha : PD X ad E Ed a fa) (hb : PD X ad E Ed b fb) : PD X ad E Ed (.BinOp a .Mod b pos) (e2 (oIC (fun _ j => 0 < j) fun i j => .int (i % j)) fa fb) := pdOp op_mod (dIC fun i j F => .int _) ha hb
theorem pdDiv (ha : PD X ad E Ed a fa) (hb : PD X ad E Ed b fb) : PD X ad E Ed (.BinOp a .FloorDiv b pos) (e2 (oIC CDiv fun i j => .int (i / j)) fa fb) := pdOp op_fdiv (dIC fun i j F => .int _) ha hb
theorem pdPow (ha : PD X ad E Ed a fa) (hb : PD X ad E Ed b fb) : PD X ad E Ed (.BinOp a .Pow b pos) (e2 (oIC CPow fun i j => .int (i ^ j.toNat)) fa fb) := pdOp op_pow (dIC fun i j F => .int _) ha hb
theorem pdShl (ha : PD X ad E Ed a fa) (hb : PD X ad E Ed b fb) : PD X ad E Ed (.BinOp a .LShift b pos) (e2 (oIC CPow fun i j => .int (i * 2 ^ j.toNat)) fa fb) := pdOp op_shl (dIC fun i j F => .int _) ha hb
theorem pdShr (ha : PD X ad E Ed a fa) (hb : PD X ad E Ed b fb) : PD X ad E Ed (.BinOp a .RShift b pos) (e2 (oIC (fun _ j => 0 ≤ j) fun i j => .int (i / 2 ^ j.toNat)) fa fb) := pdOp op_shr (dIC fun i j F => .int _) ha hb
theorem pdAnd (ha : PD X ad E Ed a fa) (hb : PD X ad E Ed b fb) : PD X ad E Ed (.BinOp a .BitAnd b pos) (e2 (oI fun i j => .int (Builtin.bitAnd i j)) fa fb) := pdOp op_and (dI fun i j F => .int _) ha hb
theorem pdOr (ha : PD X ad E Ed a fa) (hb : PD X ad E Ed b fb) : PD X ad E Ed (.BinOp a .BitOr b pos) (e2 (oI fun i j => .int (Builtin.bitOr i j)) fa fb) := pdOp op_or (dI fun i j F => .int _) ha hb
theorem pdXor (ha : PD X ad E Ed a fa) (hb : PD X ad E Ed b fb) : PD X ad E Ed (.BinOp a .BitXor b pos) (e2 (oI fun i j => .int (Builtin.bitXor i j)) fa fb) := pdOp op_xor (dI fun i j F => .int _) ha hb
def e1 (o : D → (D → Prop) → Prop) (fa : DE) : DE := fun ρ Q Ed => fa ρ (fun x => o x Q) Ed
def oI1 (g : Int → D) : D → (D → Prop) → Prop
  | .int i, Q => Q (g i)
  | _, _ => False
theorem pdUn {op : UnaryOp} {g : Int → Int} (ho : UnR X (unaryOp op) (rU fun i => .int (g i))) (ha : PD X ad E Ed a fa) : PD X ad E Ed (.UnaryOp op a pos) (e1 (oI1 fun i => .int (g i)) fa) :=
  ⟨weakE (pe_un ho ha.pe) fun σ H Q ⟨B, s, ρ, Qd, W, h, k⟩ => ⟨B, s, ρ, _, W, h, fun d v H1 hd f1 dv => by
    unfold oI1 at hd
    split at hd
    · cases dv; exact ⟨_, rfl, k _ _ _ hd f1 (.int _)⟩
    · exact hd.elim⟩⟩
theorem pdNeg (ha : PD X ad E Ed a fa) : PD X ad E Ed (.UnaryOp .USub a pos) (e1 (oI1 fun i => .int (-i)) fa) := pdUn un_neg ha
theorem pdInv (ha : PD X ad E Ed a fa) : PD X ad E Ed (.UnaryOp .Invert a pos) (e1 (oI1 fun i => .int (Builtin.bitNot i)) fa) := pdUn un_inv ha
/-! ### comparisons -/
def ng : Bool → Bool → Bool
  | false, c => c
  | true, c => !c
def oEq (neg : Bool) : D → D → (D → Prop) → Prop
  | .int i, .int j, Q => Q (.bl (ng neg (decide (i = j))))
  | .str i, .str j, Q => Q (.bl (ng neg (decide (i = j))))
  | .bl i, .bl j, Q => Q (.bl (ng neg (decide (i = j))))
  | x, y, Q => ∃ p q, pyN x = some p ∧ pyN y = some q ∧ SeqAt.shaped p = true ∧ SeqAt.shaped q = true ∧ Q (.bl (ng neg (PyData.eqv p q)))
theorem xor_f (c : Bool) : ng false c = c := rfl
theorem xor_t (c : Bool) : ng true c = !c := rfl
theorem decV_int {i j : Int} : decide (V.int i = V.int j) = decide (i = j) := by
  by_cases h : i = j
  · subst h; simp
  · rw [decide_eq_false h, decide_eq_false fun e => h (by injection e)]
theorem decV_str {i j : Str} : decide (V.str i = V.str j) = decide (i = j) := by
  by_cases h : i = j
  · subst h; simp
  · rw [decide_eq_false h, decide_eq_false fun e => h (by injection e)]
theorem decV_bl {i j : Bool} : decide (V.bl i = V.bl j) = decide (i = j) := by
  by_cases h : i = j
  · subst h; simp
  · rw [decide_eq_false h, decide_eq_false fun e => h (by injection e)]
theorem dEq {K : PySem.W.Frag} : OpD ad (fun x y H Q => rEq x y H Q ∨ rEqD K x y H Q) (oEq false) := fun B s H x y dx dy Qd Q w da db h k => by
  unfold oEq at h
  split at h
  · cases da; cases db
    rw [xor_f] at h
    exact .inl ⟨rfl, by rw [decV_int]; exact k _ _ H h w.refl (.bl _)⟩
  · cases da; cases db
    rw [xor_f] at h
    exact .inl ⟨rfl, by rw [decV_str]; exact k _ _ H h w.refl (.bl _)⟩
  · cases da; cases db
    rw [xor_f] at h
    exact .inl ⟨rfl, by rw [decV_bl]; exact k _ _ H h w.refl (.bl _)⟩
  · obtain ⟨p, q, e1, e2, e3, e4, h⟩ := h
    rw [xor_f] at h
    exact .inr ⟨p, q, da.dp e1, db.dp e2, e3, e4, k _ _ H h w.refl (.bl _)⟩
theorem dNe {K : PySem.W.Frag} : OpD ad (fun x y H Q => rNe x y H Q ∨ rNeD K x y H Q) (oEq true) := fun B s H x y dx dy Qd Q w da db h k => by
  unfold oEq at h
  split at h
  · cases da; cases db
    rw [xor_t] at h
    exact .inl ⟨rfl, by rw [decV_int]; exact k _ _ H h w.refl (.bl _)⟩
  · cases da; cases db
    rw [xor_t] at h
    exact .inl ⟨rfl, by rw [decV_str]; exact k _ _ H h w.refl (.bl _)⟩
  · cases da; cases db
    rw [xor_t] at h
    exact .inl ⟨rfl, by rw [decV_bl]; exact k _ _ H h w.refl (.bl _)⟩
  · obtain ⟨p, q, e1, e2, e3, e4, h⟩ := h
    rw [xor_t] at h
    exact .inr ⟨p, q, da.dp e1, db.dp e2, e3, e4, k _ _ H h w.refl (.bl _)⟩
theorem pdEq (hu : X.A.units + 64 < cLine) (ha : PD X ad E Ed a fa) (hb : PD X ad E Ed b fb) (hm : behindInMarks .Eq b = false) : PD X ad E Ed (.Compare a [.Eq] [b] pos) (e2 (oEq false) fa fb) := pdCmp (OpR.or op_eq (op_eqD hu)) dEq ha hb hm
theorem tdEq (hu : X.A.units + 64 < cLine) (ha : PD X ad E Ed a fa) (hb : PD X ad E Ed b fb) (hm : behindInMarks .Eq b = false) : TD X ad E Ed (.Compare a [.Eq] [b] pos) (t2 (oEq false) fa fb) := tdCmp (OpR.or op_eq (op_eqD hu)) dEq ha hb hm
theorem pdNe (hu : X.A.units + 64 < cLine) (ha : PD X ad E Ed a fa) (hb : PD X ad E Ed b fb) (hm : behindInMarks .NotEq b = false) : PD X ad E Ed (.Compare a [.NotEq] [b] pos) (e2 (oEq true) fa fb) := pdCmp (OpR.or op_ne (op_neD hu)) dNe ha hb hm
theorem tdNe (hu : X.A.units + 64 < cLine) (ha : PD X ad E Ed a fa) (hb : PD X ad E Ed b fb) (hm : behindInMarks .NotEq b = false) : TD X ad E Ed (.Compare a [.NotEq] [b] pos) (t2 (oEq true) fa fb) := tdCmp (OpR.or op_ne (op_neD hu)) dNe ha hb hm
abbrev oLt : D → D → (D → Prop) → Prop := oI fun i j => .bl (decide (i < j))
abbrev oLe : D → D → (D → Prop) → Prop := oI fun i j => .bl (decide (i ≤ j))
abbrev oGt : D → D → (D → Prop) → Prop := oI fun i j => .bl (decide (j < i))
abbrev oGe : D → D → (D → Prop) → Prop := oI fun i j => .bl (decide (j ≤ i))
theorem dLt : OpD ad (rI0 fun i j => .bl (decide (i < j))) oLt := dI fun _ _ _ => .bl _
theorem dLe : OpD ad (rI0 fun i j => .bl (decide (i ≤ j))) oLe := dI fun _ _ _ => .bl _
theorem dGt : OpD ad (rI0 fun i j => .bl (decide (j < i))) oGt := dI fun _ _ _ => .bl _
theorem dGe : OpD ad (rI0 fun i j => .bl (decide (j ≤ i))) oGe := dI fun _ _ _ => .bl _
def oIsN (neg : Bool) : D → D → (D → Prop) → Prop
  | .non, .non, Q => Q (.bl (!neg))
  | _, .non, Q => Q (.bl neg)
  | _, _, _ => False
theorem dIsN : OpD ad (fun x y H Q => y = .non ∧ Q (.bl (decide (x = .non))) H) (oIsN false) := fun B s H x y dx dy Qd Q w da db h k => by
  unfold oIsN at h
  split at h
  · cases da; cases db
    exact ⟨rfl, k _ _ H h w.refl (.bl _)⟩
  · cases db
    refine ⟨rfl, ?_⟩
    have e : decide (x = V.non) = false := by
      cases da <;> first | rfl | (rename_i hn; exact absurd rfl (hn))
    rw [e]
    exact k _ _ H h w.refl (.bl _)
  · exact h.elim
theorem dNotN : OpD ad (fun x y H Q => y = .non ∧ Q (.bl (!decide (x = .non))) H) (oIsN true) := fun B s H x y dx dy Qd Q w da db h k => by
  unfold oIsN at h
  split at h
  · cases da; cases db
    exact ⟨rfl, k _ _ H h w.refl (.bl _)⟩
  · cases db
    refine ⟨rfl, ?_⟩
    have e : decide (x = V.non) = false := by
      cases da <;> first | rfl | (rename_i hn; exact absurd rfl (hn))
    rw [e]
    exact k _ _ H h w.refl (.bl _)
  · exact h.elim
/-! ### tests -/
def tBl (f : DE) : DT := fun ρ Q Ed => f ρ (fun d => match d with
  | .bl c => Q c
  | _ => False) Ed
theorem tdVal (h : PD X ad E Ed a fa) (he : ∀ whole, isTrue a X.env whole = (do let v ← whole; standAt a.pos; holding [v] (truthy v)) := by intro _; rfl) : TD X ad E Ed a (tBl fa) :=
  ⟨weakT (pt_val h.pe he) fun σ H Q ⟨B, s, ρ, Qd, W, h, k⟩ => ⟨B, s, ρ, _, W, h, fun d v H1 hd f1 dv => by
    cases d with
    | bl c => cases dv; exact ⟨c, rfl, k c H1 hd f1⟩
    | _ => exact hd.elim⟩⟩
/-- truth -/
def tru : D → Option Bool
  | .non => some false
  | .bl b => some b
  | .int i => some (i != 0)
  | .lst xs => some (!xs.isEmpty)
  | .tup xs => some (!xs.isEmpty)
  | .dct xs => some (!xs.isEmpty)
  | _ => none
def tTru (f : DE) : DT := fun ρ Q Ed => f ρ (fun d => match tru d with
  | some c => Q c
  | none => False) Ed
theorem DxA.emp {F : Addr → HO → Prop} {xs : List V} {ds : List D} (h : DxA ad F xs ds) : xs.isEmpty = ds.isEmpty := by cases h <;> rfl
theorem DxK.emp {F : Addr → HO → Prop} {xs : List (Key × V)} {ds : List (Key × D)} (h : DxK ad F xs ds) : xs.isEmpty = ds.isEmpty := by cases h <;> rfl
theorem tdTru (h : PD X ad E Ed a fa) (he : ∀ whole, isTrue a X.env whole = (do let v ← whole; standAt a.pos; holding [v] (truthy v)) := by intro _; rfl) : TD X ad E Ed a (tTru fa) :=
  ⟨weakT (pt_truth h.pe he) fun σ H Q ⟨B, s, ρ, Qd, W, h, k⟩ => ⟨B, s, ρ, _, W, h, fun d v H1 hd f1 dv => by
    cases dv with
    | non => exact ⟨_, rfl, k _ H1 hd f1⟩
    | bl b => exact ⟨_, rfl, k _ H1 hd f1⟩
    | int i => exact ⟨_, rfl, k _ H1 hd f1⟩
    | str x => exact hd.elim
    | tup e r => exact ⟨_, .inr (.inl ⟨_, .inl (.inl e.2), rfl⟩), by rw [r.emp]; exact k _ H1 hd f1⟩
    | lst e r => exact ⟨_, .inl ⟨_, .inl (.inl e.2), rfl⟩, by rw [r.emp]; exact k _ H1 hd f1⟩
    | dct e r => exact ⟨_, .inr (.inr ⟨_, e.2, rfl⟩), by rw [r.emp]; exact k _ H1 hd f1⟩
    | obj e r => exact hd.elim⟩⟩
def tN (t : DT) : DT := fun ρ Q Ed => t ρ (fun c => Q (!c)) Ed
theorem tdNot {t : DT} (h : TD X ad E Ed a t) : TD X ad E Ed (.UnaryOp .Not a pos) (tN t) :=
  ⟨weakT (pt_not h.pt) fun σ H Q ⟨B, s, ρ, Qd, W, h, k⟩ => ⟨B, s, ρ, _, W, h, fun c H1 hc f1 => k _ H1 hc f1⟩⟩
structure BD (X : Cx) (ad : Str → Addr) (E : L2.St → XK) (Ed : DXt) (e : Expr) (f : DT) : Prop where
  pw : PW X e (ttD ad E Ed f)
theorem weakW {X : Cx} {e : Expr} {t t' : TT} (h : PW X e t) (k : ∀ σ H Q, t' σ H Q → t σ H Q) : PW X e t' := ⟨fun whole pins s σ H Q I q => h.run whole pins s σ H Q I (k σ H Q q)⟩
def tAn (t u : DT) : DT := fun ρ Q Ed => t ρ (fun c => if c = true then u ρ Q Ed else Q false) Ed
def tOo (t u : DT) : DT := fun ρ Q Ed => t ρ (fun c => if c = true then Q true else u ρ Q Ed) Ed
theorem bdAnd1 {t : DT} (h : TD X ad E Ed a t) : BD X ad E Ed (.BoolOp .And [a] pos) t := ⟨pw_and1 h.pt⟩
theorem bdOr1 {t : DT} (h : TD X ad E Ed a t) : BD X ad E Ed (.BoolOp .Or [a] pos) t := ⟨pw_or1 h.pt⟩
theorem bdAnd {t u : DT} {rest : List Expr} (h : TD X ad E Ed a t) (h2 : BD X ad E Ed (.BoolOp .And (b :: rest) pos) u) : BD X ad E Ed (.BoolOp .And (a :: b :: rest) pos) (tAn t u) :=
  ⟨weakW (pw_and h.pt h2.pw) fun σ H Q ⟨B, s, ρ, Qd, W, h, k⟩ => ⟨B, s, ρ, _, W, h, fun c H1 hc f1 => by
    cases c with
    | true => exact ⟨B, s, ρ, Qd, W.frm f1, hc, fun b H2 hb f2 => k b H2 hb (f1.trans f2)⟩
    | false => exact k _ H1 hc f1⟩⟩
theorem bdOr {t u : DT} {rest : List Expr} (h : TD X ad E Ed a t) (h2 : BD X ad E Ed (.BoolOp .Or (b :: rest) pos) u) : BD X ad E Ed (.BoolOp .Or (a :: b :: rest) pos) (tOo t u) :=
  ⟨weakW (pw_or h.pt h2.pw) fun σ H Q ⟨B, s, ρ, Qd, W, h, k⟩ => ⟨B, s, ρ, _, W, h, fun c H1 hc f1 => by
    cases c with
    | true => exact k _ H1 hc f1
    | false => exact ⟨B, s, ρ, Qd, W.frm f1, hc, fun b H2 hb f2 => k b H2 hb (f1.trans f2)⟩⟩⟩
theorem BD.td {t : DT} (h : BD X ad E Ed a t) : TD X ad E Ed a t := ⟨PW.pt h.pw⟩
/-- chains of comparisons -/
def tCh (o o' : D → D → (D → Prop) → Prop) (fa fb fc : DE) : DT := fun ρ Q Ed => fa ρ (fun x => fb ρ (fun y => o x y fun d => match d with
  | .bl true => fc ρ (fun z => o' y z fun d => match d with | .bl c => Q c | _ => False) Ed
  | .bl false => Q false
  | _ => False) Ed) Ed
end
end DL

set_option Elab.async false
set_option linter.all false
set_option maxRecDepth 100000
set_option maxHeartbeats 2000000
namespace DL
open PySem PySem.Spec PyProof.Rows L2 BT
/-! ### promises by value -/
abbrev DSp := List Sl → (D → Prop) → (Str → D → Prop) → Prop
def spD (ad : Str → Addr) (f : DSp) : Sp := fun vs H Q E => ∃ B s as Qd Xd, Wd B s H ∧ ArA ad B s H vs as ∧ f as Qd Xd ∧ (∀ d v H', Qd d → Frm s H H' → Dx ad (Fz B H') v d → Q v H') ∧
  (∀ cn d v x H', Xd cn d → Frm s H H' → Dx ad (Fz B H') v d → H' x = none → E (.ref (ad cn)) (some x) (upd H' x (.xd [("what", v)])))
/-- of an __init__, called by its class's name -/
def spI (ad : Str → Addr) (c : Str) (f : DSp) : Sp := fun vs H Q E => ∃ x dx us H1 B s as Qd Xd, vs = .ref x :: us ∧ H = upd (upd H1 dx (.own x)) x (.ins (ad c) dx []) ∧ H1 x = none ∧ H1 dx = none ∧ dx ≠ x ∧ Wd B s H1 ∧ ArA ad B s H1 us as ∧ f as Qd Xd ∧
  (∀ d H', Qd d → Frm s H1 H' → Dx ad (Fz B H') (.ref x) d → Q .non H') ∧ (∀ cn d v y H', Xd cn d → Frm s H1 H' → Dx ad (Fz B H') v d → H' y = none → E (.ref (ad cn)) (some y) (upd H' y (.xd [("what", v)])))
abbrev DefX (P : Program) (w : World) (K : PySem.W.Frag) (mg : Str → Option Value) (base : Heap) (ad : Str → Addr) (k : Nat) (x : Str) (ps : List Str) (f : DSp) : Prop := DefOk P w K mg base (L2.CX P w) k x ps (spD ad f)
abbrev DefY (P : Program) (w : World) (K : PySem.W.Frag) (mg : Str → Option Value) (base : Heap) (ad : Str → Addr) (k : Nat) (x : Str) (ps : List Str) (f : DSp) : Prop := DefG P w K mg base k x ps (spD ad f)
abbrev MetX (P : Program) (w : World) (K : PySem.W.Frag) (mg : Str → Option Value) (base : Heap) (ad : Str → Addr) (k : Nat) (c m : Str) (ps : List Str) (f : DSp) : Prop := MethOk P w K mg base (L2.CX P w) k (ad c) m ps (spD ad f)
abbrev MakX (P : Program) (w : World) (K : PySem.W.Frag) (mg : Str → Option Value) (base : Heap) (ad : Str → Addr) (k : Nat) (c : Str) (ps : List Str) (f : DSp) : Prop := MakeOk P w K mg base (L2.CX P w) k (ad c) c ps (spI ad c f)
/-- where nothing may be raised -/
def X0 : DXt := fun _ _ _ => False
section
variable {X : Cx} {ad : Str → Addr} {E : L2.St → XK} {Ed : DXt} {a b e o : Expr} {fa fb fo : DE} {p pos apos p2 : Pos} {es : List Expr} {n k j : Nat} {ga : DA} {x m c : Str} {ps : List Str} {dsp : DSp}
/-- what an expression may let out -/
def Lets (X : Cx) (E : L2.St → XK) : Prop := ∀ σ, PassesAt (L2.CX X.prog X.w) X σ (E σ)
theorem lets0 : Lets X (fun _ => E0) := fun σ pins H s e s' I c => passL pins σ H s e s' I c
theorem letsW {W : WX} (tk : Takes X W) : Lets X (WE W) := fun σ => passAt tk σ
theorem letsP {E : XK} (h : Passes (L2.CX X.prog X.w) X E) : Lets X (fun _ => E) := fun σ pins H s e s' I c => h pins σ H s e s' I c
def eCall (f : DSp) (g : DA) : DE := fun ρ Q Ed => g ρ (fun as => f as Q (Ed ρ)) Ed
theorem pdCall (D : DefX X.prog X.w X.K X.mg X.base ad k x ps dsp) (hr : Room j X.A) (hx : Lets X E) (hg : Gl X x) (ha : AD X ad E Ed (e :: es) n ga) (hk : k ≤ j := by decide) (hdb : (x == ("__debug__" : Str)) = false := by decide)
    (he : starEach (e :: es) X.env = (false, eval e X.env) :: starEach es X.env := by rfl) (hpl : (backTo pos (starEach es X.env)).any (·.1) = false := by rfl) : PD X ad E Ed (.Call (.Name x p) (e :: es) [] pos) (eCall dsp ga) :=
  ⟨weakE (pe_dS D hr hg hx ha.pa hk hdb he hpl) fun σ H Q ⟨B, s, ρ, Qd, W, h, kk⟩ => ⟨B, s, ρ, _, W, h, fun as vs H1 ha hl f1 da => ⟨B, s, as, Qd, Ed ρ, (W.frm f1).wd, da, ha, fun d v H' hd f dv => kk d v H' hd (f1.trans f) dv,
    fun cn d v x H' hd f dv hx => W.tie cn d v x H' (f1.trans f) dv hx hd⟩⟩⟩
/-- a def of the law's -/
def eCallG (f : DSp) (g : DA) : DE := fun ρ Q Ed => g ρ (fun as => f as Q fun _ _ => False) Ed
theorem pdCallG (D : DefY X.prog X.w X.K X.mg X.base ad k x ps dsp) (hr : Room j X.A) (gd : X.A.guards = some []) (hg : Gl X x) (ha : AD X ad E Ed (e :: es) n ga) (hk : k ≤ j := by decide) (hdb : (x == ("__debug__" : Str)) = false := by decide)
    (he : starEach (e :: es) X.env = (false, eval e X.env) :: starEach es X.env := by rfl) (hpl : (backTo pos (starEach es X.env)).any (·.1) = false := by rfl) : PD X ad E Ed (.Call (.Name x p) (e :: es) [] pos) (eCallG dsp ga) :=
  ⟨weakE (pe_dG D hr gd hg ha.pa hk hdb he hpl) fun σ H Q ⟨B, s, ρ, Qd, W, h, kk⟩ => ⟨B, s, ρ, _, W, h, fun as vs H1 ha hl f1 da => ⟨B, s, as, Qd, _, (W.frm f1).wd, da, ha, fun d v H' hd f dv => kk d v H' hd (f1.trans f) dv, fun cn d v x H' hd => hd.elim⟩⟩⟩
/-! ### methods, makers, fields -/
def eMeth (c m : Str) (f : DSp) (fo : DE) (g : DA) : DE := fun ρ Q Ed => fo ρ (fun o => match o with
  | .obj c' fs => c' = c ∧ fs.lookup m = none ∧ g ρ (fun as => f (.dat (.obj c' fs) :: as) Q (Ed ρ)) Ed
  | _ => False) Ed
theorem pdMeth {pl : Sem Bool} (D : MetX X.prog X.w X.K X.mg X.base ad k c m ps dsp) (cl : Cls X.K (ad c)) (hr : Room j X.A) (hx : Lets X E) (ho : PD X ad E Ed o fo) (ha : AD X ad E Ed (e :: es) n ga) (hk : k ≤ j := by decide)
    (h1 : starEach (e :: es) X.env = (false, eval e X.env) :: starEach es X.env := by rfl) (h2 : (backTo pos (starEach es X.env)).any (·.1) = false := by rfl)
    (h3 : eval (.Call (.Attribute o m apos) (e :: es) [] pos) X.env = (do
      let v ← eval o X.env
      standAt apos.atName
      let (f, first) ← holding [v] (getMethod v m pl)
      callWith pos f first (backTo pos (starEach (e :: es) X.env)) (backToKw pos (keywordEach [] X.env))) := by rfl) : PD X ad E Ed (.Call (.Attribute o m apos) (e :: es) [] pos) (eMeth c m dsp fo ga) :=
  ⟨weakE (pe_mS (pl := pl) D cl ho.pe hr hx ha.pa hk h1 h2 h3) fun σ H Q ⟨B, s, ρ, Qd, W, h, kk⟩ => ⟨B, s, ρ, _, W, h, fun d v H1 hd f1 dv => by
    cases dv with
    | obj ea ra =>
      obtain ⟨rfl, hm, hd⟩ := hd
      refine ⟨_, _, _, rfl, ea.2, ra.lookup_none hm, B, s, ρ, _, W.frm f1, hd, fun as vs H2 ha hl f2 da => ⟨B, s, _, Qd, Ed ρ, ((W.frm f1).frm f2).wd, .cons (a := .dat _) ((W.frm f1).wd.dx f2 (.obj ea ra)) da, ha, fun d v H' hd f dv => kk d v H' hd (f1.trans (f2.trans f)) dv,
        fun cn d v x H' hd f dv hx => W.tie cn d v x H' (f1.trans (f2.trans f)) dv hx hd⟩⟩
    | _ => exact hd.elim⟩⟩
theorem pdMeth0 {pl : Sem Bool} (D : MetX X.prog X.w X.K X.mg X.base ad k c m ps dsp) (cl : Cls X.K (ad c)) (hr : Room j X.A) (hx : Lets X E) (ho : PD X ad E Ed o fo) (hk : k ≤ j := by decide)
    (h3 : eval (.Call (.Attribute o m apos) [] [] pos) X.env = (do
      let v ← eval o X.env
      standAt apos.atName
      let (f, first) ← holding [v] (getMethod v m pl)
      callWith pos f first (backTo pos (starEach [] X.env)) (backToKw pos (keywordEach [] X.env))) := by rfl) : PD X ad E Ed (.Call (.Attribute o m apos) [] [] pos) (eMeth c m dsp fo aN) :=
  ⟨weakE (pe_m0S (pl := pl) D cl ho.pe hr hx hk h3) fun σ H Q ⟨B, s, ρ, Qd, W, h, kk⟩ => ⟨B, s, ρ, _, W, h, fun d v H1 hd f1 dv => by
    cases dv with
    | obj ea ra =>
      obtain ⟨rfl, hm, hd⟩ := hd
      exact ⟨_, _, _, rfl, ea.2, ra.lookup_none hm, B, s, _, Qd, Ed ρ, (W.frm f1).wd, .cons (a := .dat _) (.obj ea ra) .nil, hd, fun d v H' hd f dv => kk d v H' hd (f1.trans f) dv, fun cn d v x H' hd f dv hx => W.tie cn d v x H' (f1.trans f) dv hx hd⟩
    | _ => exact hd.elim⟩⟩
theorem pdMake (D : MakX X.prog X.w X.K X.mg X.base ad k c ps dsp) (hr : Room j X.A) (hx : Lets X E) (hg : Gl X c) (ha : AD X ad E Ed (e :: es) n ga) (hk : k + 1 ≤ j := by decide) (hdb : (c == ("__debug__" : Str)) = false := by decide)
    (he : starEach (e :: es) X.env = (false, eval e X.env) :: starEach es X.env := by rfl) (hpl : (backTo pos (starEach es X.env)).any (·.1) = false := by rfl) : PD X ad E Ed (.Call (.Name c p) (e :: es) [] pos) (eCall dsp ga) :=
  ⟨weakE (pe_mkS D hr hg hx ha.pa hk hdb he hpl) fun σ H Q ⟨B, s, ρ, Qd, W, h, kk⟩ => ⟨B, s, ρ, _, W, h, fun as vs H1 ha hl f1 da => fun x dx hx hdx ne => ⟨x, dx, vs, H1, B, s, as, Qd, Ed ρ, rfl, rfl, hx, hdx, ne, (W.frm f1).wd, da, ha,
    fun d H' hd f dv => ⟨rfl, kk d _ H' hd (f1.trans f) dv⟩, fun cn d v x H' hd f dv hx => W.tie cn d v x H' (f1.trans f) dv hx hd⟩⟩⟩
/-- the classes and their attributes -/
def tabHas (tab : List (Str × List Str)) (c f : Str) : Bool := match tab.lookup c with
  | some fs => fs.any (· == f)
  | none => false
structure ClsTab (K : PySem.W.Frag) (ad : Str → Addr) (tab : List (Str × List Str)) : Prop where
  cls : ∀ c fs, tab.lookup c = some fs → Cls K (ad c)
  no : ∀ c fs, tab.lookup c = some fs → ∀ f ∈ fs, NoAttr K (ad c) f
def eFld (tab : List (Str × List Str)) (f : Str) (fo : DE) : DE := fun ρ Q Ed => fo ρ (fun o => match o with
  | .obj c fs => match fs.lookup f with
    | some d => tabHas tab c f = true ∧ Q d
    | none => False
  | _ => False) Ed
theorem pdFld {tab : List (Str × List Str)} {f : Str} (T : ClsTab X.K ad tab) (ho : PD X ad E Ed o fo) (hb : attributeBase o f X.env (eval o X.env) = eval o X.env) : PD X ad E Ed (.Attribute o f pos) (eFld tab f fo) :=
  ⟨weakE (pe_fld ho.pe hb) fun σ H Q ⟨B, s, ρ, Qd, W, h, kk⟩ => ⟨B, s, ρ, _, W, h, fun d v H1 hd f1 dv => by
    cases dv with
    | obj ea ra =>
      rename_i c fvs fs
      dsimp only at hd
      cases hl : fs.lookup f with
      | none => rw [hl] at hd; exact hd.elim
      | some d =>
        rw [hl] at hd
        obtain ⟨ht, hd⟩ := hd
        obtain ⟨v, hv, dv⟩ := ra.lookup hl
        unfold tabHas at ht
        split at ht
        · rename_i gs eg
          obtain ⟨g, hg, e⟩ := List.any_eq_true.mp ht
          have e := eq_of_beq e
          subst e
          exact ⟨_, _, _, _, v, rfl, ea.2, T.cls _ _ eg, T.no _ _ eg _ hg, hv, kk d v H1 hd f1 dv⟩
        · cases ht
    | _ => exact hd.elim⟩⟩
/-! ### chains -/
theorem tdChain {op op' : CmpOp} {r r' : R2} {o1 o2 : D → D → (D → Prop) → Prop} {c : Expr} {fc : DE} (ho : OpR X (compareOp op) r) (ho' : OpR X (compareOp op') r') (h1 : OpD ad r o1) (h2 : OpD ad r' o2) (ha : PD X ad E Ed a fa) (hb : PD X ad E Ed b fb) (hc : PD X ad E Ed c fc)
    (pt : ∀ {ta tb tc : TE}, PE X a ta → PE X b tb → PE X c tc → PT X (.Compare a [op, op'] [b, c] pos) (tTest (tChain r r' ta tb tc))) : TD X ad E Ed (.Compare a [op, op'] [b, c] pos) (tCh o1 o2 fa fb fc) :=
  ⟨weakT (pt ha.pe hb.pe hc.pe) fun σ H Q ⟨B, s, ρ, Qd, W, h, k⟩ => ⟨B, s, ρ, _, W, h, fun x v H1 hx f1 dx => ⟨B, s, ρ, _, W.frm f1, hx, fun y u H2 hy f2 dy =>
    h1 B s H2 v u x y _ _ (W.frm (f1.trans f2)).wd ((W.frm f1).wd.dx f2 dx) dy hy fun d v' H3 hd f3 dd => by
      cases d with
      | bl c =>
        cases dd
        cases c with
        | true => exact ⟨true, rfl, iteT ⟨B, s, ρ, _, W.frm (f1.trans (f2.trans f3)), hd, fun z z' H4 hz f4 dz => h2 B s H4 u z' y z _ _ (W.frm (f1.trans (f2.trans (f3.trans f4)))).wd ((W.frm (f1.trans f2)).wd.dx (f3.trans f4) dy) dz hz fun d2 w' H5 hd2 f5 dd2 => by
            cases d2 with
            | bl c => cases dd2; exact ⟨c, rfl, k c H5 hd2 (f1.trans (f2.trans (f3.trans (f4.trans f5))))⟩
            | _ => exact hd2.elim⟩⟩
        | false => exact ⟨false, rfl, iteF ⟨false, rfl, k false H3 hd (f1.trans (f2.trans f3))⟩⟩
      | _ => exact hd.elim⟩⟩⟩
/-! ### subscripts, slices -/
theorem DxA.at_ {F : Addr → HO → Prop} {vs : List V} {ds : List D} {i : Int} {d : D} (h : DxA ad F vs ds) (e : atI ds i = some d) : ∃ v, atI vs i = some v ∧ Dx ad F v d := by
  unfold atI at e ⊢
  rw [h.length]
  cases q : ixN ds.length i with
  | none => rw [q] at e; cases e
  | some j =>
    rw [q] at e
    exact h.getD e
def oIx : D → D → (D → Prop) → Prop
  | .lst xs, .int i, Q => (match atI xs i with | some d => Q d | none => False)
  | .tup xs, .int i, Q => (match atI xs i with | some d => Q d | none => False)
  | _, _, _ => False
theorem pdIx (ha : PD X ad E Ed a fa) (hb : PD X ad E Ed b fb) (hs : PlainIx b) : PD X ad E Ed (.Subscript a b pos) (e2 oIx fa fb) :=
  ⟨weakE (pe_ix (IxR.or ix_list ix_tup) ha.pe hb.pe hs) (e2_of fun B s H x y dx dy Qd Q w da db h k => by
    unfold oIx at h
    split at h
    · split at h
      · rename_i e
        cases db
        cases da with
        | lst ea ra =>
          obtain ⟨v, hv, dv⟩ := ra.at_ e
          exact .inl ⟨_, _, _, v, rfl, rfl, .inl (.inl ea.2), hv, k _ _ H h w.refl dv⟩
      · exact h.elim
    · split at h
      · rename_i e
        cases db
        cases da with
        | tup ea ra =>
          obtain ⟨v, hv, dv⟩ := ra.at_ e
          exact .inr ⟨_, _, _, v, rfl, rfl, .inl (.inl ea.2), hv, k _ _ H h w.refl dv⟩
      · exact h.elim
    · exact h.elim)⟩
abbrev DO := List Sl → (Option Int → Prop) → DXt → Prop
def toD (ad : Str → Addr) (E : L2.St → XK) (Ed : DXt) (f : DO) : TO := fun σ H Q => ∃ B s ρ Qd, Wl ad E Ed B s ρ σ H ∧ f ρ Qd Ed ∧ ∀ b H', Qd b → Frm s H H' → Q b H'
structure OD (X : Cx) (ad : Str → Addr) (E : L2.St → XK) (Ed : DXt) (e : Option Expr) (f : DO) : Prop where
  po : PO X e (toD ad E Ed f)
theorem weakO {X : Cx} {e : Option Expr} {t t' : TO} (h : PO X e t) (k : ∀ σ H Q, t' σ H Q → t σ H Q) : PO X e t' := ⟨fun pins s σ H Q I q => h.run pins s σ H Q I (k σ H Q q)⟩
def oNo : DO := fun _ Q _ => Q none
def oPt (f : DE) : DO := fun ρ Q Ed => f ρ (fun d => match d with
  | .int i => Q (some i)
  | _ => False) Ed
theorem odNo : OD X ad E Ed none oNo := ⟨weakO po_none fun σ H Q ⟨B, s, ρ, Qd, W, h, k⟩ => k _ H h W.refl⟩
theorem odPt (h : PD X ad E Ed e fa) : OD X ad E Ed (some e) (oPt fa) := ⟨weakO (po_some h.pe) fun σ H Q ⟨B, s, ρ, Qd, W, h, k⟩ => ⟨B, s, ρ, _, W, h, fun d v H1 hd f1 dv => by
    cases d with
    | int i => cases dv; exact ⟨i, rfl, k _ H1 hd f1⟩
    | _ => exact hd.elim⟩⟩
def cutD (xs : List D) (lo hi : Option Int) : List D := (xs.drop (HT.sIx xs.length 0 lo)).take (HT.sIx xs.length xs.length hi - HT.sIx xs.length 0 lo)
theorem DxA.cut {F : Addr → HO → Prop} {vs : List V} {ds : List D} (h : DxA ad F vs ds) (lo hi : Option Int) : DxA ad F (cutV vs lo hi) (cutD ds lo hi) := by
  unfold cutV cutD
  rw [h.length]
  exact (h.drop _).take _
theorem cut_whole {F : Addr → HO → Prop} {vs : List V} {ds : List D} {lo hi : Option Int} (h : DxA ad F vs ds) (hw : HT.sIx vs.length 0 lo = 0 ∧ HT.sIx vs.length vs.length hi = vs.length) : cutD ds lo hi = ds := by
  unfold cutD
  rw [h.length] at hw
  rw [hw.1, hw.2, List.drop_zero, Nat.sub_zero, List.take_length]
def eSl (fa : DE) (lo hi : DO) : DE := fun ρ Q Ed => fa ρ (fun x => lo ρ (fun l => hi ρ (fun u => match x with
  | .lst xs => Q (.lst (cutD xs l u))
  | .tup xs => Q (.tup (cutD xs l u))
  | _ => False) Ed) Ed) Ed
theorem pdSl {lo hi : Option Expr} {fl fh : DO} (ha : PD X ad E Ed a fa) (hl : OD X ad E Ed lo fl) (hh : OD X ad E Ed hi fh) : PD X ad E Ed (.Subscript a (.Slice lo hi none p2) pos) (eSl fa fl fh) :=
  ⟨weakE (pe_slice (SlR.or sl_list sl_tupA) ha.pe hl.po hh.po) fun σ H Q ⟨B, s, ρ, Qd, W, h, k⟩ => ⟨B, s, ρ, _, W, h, fun x v H1 hx f1 dx => ⟨B, s, ρ, _, W.frm f1, hx, fun l H2 hl f2 => ⟨B, s, ρ, _, (W.frm f1).frm f2, hl, fun u H3 hu f3 => by
    have w3 := (((W.frm f1).frm f2).frm f3).wd
    have ff := f1.trans (f2.trans f3)
    have dx := (W.frm f1).wd.dx (f2.trans f3) dx
    split at hu
    · cases dx with
      | lst ea ra => exact .inl ⟨_, _, rfl, .inl (.inl ea.2), fun p hp => k _ _ _ hu (ff.trans (w3.new hp)) (.lst ⟨w3.nb hp, upd_same⟩ ((ra.cut l u).mono (w3.fz (w3.new hp))))⟩
    · cases dx with
      | tup ea ra =>
        refine .inr ⟨_, _, rfl, .inl (.inl ea.2), fun hw => ?_, fun _ p hp => k _ _ _ hu (ff.trans (w3.new hp)) (.tup ⟨w3.nb hp, upd_same⟩ ((ra.cut l u).mono (w3.fz (w3.new hp))))⟩
        refine k _ _ _ hu ff ?_
        rw [cut_whole ra hw]
        exact .tup ea ra
    · exact hu.elim⟩⟩⟩⟩
/-! ### built-ins -/
/-- a call of a built-in with data: r by values, o by data -/
def CaD (ad : Str → Addr) (r : List V → Hp → VK → Prop) (o : List D → (D → Prop) → Prop) : Prop := ∀ (B : Addr → Prop) (s : SO) (H : Hp) (vs : List V) (ds : List D) (Qd : D → Prop) (Q : VK), Wd B s H → DxA ad (Fz B H) vs ds → o ds Qd →
  (∀ d v H', Qd d → Frm s H H' → Dx ad (Fz B H') v d → Q v H') → r vs H Q
def eB (o : List D → (D → Prop) → Prop) (g : DA) : DE := fun ρ Q Ed => g ρ (fun as => match dats as with
  | some ds => o ds Q
  | none => False) Ed
theorem eB_of {r : List V → Hp → VK → Prop} {o : List D → (D → Prop) → Prop} (hr : CaD ad r o) : ∀ σ H Q, teD ad E Ed (eB o ga) σ H Q → tCB r (taD ad E Ed n ga) σ H Q := fun σ H Q ⟨B, s, ρ, Qd, W, h, k⟩ => ⟨B, s, ρ, _, W, h, fun as vs H1 ha hl f1 da => by
    split at ha
    · rename_i ds e
      rw [dats_ok e] at da
      exact hr B s H1 vs ds Qd Q (W.frm f1).wd da.dat ha fun d v H' hd f dv => k d v H' hd (f1.trans f) dv
    · exact ha.elim⟩
theorem pdB {id : String} {r : List V → Hp → VK → Prop} {o : List D → (D → Prop) → Prop} (hc : CallR X (.builtin id) r) (hr : CaD ad r o) (hg : Gl X x) (hm : X.mg x = none) (hv : bootBuiltins x = some (.builtin id)) (ha : AD X ad E Ed (e :: es) n ga)
    (hn : x ≠ "__name__" := by decide) (hdb : (x == ("__debug__" : Str)) = false := by decide) (he : starEach (e :: es) X.env = (false, eval e X.env) :: starEach es X.env := by rfl) (hpl : (backTo pos (starEach es X.env)).any (·.1) = false := by rfl) :
    PD X ad E Ed (.Call (.Name x p) (e :: es) [] pos) (eB o ga) := ⟨weakE (pe_callB hc hg hm hv ha.pa hn hdb he hpl) (eB_of hr)⟩
theorem pdTy {T : String} {r : List V → Hp → VK → Prop} {o : List D → (D → Prop) → Prop} (hc : CallR X (.type T) r) (hr : CaD ad r o) (hg : Gl X x) (hm : X.mg x = none) (hv : bootBuiltins x = some (.type T)) (ha : AD X ad E Ed (e :: es) n ga)
    (hn : x ≠ "__name__" := by decide) (hdb : (x == ("__debug__" : Str)) = false := by decide) (he : starEach (e :: es) X.env = (false, eval e X.env) :: starEach es X.env := by rfl) (hpl : (backTo pos (starEach es X.env)).any (·.1) = false := by rfl) :
    PD X ad E Ed (.Call (.Name x p) (e :: es) [] pos) (eB o ga) := ⟨weakE (pe_callTy hc hg hm hv ha.pa hn hdb he hpl) (eB_of hr)⟩
def oLen : List D → (D → Prop) → Prop
  | [.lst xs], Q => Q (.int xs.length)
  | [.tup xs], Q => Q (.int xs.length)
  | [.dct xs], Q => Q (.int xs.length)
  | _, _ => False
theorem DxK.length {F : Addr → HO → Prop} : ∀ {xs : List (Key × V)} {ds : List (Key × D)}, DxK ad F xs ds → xs.length = ds.length
  | _, _, .nil => rfl
  | _, _, .cons _ r => congrArg Nat.succ (DxK.length r)
theorem pdLen (hg : Gl X "len") (hm : X.mg "len" = none) (ha : AD X ad E Ed [e] n ga) (he : starEach [e] X.env = (false, eval e X.env) :: starEach [] X.env := by rfl) (hpl : (backTo pos (starEach [] X.env)).any (·.1) = false := by rfl) : PD X ad E Ed (.Call (.Name "len" p) [e] [] pos) (eB oLen ga) :=
  pdB (CallR.or call_len_seq call_lenD) (fun B s H vs ds Qd Q w da h k => by
    unfold oLen at h
    split at h
    · cases da with
      | cons a r => cases r; cases a with
        | lst ea ra => exact .inl ⟨_, _, rfl, .inl (.inl (.inl ea.2)), k _ _ H h w.refl (by rw [ra.length]; exact .int _)⟩
    · cases da with
      | cons a r => cases r; cases a with
        | tup ea ra => exact .inl ⟨_, _, rfl, .inr (.inl (.inl ea.2)), k _ _ H h w.refl (by rw [ra.length]; exact .int _)⟩
    · cases da with
      | cons a r => cases r; cases a with
        | dct ea ra => exact .inr ⟨_, _, rfl, ea.2, k _ _ H h w.refl (by rw [ra.length]; exact .int _)⟩
    · exact h.elim) hg hm PySem.boot_len ha (by decide) (by decide) he hpl
def oList : List D → (D → Prop) → Prop
  | [.lst xs], Q => Q (.lst xs)
  | [.tup xs], Q => Q (.lst xs)
  | _, _ => False
theorem pdList (hg : Gl X "list") (hm : X.mg "list" = none) (ha : AD X ad E Ed [e] n ga) (he : starEach [e] X.env = (false, eval e X.env) :: starEach [] X.env := by rfl) (hpl : (backTo pos (starEach [] X.env)).any (·.1) = false := by rfl) : PD X ad E Ed (.Call (.Name "list" p) [e] [] pos) (eB oList ga) :=
  pdTy call_list_of (fun B s H vs ds Qd Q w da h k => by
    unfold oList at h
    split at h
    · cases da with
      | cons a r => cases r; cases a with
        | lst ea ra => exact ⟨_, _, rfl, .inl (.inl (.inl ea.2)), fun l hl => k _ _ _ h (w.new hl) (.lst ⟨w.nb hl, upd_same⟩ (ra.mono (w.fz (w.new hl))))⟩
    · cases da with
      | cons a r => cases r; cases a with
        | tup ea ra => exact ⟨_, _, rfl, .inr (.inl (.inl ea.2)), fun l hl => k _ _ _ h (w.new hl) (.lst ⟨w.nb hl, upd_same⟩ (ra.mono (w.fz (w.new hl))))⟩
    · exact h.elim) hg hm PyProof.Rows.boot_list ha (by decide) (by decide) he hpl
def oTuple : D → (D → Prop) → Prop
  | .lst xs, Q => Q (.tup xs)
  | .tup xs, Q => Q (.tup xs)
  | _, _ => False
theorem pdTuple (hg : Gl X "tuple") (hm : X.mg "tuple" = none) (ha : PD X ad E Ed a fa) (he : starEach [a] X.env = (false, eval a X.env) :: starEach [] X.env := by rfl) : PD X ad E Ed (.Call (.Name "tuple" p) [a] [] pos) (e1 oTuple fa) :=
  ⟨weakE (pe_tupleOf hg hm ha.pe he) fun σ H Q ⟨B, s, ρ, Qd, W, h, k⟩ => ⟨B, s, ρ, _, W, h, fun d v H1 hd f1 dv => by
    have w := (W.frm f1).wd
    unfold oTuple at hd
    split at hd
    · cases dv with
      | lst ea ra => exact .inl ⟨_, _, rfl, .inl (.inl ea.2), fun l hl => k _ _ _ hd (f1.trans (w.new hl)) (.tup ⟨w.nb hl, upd_same⟩ (ra.mono (w.fz (w.new hl))))⟩
    · cases dv with
      | tup ea ra => exact .inr ⟨_, _, rfl, .inl (.inl ea.2), k _ _ _ hd f1 (.tup ea ra)⟩
    · exact hd.elim⟩⟩
def oAbs : List D → (D → Prop) → Prop
  | [.int i], Q => Q (.int (if i < 0 then -i else i))
  | _, _ => False
theorem pdAbs (hg : Gl X "abs") (hm : X.mg "abs" = none) (ha : AD X ad E Ed [e] n ga) (he : starEach [e] X.env = (false, eval e X.env) :: starEach [] X.env := by rfl) (hpl : (backTo pos (starEach [] X.env)).any (·.1) = false := by rfl) : PD X ad E Ed (.Call (.Name "abs" p) [e] [] pos) (eB oAbs ga) :=
  pdB call_abs (fun B s H vs ds Qd Q w da h k => by
    unfold oAbs at h
    split at h
    · cases da with
      | cons a r => cases r; cases a; exact ⟨_, rfl, k _ _ H h w.refl (.int _)⟩
    · exact h.elim) hg hm PyProof.Rows.boot_abs ha (by decide) (by decide) he hpl
def oMin2 : List D → (D → Prop) → Prop
  | [.int i, .int j], Q => Q (.int (if j < i then j else i))
  | _, _ => False
theorem pdMin2 {e' : Expr} (hc : X.calm = true) (hg : Gl X "min") (hm : X.mg "min" = none) (ha : AD X ad E Ed [e, e'] n ga) (he : starEach [e, e'] X.env = (false, eval e X.env) :: starEach [e'] X.env := by rfl) (hpl : (backTo pos (starEach [e'] X.env)).any (·.1) = false := by rfl) : PD X ad E Ed (.Call (.Name "min" p) [e, e'] [] pos) (eB oMin2 ga) :=
  pdB (call_min2 hc) (fun B s H vs ds Qd Q w da h k => by
    unfold oMin2 at h
    split at h
    · cases da with
      | cons a r => cases r with
        | cons b r => cases r; cases a; cases b; exact ⟨_, _, rfl, k _ _ H h w.refl (.int _)⟩
    · exact h.elim) hg hm PyProof.Rows.boot_min ha (by decide) (by decide) he hpl
def oInt1 : List D → (D → Prop) → Prop
  | [.int i], Q => Q (.int i)
  | [.bl b], Q => Q (.int (if b then 1 else 0))
  | _, _ => False
theorem pdInt1 (hg : Gl X "int") (hm : X.mg "int" = none) (ha : AD X ad E Ed [e] n ga) (he : starEach [e] X.env = (false, eval e X.env) :: starEach [] X.env := by rfl) (hpl : (backTo pos (starEach [] X.env)).any (·.1) = false := by rfl) : PD X ad E Ed (.Call (.Name "int" p) [e] [] pos) (eB oInt1 ga) :=
  pdTy call_int1 (fun B s H vs ds Qd Q w da h k => by
    unfold oInt1 at h
    split at h
    · cases da with
      | cons a r => cases r; cases a; exact .inl ⟨_, rfl, k _ _ H h w.refl (.int _)⟩
    · cases da with
      | cons a r => cases r; cases a; exact .inr ⟨_, rfl, k _ _ H h w.refl (.int _)⟩
    · exact h.elim) hg hm PyProof.Rows.boot_int ha (by decide) (by decide) he hpl
/-- repr: of data that is short -/
def oRepr : List D → (D → Prop) → Prop
  | [d], Q => (match d with | .tup _ => True | .lst _ => True | .dct _ => True | _ => False) ∧ ∃ p, pyR d = some p ∧ Sr p ∧ Q (.str p.shown)
  | _, _ => False
theorem pdRepr (gd : X.A.guards = some []) (hu : X.A.units + 64 < cLine) (hg : Gl X "repr") (hm : X.mg "repr" = none) (ha : AD X ad E Ed [e] n ga) (he : starEach [e] X.env = (false, eval e X.env) :: starEach [] X.env := by rfl) (hpl : (backTo pos (starEach [] X.env)).any (·.1) = false := by rfl) : PD X ad E Ed (.Call (.Name "repr" p) [e] [] pos) (eB oRepr ga) :=
  pdB (call_repr gd hu) (fun B s H vs ds Qd Q w da h k => by
    unfold oRepr at h
    split at h
    · obtain ⟨hk, p, e, sr, h⟩ := h
      cases da with
      | cons a r =>
        cases r
        have dv := a.dv e
        cases a with
        | tup ea ra => exact ⟨_, p, rfl, dv, sr, k _ _ H h w.refl (.str _)⟩
        | lst ea ra => exact ⟨_, p, rfl, dv, sr, k _ _ H h w.refl (.str _)⟩
        | dct ea ra => exact ⟨_, p, rfl, dv, sr, k _ _ H h w.refl (.str _)⟩
        | _ => exact hk.elim
    · exact h.elim) hg hm PyProof.Rows.boot_repr ha (by decide) (by decide) he hpl
end
end DL

set_option Elab.async false
set_option linter.all false
set_option maxRecDepth 100000
set_option maxHeartbeats 2000000
namespace DL
open PySem PySem.Spec PyProof.Rows L2 BT
/-! ### statements -/
structure Ct where
  A : Addr → Prop
  s : SO
  Z : Addr → HO → Prop
def Bl (c : Ct) (P : Nat → Option Addr) : Addr → Prop := fun b => c.A b ∨ ∃ i, P i = some b
structure Rep (ad : Str → Addr) (c : Ct) (P : Nat → Option Addr) (H : Hp) (σ : L2.St) (ρ : List Sl) : Prop where
  wd : Wd (Bl c P) c.s H
  sa : ∀ l a, c.s = some (l, a) → c.A a ∧ c.A l ∧ ∀ o, ¬ c.Z a o
  z : ∀ b o, c.Z b o → H b = some o
  ow : ∀ i p, P i = some p → ¬ c.A p ∧ ∀ o, ¬ c.Z p o
  inj : ∀ i j p, P i = some p → P j = some p → i = j
  sl : ∀ (i : Nat) (sl : Sl), ρ[i]? = some sl → SlR ad (Bl c P) c.s H (σ[i]?) sl
  own : ∀ (i : Nat) (xs : List D), ρ[i]? = some (.own xs) → ∃ p, P i = some p ∧ σ[i]? = some (some (.ref p))
  ownD : ∀ (i : Nat) (xs : List (Key × D)), ρ[i]? = some (.ownD xs) → ∃ p, P i = some p ∧ σ[i]? = some (some (.ref p))
  len : σ.length = ρ.length
structure TieC (ad : Str → Addr) (E : L2.St → XK) (Ed : DXt) (c : Ct) : Prop where
  t : ∀ P σ ρ H cn d v x, Rep ad c P H σ ρ → Dx ad (Fz (Bl c P) H) v d → H x = none → Ed ρ cn d → E σ (.ref (ad cn)) (some x) (upd H x (.xd [("what", v)]))
structure DEnds where
  nx : List Sl → Prop
  ct : List Sl → Prop := fun _ => False
  bk : List Sl → Prop := fun _ => False
  rt : D → Prop
structure EnT (ad : Str → Addr) (c : Ct) (De : DEnds) (Dn : Ends) : Prop where
  nx : ∀ P σ ρ H, Rep ad c P H σ ρ → De.nx ρ → Dn.nx σ H
  ct : ∀ P σ ρ H, Rep ad c P H σ ρ → De.ct ρ → Dn.ct σ H
  bk : ∀ P σ ρ H, Rep ad c P H σ ρ → De.bk ρ → Dn.bk σ H
  rt : ∀ P σ ρ H d v, Rep ad c P H σ ρ → Dx ad (Fz (Bl c P) H) v d → De.rt d → Dn.rt v H
abbrev DS := DEnds → List Sl → DXt → Prop
def tsD (ad : Str → Addr) (E : L2.St → XK) (Ed : DXt) (g : DS) : TS := fun Dn σ H => ∃ c P ρ De, Rep ad c P H σ ρ ∧ TieC ad E Ed c ∧ EnT ad c De Dn ∧ g De ρ Ed
structure SD (X : Cx) (ad : Str → Addr) (E : L2.St → XK) (Ed : DXt) (st : Stmt) (g : DS) : Prop where
  ps : PS X st (tsD ad E Ed g)
structure BS (X : Cx) (ad : Str → Addr) (E : L2.St → XK) (Ed : DXt) (st : List Stmt) (g : DS) : Prop where
  ps : PSs X st (tsD ad E Ed g)
section
variable {ad : Str → Addr} {c : Ct} {P : Nat → Option Addr} {H H1 : Hp} {σ : L2.St} {ρ : List Sl} {E : L2.St → XK} {Ed : DXt}
theorem Rep.frm (r : Rep ad c P H σ ρ) (f : Frm c.s H H1) : Rep ad c P H1 σ ρ :=
  ⟨r.wd.frm f, r.sa, fun b o h => f.st b o (fun l a e q => (r.sa l a e).2.2 o (q ▸ h)) (r.z b o h), r.ow, r.inj, fun i sl e => (r.sl i sl e).frm r.wd f, r.own, r.ownD, r.len⟩
theorem Rep.wl (r : Rep ad c P H σ ρ) (t : TieC ad E Ed c) : Wl ad E Ed (Bl c P) c.s ρ σ H := ⟨⟨r.wd, r.sl, r.len⟩, fun cn d v x H' f dv hx he => t.t P σ ρ H' cn d v x (r.frm f) dv hx he⟩
theorem Rep.refl (r : Rep ad c P H σ ρ) : Frm c.s H H := r.wd.refl
theorem Rep.weak {c' : Ct} (hA : c'.A = c.A) (hs : c'.s = c.s) (hZ : ∀ b o, c'.Z b o → c.Z b o) (r : Rep ad c P H σ ρ) : Rep ad c' P H σ ρ := by
  obtain ⟨A, s, Z⟩ := c
  obtain ⟨A', s', Z'⟩ := c'
  cases hA; cases hs
  exact ⟨r.wd, fun l a e => ⟨(r.sa l a e).1, (r.sa l a e).2.1, fun o q => (r.sa l a e).2.2 o (hZ _ _ q)⟩, fun b o q => r.z b o (hZ _ _ q), fun i p e => ⟨(r.ow i p e).1, fun o q => (r.ow i p e).2 o (hZ _ _ q)⟩, r.inj, r.sl, r.own, r.ownD, r.len⟩
def rm (P : Nat → Option Addr) (i : Nat) : Nat → Option Addr := fun j => if j = i then none else P j
def st (P : Nat → Option Addr) (i : Nat) (p : Addr) : Nat → Option Addr := fun j => if j = i then some p else P j
theorem rm_some {i j : Nat} {p : Addr} (h : rm P i j = some p) : P j = some p ∧ j ≠ i := by
  unfold rm at h
  split at h
  · cases h
  · rename_i n; exact ⟨h, n⟩
theorem bl_rm (i : Nat) : ∀ b, Bl c (rm P i) b → Bl c P b := fun b h => h.imp id fun ⟨j, e⟩ => ⟨j, (rm_some e).1⟩
theorem fz_rm (i : Nat) : ∀ b o, Fz (Bl c P) H b o → Fz (Bl c (rm P i)) H b o := fun b o h => ⟨fun q => h.1 (bl_rm i b q), h.2⟩
theorem SlR.rm {i j : Nat} {o : Option (Option V)} (hji : j ≠ i) : ∀ {sl : Sl}, SlR ad (Bl c P) c.s H o sl → ((∃ xs, sl = .own xs) ∨ (∃ xs, sl = .ownD xs) → ∃ p, P j = some p ∧ o = some (some (.ref p))) → SlR ad (Bl c (rm P i)) c.s H o sl
  | .un, h, _ => h
  | .dat d, ⟨v, e, h⟩, _ => ⟨v, e, h.mono (fz_rm i)⟩
  | .own xs, ⟨p, vs, e, b, n, h, r⟩, k => by
    obtain ⟨q, e1, e2⟩ := k (.inl ⟨_, rfl⟩)
    rw [e] at e2
    have : p = q := by injection e2 with e2; injection e2 with e2; injection e2
    subst this
    exact ⟨p, vs, e, .inr ⟨j, by unfold DL.rm; rw [if_neg hji]; exact e1⟩, n, h, r.mono (fz_rm i)⟩
  | .ownD xs, ⟨p, vs, e, b, n, h, r⟩, k => by
    obtain ⟨q, e1, e2⟩ := k (.inr ⟨_, rfl⟩)
    rw [e] at e2
    have : p = q := by injection e2 with e2; injection e2 with e2; injection e2
    subst this
    exact ⟨p, vs, e, .inr ⟨j, by unfold DL.rm; rw [if_neg hji]; exact e1⟩, n, h, r.mono (fz_rm i)⟩
  | .src, h, _ => h
  | .exc a x d, ⟨v, e, h, r⟩, _ => ⟨v, e, h, r.mono (fz_rm i)⟩
theorem Rep.ownAt (r : Rep ad c P H σ ρ) {j : Nat} {sl : Sl} (e : ρ[j]? = some sl) : ((∃ xs, sl = .own xs) ∨ (∃ xs, sl = .ownD xs) → ∃ p, P j = some p ∧ σ[j]? = some (some (.ref p))) := fun h => by
  rcases h with ⟨xs, rfl⟩ | ⟨xs, rfl⟩
  · exact r.own j xs e
  · exact r.ownD j xs e
/-- a slot is given a value, what it owned is let go -/
theorem Rep.setS (r : Rep ad c P H σ ρ) {i : Nat} {v : Option V} {sl : Sl} (hs : ∀ xs, sl ≠ .own xs) (hd : ∀ xs, sl ≠ .ownD xs) (h : SlR ad (Bl c (rm P i)) c.s H (some v) sl) : Rep ad c (rm P i) H (σ.set i v) (ρ.set i sl) := by
  refine ⟨⟨fun b q => r.wd.al b (bl_rm i b q), fun l a e => ⟨(r.wd.sr l a e).1, .inl (r.sa l a e).1, .inl (r.sa l a e).2.1⟩⟩, r.sa, r.z, fun j p e => r.ow j p (rm_some e).1, fun j k p e1 e2 => r.inj j k p (rm_some e1).1 (rm_some e2).1, fun j sl' e => ?_, fun j xs e => ?_, fun j xs e => ?_, by rw [List.length_set, List.length_set, r.len]⟩
  · by_cases hj : j = i
    · subst hj
      by_cases hl : j < ρ.length
      · rw [List.getElem?_set_self hl] at e
        cases e
        rw [List.getElem?_set_self (by rw [r.len]; exact hl)]
        exact h
      · rw [List.getElem?_eq_none (by rw [List.length_set]; omega)] at e; cases e
    · rw [List.getElem?_set_ne (Ne.symm hj)] at e ⊢
      exact (r.sl j sl' e).rm hj (r.ownAt e)
  · by_cases hj : j = i
    · subst hj
      by_cases hl : j < ρ.length
      · rw [List.getElem?_set_self hl] at e
        exact absurd (Option.some.inj e) (hs xs)
      · rw [List.getElem?_eq_none (by rw [List.length_set]; omega)] at e; cases e
    · rw [List.getElem?_set_ne (Ne.symm hj)] at e ⊢
      obtain ⟨p, h1, h2⟩ := r.own j xs e
      exact ⟨p, by unfold rm; rw [if_neg hj]; exact h1, h2⟩
  · by_cases hj : j = i
    · subst hj
      by_cases hl : j < ρ.length
      · rw [List.getElem?_set_self hl] at e
        exact absurd (Option.some.inj e) (hd xs)
      · rw [List.getElem?_eq_none (by rw [List.length_set]; omega)] at e; cases e
    · rw [List.getElem?_set_ne (Ne.symm hj)] at e ⊢
      obtain ⟨p, h1, h2⟩ := r.ownD j xs e
      exact ⟨p, by unfold rm; rw [if_neg hj]; exact h1, h2⟩
theorem Rep.setD (r : Rep ad c P H σ ρ) {i : Nat} {v : V} {d : D} (h : Dx ad (Fz (Bl c P) H) v d) : Rep ad c (rm P i) H (σ.set i (some v)) (ρ.set i (.dat d)) :=
  r.setS (fun _ e => (nomatch e)) (fun _ e => (nomatch e)) ⟨v, rfl, h.mono (fz_rm i)⟩
/-- a list of its own is no longer written -/
theorem Rep.freeze (r : Rep ad c P H σ ρ) {i : Nat} {xs : List D} (e : ρ[i]? = some (.own xs)) : Rep ad c (rm P i) H σ (ρ.set i (.dat (.lst xs))) := by
  obtain ⟨p, e1, e2⟩ := r.own i xs e
  obtain ⟨q, vs, e3, b, n, h, da⟩ := r.sl i _ e
  rw [e2] at e3
  have : p = q := by injection e3 with e3; injection e3 with e3; injection e3
  subst this
  have np : ¬ Bl c (rm P i) p := fun q => by
    rcases q with q | ⟨j, q⟩
    · exact (r.ow i p e1).1 q
    · exact (rm_some q).2 (r.inj j i p (rm_some q).1 e1)
  have key := r.setS (i := i) (v := some (.ref p)) (sl := .dat (.lst xs)) (fun _ e => (nomatch e)) (fun _ e => (nomatch e)) ⟨_, rfl, .lst ⟨np, h⟩ (da.mono (fz_rm i))⟩
  have hl : i < σ.length := (List.getElem?_eq_some_iff.mp e2).1
  have e4 : σ.set i (some (.ref p)) = σ := by
    refine List.ext_getElem? fun j => ?_
    by_cases hj : j = i
    · subst hj; rw [List.getElem?_set_self hl, e2]
    · rw [List.getElem?_set_ne (Ne.symm hj)]
  rw [e4] at key
  exact key
end
section
variable {X : Cx} {ad : Str → Addr} {E : L2.St → XK} {Ed : DXt} {a b e : Expr} {fa fb : DE} {pos pos' : Pos} {s1 : Stmt} {ss sa sb : List Stmt} {g ga gb : DS} {tc : DT}
theorem tie_e (c : Ct) (P : Nat → Option Addr) (ρ : List Sl) (De : DEnds) (Dn : Ends) {σ : L2.St} {H : Hp} {Qd : D → Prop} (r : Rep ad c P H σ ρ) (t : TieC ad E Ed c) (h : fa ρ Qd Ed) {Q : VK} (k : ∀ d v H1, Qd d → Rep ad c P H1 σ ρ → Frm c.s H H1 → Dx ad (Fz (Bl c P) H1) v d → Q v H1) : teD ad E Ed fa σ H Q :=
  ⟨Bl c P, c.s, ρ, Qd, r.wl t, h, fun d v H1 hd f dv => k d v H1 hd (r.frm f) f dv⟩
theorem tie_t {c : Ct} {P : Nat → Option Addr} {ρ : List Sl} {σ : L2.St} {H : Hp} {Qd : Bool → Prop} (r : Rep ad c P H σ ρ) (t : TieC ad E Ed c) (h : tc ρ Qd Ed) {Q : Bool → Hp → Prop} (k : ∀ b H1, Qd b → Rep ad c P H1 σ ρ → Q b H1) : ttD ad E Ed tc σ H Q :=
  ⟨Bl c P, c.s, ρ, Qd, r.wl t, h, fun b H1 hd f => k b H1 hd (r.frm f)⟩
def sNil : DS := fun De ρ _ => De.nx ρ
def sSeq (g h : DS) : DS := fun De ρ Ed => g { De with nx := fun ρ' => h De ρ' Ed } ρ Ed
theorem bsNil : BS X ad E Ed [] sNil := ⟨weakSs pss_nil fun Dn σ H ⟨c, P, ρ, De, r, t, en, h⟩ => en.nx P σ ρ H r h⟩
theorem bsOne (h : SD X ad E Ed s1 g) : BS X ad E Ed [s1] g := ⟨pss_one h.ps⟩
theorem bsCons (h : SD X ad E Ed s1 g) (h2 : BS X ad E Ed ss gb) : BS X ad E Ed (s1 :: ss) (sSeq g gb) :=
  ⟨weakSs (pss_cons h.ps h2.ps) fun Dn σ H ⟨c, P, ρ, De, r, t, en, h⟩ => ⟨c, P, ρ, { De with nx := fun ρ' => gb De ρ' Ed }, r, t, ⟨fun P' σ' ρ' H' r' q => ⟨c, P', ρ', De, r', t, en, q⟩, en.ct, en.bk, en.rt⟩, h⟩⟩
def sExp (f : DE) : DS := fun De ρ Ed => f ρ (fun _ => De.nx ρ) Ed
theorem sdExp (h : PD X ad E Ed e fa) (hs : swapsWith e none pos.line X.env = pure false := by rfl) : SD X ad E Ed (.Expr e pos) (sExp fa) :=
  ⟨weakS (ps_expr h.pe hs) fun Dn σ H ⟨c, P, ρ, De, r, t, en, h⟩ => tie_e c P ρ De Dn r t h fun d v H1 hd r1 _ _ => en.nx P σ ρ H1 r1 hd⟩
theorem sdDoc {x : Str} {j : Nat} : SD X ad E Ed (.Expr (.Constant (.str x) j pos) pos') sNil := ⟨weakS ps_doc fun Dn σ H ⟨c, P, ρ, De, r, t, en, h⟩ => en.nx P σ ρ H r h⟩
def sRet (f : DE) : DS := fun De ρ Ed => f ρ De.rt Ed
theorem sdRet (h : PD X ad E Ed e fa) : SD X ad E Ed (.Return (some e) pos) (sRet fa) :=
  ⟨weakS (ps_ret h.pe) fun Dn σ H ⟨c, P, ρ, De, r, t, en, h⟩ => tie_e c P ρ De Dn r t h fun d v H1 hd r1 _ dv => en.rt P σ ρ H1 d v r1 dv hd⟩
def sIf (t : DT) (g h : DS) : DS := fun De ρ Ed => t ρ (fun c => if c = true then g De ρ Ed else h De ρ Ed) Ed
theorem sdIf (hc : TD X ad E Ed e tc) (ha : BS X ad E Ed sa ga) (hb : BS X ad E Ed sb gb) : SD X ad E Ed (.If e sa sb pos) (sIf tc ga gb) :=
  ⟨weakS (ps_if hc.pt ha.ps hb.ps) fun Dn σ H ⟨c, P, ρ, De, r, t, en, h⟩ => tie_t r t h fun b H1 hb r1 => by
    cases b with
    | true => exact ⟨c, P, ρ, De, r1, t, en, hb⟩
    | false => exact ⟨c, P, ρ, De, r1, t, en, hb⟩⟩
def sPass : DS := fun De ρ _ => De.nx ρ
def sCont : DS := fun De ρ _ => De.ct ρ
def sBrk : DS := fun De ρ _ => De.bk ρ
theorem sdCont : SD X ad E Ed (.Continue pos) sCont := ⟨weakS ps_continue fun Dn σ H ⟨c, P, ρ, De, r, t, en, h⟩ => en.ct P σ ρ H r h⟩
theorem sdBrk : SD X ad E Ed (.Break pos) sBrk := ⟨weakS ps_break fun Dn σ H ⟨c, P, ρ, De, r, t, en, h⟩ => en.bk P σ ρ H r h⟩
theorem sdPass : SD X ad E Ed (.Pass pos) sPass := ⟨weakS ps_pass fun Dn σ H ⟨c, P, ρ, De, r, t, en, h⟩ => en.nx P σ ρ H r h⟩
/-- name = value -/
def sSet (i : Nat) (f : DE) : DS := fun De ρ Ed => f ρ (fun d => De.nx (ρ.set i (.dat d))) Ed
theorem sdSet {i : Nat} {x : Str} (ps : ∀ {te : TE}, PE X e te → PS X (.Assign [.Name x pos'] e pos) (tAsg te (gName i))) (h : PD X ad E Ed e fa) : SD X ad E Ed (.Assign [.Name x pos'] e pos) (sSet i fa) :=
  ⟨weakS (ps h.pe) fun Dn σ H ⟨c, P, ρ, De, r, t, en, h⟩ => tie_e c P ρ De Dn r t h fun d v H1 hd r1 _ dv => en.nx _ _ _ H1 (r1.setD dv) hd⟩
/-- name op= value -/
def IpD (ad : Str → Addr) (ti : TIp) (o : D → D → (D → Prop) → Prop) : Prop := ∀ (B : Addr → Prop) (s : SO) (H : Hp) (x y : V) (dx dy : D) (Qd : D → Prop) (Q : VK), Wd B s H → Dx ad (Fz B H) x dx → Dx ad (Fz B H) y dy → o dx dy Qd →
  (∀ d v H', Qd d → Frm s H H' → Dx ad (Fz B H') v d → Q v H') → ti x y H Q
def sAug (i : Nat) (o : D → D → (D → Prop) → Prop) (f : DE) : DS := fun De ρ Ed => match ρ[i]? with
  | some (.dat x) => f ρ (fun y => o x y fun d => De.nx (ρ.set i (.dat d))) Ed
  | _ => False
theorem sdAug {i : Nat} {x : Str} {op : Operator} {ti : TIp} {o : D → D → (D → Prop) → Prop} (ps : ∀ {te : TE}, PE X e te → PS X (.AugAssign (.Name x pos') op e pos) (tAug i te ti)) (ho : OpD ad ti o) (h : PD X ad E Ed e fa) : SD X ad E Ed (.AugAssign (.Name x pos') op e pos) (sAug i o fa) :=
  ⟨weakS (ps h.pe) fun Dn σ H ⟨c, P, ρ, De, r, t, en, h⟩ => by
    unfold sAug at h
    split at h
    · rename_i d e
      obtain ⟨v, ev, dv⟩ := r.sl i _ e
      exact ⟨v, ev, tie_e c P ρ De Dn r t h fun d2 v2 H1 hd r1 f1 dv2 => ho (Bl c P) c.s H1 v v2 d d2 _ _ r1.wd (r.wd.dx f1 dv) dv2 hd fun d3 v3 H2 hd3 f2 dv3 => en.nx _ _ _ H2 ((r1.frm f2).setD dv3) hd3⟩
    · exact h.elim⟩
/-- a list that was written is read from now on -/
def sFrz (i : Nat) (g : DS) : DS := fun De ρ Ed => match ρ[i]? with
  | some (.own xs) => g De (ρ.set i (.dat (.lst xs))) Ed
  | _ => g De ρ Ed
theorem sdFrz (i : Nat) (h : SD X ad E Ed s1 g) : SD X ad E Ed s1 (sFrz i g) := ⟨weakS h.ps fun Dn σ H ⟨c, P, ρ, De, r, t, en, h⟩ => by
    unfold sFrz at h
    split at h
    · rename_i xs e
      exact ⟨c, _, _, De, r.freeze e, t, en, h⟩
    · exact ⟨c, P, ρ, De, r, t, en, h⟩⟩
/-! ### raise -/
def sRaise (cn : Str) (f : DE) : DS := fun _ ρ Ed => f ρ (fun d => Ed ρ cn d) Ed
theorem mono_teD (f : DE) : MonoE (teD ad E Ed f) := fun σ H Q Q' hq ⟨B, s, ρ, Qd, W, h, k⟩ => ⟨B, s, ρ, Qd, W, h, fun d v H' hd f dv => hq _ _ (k d v H' hd f dv)⟩
theorem sdRaise {k : Nat} {x : Str} {p p2 : Pos} (D : ErrC X.prog X.w X.K X.mg X.base x (ad x)) (hr : Room k X.A) (hc : X.calm = true) (tk : Takes X (fun cls d σ H => E σ cls d H)) (hg : Gl X x) (he : PD X ad E Ed e fa) (hk : 2 ≤ k := by decide)
    (hdb : (x == ("__debug__" : Str)) = false := by decide) (hs : starEach [e] X.env = (false, eval e X.env) :: starEach [] X.env := by rfl) (hpl : (backTo pos (starEach [] X.env)).any (·.1) = false := by rfl) :
    SD X ad E Ed (.Raise (some (.Call (.Name x p) [e] [] pos)) none p2) (sRaise x fa) :=
  ⟨weakS (ps_err D hr hc tk hg he.pe (mono_teD fa) hk hdb hs hpl) fun Dn σ H ⟨c, P, ρ, De, r, t, en, h⟩ => tie_e c P ρ De Dn r t h fun d v H1 hd r1 _ dv x hx => t.t P σ ρ H1 _ d v x r1 dv hx hd⟩
end
end DL

set_option Elab.async false
set_option linter.all false
set_option maxRecDepth 100000
set_option maxHeartbeats 2000000
namespace DL
open PySem PySem.Spec PyProof.Rows L2 BT
/-! ### walks -/
/-- J walks the data xs, which stand in H1 -/
def ItOk (ad : Str → Addr) (B : Addr → Prop) (H1 : Hp) (J : It) (xs : List D) : Prop := ∀ (i : Nat) (H' : Hp) (B' : Addr → Prop) (s : SO), Wd B' s H' → (∀ b o, Fz B H1 b o → Fz B' H' b o) →
  (i = xs.length → J.stop i H') ∧ ∀ x, xs[i]? = some x → J.go i H' ∧ ∀ v H'', J.yld i H' v H'' → Same H' H'' ∧ Dx ad (Fz B' H'') v x
abbrev DI := List Sl → (List D → Prop) → DXt → Prop
def tiD (ad : Str → Addr) (E : L2.St → XK) (Ed : DXt) (f : DI) : TI := fun σ H R => ∃ B s ρ Qd, Wl ad E Ed B s ρ σ H ∧ f ρ Qd Ed ∧ ∀ xs H1 J, Qd xs → Frm s H H1 → ItOk ad B H1 J xs → R J H1
structure ID (X : Cx) (ad : Str → Addr) (E : L2.St → XK) (Ed : DXt) (tg iter : Expr) (f : DI) : Prop where
  pi : PI X tg iter (tiD ad E Ed f)
theorem weakI {X : Cx} {tg e : Expr} {t t' : TI} (h : PI X tg e t) (k : ∀ σ H Q, t' σ H Q → t σ H Q) : PI X tg e t' := ⟨fun pins s σ H Q I q => h.run pins s σ H Q I (k σ H Q q)⟩
section
variable {X : Cx} {ad : Str → Addr} {E : L2.St → XK} {Ed : DXt} {tg a e e' : Expr} {fa : DE} {p pos : Pos} {n : Nat} {ga : DA}
def seqD : D → Option (List D)
  | .lst xs => some xs
  | .tup xs => some xs
  | _ => none
def iSq (f : DE) : DI := fun ρ Q Ed => f ρ (fun d => match seqD d with
  | some xs => Q xs
  | none => False) Ed
theorem itl_ok {K : PySem.W.Frag} {B : Addr → Prop} {H : Hp} {p : Addr} {vs : List V} {xs : List D} (h : Fz B H p (.lst vs)) (da : DxA ad (Fz B H) vs xs) : ItOk ad B H (Itl K p) xs := fun i H' B' s w k =>
  ⟨fun hi => ⟨vs, .inl (.inl (k _ _ h).2), by rw [da.length, hi]; exact Nat.le_refl _⟩, fun x hx => by
    obtain ⟨v, hv, dv⟩ := da.getD hx
    exact ⟨⟨vs, v, .inl (.inl (k _ _ h).2), hv⟩, fun u H'' ⟨e, q⟩ => by
      subst e
      have z := q vs (.inl (.inl (k _ _ h).2))
      rw [hv] at z
      cases Option.some.inj z
      exact ⟨Same.refl _, dv.mono k⟩⟩⟩
theorem itt_ok {K : PySem.W.Frag} {B : Addr → Prop} {H : Hp} {p : Addr} {vs : List V} {xs : List D} (h : Fz B H p (.tup vs)) (da : DxA ad (Fz B H) vs xs) : ItOk ad B H (Itt K p) xs := fun i H' B' s w k =>
  ⟨fun hi => ⟨vs, .inl (.inl (k _ _ h).2), by rw [da.length, hi]; exact Nat.le_refl _⟩, fun x hx => by
    obtain ⟨v, hv, dv⟩ := da.getD hx
    exact ⟨⟨vs, v, .inl (.inl (k _ _ h).2), hv⟩, fun u H'' ⟨e, q⟩ => by
      subst e
      have z := q vs (.inl (.inl (k _ _ h).2))
      rw [hv] at z
      cases Option.some.inj z
      exact ⟨Same.refl _, dv.mono k⟩⟩⟩
theorem idSq (h : PD X ad E Ed e fa) : ID X ad E Ed tg e (iSq fa) := ⟨weakI (pi_seq h.pe) fun σ H R ⟨B, s, ρ, Qd, W, h, k⟩ => ⟨B, s, ρ, _, W, h, fun d v H1 hd f1 dv => by
    cases dv with
    | lst ea ra => exact ⟨_, _, rfl, .inl ⟨.inl (.inl ea.2), k _ H1 _ hd f1 (itl_ok ea ra)⟩⟩
    | tup ea ra => exact ⟨_, _, rfl, .inr ⟨.inl (.inl ea.2), k _ H1 _ hd f1 (itt_ok ea ra)⟩⟩
    | _ => exact hd.elim⟩⟩
/-- whole numbers lo, lo + 1, .., n of them -/
def rgD (lo : Int) (n : Nat) : List D := (List.range n).map fun i : Nat => .int (lo + (i : Int))
theorem rgD_len (lo : Int) (n : Nat) : (rgD lo n).length = n := by unfold rgD; rw [List.length_map, List.length_range]
theorem rgD_get {lo : Int} {n i : Nat} {x : D} (h : (rgD lo n)[i]? = some x) : i < n ∧ x = .int (lo + (i : Int)) := by
  unfold rgD at h
  rw [List.getElem?_map] at h
  have hl : i < n := by
    cases q : (List.range n)[i]? with
    | none => rw [q] at h; cases h
    | some z =>
      have := (List.getElem?_eq_some_iff.mp q).1
      rw [List.length_range] at this; exact this
  rw [List.getElem?_range hl] at h
  exact ⟨hl, (Option.some.inj h).symm⟩
theorem itr_ok {B : Addr → Prop} {H : Hp} {lo : Int} {m : Nat} : ItOk ad B H (Itr lo m) (rgD lo m) := fun i H' B' s w k =>
  ⟨fun hi => by rw [rgD_len] at hi; exact Nat.le_of_eq hi.symm, fun x hx => by
    obtain ⟨h1, rfl⟩ := rgD_get hx
    exact ⟨h1, fun v H'' ⟨e1, e2⟩ => by subst e1 e2; exact ⟨Same.refl _, .int _⟩⟩⟩
def iRg1 (g : DA) : DI := fun ρ Q Ed => g ρ (fun as => match as with
  | [.dat (.int j)] => -(2 ^ 62) ≤ j ∧ j < 2 ^ 62 ∧ Q (rgD 0 j.toNat)
  | _ => False) Ed
theorem idRg1 (hg : Gl X "range") (hm : X.mg "range" = none) (ha : AD X ad E Ed [e] n ga) (hs : starEach [e] X.env = [(false, eval e X.env)] := by rfl) : ID X ad E Ed tg (.Call (.Name "range" p) [e] [] pos) (iRg1 ga) :=
  ⟨weakI (pi_range1 hg hm ha.pa hs) fun σ H R ⟨B, s, ρ, Qd, W, h, k⟩ => ⟨B, s, ρ, _, W, h, fun as vs H1 hd hl f1 da => by
    split at hd
    · rename_i j
      obtain ⟨h1, h2, hd⟩ := hd
      cases da with
      | cons a r =>
        cases r
        cases a
        exact ⟨j, rfl, h1, h2, k _ H1 _ hd f1 itr_ok⟩
    · exact hd.elim⟩⟩
def iRg2 (g : DA) : DI := fun ρ Q Ed => g ρ (fun as => match as with
  | [.dat (.int i), .dat (.int j)] => -(2 ^ 62) ≤ i ∧ i < 2 ^ 62 ∧ -(2 ^ 62) ≤ j ∧ j < 2 ^ 62 ∧ Q (rgD i (j - i).toNat)
  | _ => False) Ed
theorem idRg2 (hg : Gl X "range") (hm : X.mg "range" = none) (ha : AD X ad E Ed [e, e'] n ga) (hs : starEach [e, e'] X.env = [(false, eval e X.env), (false, eval e' X.env)] := by rfl) (hs2 : starEach [e'] X.env = [(false, eval e' X.env)] := by rfl) : ID X ad E Ed tg (.Call (.Name "range" p) [e, e'] [] pos) (iRg2 ga) :=
  ⟨weakI (pi_range2 hg hm ha.pa hs hs2) fun σ H R ⟨B, s, ρ, Qd, W, h, k⟩ => ⟨B, s, ρ, _, W, h, fun as vs H1 hd hl f1 da => by
    split at hd
    · rename_i i j
      obtain ⟨h1, h2, h3, h4, hd⟩ := hd
      cases da with
      | cons a r =>
        cases r with
        | cons b r =>
          cases r
          cases a
          cases b
          exact ⟨i, j, rfl, ⟨h1, h2, h3, h4⟩, k _ H1 _ hd f1 itr_ok⟩
    · exact hd.elim⟩⟩
end
/-! ### targets, loops -/
abbrev DG := D → List Sl → (List Sl → Prop) → Prop
def tgD (ad : Str → Addr) (g : DG) : TG := fun v σ H Q => ∃ c P ρ d Qd, Rep ad c P H σ ρ ∧ Dx ad (Fz (Bl c P) H) v d ∧ g d ρ Qd ∧ ∀ P' σ' ρ', Rep ad c P' H σ' ρ' → Qd ρ' → Q σ' H
structure GD (X : Cx) (ad : Str → Addr) (tg : Expr) (g : DG) : Prop where
  pg : PG X tg (tgD ad g)
theorem weakG {X : Cx} {tg : Expr} {t t' : TG} (h : PG X tg t) (k : ∀ v σ H Q, t' v σ H Q → t v σ H Q) : PG X tg t' := ⟨fun pins s σ H v u Q I r q => h.run pins s σ H v u Q I r (k v σ H Q q)⟩
def gN (i : Nat) : DG := fun d ρ Q => Q (ρ.set i (.dat d))
/-- two names -/
def gN2 (i j : Nat) : DG := fun d ρ Q => match d with
  | .tup [x, y] => Q ((ρ.set i (.dat x)).set j (.dat y))
  | _ => False
section
variable {X : Cx} {ad : Str → Addr} {E : L2.St → XK} {Ed : DXt} {tg e : Expr} {pos : Pos} {g : DG} {gb : DS} {ss : List Stmt} {fi : DI} {fa : DE}
theorem gdN {i : Nat} {x : Str} (h : PG X (.Name x pos) (gName i)) : GD X ad (.Name x pos) (gN i) := ⟨weakG h fun v σ H Q ⟨c, P, ρ, d, Qd, r, dv, h, k⟩ => k _ _ _ (r.setD dv) h⟩
theorem gdN2 {i j : Nat} {tgt : Expr} {K : PySem.W.Frag} (h : PG X tgt (gTup K 2 (gCons (gName i) (gCons (gName j) gNil)))) : GD X ad tgt (gN2 i j) := ⟨weakG h fun v σ H Q ⟨c, P, ρ, d, Qd, r, dv, h, k⟩ => by
    unfold gN2 at h
    split at h
    · rename_i x y
      cases dv with
      | tup ea ra =>
        cases ra with
        | cons a ra => cases ra with
          | cons b ra =>
            cases ra
            exact ⟨_, _, rfl, .inl (.inl ea.2), rfl, _, _, rfl, _, _, rfl, rfl, k _ _ _ ((r.setD a).setD (b.mono (fz_rm _))) h⟩
    · exact h.elim⟩
/-- the loop's start, its data fixed -/
def ctAt (c : Ct) (P : Nat → Option Addr) (H : Hp) : Ct := ⟨c.A, c.s, fun b o => (∀ l a, c.s = some (l, a) → b ≠ a) ∧ (∀ i, P i ≠ some b) ∧ H b = some o⟩
theorem Rep.at_ {c : Ct} {P : Nat → Option Addr} {H : Hp} {σ : L2.St} {ρ : List Sl} (r : Rep ad c P H σ ρ) : Rep ad (ctAt c P H) P H σ ρ :=
  ⟨r.wd, fun l a e => ⟨(r.sa l a e).1, (r.sa l a e).2.1, fun o q => q.1 l a e rfl⟩, fun b o q => q.2.2, fun i p e => ⟨(r.ow i p e).1, fun o q => q.2.1 i e⟩, r.inj, r.sl, r.own, r.ownD, r.len⟩
theorem Rep.of_at {c : Ct} {P P' : Nat → Option Addr} {H H' : Hp} {σ σ' : L2.St} {ρ ρ' : List Sl} (r : Rep ad c P H σ ρ) (r' : Rep ad (ctAt c P H) P' H' σ' ρ') : Rep ad c P' H' σ' ρ' :=
  Rep.weak (c' := c) (c := ctAt c P H) rfl rfl (hZ := fun b o q => ⟨fun l a e z => (r.sa l a e).2.2 o (z ▸ q), fun i e => (r.ow i b e).2 o q, r.z b o q⟩) r'
theorem fz_at {c : Ct} {P P' : Nat → Option Addr} {H H' : Hp} {σ σ' : L2.St} {ρ ρ' : List Sl} (r : Rep ad c P H σ ρ) (r' : Rep ad (ctAt c P H) P' H' σ' ρ') : ∀ b o, Fz (Bl c P) H b o → Fz (Bl (ctAt c P H) P') H' b o := fun b o h => by
  have z : (ctAt c P H).Z b o := ⟨fun l a e q => h.1 (.inl (q ▸ (r.sa l a e).1)), fun i e => h.1 (.inr ⟨i, e⟩), h.2⟩
  refine ⟨fun q => ?_, r'.z b o z⟩
  rcases q with q | ⟨i, q⟩
  · exact h.1 (.inl q)
  · exact (r'.ow i b q).2 o z
def sFor (fi : DI) (g : DG) (gb : DS) : DS := fun De ρ Ed => fi ρ (fun xs => ∃ Iv : Nat → List Sl → Prop, Iv 0 ρ ∧
  (∀ i x ρ', xs[i]? = some x → Iv i ρ' → g x ρ' fun ρ2 => gb { nx := Iv (i + 1), ct := Iv (i + 1), bk := De.nx, rt := De.rt } ρ2 Ed) ∧ ∀ ρ', Iv xs.length ρ' → De.nx ρ') Ed
theorem sdFor (hp : PassesOwn (model X.prog X.w) X.A X.env X.xe) (hc : X.calm = true) (hi : ID X ad E Ed tg e fi) (hg : GD X ad tg g) (hb : BS X ad E Ed ss gb) (hs : ∀ x, foldedSetIterable e X.env x = pure x := by intro _; rfl) : SD X ad E Ed (.For tg e ss [] pos) (sFor fi g gb) :=
  ⟨weakS (ps_for hp hc hi.pi hg.pg hb.ps hs) fun Dn σ H ⟨c, P, ρ, De, r, t, en, h⟩ => ⟨Bl c P, c.s, ρ, _, r.wl t, h, fun xs H1 J hx f1 io => by
    obtain ⟨Iv, h0, hs, hd⟩ := hx
    have r1 := r.frm f1
    have ft : ∀ {P' : Nat → Option Addr} {H' : Hp} {σ' : L2.St} {ρ' : List Sl}, Rep ad (ctAt c P H1) P' H' σ' ρ' → Rep ad c P' H' σ' ρ' := fun r' => r1.of_at r'
    refine ⟨fun i m σ' H' => m = xs.length - i ∧ i ≤ xs.length ∧ ∃ P' ρ', Rep ad (ctAt c P H1) P' H' σ' ρ' ∧ Iv i ρ', ⟨xs.length, by simp, Nat.zero_le _, P, ρ, r1.at_, h0⟩, ?_⟩
    rintro i m σ' H' ⟨rfl, hi, P', ρ', r', iv⟩
    have io := io i H' _ c.s r'.wd (fz_at r1 r')
    by_cases hlt : i < xs.length
    · obtain ⟨go, yl⟩ := io.2 xs[i] (List.getElem?_eq_getElem hlt)
      refine .inr ⟨go, fun σ2 H2 => ∃ P2 ρ2, Rep ad (ctAt c P H1) P2 H2 σ2 ρ2 ∧ Iv (i + 1) ρ2, fun σ2 H2 ⟨P2, ρ2, r2, iv2⟩ => ⟨_, by omega, rfl, hlt, P2, ρ2, r2, iv2⟩, fun v H2 y => ?_⟩
      obtain ⟨sm, dv⟩ := yl v H2 y
      have r2 := r'.frm (r'.wd.same sm)
      refine ⟨_, P', ρ', xs[i], _, r2, dv, hs i xs[i] ρ' (List.getElem?_eq_getElem hlt) iv, fun P3 σ3 ρ3 r3 q => ?_⟩
      refine ⟨_, P3, ρ3, { nx := Iv (i + 1), ct := Iv (i + 1), bk := De.nx, rt := De.rt }, r3, ⟨fun P σ ρ H cn d v x r => t.t P σ ρ H cn d v x (ft r)⟩, ⟨fun P4 σ4 ρ4 H4 r4 q4 => ⟨P4, ρ4, r4, q4⟩, fun P4 σ4 ρ4 H4 r4 q4 => ⟨P4, ρ4, r4, q4⟩, fun P4 σ4 ρ4 H4 r4 q4 => en.nx _ _ _ _ (ft r4) q4, fun P4 σ4 ρ4 H4 d v r4 dv q4 => en.rt _ _ _ _ _ _ (ft r4) dv q4⟩, q⟩
    · have e : i = xs.length := by omega
      subst e
      exact .inl ⟨io.1 rfl, en.nx _ _ _ _ (ft r') (hd ρ' iv)⟩⟩⟩
/-- a, b = value, and other targets -/
def sAsg (f : DE) (g : DG) : DS := fun De ρ Ed => f ρ (fun d => g d ρ De.nx) Ed
theorem sdAsg (he : PD X ad E Ed e fa) (hg : GD X ad tg g) (hs : swapsWithSole [tg] e pos.line X.env = pure false := by rfl) (hw : swappedStores [tg] e X.env = pure none := by rfl)
    (h1 : (assignEach [tg] X.env).map (·.2) = [assign tg X.env] := by rfl) : SD X ad E Ed (.Assign [tg] e pos) (sAsg fa g) :=
  ⟨weakS (ps_asg he.pe hg.pg hs hw h1) fun Dn σ H ⟨c, P, ρ, De, r, t, en, h⟩ => tie_e c P ρ De Dn r t h fun d v H1 hd r1 _ dv => ⟨c, P, ρ, d, _, r1, dv, hd, fun P' σ' ρ' r' q => en.nx _ _ _ _ r' q⟩⟩
end
/-- behind branches: what stands is put in one -/
theorem sJoin {g h : DS} {De : DEnds} {ρ : List Sl} {Ed : DXt} (J : List Sl → Prop) (h2 : ∀ ρ', J ρ' → h De ρ' Ed) (h1 : ∀ D' : DEnds, (∀ ρ', J ρ' → D'.nx ρ') → D'.ct = De.ct → D'.bk = De.bk → D'.rt = De.rt → g D' ρ Ed) : sSeq g h De ρ Ed := h1 _ h2 rfl rfl rfl
/-! ### comprehensions -/
def wipeD (ρ : List Sl) : List Nat → List Sl
  | [] => ρ
  | v :: vs => (wipeD ρ vs).set v .un
theorem wipe_get {σ : L2.St} {i : Nat} : ∀ {vs : List Nat}, i ∉ vs → (wipe σ vs)[i]? = σ[i]?
  | [], _ => rfl
  | v :: vs, h => by
    unfold wipe
    rw [List.getElem?_set_ne (fun e => h (by rw [e]; exact List.mem_cons_self)), wipe_get fun m => h (List.mem_cons_of_mem _ m)]
theorem wipeD_get {ρ : List Sl} {i : Nat} {sl : Sl} : ∀ {vs : List Nat}, (wipeD ρ vs)[i]? = some sl → sl = .un ∨ (i ∉ vs ∧ ρ[i]? = some sl)
  | [], h => .inr ⟨by simp, h⟩
  | v :: vs, h => by
    unfold wipeD at h
    by_cases e : i = v
    · subst e
      by_cases hl : i < (wipeD ρ vs).length
      · rw [List.getElem?_set_self hl] at h; exact .inl (Option.some.inj h).symm
      · rw [List.getElem?_eq_none (by rw [List.length_set]; omega)] at h; cases h
    · rw [List.getElem?_set_ne (Ne.symm e)] at h
      rcases wipeD_get h with h | ⟨h1, h2⟩
      · exact .inl h
      · exact .inr ⟨fun m => (List.mem_cons.mp m).elim e h1, h2⟩
theorem wipe_set {σ : L2.St} {v : Option V} {i : Nat} (vs : List Nat) (h : i ∈ vs) : wipe ((wipe σ vs).set i v) vs = wipe σ vs := by
  have nn : ∀ {vs : List Nat} {τ : L2.St} {j : Nat}, j ∈ vs → j < τ.length → (wipe τ vs)[j]? = some none := by
    intro vs
    induction vs with
    | nil => intro τ j hj; cases hj
    | cons w vs ih =>
      intro τ j hj hl
      unfold wipe
      by_cases e : j = w
      · subst e
        rw [List.getElem?_set_self (by rw [wipe_length]; exact hl)]
      · rw [List.getElem?_set_ne (Ne.symm e)]
        exact ih ((List.mem_cons.mp hj).resolve_left e) hl
  refine List.ext_getElem? fun j => ?_
  by_cases hj : j ∈ vs
  · by_cases hl : j < σ.length
    · rw [nn hj (by rw [List.length_set, wipe_length]; exact hl), nn hj hl]
    · rw [List.getElem?_eq_none (by rw [wipe_length, List.length_set, wipe_length]; omega), List.getElem?_eq_none (by rw [wipe_length]; omega)]
  · rw [wipe_get hj, List.getElem?_set_ne (fun e : i = j => hj (e ▸ h))]
section
variable {X : Cx} {ad : Str → Addr} {E : L2.St → XK} {Ed : DXt} {tg elt iter e : Expr} {ifs : List Expr} {scope : Scope} {own : List (Str × Nat)} {pos : Pos} {fi : DI} {tt : DT} {te : DE}
structure FD (X : Cx) (ad : Str → Addr) (E : L2.St → XK) (Ed : DXt) (es : List Expr) (f : DT) : Prop where
  pts : PTs X es (ttD ad E Ed f)
def tYs : DT := fun _ Q _ => Q true
theorem fdN : FD X ad E Ed [] tYs := ⟨⟨fun pins s σ H Q I ⟨B, s', ρ, Qd, W, h, k⟩ => pts_nil.run pins s σ H Q I (k true H h W.refl)⟩⟩
theorem fd1 {t : DT} (h : TD X ad E Ed e t) : FD X ad E Ed [e] t := ⟨pts_one h.pt⟩
/-- an expression that makes a new list -/
abbrev DF := List Sl → (List D → Prop) → DXt → Prop
def teF (ad : Str → Addr) (E : L2.St → XK) (Ed : DXt) (f : DF) : TE := fun σ H Q => ∃ B s ρ Qd, Wl ad E Ed B s ρ σ H ∧ f ρ Qd Ed ∧ ∀ xs p vs H', Qd xs → H p = none → Frm s H H' → H' p = some (.lst vs) → DxA ad (Fz (fun b => B b ∨ b = p) H') vs xs → Q (.ref p) H'
structure PF (X : Cx) (ad : Str → Addr) (E : L2.St → XK) (Ed : DXt) (e : Expr) (f : DF) : Prop where
  pe : PE X e (teF ad E Ed f)
def eF (f : DF) : DE := fun ρ Q Ed => f ρ (fun xs => Q (.lst xs)) Ed
theorem PF.pd {f : DF} (h : PF X ad E Ed e f) : PD X ad E Ed e (eF f) := ⟨weakE h.pe fun σ H Q ⟨B, s, ρ, Qd, W, h, k⟩ => ⟨B, s, ρ, _, W, h, fun xs p vs H' hx hp f hd da => k _ _ _ hx f (.lst ⟨W.wd.nb hp, hd⟩ (da.mono fun b o q => ⟨fun z => q.1 (.inl z), q.2⟩))⟩⟩
/-- [elt for x in iter if ..], x in slot i -/
def fLc (fi : DI) (vs : List Nat) (i : Nat) (tt : DT) (te : DE) : DF := fun ρ Q Ed => fi ρ (fun xs => xs.length ≤ 1000000 ∧ ∃ Iv : Nat → List D → Prop, Iv 0 [] ∧
  (∀ j x acc, xs[j]? = some x → Iv j acc → tt ((wipeD ρ vs).set i (.dat x)) (fun b => if b = true then te ((wipeD ρ vs).set i (.dat x)) (fun y => Iv (j + 1) (acc ++ [y])) X0 else Iv (j + 1) acc) X0) ∧ ∀ acc, Iv xs.length acc → Q acc) Ed
theorem RepE.wipe1 {B B' : Addr → Prop} {s : SO} {H H' : Hp} {σ : L2.St} {ρ : List Sl} {vs : List Nat} {i : Nat} {v : V} {d : D} (w : Wd B' s H') (hk : ∀ (j : Nat) (sl : Sl), ρ[j]? = some sl → SlR ad B' s H' (σ[j]?) sl) (hl : σ.length = ρ.length) (dv : Dx ad (Fz B' H') v d) :
    RepE ad B' s H' ((wipe σ vs).set i (some v)) ((wipeD ρ vs).set i (.dat d)) := by
  have hw : (wipeD ρ vs).length = ρ.length := by
    have : ∀ us : List Nat, (wipeD ρ us).length = ρ.length := by
      intro us
      induction us with
      | nil => rfl
      | cons u us ih => unfold wipeD; rw [List.length_set, ih]
    exact this vs
  refine ⟨w, fun j sl e => ?_, by rw [List.length_set, List.length_set, wipe_length, hw, hl]⟩
  by_cases hj : j = i
  · subst hj
    by_cases hlt : j < (wipeD ρ vs).length
    · rw [List.getElem?_set_self hlt] at e
      cases e
      rw [List.getElem?_set_self (by rw [wipe_length, hl, ← hw]; exact hlt)]
      exact ⟨v, rfl, dv⟩
    · rw [List.getElem?_eq_none (by rw [List.length_set]; omega)] at e; cases e
  · rw [List.getElem?_set_ne (Ne.symm hj)] at e ⊢
    rcases wipeD_get e with e | ⟨h1, h2⟩
    · subst e; exact trivial
    · rw [wipe_get h1]; exact hk j sl h2
theorem SlR.up {B B' : Addr → Prop} {s : SO} {H H' : Hp} {o : Option (Option V)} (w : Wd B s H) (hB : ∀ b, B b → B' b) (fz : ∀ b o, Fz B H b o → Fz B' H' b o) (st : ∀ b o, (∀ l a, s = some (l, a) → b ≠ a) → H b = some o → H' b = some o) : ∀ {sl : Sl}, SlR ad B s H o sl → SlR ad B' s H' o sl
  | .un, h => h
  | .dat d, ⟨v, e, h⟩ => ⟨v, e, h.mono fz⟩
  | .own xs, ⟨p, vs, e, b, n, h, r⟩ => ⟨p, vs, e, hB _ b, n, st _ _ n h, r.mono fz⟩
  | .ownD xs, ⟨p, vs, e, b, n, h, r⟩ => ⟨p, vs, e, hB _ b, n, st _ _ n h, r.mono fz⟩
  | .src, h => h
  | .exc a x d, ⟨v, e, h, r⟩ => ⟨v, e, st _ _ (fun l a' es q => by
      obtain ⟨i, y, c, cl, n, z, _, h1⟩ := (w.sr l a' es).1.at_
      rw [q, h1] at h; cases h) h, r.mono fz⟩
theorem lc_low {B : Addr → Prop} {s : SO} {ρ : List Sl} {σ : L2.St} {H H1 : Hp} {J : It} {xs : List D} {us : List Nat} {i : Nat} {Qd : List D → Prop} {Q : VK} (him : i ∈ us) (W : Wl ad E Ed B s ρ σ H) (f1 : Frm s H H1) (io : ItOk ad B H1 J xs)
    (hx : xs.length ≤ 1000000 ∧ ∃ Iv : Nat → List D → Prop, Iv 0 [] ∧ (∀ j x acc, xs[j]? = some x → Iv j acc → tt ((wipeD ρ us).set i (.dat x)) (fun b => if b = true then te ((wipeD ρ us).set i (.dat x)) (fun y => Iv (j + 1) (acc ++ [y])) X0 else Iv (j + 1) acc) X0) ∧ ∀ acc, Iv xs.length acc → Qd acc)
    (k : ∀ xs p vs H', Qd xs → H p = none → Frm s H H' → H' p = some (.lst vs) → DxA ad (Fz (fun b => B b ∨ b = p) H') vs xs → Q (.ref p) H') :
    ∀ D, H1 D = none → ∃ W : Nat → Nat → Hp → Prop, (∃ m, W 0 m (upd H1 D (.lst []))) ∧ ∀ i' m H, W i' m H → (J.stop i' H ∧ Q (.ref D) H) ∨ (J.go i' H ∧ ∃ Nx : Hp → Prop, (∀ H', Nx H' → ∃ m', m' < m ∧ W (i' + 1) m' H') ∧ ∀ x H', J.yld i' H x H' →
      gName i x (wipe σ us) H' fun σ2 H2 => wipe σ2 us = wipe σ us ∧ ttD ad (fun _ => E0) X0 tt σ2 H2 fun b H3 => if b = true then teD ad (fun _ => E0) X0 te σ2 H3 fun y H4 => ∃ acc, H4 D = some (.lst acc) ∧ acc.length < sizeLine ∧ Nx (upd H4 D (.lst (acc ++ [y]))) else Nx H3) := by
  intro D hD
  obtain ⟨hlen, Iv, h0, hs, hd⟩ := hx
  have W1 := W.frm f1
  have wd1 := W1.wd
  have Dn : ∀ l a, s = some (l, a) → D ≠ a ∧ D ≠ l := fun l a e => by
    obtain ⟨q, _, _⟩ := wd1.sr l a e
    exact q.free_ne hD
  have wdk : ∀ {H' : Hp}, Frm s H1 H' → (∃ vs, H' D = some (.lst vs)) → Wd (fun b => B b ∨ b = D) s H' := fun {H'} f h => ⟨fun b q => by
      rcases q with q | rfl
      · exact (wd1.frm f).al b q
      · exact ⟨_, h.choose_spec, fun _ e => (nomatch e)⟩, fun l a e => ⟨f.sr l a e, .inl (wd1.sr l a e).2.1, .inl (wd1.sr l a e).2.2⟩⟩
  have fzk : ∀ {H' : Hp}, Frm s H1 H' → ∀ b o, Fz B H1 b o → Fz (fun b => B b ∨ b = D) H' b o := fun {H'} f b o h => ⟨fun q => q.elim h.1 (fun e => by
      have z := h.2
      rw [e, hD] at z
      cases z), (wd1.fz f b o h).2⟩
  refine ⟨fun j m H' => m = xs.length - j ∧ j ≤ xs.length ∧ Frm s H1 H' ∧ ∃ vs acc, H' D = some (.lst vs) ∧ DxA ad (Fz (fun b => B b ∨ b = D) H') vs acc ∧ acc.length ≤ j ∧ Iv j acc, ⟨xs.length, by simp, Nat.zero_le _, wd1.new hD, [], [], upd_same, .nil, Nat.zero_le _, h0⟩, ?_⟩
  rintro j m H' ⟨rfl, hj, f, vs, acc, hv, da, hl, iv⟩
  have io := io j H' _ s (wdk f ⟨_, hv⟩) (fzk f)
  by_cases hlt : j < xs.length
  · obtain ⟨go, yl⟩ := io.2 xs[j] (List.getElem?_eq_getElem hlt)
    refine .inr ⟨go, fun H2 => Frm s H1 H2 ∧ ∃ vs acc, H2 D = some (.lst vs) ∧ DxA ad (Fz (fun b => B b ∨ b = D) H2) vs acc ∧ acc.length ≤ j + 1 ∧ Iv (j + 1) acc, fun H2 q => ⟨_, by omega, rfl, hlt, q⟩, fun v H2 y => ?_⟩
    obtain ⟨sm, dv⟩ := yl v H2 y
    have f2 := (wdk f ⟨_, hv⟩).same sm
    have f12 := f.trans f2
    have hv2 := sm _ _ hv
    have w2 := wdk f12 ⟨_, hv2⟩
    have da2 := da.mono ((wdk f ⟨_, hv⟩).fz f2)
    have st := hs j xs[j] acc (List.getElem?_eq_getElem hlt) iv
    have Wb : Wl ad (fun _ => E0) X0 (fun b => B b ∨ b = D) s ((wipeD ρ us).set i (.dat xs[j])) ((wipe σ us).set i (some v)) H2 :=
      ⟨RepE.wipe1 (B := B) (H := H) w2 (fun j sl e => (W.rep.sl j sl e).up W.wd (fun b q => .inl q) (fun b o q => fzk f12 b o (W.wd.fz f1 b o q)) (f1.trans f12).st) W.rep.len dv, fun cn d v x H' _ _ _ q => q.elim⟩
    refine ⟨wipe_set us him, _, s, _, _, Wb, st, fun b H3 hb f3 => ?_⟩
    have hv3 := f3.st D _ (fun l a e => (Dn l a e).1) hv2
    have da3 := da2.mono (w2.fz f3)
    cases b with
    | false => exact ⟨f12.trans f3, vs, acc, hv3, da3, by omega, hb⟩
    | true =>
      refine ⟨_, s, _, _, Wb.frm f3, hb, fun y u H4 hy f4 dy => ?_⟩
      have hv4 := f4.st D _ (fun l a e => (Dn l a e).1) hv3
      have w3 := (Wb.frm f3).wd
      have da4 := da3.mono (w3.fz f4)
      have f14 := f12.trans (f3.trans f4)
      have fzu : ∀ b o, Fz (fun b => B b ∨ b = D) H4 b o → Fz (fun b => B b ∨ b = D) (upd H4 D (.lst (vs ++ [u]))) b o := fun b o q => ⟨q.1, by rw [upd_ne (fun e => q.1 (.inr e))]; exact q.2⟩
      refine ⟨vs, hv4, by rw [da.length, sizeLine_eq]; omega, ⟨fun b o n q => ?_, fun l a e => ?_⟩, vs ++ [u], acc ++ [y], upd_same, (da4.append (.cons dy .nil)).mono fzu, by rw [List.length_append, List.length_singleton]; omega, hy⟩
      · rw [upd_ne (ne_of_none q hD)]
        exact f14.st b o n q
      · obtain ⟨⟨i0, b0, c0, cl, n0, w0, h00, h1⟩, ns, h2⟩ := f14.sr l a e
        exact ⟨⟨i0, b0, c0, cl, n0, w0, h00, by rw [upd_ne (Ne.symm (Dn l a e).1)]; exact h1⟩, ns, by rw [upd_ne (Ne.symm (Dn l a e).2)]; exact h2⟩
  · have e : j = xs.length := by omega
    subst e
    have hn : H D = none := by
      cases q : H D with
      | none => rfl
      | some o =>
        have := f1.st D o (fun l a e => (Dn l a e).1) q
        rw [hD] at this; cases this
    exact .inl ⟨io.1 rfl, k acc D vs H' (hd acc iv) hn (f1.trans f) hv da⟩
theorem pfLc {i : Nat} (hc : X.calm = true) (hN : X.N.Nodup) (hi : ID X ad E Ed tg iter fi) (ok : BlkOk X.N X.env.scope scope own)
    (hg : ∀ (s : Shared) (H : Hp) (C : Addr) (cl : List (Str × Addr)) (fp : List Addr), PG (X.blk s H scope (compEnvC scope cl C X.env) fp) tg (gName i)) (ht : ∀ (s : Shared) (H : Hp) (C : Addr) (cl : List (Str × Addr)) (fp : List Addr), FD (X.blk s H scope (compEnvC scope cl C X.env) fp) ad (fun _ => E0) X0 ifs tt)
    (he : ∀ (s : Shared) (H : Hp) (C : Addr) (cl : List (Str × Addr)) (fp : List Addr), PD (X.blk s H scope (compEnvC scope cl C X.env) fp) ad (fun _ => E0) X0 elt te) (him : i ∈ own.map (·.2) := by decide) (hs : ∀ x, foldedSetIterable iter X.env x = pure x := by intro _; rfl) :
    PF X ad E Ed (.ListComp elt [⟨tg, iter, ifs, 0⟩] scope pos) (fLc fi (own.map (·.2)) i tt te) :=
  ⟨weakE (pe_lc hc hN hi.pi ok hg (fun s H C cl fp => (ht s H C cl fp).pts) (fun s H C cl fp => (he s H C cl fp).pe) hs) fun σ H Q ⟨B, s, ρ, Qd, W, h, k⟩ => ⟨B, s, ρ, _, W, h, fun xs H1 J hx f1 io => lc_low him W f1 io hx k⟩⟩
/-- name = [..] on one line -/
theorem sdSetLc {i j : Nat} {y : Str} {py spos : Pos} (hc : X.calm = true) (hN : X.N.Nodup) (hy : X.N[j]? = some y) (hyl : X.env.scope.names.lookup y = some .local) (hsw : swapsWith (.ListComp elt [⟨tg, iter, ifs, 0⟩] scope pos) (some (.Name y py)) spos.line X.env = pure true)
    (hi : ID X ad E Ed tg iter fi) (ok : BlkOk X.N X.env.scope scope own)
    (hg : ∀ (s : Shared) (H : Hp) (C : Addr) (cl : List (Str × Addr)) (fp : List Addr), PG (X.blk s H scope (compEnvC scope cl C X.env) fp) tg (gName i)) (ht : ∀ (s : Shared) (H : Hp) (C : Addr) (cl : List (Str × Addr)) (fp : List Addr), FD (X.blk s H scope (compEnvC scope cl C X.env) fp) ad (fun _ => E0) X0 ifs tt)
    (he : ∀ (s : Shared) (H : Hp) (C : Addr) (cl : List (Str × Addr)) (fp : List Addr), PD (X.blk s H scope (compEnvC scope cl C X.env) fp) ad (fun _ => E0) X0 elt te) (him : i ∈ own.map (·.2) := by decide) (hs : ∀ x, foldedSetIterable iter X.env x = pure x := by intro _; rfl) :
    SD X ad E Ed (.Assign [.Name y py] (.ListComp elt [⟨tg, iter, ifs, 0⟩] scope pos) spos) (sSet j (eF (fLc fi (own.map (·.2)) i tt te))) :=
  ⟨weakS (ps_setLc hc hN hy hyl hsw hi.pi ok hg (fun s H C cl fp => (ht s H C cl fp).pts) (fun s H C cl fp => (he s H C cl fp).pe) hs) fun Dn σ H ⟨c, P, ρ, De, r, t, en, h⟩ =>
    ⟨Bl c P, c.s, ρ, _, r.wl t, h, fun xs H1 J hx f1 io => lc_low (Q := fun x H1 => gName j x σ H1 Dn.nx) him (r.wl t) f1 io hx fun xs p vs H' hd hp f hv da => en.nx _ _ _ _ ((r.frm f).setD (.lst ⟨r.wd.nb hp, hv⟩ (da.mono fun b o q => ⟨fun z => q.1 (.inl z), q.2⟩))) hd⟩⟩
end
end DL

set_option Elab.async false
set_option linter.all false
set_option maxRecDepth 100000
set_option maxHeartbeats 2000000
namespace DL
open PySem PySem.Spec PyProof.Rows L2 BT
/-! ### lists of one's own -/
section
variable {ad : Str → Addr} {c : Ct} {P : Nat → Option Addr} {H H1 : Hp} {σ : L2.St} {ρ : List Sl} {E : L2.St → XK} {Ed : DXt}
theorem st_some {i j : Nat} {p q : Addr} (h : st P i p j = some q) : (j = i ∧ q = p) ∨ (j ≠ i ∧ P j = some q) := by
  unfold st at h
  split at h
  · exact .inl ⟨by assumption, (Option.some.inj h).symm⟩
  · exact .inr ⟨by assumption, h⟩
theorem Rep.setO (r : Rep ad c P H σ ρ) {i : Nat} {p : Addr} {vs : List V} {xs : List D} (f : Frm c.s H H1) (hp : H p = none) (hv : H1 p = some (.lst vs)) (da : DxA ad (Fz (fun b => Bl c P b ∨ b = p) H1) vs xs) :
    Rep ad c (st P i p) H1 (σ.set i (some (.ref p))) (ρ.set i (.own xs)) := by
  have bs : ∀ b, Bl c (st P i p) b → Bl c P b ∨ b = p := fun b h => by
    rcases h with h | ⟨j, h⟩
    · exact .inl (.inl h)
    · rcases st_some h with ⟨_, rfl⟩ | ⟨_, h⟩
      · exact .inr rfl
      · exact .inl (.inr ⟨j, h⟩)
  have fz : ∀ b o, Fz (Bl c P) H b o → Fz (Bl c (st P i p)) H1 b o := fun b o h => ⟨fun q => (bs b q).elim h.1 (fun e => by
    have z := h.2
    rw [e, hp] at z
    cases z), (r.wd.fz f b o h).2⟩
  have np : ∀ j, P j ≠ some p := fun j e => r.wd.nb hp (.inr ⟨j, e⟩)
  have na : ¬ c.A p := fun q => r.wd.nb hp (.inl q)
  have w1 := r.wd.frm f
  have src : ∀ l a, c.s = some (l, a) → p ≠ a := fun l a e => fun q => na (q ▸ (r.sa l a e).1)
  refine ⟨⟨fun b h => ?_, fun l a e => ⟨(w1.sr l a e).1, .inl (r.sa l a e).1, .inl (r.sa l a e).2.1⟩⟩, r.sa, (r.frm f).z, fun j q e => ?_, fun j k q e1 e2 => ?_, fun j sl e => ?_, fun j ys e => ?_, fun j ys e => ?_, by rw [List.length_set, List.length_set, r.len]⟩
  · rcases bs b h with h | rfl
    · exact w1.al b h
    · exact ⟨_, hv, fun _ e => (nomatch e)⟩
  · rcases st_some e with ⟨_, rfl⟩ | ⟨_, e⟩
    · exact ⟨na, fun o q => by rw [r.z _ _ q] at hp; cases hp⟩
    · exact r.ow j q e
  · rcases st_some e1 with ⟨a1, b1⟩ | ⟨a1, b1⟩
    · rcases st_some e2 with ⟨a2, b2⟩ | ⟨a2, b2⟩
      · rw [a1, a2]
      · exact absurd (b1 ▸ b2) (np k)
    · rcases st_some e2 with ⟨a2, b2⟩ | ⟨a2, b2⟩
      · exact absurd (b2 ▸ b1) (np j)
      · exact r.inj j k q b1 b2
  · by_cases hj : j = i
    · subst hj
      by_cases hl : j < ρ.length
      · rw [List.getElem?_set_self hl] at e
        cases e
        rw [List.getElem?_set_self (by rw [r.len]; exact hl)]
        exact ⟨p, vs, rfl, .inr ⟨j, by unfold st; rw [if_pos rfl]⟩, src, hv, da.mono fun b o q => ⟨fun z => q.1 (bs b z), q.2⟩⟩
      · rw [List.getElem?_eq_none (by rw [List.length_set]; omega)] at e; cases e
    · rw [List.getElem?_set_ne (Ne.symm hj)] at e ⊢
      have so := r.sl j sl e
      have ow := r.ownAt e
      cases sl with
      | own ys =>
        obtain ⟨q, us, e1, b, n, h, da⟩ := so
        obtain ⟨q2, e2, e3⟩ := ow (.inl ⟨_, rfl⟩)
        rw [e1] at e3
        have : q = q2 := by injection e3 with e3; injection e3 with e3; injection e3
        subst this
        exact ⟨q, us, e1, .inr ⟨j, by unfold st; rw [if_neg hj]; exact e2⟩, n, f.st _ _ n h, da.mono fz⟩
      | ownD ys =>
        obtain ⟨q, us, e1, b, n, h, da⟩ := so
        obtain ⟨q2, e2, e3⟩ := ow (.inr ⟨_, rfl⟩)
        rw [e1] at e3
        have : q = q2 := by injection e3 with e3; injection e3 with e3; injection e3
        subst this
        exact ⟨q, us, e1, .inr ⟨j, by unfold st; rw [if_neg hj]; exact e2⟩, n, f.st _ _ n h, da.mono fz⟩
      | un => exact so
      | dat d => exact so.imp fun v h => ⟨h.1, h.2.mono fz⟩
      | src => exact so
      | exc a x d =>
        obtain ⟨v, e1, h, dv⟩ := so
        exact ⟨v, e1, f.st _ _ (fun l a' es q => by
          obtain ⟨i0, y, c0, cl, n0, z, _, h1⟩ := (r.wd.sr l a' es).1.at_
          rw [q, h1] at h; cases h) h, dv.mono fz⟩
  · by_cases hj : j = i
    · subst hj
      by_cases hl : j < ρ.length
      · exact ⟨p, by unfold st; rw [if_pos rfl], by rw [List.getElem?_set_self (by rw [r.len]; exact hl)]⟩
      · rw [List.getElem?_eq_none (by rw [List.length_set]; omega)] at e; cases e
    · rw [List.getElem?_set_ne (Ne.symm hj)] at e ⊢
      obtain ⟨q, h1, h2⟩ := r.own j ys e
      exact ⟨q, by unfold st; rw [if_neg hj]; exact h1, h2⟩
  · by_cases hj : j = i
    · subst hj
      by_cases hl : j < ρ.length
      · rw [List.getElem?_set_self hl] at e; cases e
      · rw [List.getElem?_eq_none (by rw [List.length_set]; omega)] at e; cases e
    · rw [List.getElem?_set_ne (Ne.symm hj)] at e ⊢
      obtain ⟨q, h1, h2⟩ := r.ownD j ys e
      exact ⟨q, by unfold st; rw [if_neg hj]; exact h1, h2⟩
theorem Rep.app (r : Rep ad c P H σ ρ) {i : Nat} {p : Addr} {vs ws : List V} {xs ys : List D} (e : ρ[i]? = some (.own xs)) (ep : P i = some p) (es : σ[i]? = some (some (.ref p))) (hv : H p = some (.lst vs)) (da : DxA ad (Fz (Bl c P) H) ws ys) :
    Rep ad c P (upd H p (.lst ws)) σ (ρ.set i (.own ys)) := by
  have bp : Bl c P p := .inr ⟨i, ep⟩
  have fz : ∀ b o, Fz (Bl c P) H b o → Fz (Bl c P) (upd H p (.lst ws)) b o := fun b o h => ⟨h.1, by rw [upd_ne (fun e : b = p => h.1 (by rw [e]; exact bp))]; exact h.2⟩
  have ns : ∀ l a, c.s = some (l, a) → a ≠ p ∧ l ≠ p := fun l a e2 => ⟨fun q => (r.ow i p ep).1 (q ▸ (r.sa l a e2).1), fun q => (r.ow i p ep).1 (q ▸ (r.sa l a e2).2.1)⟩
  refine ⟨⟨fun b h => ?_, fun l a e2 => ⟨?_, .inl (r.sa l a e2).1, .inl (r.sa l a e2).2.1⟩⟩, r.sa, fun b o h => ?_, r.ow, r.inj, fun j sl e2 => ?_, fun j zs e2 => ?_, fun j zs e2 => ?_, by rw [List.length_set, r.len]⟩
  · by_cases q : b = p
    · exact ⟨.lst ws, (by rw [q]; exact upd_same), fun _ e => (nomatch e)⟩
    · obtain ⟨o, h, nt⟩ := r.wd.al b h
      exact ⟨o, by rw [upd_ne q]; exact h, nt⟩
  · obtain ⟨⟨i0, b0, c0, cl, n0, w0, h00, h1⟩, zs, h2⟩ := (r.wd.sr l a e2).1
    exact ⟨⟨i0, b0, c0, cl, n0, w0, h00, by rw [upd_ne (ns l a e2).1]; exact h1⟩, zs, by rw [upd_ne (ns l a e2).2]; exact h2⟩
  · rw [upd_ne (fun q : b = p => (r.ow i p ep).2 o (by rw [← q]; exact h))]
    exact r.z b o h
  · by_cases hj : j = i
    · subst hj
      rw [List.getElem?_set_self (List.getElem?_eq_some_iff.mp e).1] at e2
      cases e2
      exact ⟨p, ws, es, bp, fun l a e3 q => (ns l a e3).1 q.symm, upd_same, da.mono fz⟩
    · rw [List.getElem?_set_ne (Ne.symm hj)] at e2
      have so := r.sl j sl e2
      have ow := r.ownAt e2
      cases sl with
      | own zs =>
        obtain ⟨q, us, e1, b, n, h, da⟩ := so
        obtain ⟨q2, e3, e4⟩ := ow (.inl ⟨_, rfl⟩)
        rw [e1] at e4
        have : q = q2 := by injection e4 with e4; injection e4 with e4; injection e4
        subst this
        exact ⟨q, us, e1, b, n, by rw [upd_ne (fun z : q = p => hj (r.inj j i p (by rw [← z]; exact e3) ep))]; exact h, da.mono fz⟩
      | ownD zs =>
        obtain ⟨q, us, e1, b, n, h, da⟩ := so
        exact ⟨q, us, e1, b, n, by rw [upd_ne (fun z => by rw [z, hv] at h; cases h)]; exact h, da.mono fz⟩
      | un => exact so
      | dat d => exact so.imp fun v h => ⟨h.1, h.2.mono fz⟩
      | src => exact so
      | exc a x d =>
        obtain ⟨v, e1, h, dv⟩ := so
        exact ⟨v, e1, by rw [upd_ne (fun z => by rw [z, hv] at h; cases h)]; exact h, dv.mono fz⟩
  · by_cases hj : j = i
    · subst hj; exact ⟨p, ep, es⟩
    · rw [List.getElem?_set_ne (Ne.symm hj)] at e2
      exact r.own j zs e2
  · by_cases hj : j = i
    · subst hj
      rw [List.getElem?_set_self (List.getElem?_eq_some_iff.mp e).1] at e2; cases e2
    · rw [List.getElem?_set_ne (Ne.symm hj)] at e2
      exact r.ownD j zs e2
end
section
variable {X : Cx} {ad : Str → Addr} {E : L2.St → XK} {Ed : DXt} {a b e : Expr} {fa fb : DE} {pos pos' apos p : Pos} {g ga gb : DS} {f : DF} {n : Nat}
def sSetO (i : Nat) (f : DF) : DS := fun De ρ Ed => f ρ (fun xs => De.nx (ρ.set i (.own xs))) Ed
theorem sdSetO {i : Nat} {x : Str} (ps : ∀ {te : TE}, PE X e te → PS X (.Assign [.Name x pos'] e pos) (tAsg te (gName i))) (h : PF X ad E Ed e f) : SD X ad E Ed (.Assign [.Name x pos'] e pos) (sSetO i f) :=
  ⟨weakS (ps h.pe) fun Dn σ H ⟨c, P, ρ, De, r, t, en, h⟩ => ⟨Bl c P, c.s, ρ, _, r.wl t, h, fun xs p vs H' hd hp f hv da => en.nx _ _ _ _ (r.setO f hp hv da) hd⟩⟩
/-- [..] as a new list -/
def fLst (g : DA) : DF := fun ρ Q Ed => g ρ (fun as => match dats as with
  | some ds => Q ds
  | none => False) Ed
theorem pfLst {es : List Expr} {ga : DA} (h : AD X ad E Ed es n ga) (hn : n ≤ 1000 := by decide) : PF X ad E Ed (.List es pos) (fLst ga) :=
  ⟨weakE (pe_lst h.pa) fun σ H Q ⟨B, s, ρ, Qd, W, h, k⟩ => ⟨B, s, ρ, _, W, h, fun as vs H1 ha hl f1 da => by
    split at ha
    · rename_i ds e
      rw [dats_ok e] at da hl
      have := da.length
      refine ⟨by rw [this, hl, sizeLine_eq]; omega, fun p hp => ?_⟩
      have w1 := (W.frm f1).wd
      have hn : H p = none := by
        cases q : H p with
        | none => rfl
        | some o =>
          by_cases z : ∃ l, s = some (l, p)
          · obtain ⟨l, z⟩ := z
            obtain ⟨i, x, c, cl, n, y, _, h1⟩ := (f1.sr l p z).at_
            rw [hp] at h1; cases h1
          · have := f1.st p o (fun l a e1 e2 => z ⟨l, e2 ▸ e1⟩) q
            rw [hp] at this; cases this
      refine k _ _ _ _ ha hn (f1.trans (w1.new hp)) upd_same (da.dat.mono fun b o q => ⟨fun z => z.elim q.1 fun e => ?_, (w1.fz (w1.new hp) b o q).2⟩)
      have z := q.2
      rw [e, hp] at z; cases z
    · exact ha.elim⟩⟩
/-- name.append(value), the name's list its own -/
def sApp (i : Nat) (f : DE) : DS := fun De ρ Ed => match ρ[i]? with
  | some (.own xs) => f ρ (fun d => xs.length < 1000000 ∧ De.nx (ρ.set i (.own (xs ++ [d])))) Ed
  | _ => False
theorem sdApp {i : Nat} {x : Str} (hv : PE X (.Name x pos') (tVar i)) (h : PD X ad E Ed e fa)
    (pe : ∀ {te : TE}, PE X e te → PS X (.Expr (.Call (.Attribute (.Name x pos') "append" apos) [e] [] p) pos) (tDrop (tBM X.K "list" rAppend (tVar i) (tCons te tNil)))) : SD X ad E Ed (.Expr (.Call (.Attribute (.Name x pos') "append" apos) [e] [] p) pos) (sApp i fa) :=
  ⟨weakS (pe h.pe) fun Dn σ H ⟨c, P, ρ, De, r, t, en, h⟩ => by
    unfold sApp at h
    split at h
    · rename_i xs e
      obtain ⟨p, ep, es⟩ := r.own i xs e
      obtain ⟨q, vs, e2, b, n, hq, da⟩ := r.sl i _ e
      rw [es] at e2
      have : p = q := by injection e2 with e2; injection e2 with e2; injection e2
      subst this
      refine ⟨.ref p, es, .inl ⟨rfl, _, .inl (.inl hq)⟩, tie_e c P ρ De Dn r t h fun d v H1 hd r1 f1 dv => ?_⟩
      have hv1 := f1.st p _ n hq
      have da1 := da.mono (r.wd.fz f1)
      exact ⟨p, vs, v, rfl, rfl, hv1, by rw [da.length, sizeLine_eq]; omega, en.nx _ _ _ _ (r1.app e ep es hv1 (da1.append (.cons dv .nil))) hd.2⟩
    · exact h.elim⟩
end
end DL

set_option Elab.async false
set_option linter.all false
set_option maxRecDepth 100000
set_option maxHeartbeats 2000000
namespace DL
open PySem PySem.Spec PyProof.Rows L2 BT
/-! ### try -/
/-- e.what in a handler: e in slot i -/
def eXc (a x : Addr) (i : Nat) : DE := fun ρ Q _ => match ρ[i]? with
  | some (.exc a' x' d) => (a' = a ∧ x' = x) ∧ Q d
  | _ => False
abbrev Hd := Str × Nat × (Addr → Addr → DS)
def hxD : List Hd → DEnds → DXt → DXt
  | [], De, Ed => Ed
  | (h, i, s) :: r, De, Ed => fun ρ cn d => if cn = h then ∀ a x, s a x { nx := fun ρ2 => De.nx (ρ2.set i .un), ct := fun ρ2 => De.ct (ρ2.set i .un), bk := fun ρ2 => De.bk (ρ2.set i .un), rt := De.rt } (ρ.set i (.exc a x d)) X0 else hxD r De Ed ρ cn d
def sTry (errs : List Str) (g : DS) (hs : List Hd) : DS := fun De ρ Ed => g De ρ fun ρ' cn d => cn ∈ errs ∧ hxD hs De Ed ρ' cn d
/-- the error classes of the package, each its own kind -/
structure ErT (K : PySem.W.Frag) (ad : Str → Addr) (errs : List Str) : Prop where
  ex : ∀ x y, x ∈ errs → y ∈ errs → PySem.W.exmOne K (.ref (ad x)) (.ref (ad y)) = some (decide (x = y))
section
variable {X : Cx} {ad : Str → Addr} {E : L2.St → XK} {Ed : DXt} {errs : List Str}
theorem pdXc {a x : Addr} {C : Addr} {oe : Obj} {pn : List (Addr × Obj)} {i : Nat} {n : Str} {p pos : Pos} {E : L2.St → XK} (T : XfC X.K C) (hno : PySem.W.findIn X.K (.ref C) "what" = some none) (hz : Zc (.ref C) (some x) oe) (hf : ∃ vs, oe.data = .fields vs)
    (he : PE (X.suite a ((a, oe) :: pn)) (.Name n p) (tVar i)) (hb : attributeBase (.Name n p) "what" X.env (eval (.Name n p) X.env) = eval (.Name n p) X.env := by rfl) : PD (X.suite a ((a, oe) :: pn)) ad E Ed (.Attribute (.Name n p) "what" pos) (eXc a x i) :=
  ⟨weakE (pe_xf T hno hz hf he hb) fun σ H Q ⟨B, s, ρ, Qd, W, h, k⟩ => by
    unfold eXc at h
    split at h
    · rename_i a' x' d e
      obtain ⟨⟨rfl, rfl⟩, h⟩ := h
      obtain ⟨v, e1, e2, dv⟩ := W.rep.sl i _ e
      exact ⟨.ref a', e1, rfl, rfl, x', _, v, rfl, e2, rfl, k d v H h W.refl dv⟩
    · exact h.elim⟩
inductive ClD (X : Cx) (ad : Str → Addr) (errs : List Str) : List ExceptHandler → List Hd → Prop
  | nil : ClD X ad errs [] []
  | cons {x n : Str} {i : Nat} {s : Addr → Addr → DS} {b₀ : Stmt} {suite : List Stmt} {np pos' : Pos} {hds : List ExceptHandler} {hs : List Hd} (hi : X.N[i]? = some n) (hln : X.env.kindOf n = some .local) (hc : Names X x (.ref (ad x))) (hx : x ∈ errs)
      (hsu : ∀ (a : Addr) (oe : Obj) (x' : Addr) (pn : List (Addr × Obj)), Zc (.ref (ad x)) (some x') oe → (∃ vs, oe.data = .fields vs) → BS (X.suite a ((a, oe) :: pn)) ad (fun _ => E0) X0 (b₀ :: suite) (s a x')) (r : ClD X ad errs hds hs) :
      ClD X ad errs (.ExceptHandler (some (.Name x np)) (some n) (b₀ :: suite) pos' :: hds) ((x, i, s) :: hs)
theorem ClD.low (T : ErT X.K ad errs) : ∀ {hds : List ExceptHandler} {hs : List Hd}, ClD X ad errs hds hs → ∃ W : Ends → WX, Clauses X (fun cls d σ H => E σ cls d H) hds W ∧
    ∀ (Dn : Ends) (De : DEnds) (c : Ct) (Ed : DXt), EnT ad c De Dn → TieC ad E Ed c → ∀ P σ ρ H cn d v x, Rep ad c P H σ ρ → Dx ad (Fz (Bl c P) H) v d → H x = none → cn ∈ errs → hxD hs De Ed ρ cn d → W Dn (.ref (ad cn)) (some x) σ (upd H x (.xd [("what", v)]))
  | _, _, .nil => ⟨_, .nil, fun Dn De c Ed en t P σ ρ H cn d v x r dv hx _ q => t.t P σ ρ H cn d v x r dv hx q⟩
  | _, _, .cons (x := y) (i := i) (s := s) hi hln hc hy hsu r => by
    obtain ⟨W, h1, h2⟩ := ClD.low T r
    refine ⟨_, .cons (i := i) (ts := fun a cls d Dn σ H => ∃ x', cls = .ref (ad y) ∧ d = some x' ∧ tsD ad (fun _ => E0) X0 (s a x') Dn σ H) hi hln hc (fun a oe cls d pn hz hf => ⟨fun pins s σ H Dn I ⟨x', e1, e2, h⟩ => ?_⟩) h1, fun Dn De c Ed en t P σ ρ H cn d v x r dv hx he q => ?_⟩
    · subst e1 e2
      exact (hsu a oe x' pn hz hf).ps.run pins s σ H Dn I h
    · have ex := T.ex cn y he hy
      have r1 := r.frm (r.wd.new (o := .xd [("what", v)]) hx)
      have dv1 := r.wd.dx (r.wd.new (o := .xd [("what", v)]) hx) dv
      refine ⟨decide (cn = y), ex, fun e a ha => ?_, fun e => ?_⟩
      · have e := of_decide_eq_true e
        subst e
        have q : ∀ a x, s a x { nx := fun ρ2 => De.nx (ρ2.set i .un), ct := fun ρ2 => De.ct (ρ2.set i .un), bk := fun ρ2 => De.bk (ρ2.set i .un), rt := De.rt } (ρ.set i (.exc a x d)) X0 := by
          have q' := q
          unfold hxD at q'
          rw [if_pos rfl] at q'
          exact q'
        have r2 := r1.setS (i := i) (v := some (.ref a)) (sl := .exc a x d) (fun _ e => (nomatch e)) (fun _ e => (nomatch e)) ⟨v, rfl, upd_same, dv1.mono (fz_rm i)⟩
        refine ⟨x, rfl, rfl, c, _, _, { nx := fun ρ2 => De.nx (ρ2.set i .un), ct := fun ρ2 => De.ct (ρ2.set i .un), bk := fun ρ2 => De.bk (ρ2.set i .un), rt := De.rt }, r2, ⟨fun P σ ρ H cn d v x _ _ _ q => q.elim⟩, ⟨fun P3 σ3 ρ3 H3 r3 q3 => ?_, fun P3 σ3 ρ3 H3 r3 q3 => ?_, fun P3 σ3 ρ3 H3 r3 q3 => ?_, fun P3 σ3 ρ3 H3 d3 v3 r3 dv3 q3 => en.rt _ _ _ _ _ _ r3 dv3 q3⟩, q a x⟩
        · exact en.nx _ _ _ _ (r3.setS (i := i) (v := none) (sl := .un) (fun _ e => (nomatch e)) (fun _ e => (nomatch e)) trivial) q3
        · exact en.ct _ _ _ _ (r3.setS (i := i) (v := none) (sl := .un) (fun _ e => (nomatch e)) (fun _ e => (nomatch e)) trivial) q3
        · exact en.bk _ _ _ _ (r3.setS (i := i) (v := none) (sl := .un) (fun _ e => (nomatch e)) (fun _ e => (nomatch e)) trivial) q3
      · have e := of_decide_eq_false e
        have q' := q
        unfold hxD at q'
        rw [if_neg e] at q'
        exact h2 Dn De c Ed en t P σ ρ H cn d v x r dv hx he q'
theorem sdTry {body : List Stmt} {h₀ : ExceptHandler} {hds : List ExceptHandler} {hs : List Hd} {pos : Pos} {g : DS} (T : ErT X.K ad errs) (hs' : X.stack = X.env :: X.outer) (hf : X.env.frame = some X.env.locals) (hN : X.N.Nodup) (tk : Takes X (fun cls d σ H => E σ cls d H))
    (hb : ∀ (W : WX) (Ed' : DXt) (pn : List (Addr × Obj)) (xe : Value → Shared → Prop), Takes (X.tr pn xe) W → BS (X.tr pn xe) ad (WE W) Ed' body g) (hh : ClD X ad errs (h₀ :: hds) hs) : SD X ad E Ed (.Try body (h₀ :: hds) [] [] pos) (sTry errs g hs) := by
  obtain ⟨W, h1, h2⟩ := ClD.low (E := E) T hh
  refine ⟨weakS (ps_tryAs (tb := fun W Dn σ H => ∃ Ed', tsD ad (WE W) Ed' g Dn σ H) hs' hf hN tk (fun W pn xe tk' _ => ⟨fun pins s σ H Dn I ⟨Ed', h⟩ => (hb W Ed' pn xe tk').ps.run pins s σ H Dn I h⟩) h1) fun Dn σ H ⟨c, P, ρ, De, r, t, en, h⟩ => ?_⟩
  exact ⟨_, c, P, ρ, De, r, ⟨fun P' σ' ρ' H' cn d v x r' dv hx q => h2 Dn De c Ed en t P' σ' ρ' H' cn d v x r' dv hx q.1 q.2⟩, en, h⟩
end
/-! ### defs -/
section
variable {P : Program} {w : World} {K : PySem.W.Frag} {mg : Str → Option Value} {base : Heap} {ad : Str → Addr}
theorem ArA.sl {ad : Str → Addr} {B : Addr → Prop} {s : SO} {H : Hp} : ∀ {vs : List V} {as : List Sl}, ArA ad B s H vs as → ∀ (i : Nat) (sl : Sl), as[i]? = some sl → SlR ad B s H ((vs.map some)[i]?) sl ∧ (∀ xs, sl ≠ .own xs) ∧ ∀ xs, sl ≠ .ownD xs
  | _, _, .nil, i, sl, e => by simp at e
  | _, _, .cons (v := v) (a := a) h r, 0, sl, e => by
    have e : a = sl := Option.some.inj e
    subst e
    cases a with
    | dat d => exact ⟨⟨v, rfl, h⟩, fun _ e => (nomatch e), fun _ e => (nomatch e)⟩
    | src =>
      obtain ⟨l, b, e1, e2⟩ := h
      exact ⟨⟨l, b, e1, by rw [e2]; rfl⟩, fun _ e => (nomatch e), fun _ e => (nomatch e)⟩
    | _ => exact h.elim
  | _, _, .cons h r, i + 1, sl, e => ArA.sl r i sl e
/-- the body's beginning -/
theorem body_start {B : Addr → Prop} {s : SO} {H : Hp} {vs : List V} {as : List Sl} {N : List Str} (w : Wd B s H) (a : ArA ad B s H vs as) :
    Rep ad ⟨B, s, fun b o => (∀ l a, s = some (l, a) → b ≠ a) ∧ H b = some o⟩ (fun _ => none) H (L2.start N vs) (as ++ List.replicate (N.length - as.length) .un) := by
  have hB : ∀ b, Bl ⟨B, s, fun b o => (∀ l a, s = some (l, a) → b ≠ a) ∧ H b = some o⟩ (fun _ => none) b ↔ B b := fun b => ⟨fun h => h.elim id fun ⟨i, e⟩ => (nomatch e), .inl⟩
  have hl := a.length
  have sl : ∀ (i : Nat) (sl : Sl), (as ++ List.replicate (N.length - as.length) Sl.un)[i]? = some sl → sl = .un ∨ (as[i]? = some sl ∧ (L2.start N vs)[i]? = (vs.map some)[i]?) := fun i sl e => by
    by_cases q : i < as.length
    · rw [List.getElem?_append_left q] at e
      refine .inr ⟨e, ?_⟩
      unfold L2.start
      rw [List.getElem?_append_left (by rw [List.length_map, hl]; exact q)]
    · rw [List.getElem?_append_right (by omega), List.getElem?_replicate] at e
      split at e
      · exact .inl (Option.some.inj e).symm
      · cases e
  refine ⟨⟨fun b h => w.al b ((hB b).mp h), fun l a e => ⟨(w.sr l a e).1, .inl (w.sr l a e).2.1, .inl (w.sr l a e).2.2⟩⟩, fun l a e => ⟨(w.sr l a e).2.1, (w.sr l a e).2.2, fun o q => q.1 l a e rfl⟩, fun b o q => q.2, fun i p e => (nomatch e), fun i j p e => (nomatch e), fun i sl' e => ?_, fun i xs e => ?_, fun i xs e => ?_, ?_⟩
  · rcases sl i sl' e with rfl | ⟨e1, e2⟩
    · trivial
    · rw [e2]
      have q := (a.sl i sl' e1).1
      exact q.up w (fun b h => .inl h) (fun b o h => ⟨fun z => h.1 ((hB b).mp z), h.2⟩) (fun b o _ h => h)
  · rcases sl i _ e with e | ⟨e1, e2⟩
    · cases e
    · exact absurd rfl ((a.sl i _ e1).2.1 xs)
  · rcases sl i _ e with e | ⟨e1, e2⟩
    · cases e
    · exact absurd rfl ((a.sl i _ e1).2.2 xs)
  · unfold L2.start
    rw [List.length_append, List.length_map, List.length_replicate, List.length_append, List.length_replicate, hl]
theorem body_end {B : Addr → Prop} {s : SO} {H H' : Hp} {σ : L2.St} {ρ : List Sl} {Q : Nat → Option Addr} (r : Rep ad ⟨B, s, fun b o => (∀ l a, s = some (l, a) → b ≠ a) ∧ H b = some o⟩ Q H' σ ρ) : Frm s H H' := ⟨fun b o n h => r.z b o ⟨n, h⟩, fun l a e => (r.wd.sr l a e).1⟩
theorem body_fz {B : Addr → Prop} {s : SO} {Z : Addr → HO → Prop} {H' : Hp} {Q : Nat → Option Addr} : ∀ b o, Fz (Bl ⟨B, s, Z⟩ Q) H' b o → Fz B H' b o := fun b o h => ⟨fun q => h.1 (.inl q), h.2⟩
theorem body_low {E : XK} {g : DS} {dsp : DSp} {N ps : List Str} {vs : List V} {H : Hp} {Q : VK} (sem : ∀ as Qd Xd, dsp as Qd Xd → as.length = ps.length ∧ g { nx := fun _ => Qd .non, rt := Qd } (as ++ List.replicate (N.length - as.length) .un) fun _ => Xd)
    (h : spD ad dsp vs H Q E) : vs.length = ps.length ∧ ∃ Ed, tsD ad (fun _ => E) Ed g { nx := fun _ H' => Q .non H', rt := Q } (L2.start N vs) H := by
  obtain ⟨B, s, as, Qd, Xd, wd, da, hd, hq, hx⟩ := h
  obtain ⟨hl, hg⟩ := sem as Qd Xd hd
  refine ⟨by rw [da.length, hl], fun _ => Xd, _, _, _, { nx := fun _ => Qd .non, rt := Qd }, body_start wd da, ⟨fun P σ ρ H' cn d v x r dv hx' q => hx cn d v x H' q (body_end r) (dv.mono body_fz) hx'⟩, ⟨fun P σ ρ H' r q => hq .non .non H' q (body_end r) .non, fun P σ ρ H' r q => q.elim, fun P σ ρ H' r q => q.elim, fun P σ ρ H' d v r dv q => hq d v H' q (body_end r) (dv.mono body_fz)⟩, hg⟩
theorem fnX {x qual : Str} {pr : Arguments} {body : List Stmt} {sc : Scope} {f : Addr} {fd : FuncData} {N ps : List Str} {k : Nat} {dsp : DSp} {g : DS} (F : FunD K x qual pr body sc [] [] f fd) (S : FnScope N ps sc)
    (rd : ∀ (cdv : Value) (A : Around) (outer : List Env) (s : Shared) (H : Hp) (E : XK) (Ed : DXt), Room k (A.deeper (envOfC qual sc s.heap.objs.size f cdv)) → BS (cxOf (L2.CX P w) P w K mg base N qual sc f cdv A outer s H E) ad (fun _ => E) Ed body g)
    (sem : ∀ as Qd Xd, dsp as Qd Xd → as.length = ps.length ∧ g { nx := fun _ => Qd .non, rt := Qd } (as ++ List.replicate (N.length - as.length) .un) fun _ => Xd) : FnOk P w K mg base (L2.CX P w) (k + 1) f fd ps (spD ad dsp) := by
  refine F.ok S (fun vs H Q E h => (body_low (N := N) sem h).1) (fun cdv A outer s H vs Q E hr h => ?_)
  obtain ⟨_, Ed, h⟩ := body_low (N := N) sem h
  exact ⟨_, (rd cdv A outer s H E Ed hr).ps, h⟩
theorem fnY {x : Str} {st : Stmt} {f : Addr} {fd : FuncData} {N ps : List Str} {k : Nat} {dsp : DSp} {g : DS} (F : FnP K x st f fd) (S : FnScope N ps (defScope st))
    (rd : ∀ (cdv : Value) (A : Around) (outer : List Env) (s : Shared) (H : Hp) (Ed : DXt), Room k (A.deeper (envOfC x (defScope st) s.heap.objs.size f cdv)) → A.guards = some [] → BS (cxOf CX0 P w K mg base N x (defScope st) f cdv A outer s H E0).nox ad (fun _ => E0) Ed (defBody st) g)
    (sem : ∀ as Qd Xd, dsp as Qd Xd → as.length = ps.length ∧ g { nx := fun _ => Qd .non, rt := Qd } (as ++ List.replicate (N.length - as.length) .un) fun _ => Xd) : FnG P w K mg base (k + 1) f fd ps (spD ad dsp) := by
  refine okG_of F S (fun vs H Q E h => (body_low (N := N) sem h).1) (fun cdv A outer s H vs Q hr gd h => ?_)
  obtain ⟨_, Ed, h⟩ := body_low (N := N) sem h
  exact ⟨_, (rd cdv A outer s H Ed hr gd).ps, h⟩
theorem FnOk.wide {k : Nat} {f : Addr} {fd : FuncData} {ps : List Str} {sp : Sp} (F : FnOk P w K mg base CX0 k f fd ps sp) : FnOk P w K mg base (L2.CX P w) k f fd ps sp :=
  ⟨F.len, fun A outer s H args us vs Q E hr e0 bt r q => codeAny_mono (F.run A outer s H args us vs Q E hr e0 bt r q) fun res s' out => by
    cases res with
    | error er => exact False.elim out
    | ok fl => cases fl with
      | ret u => exact out
      | _ => exact False.elim out⟩
end
end DL

set_option Elab.async false
set_option linter.all false
set_option maxRecDepth 100000
set_option maxHeartbeats 2000000
namespace DL
open PySem PySem.Spec PyProof.Rows L2 BT
section
variable {X : Cx} {ad : Str → Addr} {E : L2.St → XK} {Ed : DXt} {a b c e e' o : Expr} {fa fb fc : DE} {p pos apos p1 p2 p3 : Pos} {n i : Nat} {ga : DA} {x : Str} {rest : List Expr} {tc : DT}
/-! ### truth as a value -/
def eNot (f : DE) : DE := fun ρ Q Ed => f ρ (fun d => match d with
  | .bl c => Q (.bl (!c))
  | _ => False) Ed
theorem pdNot (h : PD X ad E Ed a fa) : PD X ad E Ed (.UnaryOp .Not a pos) (eNot fa) := ⟨weakE (pe_not h.pe) fun σ H Q ⟨B, s, ρ, Qd, W, h, k⟩ => ⟨B, s, ρ, _, W, h, fun d v H1 hd f1 dv => by
    cases d with
    | bl c => cases dv; exact ⟨c, rfl, k _ _ _ hd f1 (.bl _)⟩
    | _ => exact hd.elim⟩⟩
theorem pdOne {op : BoolOp} (h : PD X ad E Ed a fa) : PD X ad E Ed (.BoolOp op [a] pos) fa := ⟨pe_one h.pe⟩
def eAn (f g : DE) : DE := fun ρ Q Ed => f ρ (fun d => match d with
  | .bl c => if c = true then g ρ Q Ed else Q (.bl false)
  | _ => False) Ed
def eOo (f g : DE) : DE := fun ρ Q Ed => f ρ (fun d => match d with
  | .bl c => if c = true then Q (.bl true) else g ρ Q Ed
  | _ => False) Ed
theorem pdAn (h : PD X ad E Ed a fa) (h2 : PD X ad E Ed (.BoolOp .And (b :: rest) pos) fb) : PD X ad E Ed (.BoolOp .And (a :: b :: rest) pos) (eAn fa fb) := ⟨weakE (pe_and h.pe h2.pe) fun σ H Q ⟨B, s, ρ, Qd, W, h, k⟩ => ⟨B, s, ρ, _, W, h, fun d v H1 hd f1 dv => by
    cases d with
    | bl c =>
      cases dv
      cases c with
      | true => exact ⟨true, rfl, iteT ⟨B, s, ρ, Qd, W.frm f1, hd, fun d v H2 hd f2 dv => k d v H2 hd (f1.trans f2) dv⟩⟩
      | false => exact ⟨false, rfl, iteF (k _ _ H1 hd f1 (.bl _))⟩
    | _ => exact hd.elim⟩⟩
theorem pdOo (h : PD X ad E Ed a fa) (h2 : PD X ad E Ed (.BoolOp .Or (b :: rest) pos) fb) : PD X ad E Ed (.BoolOp .Or (a :: b :: rest) pos) (eOo fa fb) := ⟨weakE (pe_or h.pe h2.pe) fun σ H Q ⟨B, s, ρ, Qd, W, h, k⟩ => ⟨B, s, ρ, _, W, h, fun d v H1 hd f1 dv => by
    cases d with
    | bl c =>
      cases dv
      cases c with
      | true => exact ⟨true, rfl, iteT (k _ _ H1 hd f1 (.bl _))⟩
      | false => exact ⟨false, rfl, iteF ⟨B, s, ρ, Qd, W.frm f1, hd, fun d v H2 hd f2 dv => k d v H2 hd (f1.trans f2) dv⟩⟩
    | _ => exact hd.elim⟩⟩
def eIf (t : DT) (f g : DE) : DE := fun ρ Q Ed => t ρ (fun c => if c = true then f ρ Q Ed else g ρ Q Ed) Ed
theorem pdIf (hc : TD X ad E Ed c tc) (ha : PD X ad E Ed a fa) (hb : PD X ad E Ed b fb) : PD X ad E Ed (.IfExp c a b pos) (eIf tc fa fb) := ⟨weakE (pe_ifExp hc.pt ha.pe hb.pe) fun σ H Q ⟨B, s, ρ, Qd, W, h, k⟩ => ⟨B, s, ρ, _, W, h, fun c H1 hc f1 => by
    cases c with
    | true => exact iteT ⟨B, s, ρ, Qd, W.frm f1, hc, fun d v H2 hd f2 dv => k d v H2 hd (f1.trans f2) dv⟩
    | false => exact iteF ⟨B, s, ρ, Qd, W.frm f1, hc, fun d v H2 hd f2 dv => k d v H2 hd (f1.trans f2) dv⟩⟩⟩
/-! ### kinds -/
def tyS : D → Option String
  | .non => some "NoneType"
  | .bl _ => some "bool"
  | .int _ => some "int"
  | .str _ => some "str"
  | .lst _ => some "list"
  | .tup _ => some "tuple"
  | .dct _ => some "dict"
  | .obj _ _ => none
theorem Dx.ty {K : PySem.W.Frag} {B : Addr → Prop} {H : Hp} {v : V} {d : D} {t : String} (h : Dx ad (Fz B H) v d) (e : tyS d = some t) : TyX K H v (.type t) := by
  cases h with
  | non => cases e; exact .base .non
  | bl b => cases e; exact .base (.bl b)
  | int i => cases e; exact .base (.int i)
  | str x => cases e; exact .base (.str x)
  | lst ea _ => cases e; exact .base (.lst ea.2)
  | tup ea _ => cases e; exact .base (.tup ea.2)
  | dct ea _ => cases e; exact .base (.dK ea.2)
  | obj ea _ => cases e
/-- isinstance(x, T), x no object of the package's -/
def eIs (T : String) (f : DE) : DE := fun ρ Q Ed => f ρ (fun d => match tyS d with
  | some t => Q (.bl (isS T t))
  | none => False) Ed
theorem pdIs {T : String} {y : Str} (hg : Gl X "isinstance") (hm : X.mg "isinstance" = none) (gT : Gl X y) (mT : X.mg y = none) (bT : bootBuiltins y = some (.type T)) (hk : (kinds.all fun t => decide (kitB t T = some (isS T t))) = true) (ha : PD X ad E Ed e fa)
    (hn : y ≠ "__name__" := by decide) (hdb : (y == ("__debug__" : Str)) = false := by decide)
    (hs : starEach [e, .Name y p2] X.env = (false, eval e X.env) :: starEach [.Name y p2] X.env := by rfl) (hs2 : starEach [.Name y p2] X.env = (false, eval (.Name y p2) X.env) :: starEach [] X.env := by rfl) (hpl : (backTo pos (starEach [.Name y p2] X.env)).any (·.1) = false := by rfl) :
    PD X ad E Ed (.Call (.Name "isinstance" p) [e, .Name y p2] [] pos) (eIs T fa) :=
  ⟨weakE (pe_callB call_isi hg hm PyProof.Rows.boot_isinstance (pa_cons ha.pe (pa_cons (pe_bltn (v := .ty T) gT mT bT rfl hn hdb) pa_nil hs2) hs) (by decide) (by decide) hs hpl) fun σ H Q ⟨B, s, ρ, Qd, W, h, k⟩ => ⟨B, s, ρ, _, W, h, fun d v H1 hd f1 dv => by
    split at hd
    · rename_i t et
      have mem : t ∈ kinds := by cases d <;> cases et <;> simp [kinds]
      exact ⟨v, .ty T, _, _, _, rfl, .ty T, dv.ty et, kit_ty (of_decide_eq_true (List.all_eq_true.mp hk _ mem)), k _ _ H1 hd f1 (.bl _)⟩
    · exact hd.elim⟩⟩
/-! ### bits, texts of bits -/
theorem pdBits (ho : PD X ad E Ed o fa) (hbase : attributeBase o "bit_length" X.env (eval o X.env) = eval o X.env := by rfl) (hline : (apos.endLine == pos.line) = true := by rfl) : PD X ad E Ed (.Call (.Attribute o "bit_length" apos) [] [] pos) (e1 (oI1 fun i => .int (Builtin.Int.intBits i : Nat)) fa) :=
  ⟨weakE (pe_bits ho.pe hbase hline) fun σ H Q ⟨B, s, ρ, Qd, W, h, k⟩ => ⟨B, s, ρ, _, W, h, fun d v H1 hd f1 dv => by
    unfold oI1 at hd
    split at hd
    · cases dv; exact ⟨_, rfl, k _ _ _ hd f1 (.int _)⟩
    · exact hd.elim⟩⟩
/-! ### lists of whole numbers, of flags -/
def intsD : List D → Option (List Int)
  | [] => some []
  | .int i :: r => (intsD r).map (i :: ·)
  | _ => none
def blsD : List D → Option (List Bool)
  | [] => some []
  | .bl i :: r => (blsD r).map (i :: ·)
  | _ => none
theorem DxA.intsD {F : Addr → HO → Prop} : ∀ {vs : List V} {ds : List D} {ns : List Int}, DxA ad F vs ds → DL.intsD ds = some ns → vs = ns.map V.int
  | _, _, _, .nil, e => by
    simp only [DL.intsD] at e
    cases Option.some.inj e; rfl
  | _, _, _, .cons a r, e => by
    cases a with
    | int i =>
      simp only [DL.intsD] at e
      obtain ⟨ns, e1, e2⟩ := Option.map_eq_some_iff.mp e
      subst e2
      rw [DxA.intsD r e1]; rfl
    | _ => simp [DL.intsD] at e
theorem DxA.blsD {F : Addr → HO → Prop} : ∀ {vs : List V} {ds : List D} {ns : List Bool}, DxA ad F vs ds → DL.blsD ds = some ns → vs = ns.map V.bl
  | _, _, _, .nil, e => by
    simp only [DL.blsD] at e
    cases Option.some.inj e; rfl
  | _, _, _, .cons a r, e => by
    cases a with
    | bl i =>
      simp only [DL.blsD] at e
      obtain ⟨ns, e1, e2⟩ := Option.map_eq_some_iff.mp e
      subst e2
      rw [DxA.blsD r e1]; rfl
    | _ => simp [DL.blsD] at e
theorem ints_of : ∀ ns : List Int, intsD (ns.map D.int) = some ns
  | [] => rfl
  | n :: ns => by simp only [List.map_cons, intsD, ints_of ns, Option.map_some]
theorem bools_of : ∀ ns : List Bool, blsD (ns.map D.bl) = some ns
  | [] => rfl
  | n :: ns => by simp only [List.map_cons, blsD, bools_of ns, Option.map_some]
theorem dx_ints {F : Addr → HO → Prop} : ∀ ns : List Int, DxA ad F (ns.map V.int) (ns.map D.int)
  | [] => .nil
  | n :: ns => .cons (.int n) (dx_ints ns)
def oSum : List D → (D → Prop) → Prop
  | [.lst xs], Q => (match intsD xs with | some ns => Q (.int ns.sum) | none => False)
  | _, _ => False
theorem pdSum (hc : X.calm = true) (hg : Gl X "sum") (hm : X.mg "sum" = none) (ha : AD X ad E Ed [e] n ga) (he : starEach [e] X.env = (false, eval e X.env) :: starEach [] X.env := by rfl) (hpl : (backTo pos (starEach [] X.env)).any (·.1) = false := by rfl) : PD X ad E Ed (.Call (.Name "sum" p) [e] [] pos) (eB oSum ga) :=
  pdB (cr_sum hc) (fun B s H vs ds Qd Q w da h k => by
    unfold oSum at h
    split at h
    · split at h
      · rename_i ns e
        cases da with
        | cons a r => cases r; cases a with
          | lst ea ra =>
            have ev := ra.intsD e
            subst ev
            exact ⟨_, ns, rfl, .inl (.inl ea.2), k _ _ H h w.refl (.int _)⟩
      · exact h.elim
    · exact h.elim) hg hm (by decide +kernel) ha (by decide) (by decide) he hpl
def oAny : List D → (D → Prop) → Prop
  | [.lst xs], Q => (match blsD xs with
    | some bs => Q (.bl (bs.any id))
    | none => match intsD xs with
      | some ns => Q (.bl (ns.any (· != 0)))
      | none => False)
  | _, _ => False
theorem pdAny (hc : X.calm = true) (hg : Gl X "any") (hm : X.mg "any" = none) (ha : AD X ad E Ed [e] n ga) (he : starEach [e] X.env = (false, eval e X.env) :: starEach [] X.env := by rfl) (hpl : (backTo pos (starEach [] X.env)).any (·.1) = false := by rfl) : PD X ad E Ed (.Call (.Name "any" p) [e] [] pos) (eB oAny ga) :=
  pdB (CallR.or (cr_any hc) (cr_anyI hc)) (fun B s H vs ds Qd Q w da h k => by
    unfold oAny at h
    split at h
    · split at h
      · rename_i ns e
        cases da with
        | cons a r => cases r; cases a with
          | lst ea ra =>
            have ev := ra.blsD e
            subst ev
            exact .inl ⟨_, ns, rfl, .inl (.inl ea.2), k _ _ H h w.refl (.bl _)⟩
      · split at h
        · rename_i ns e
          cases da with
          | cons a r => cases r; cases a with
            | lst ea ra =>
              have ev := ra.intsD e
              subst ev
              exact .inr ⟨_, ns, rfl, .inl (.inl ea.2), k _ _ H h w.refl (.bl _)⟩
        · exact h.elim
    · exact h.elim) hg hm (by decide +kernel) ha (by decide) (by decide) he hpl
def oAll : List D → (D → Prop) → Prop
  | [.lst xs], Q => (match blsD xs with | some bs => Q (.bl (bs.all id)) | none => False)
  | _, _ => False
theorem pdAll (hc : X.calm = true) (hg : Gl X "all") (hm : X.mg "all" = none) (ha : AD X ad E Ed [e] n ga) (he : starEach [e] X.env = (false, eval e X.env) :: starEach [] X.env := by rfl) (hpl : (backTo pos (starEach [] X.env)).any (·.1) = false := by rfl) : PD X ad E Ed (.Call (.Name "all" p) [e] [] pos) (eB oAll ga) :=
  pdB (cr_all hc) (fun B s H vs ds Qd Q w da h k => by
    unfold oAll at h
    split at h
    · split at h
      · rename_i ns e
        cases da with
        | cons a r => cases r; cases a with
          | lst ea ra =>
            have ev := ra.blsD e
            subst ev
            exact ⟨_, ns, rfl, .inl (.inl ea.2), k _ _ H h w.refl (.bl _)⟩
      · exact h.elim
    · exact h.elim) hg hm (by decide +kernel) ha (by decide) (by decide) he hpl
/-- sorted, of whole numbers -/
def oSrtI : List D → (D → Prop) → Prop
  | [.lst xs], Q => ∃ ns, intsD xs = some ns ∧ ∀ ns' : List Int, ns'.Perm ns → ns'.Pairwise (· ≤ ·) → Q (.lst (ns'.map D.int))
  | _, _ => False
theorem pdSrtI (hg : Gl X "sorted") (hm : X.mg "sorted" = none) (ha : AD X ad E Ed [e] n ga) (he : starEach [e] X.env = (false, eval e X.env) :: starEach [] X.env := by rfl) (hpl : (backTo pos (starEach [] X.env)).any (·.1) = false := by rfl) : PD X ad E Ed (.Call (.Name "sorted" p) [e] [] pos) (eB oSrtI ga) :=
  pdB cr_sortedI (fun B s H vs ds Qd Q w da h k => by
    unfold oSrtI at h
    split at h
    · obtain ⟨ns, e, h⟩ := h
      cases da with
      | cons a r => cases r; cases a with
        | lst ea ra =>
          have ev := ra.intsD e
          subst ev
          exact ⟨_, ns, rfl, .inl (.inl ea.2), fun ns' p hp hs hn => k _ _ _ (h ns' hp hs) (w.new hn) (.lst ⟨w.nb hn, upd_same⟩ (dx_ints ns'))⟩
    · exact h.elim) hg hm (by decide +kernel) ha (by decide) (by decide) he hpl
/-- xs[::-1] -/
def eRev (f : DE) : DE := fun ρ Q Ed => f ρ (fun d => match d with
  | .lst xs => Q (.lst xs.reverse)
  | _ => False) Ed
theorem DxA.reverse {F : Addr → HO → Prop} : ∀ {vs : List V} {ds : List D}, DxA ad F vs ds → DxA ad F vs.reverse ds.reverse
  | _, _, .nil => .nil
  | _, _, .cons a r => by
    rw [List.reverse_cons, List.reverse_cons]
    exact (DxA.reverse r).append (.cons a .nil)
theorem pdRev {k : Nat} (h : PD X ad E Ed e fa) : PD X ad E Ed (.Subscript e (.Slice none none (some (.UnaryOp .USub (.Constant (.int 1) k p1) p2)) p3) pos) (eRev fa) :=
  ⟨weakE (pe_revL h.pe) fun σ H Q ⟨B, s, ρ, Qd, W, h, k⟩ => ⟨B, s, ρ, _, W, h, fun d v H1 hd f1 dv => by
    cases dv with
    | lst ea ra => exact ⟨_, _, rfl, .inl (.inl ea.2), fun p hp => k _ _ _ hd (f1.trans ((W.frm f1).wd.new hp)) (.lst ⟨(W.frm f1).wd.nb hp, upd_same⟩ (ra.reverse.mono ((W.frm f1).wd.fz ((W.frm f1).wd.new hp))))⟩
    | _ => exact hd.elim⟩⟩
/-- x in xs -/
def oIn (neg : Bool) : D → D → (D → Prop) → Prop
  | x, .lst ys, Q => ∃ d ds, pyN x = some d ∧ pyNs ys = some ds ∧ SeqAt.shaped d = true ∧ SeqAt.shaped (.list ds) = true ∧ Q (.bl (ng neg (ds.any fun z => PyData.eqv z d)))
  | _, _, _ => False
theorem dIn {K : PySem.W.Frag} : OpD ad (rInD K) (oIn false) := fun B s H x y dx dy Qd Q w da db h k => by
  unfold oIn at h
  split at h
  · obtain ⟨d, ds, e1, e2, e3, e4, h⟩ := h
    rw [xor_f] at h
    exact ⟨d, ds, da.dp e1, db.dp (by simp only [pyN, e2, Option.map_some]), e3, e4, k _ _ H h w.refl (.bl _)⟩
  · exact h.elim
theorem dNotIn {K : PySem.W.Frag} : OpD ad (rNotInD K) (oIn true) := fun B s H x y dx dy Qd Q w da db h k => by
  unfold oIn at h
  split at h
  · obtain ⟨d, ds, e1, e2, e3, e4, h⟩ := h
    rw [xor_t] at h
    exact ⟨d, ds, da.dp e1, db.dp (by simp only [pyN, e2, Option.map_some]), e3, e4, k _ _ H h w.refl (.bl _)⟩
  · exact h.elim
end
/-! ### lists that are being written, looked at -/
def seqO : Sl → Option (List D)
  | .own xs => some xs
  | .dat (.lst xs) => some xs
  | _ => none
theorem seqO_at {ad : Str → Addr} {B : Addr → Prop} {s : SO} {H : Hp} {o : Option (Option V)} {sl : Sl} {xs : List D} (w : Wd B s H) (h : SlR ad B s H o sl) (e : seqO sl = some xs) : ∃ p vs, o = some (some (.ref p)) ∧ ∀ H1, Frm s H H1 → H1 p = some (.lst vs) ∧ DxA ad (Fz B H1) vs xs := by
  cases sl with
  | own ys =>
    cases Option.some.inj e
    obtain ⟨p, vs, e1, _, n, hv, da⟩ := h
    exact ⟨p, vs, e1, fun H1 f => ⟨f.st _ _ n hv, da.mono (w.fz f)⟩⟩
  | dat d =>
    obtain ⟨v, e1, dv⟩ := h
    cases dv with
    | lst ea ra =>
      cases Option.some.inj e
      exact ⟨_, _, e1, fun H1 f => ⟨(w.fz f _ _ ea).2, ra.mono (w.fz f)⟩⟩
    | _ => cases e
  | _ => cases e
section
variable {X : Cx} {ad : Str → Addr} {E : L2.St → XK} {Ed : DXt} {e o b : Expr} {fa fb : DE} {p pos pos' pos2 apos : Pos} {i j : Nat} {x : Str} {n : Nat} {ga : DA}
/-- len(x) -/
def eLenO (i : Nat) : DE := fun ρ Q _ => match (ρ[i]?).bind seqO with
  | some xs => Q (.int xs.length)
  | none => False
theorem pdLenO (hg : Gl X "len") (hm : X.mg "len" = none) (hv : PE X (.Name x pos') (tVar i)) (he : starEach [.Name x pos'] X.env = (false, eval (.Name x pos') X.env) :: starEach [] X.env := by rfl) (hpl : (backTo pos (starEach [] X.env)).any (·.1) = false := by rfl) :
    PD X ad E Ed (.Call (.Name "len" p) [.Name x pos'] [] pos) (eLenO i) :=
  ⟨weakE (pe_callB call_len_seq hg hm PySem.boot_len (pa_cons hv pa_nil he) (by decide) (by decide) he hpl) fun σ H Q ⟨B, s, ρ, Qd, W, h, k⟩ => by
    unfold eLenO at h
    split at h
    · rename_i xs e
      obtain ⟨sl, e1, e2⟩ := Option.bind_eq_some_iff.mp e
      obtain ⟨q, vs, e3, hh⟩ := seqO_at W.wd (W.rep.sl i _ e1) e2
      obtain ⟨h1, da⟩ := hh H W.refl
      exact ⟨.ref q, e3, q, vs, rfl, .inl (.inl (.inl h1)), k _ _ H h W.refl (by rw [da.length]; exact .int _)⟩
    · exact h.elim⟩
/-- x[e] -/
def eIxO (i : Nat) (f : DE) : DE := fun ρ Q Ed => match (ρ[i]?).bind seqO with
  | some xs => f ρ (fun d => match d with
    | .int k => (match atI xs k with | some d => Q d | none => False)
    | _ => False) Ed
  | none => False
theorem pdIxO (hv : PE X (.Name x pos') (tVar i)) (hb : PD X ad E Ed b fb) (hs : PlainIx b) : PD X ad E Ed (.Subscript (.Name x pos') b pos) (eIxO i fb) :=
  ⟨weakE (pe_ix ix_list hv hb.pe hs) fun σ H Q ⟨B, s, ρ, Qd, W, h, k⟩ => by
    unfold eIxO at h
    split at h
    · rename_i xs e
      obtain ⟨sl, e1, e2⟩ := Option.bind_eq_some_iff.mp e
      obtain ⟨q, vs, e3, hh⟩ := seqO_at W.wd (W.rep.sl i _ e1) e2
      refine ⟨.ref q, e3, B, s, ρ, _, W, h, fun d v H1 hd f1 dv => ?_⟩
      obtain ⟨h1, da⟩ := hh H1 f1
      cases dv with
      | int j =>
        dsimp only at hd
        split at hd
        · rename_i y ey
          obtain ⟨u, hu, du⟩ := da.at_ ey
          exact ⟨q, vs, j, u, rfl, rfl, .inl (.inl h1), hu, k y u H1 hd f1 du⟩
        · exact hd.elim
      | _ => exact hd.elim
    · exact h.elim⟩
/-- x[e] = value, x a list of its own -/
def sPut (i : Nat) (fk fv : DE) : DS := fun De ρ Ed => fv ρ (fun d => match ρ[i]? with
  | some (.own xs) => fk ρ (fun k => match k with
    | .int z => (match ixN xs.length z with | some j => De.nx (ρ.set i (.own (xs.set j d))) | none => False)
    | _ => False) Ed
  | _ => False) Ed
theorem DxA.set {F : Addr → HO → Prop} {v : V} {d : D} (h : Dx ad F v d) : ∀ {vs : List V} {ds : List D} (j : Nat), DxA ad F vs ds → DxA ad F (vs.set j v) (ds.set j d)
  | _, _, _, .nil => .nil
  | _, _, 0, .cons a r => .cons h r
  | _, _, j + 1, .cons a r => .cons a (DxA.set h j r)
theorem sdPut (hv : PE X (.Name x pos') (tVar i)) (hk : PD X ad E Ed b fb) (h : PD X ad E Ed e fa) (hs : swapsWithSole [.Subscript (.Name x pos') b pos2] e pos.line X.env = pure false := by rfl) (hw : swappedStores [.Subscript (.Name x pos') b pos2] e X.env = pure none := by rfl)
    (h1 : (assignEach [.Subscript (.Name x pos') b pos2] X.env).map (·.2) = [assign (.Subscript (.Name x pos') b pos2) X.env] := by rfl) (ha : ∀ {to ti : TE} {t : TSet}, PE X (.Name x pos') to → PE X b ti → PSet X t → PG X (.Subscript (.Name x pos') b pos2) (gSub to ti t)) :
    SD X ad E Ed (.Assign [.Subscript (.Name x pos') b pos2] e pos) (sPut i fb fa) :=
  ⟨weakS (ps_asg h.pe (ha hv hk.pe set_list) hs hw h1) fun Dn σ H ⟨c, P, ρ, De, r, t, en, h⟩ => tie_e c P ρ De Dn r t h fun d v H1 hd r1 f1 dv => by
    split at hd
    · rename_i xs e
      obtain ⟨q, ep, es⟩ := r1.own i xs e
      obtain ⟨q', vs, e2, b, nn, hq, da⟩ := r1.sl i _ e
      rw [es] at e2
      have : q = q' := by injection e2 with e2; injection e2 with e2; injection e2
      subst this
      refine ⟨.ref q, es, tie_e c P ρ De Dn r1 t hd fun kd kv H2 hk r2 f2 dk => ?_⟩
      have hv2 := f2.st _ _ nn hq
      have da2 := da.mono (r1.wd.fz f2)
      cases dk with
      | int z =>
        dsimp only at hk
        split at hk
        · rename_i j ej
          refine ⟨q, vs, z, j, rfl, rfl, hv2, by rw [da2.length]; exact ej, en.nx _ _ _ _ (r2.app e ep es hv2 (DxA.set (r1.wd.dx f2 dv) j da2)) hk⟩
        · exact hk.elim
      | _ => exact hk.elim
    · exact hd.elim⟩
/-- list(x), x * k: new lists -/
def fList (f : DE) : DF := fun ρ Q Ed => f ρ (fun d => match seqD d with
  | some xs => Q xs
  | none => False) Ed
theorem none_back {s : SO} {H H1 : Hp} {p : Addr} (f : Frm s H H1) (hp : H1 p = none) : H p = none := by
  cases q : H p with
  | none => rfl
  | some o =>
    by_cases z : ∃ l, s = some (l, p)
    · obtain ⟨l, z⟩ := z
      obtain ⟨i, x, c, cl, n, y, _, h1⟩ := (f.sr l p z).at_
      rw [hp] at h1; cases h1
    · have := f.st p o (fun l a e1 e2 => z ⟨l, e2 ▸ e1⟩) q
      rw [hp] at this; cases this
theorem fin_new {B : Addr → Prop} {s : SO} {H H1 : Hp} {p : Addr} {vs : List V} {xs : List D} {Qd : List D → Prop} {Q : VK} (w1 : Wd B s H1) (f1 : Frm s H H1) (hp : H1 p = none) (da : DxA ad (Fz B H1) vs xs) (hx : Qd xs)
    (k : ∀ xs p vs H', Qd xs → H p = none → Frm s H H' → H' p = some (.lst vs) → DxA ad (Fz (fun b => B b ∨ b = p) H') vs xs → Q (.ref p) H') : Q (.ref p) (upd H1 p (.lst vs)) :=
  k _ _ _ _ hx (none_back f1 hp) (f1.trans (w1.new hp)) upd_same (da.mono fun b o q => ⟨fun z => z.elim q.1 (fun e => by
    have z := q.2
    rw [e, hp] at z
    cases z), (w1.fz (w1.new hp) b o q).2⟩)
theorem pfList (hg : Gl X "list") (hm : X.mg "list" = none) (h : PD X ad E Ed e fa) (he : starEach [e] X.env = (false, eval e X.env) :: starEach [] X.env := by rfl) (hpl : (backTo pos (starEach [] X.env)).any (·.1) = false := by rfl) : PF X ad E Ed (.Call (.Name "list" p) [e] [] pos) (fList fa) :=
  ⟨weakE (pe_callTy call_list_of hg hm PyProof.Rows.boot_list (pa_cons h.pe pa_nil he) (by decide) (by decide) he hpl) fun σ H Q ⟨B, s, ρ, Qd, W, h, k⟩ => ⟨B, s, ρ, _, W, h, fun d v H1 hd f1 dv => by
    cases dv with
    | lst ea ra => exact ⟨_, _, rfl, .inl (.inl (.inl ea.2)), fun l hl => fin_new (W.frm f1).wd f1 hl ra hd k⟩
    | tup ea ra => exact ⟨_, _, rfl, .inr (.inl (.inl ea.2)), fun l hl => fin_new (W.frm f1).wd f1 hl ra hd k⟩
    | _ => exact hd.elim⟩⟩
def fRep (f g : DE) : DF := fun ρ Q Ed => f ρ (fun x => g ρ (fun y => match x, y with
  | .lst xs, .int k => 0 ≤ k ∧ k ≤ 1000000 ∧ xs.length * k.toNat ≤ 1000000 ∧ Q (rep xs k.toNat)
  | _, _ => False) Ed) Ed
theorem pfRep (ha : PD X ad E Ed e fa) (hb : PD X ad E Ed b fb) : PF X ad E Ed (.BinOp e .Mult b pos) (fRep fa fb) :=
  ⟨weakE (pe_op op_rep ha.pe hb.pe) fun σ H Q ⟨B, s, ρ, Qd, W, h, k⟩ => ⟨B, s, ρ, _, W, h, fun x v H1 hx f1 dx => ⟨B, s, ρ, _, W.frm f1, hx, fun y u H2 hy f2 dy => by
    split at hy
    · obtain ⟨h1, h2, h3, hy⟩ := hy
      cases dy
      cases dx with
      | lst ea ra =>
        have la := ra.length
        exact ⟨_, _, _, rfl, rfl, ((W.frm f1).wd.fz f2 _ _ ea).2, by omega, by omega, by rw [la, sizeLine_eq]; omega, fun p hp => fin_new ((W.frm f1).frm f2).wd (f1.trans f2) hp ((ra.rep _).mono ((W.frm f1).wd.fz f2)) hy k⟩
    · exact hy.elim⟩⟩⟩
/-- xs + ys: a new list -/
def fCat (f g : DE) : DF := fun ρ Q Ed => f ρ (fun x => g ρ (fun y => match x, y with
  | .lst xs, .lst ys => xs.length + ys.length ≤ 1000000 ∧ Q (xs ++ ys)
  | _, _ => False) Ed) Ed
theorem pfCat (ha : PD X ad E Ed e fa) (hb : PD X ad E Ed b fb) : PF X ad E Ed (.BinOp e .Add b pos) (fCat fa fb) :=
  ⟨weakE (pe_op op_cat ha.pe hb.pe) fun σ H Q ⟨B, s, ρ, Qd, W, h, k⟩ => ⟨B, s, ρ, _, W, h, fun x v H1 hx f1 dx => ⟨B, s, ρ, _, W.frm f1, hx, fun y u H2 hy f2 dy => by
    have w1 := (W.frm f1).wd
    split at hy
    · cases dx with
      | lst ea ra => cases dy with
        | lst eb rb =>
          have la := ra.length
          have lb := rb.length
          exact ⟨_, _, _, _, rfl, rfl, (w1.fz f2 _ _ ea).2, eb.2, by rw [la, lb, sizeLine_eq]; omega, fun p hp => fin_new ((W.frm f1).frm f2).wd (f1.trans f2) hp ((ra.mono (w1.fz f2)).append rb) hy.2 k⟩
    · exact hy.elim⟩⟩⟩
/-- name = [..] on one line, a list of its own -/
theorem sdSetLcO {tg elt iter : Expr} {ifs : List Expr} {scope : Scope} {own : List (Str × Nat)} {fi : DI} {tt : DT} {te : DE} {i j : Nat} {y : Str} {py spos : Pos} (hc : X.calm = true) (hN : X.N.Nodup) (hy : X.N[j]? = some y) (hyl : X.env.scope.names.lookup y = some .local) (hsw : swapsWith (.ListComp elt [⟨tg, iter, ifs, 0⟩] scope pos) (some (.Name y py)) spos.line X.env = pure true)
    (hi : ID X ad E Ed tg iter fi) (ok : BlkOk X.N X.env.scope scope own)
    (hg : ∀ (s : Shared) (H : Hp) (C : Addr) (cl : List (Str × Addr)) (fp : List Addr), PG (X.blk s H scope (compEnvC scope cl C X.env) fp) tg (gName i)) (ht : ∀ (s : Shared) (H : Hp) (C : Addr) (cl : List (Str × Addr)) (fp : List Addr), FD (X.blk s H scope (compEnvC scope cl C X.env) fp) ad (fun _ => E0) X0 ifs tt)
    (he : ∀ (s : Shared) (H : Hp) (C : Addr) (cl : List (Str × Addr)) (fp : List Addr), PD (X.blk s H scope (compEnvC scope cl C X.env) fp) ad (fun _ => E0) X0 elt te) (him : i ∈ own.map (·.2) := by decide) (hs : ∀ x, foldedSetIterable iter X.env x = pure x := by intro _; rfl) :
    SD X ad E Ed (.Assign [.Name y py] (.ListComp elt [⟨tg, iter, ifs, 0⟩] scope pos) spos) (sSetO j (fLc fi (own.map (·.2)) i tt te)) :=
  ⟨weakS (ps_setLc hc hN hy hyl hsw hi.pi ok hg (fun s H C cl fp => (ht s H C cl fp).pts) (fun s H C cl fp => (he s H C cl fp).pe) hs) fun Dn σ H ⟨c, P, ρ, De, r, t, en, h⟩ =>
    ⟨Bl c P, c.s, ρ, _, r.wl t, h, fun xs H1 J hx f1 io => lc_low (Q := fun x H1 => gName j x σ H1 Dn.nx) him (r.wl t) f1 io hx fun xs p vs H' hd hp f hv da => en.nx _ _ _ _ (r.setO f hp hv da) hd⟩⟩
end
/-! ### comprehensions that are maps -/
theorem take_snocD {α : Type _} {l : List α} {i : Nat} {x : α} (h : l[i]? = some x) : l.take (i + 1) = l.take i ++ [x] := by
  rw [List.take_add_one, h]; rfl
theorem lcMap {fi : DI} {vs : List Nat} {i : Nat} {te : DE} {ρ : List Sl} {Q : List D → Prop} {Ed : DXt} (xs : List D) (f : D → D) (hf : ∀ R : List D → Prop, R xs → fi ρ R Ed) (hl : xs.length ≤ 1000000)
    (hs : ∀ x ∈ xs, ∀ Q' : D → Prop, Q' (f x) → te ((wipeD ρ vs).set i (.dat x)) Q' X0) (q : Q (xs.map f)) : fLc fi vs i tYs te ρ Q Ed := by
  refine hf _ ⟨hl, fun j acc => acc = (xs.take j).map f, rfl, ?_, ?_⟩
  · rintro j x acc hj rfl
    dsimp only [tYs]
    rw [if_pos rfl]
    refine hs x (List.mem_of_getElem? hj) _ ?_
    rw [take_snocD hj, List.map_append]; rfl
  · rintro acc rfl
    rw [List.take_length]; exact q
theorem lcFilter {fi : DI} {vs : List Nat} {i : Nat} {tt : DT} {te : DE} {ρ : List Sl} {Q : List D → Prop} {Ed : DXt} (xs : List D) (p : D → Bool) (f : D → D) (hf : ∀ R : List D → Prop, R xs → fi ρ R Ed) (hl : xs.length ≤ 1000000)
    (ht : ∀ x ∈ xs, ∀ Q' : Bool → Prop, Q' (p x) → tt ((wipeD ρ vs).set i (.dat x)) Q' X0) (hs : ∀ x ∈ xs, p x = true → ∀ Q' : D → Prop, Q' (f x) → te ((wipeD ρ vs).set i (.dat x)) Q' X0) (q : Q ((xs.filter p).map f)) : fLc fi vs i tt te ρ Q Ed := by
  refine hf _ ⟨hl, fun j acc => acc = ((xs.take j).filter p).map f, rfl, ?_, ?_⟩
  · rintro j x acc hj rfl
    refine ht x (List.mem_of_getElem? hj) _ ?_
    dsimp only
    rw [take_snocD hj, List.filter_append]
    cases h : p x with
    | true =>
      rw [if_pos rfl]
      refine hs x (List.mem_of_getElem? hj) h _ ?_
      try dsimp only
      rw [List.map_append, List.filter_cons_of_pos h]; rfl
    | false =>
      rw [if_neg (by decide), List.filter_cons_of_neg (by rw [h]; decide)]
      simp
  · rintro acc rfl
    rw [List.take_length]; exact q
/-! ### enumerate -/
section
variable {X : Cx} {ad : Str → Addr} {E : L2.St → XK} {Ed : DXt} {e : Expr} {p pos tpos : Pos} {n : Nat} {ga : DA}
def enD (xs : List D) : List D := (List.range xs.length).zip xs |>.map fun q => .tup [.int (q.1 : Nat), q.2]
theorem enD_len (xs : List D) : (enD xs).length = xs.length := by unfold enD; rw [List.length_map, List.length_zip, List.length_range, Nat.min_self]
theorem enD_get {xs : List D} {i : Nat} {y : D} (h : (enD xs)[i]? = some y) : ∃ x, xs[i]? = some x ∧ y = .tup [.int (i : Nat), x] := by
  have hl : i < xs.length := by
    have := (List.getElem?_eq_some_iff.mp h).1
    rw [enD_len] at this; exact this
  unfold enD at h
  have z : ((List.range xs.length).zip xs)[i]? = some (i, xs[i]) := List.getElem?_zip_eq_some.mpr ⟨List.getElem?_range hl, List.getElem?_eq_getElem hl⟩
  rw [List.getElem?_map, z] at h
  exact ⟨_, List.getElem?_eq_getElem hl, (Option.some.inj h).symm⟩
theorem ite_ok {K : PySem.W.Frag} {B : Addr → Prop} {H : Hp} {p : Addr} {vs : List V} {xs : List D} (h : Fz B H p (.lst vs)) (da : DxA ad (Fz B H) vs xs) : ItOk ad B H (Ite K p) (enD xs) := fun i H' B' s w k =>
  ⟨fun hi => ⟨vs, .inl (.inl (k _ _ h).2), by rw [da.length, hi, enD_len]; exact Nat.le_refl _⟩, fun y hy => by
    obtain ⟨x, hx, rfl⟩ := enD_get hy
    obtain ⟨v, hv, dv⟩ := da.getD hx
    refine ⟨⟨vs, v, .inl (.inl (k _ _ h).2), hv⟩, fun u H'' ⟨T, z, e, hT, eH, q⟩ => ?_⟩
    subst e eH
    have q := q vs (.inl (.inl (k _ _ h).2))
    rw [hv] at q
    cases Option.some.inj q
    exact ⟨Same.new (Same.refl _) hT, .tup ⟨w.nb hT, upd_same⟩ (.cons (.int _) (.cons ((dv.mono k).mono (w.fz (w.new hT))) .nil))⟩⟩
theorem itet_ok {K : PySem.W.Frag} {B : Addr → Prop} {H : Hp} {p : Addr} {vs : List V} {xs : List D} (h : Fz B H p (.tup vs)) (da : DxA ad (Fz B H) vs xs) : ItOk ad B H (IteT K p) (enD xs) := fun i H' B' s w k =>
  ⟨fun hi => ⟨vs, .inl (.inl (k _ _ h).2), by rw [da.length, hi, enD_len]⟩, fun y hy => by
    obtain ⟨x, hx, rfl⟩ := enD_get hy
    obtain ⟨v, hv, dv⟩ := da.getD hx
    refine ⟨⟨vs, v, .inl (.inl (k _ _ h).2), hv⟩, fun u H'' ⟨T, z, e, hT, eH, q⟩ => ?_⟩
    subst e eH
    have q := q vs (.inl (.inl (k _ _ h).2))
    rw [hv] at q
    cases Option.some.inj q
    exact ⟨Same.new (Same.refl _) hT, .tup ⟨w.nb hT, upd_same⟩ (.cons (.int _) (.cons ((dv.mono k).mono (w.fz (w.new hT))) .nil))⟩⟩
def iEn (g : DA) : DI := fun ρ Q Ed => g ρ (fun as => match as with
  | [.dat (.lst xs)] => Q (enD xs)
  | [.dat (.tup xs)] => Q (enD xs)
  | _ => False) Ed
theorem idEn {elts : List Expr} {kk : Nat} (hg : Gl X "enumerate") (hm : X.mg "enumerate" = none) (ha : AD X ad E Ed [e] n ga) (hs : starEach [e] X.env = [(false, eval e X.env)] := by rfl) : ID X ad E Ed (.Tuple elts kk tpos) (.Call (.Name "enumerate" p) [e] [] pos) (iEn ga) :=
  ⟨weakI (pi_enumA hg hm ha.pa hs) fun σ H R ⟨B, s, ρ, Qd, W, h, k⟩ => ⟨B, s, ρ, _, W, h, fun as vs H1 hd hl f1 da => by
    split at hd
    · cases da with
      | cons a r =>
        cases r
        cases a with
        | lst ea ra => exact ⟨_, _, rfl, .inl ⟨.inl (.inl ea.2), k _ H1 _ hd f1 (ite_ok ea ra)⟩⟩
    · cases da with
      | cons a r =>
        cases r
        cases a with
        | tup ea ra => exact ⟨_, _, rfl, .inr ⟨.inl (.inl ea.2), k _ H1 _ hd f1 (itet_ok ea ra)⟩⟩
    · exact hd.elim⟩⟩
end
end DL

set_option Elab.async false
set_option linter.all false
set_option maxRecDepth 100000
set_option maxHeartbeats 2000000
namespace DL
open PySem PySem.Spec PyProof.Rows L2 BT
/-! ### != by an own __eq__ -/
section
variable {prog : Program} {w : World} {A : Around} {E : Value → Shared → Prop} {s : Shared} {K : PySem.W.Frag} {x C L f : Addr} {h₀ : Heap} {m : Str → Option Value} {ox : Obj} {od : Option Obj} {b tb : Value}
theorem ne_ifBound {M : Model} {args : List Value} {Q : Option Value → Shared → Prop} (X : K.In s.heap) (I : PySem.W.InstAt s.heap x ox C od) (hs : PySem.W.findIn K (.ref C) "__ne__" = some (some (.builtin "object.__ne__")))
    (h : wpAny M A (call (.builtin "object.__ne__") (.ref x :: args)) (fun v => Q (some v)) E s) : wpAny M A (callSpecialIfBound? (.ref x) "__ne__" args) Q E s := by
  simp only [callSpecialIfBound?, bindSpecialIfBound?]
  refine wpAny_holding (wpAny_bind (wpAny_bind (wpAny_bind (I.type.here ((PySem.W.looks_findIn X hs).here ?_)))))
  refine wpAny_bind (wpAny_askSetting (wpAny_ite ?_))
  have fin : wpAny M A (call (.builtin "object.__ne__") ([.ref x] ++ args) >>= fun v => pure (some v)) Q E s := wpAny_bind (wpAny_mono h (fun v s' h' => wpAny_pure h') fun _ _ h' => h')
  rw [PySem.F.cmp_object.ne.bind]
  split
  · exact wpAny_bind (wpAny_pure (wpAny_pure fin))
  · exact wpAny_tryCatch (wpAny_bind (wpAny_pure (wpAny_pure fin)))
theorem ne_entry {Q : Fin → Shared → Prop} (hu : A.units < cLine) (X : K.In s.heap) (I : PySem.W.InstAt s.heap x ox C od) (hs : PySem.W.findIn K (.ref C) "__eq__" = some (some (.ref f))) (hf : PySem.W.isFn K (.ref f) = true)
    (h : wpAny (model prog w) A (call (.ref f) [.ref x, b]) (fun v s' => ∃ r, v = .bool r ∧ Q (.done (.ret (.bool (!r)))) s') E s) : wpAny (model prog w) A (Builtin.«object.__ne__» ⟨[.ref x, b], []⟩) Q E s := by
  unfold Builtin.«object.__ne__»
  repeat (first
    | with_reducible refine wpAny_cRoomFor hu ?_
    | (refine wpAny_bind (m := callSpecialIfBound? (.ref x) (Str.ofString "__eq__") [b])
        (PySem.W.ifBound_K X I hs hf (wpAny_mono h (fun r s' hr => by
          obtain ⟨b, rfl, hq⟩ := hr
          repeat (first | exact hq | exact wpAny_pure hq | exact wpAny_truthy_bool hq | (refine wpAny_bind (m := truthy (.bool _)) (wpAny_truthy_bool ?_)) | wp_step)) fun _ _ e => e)))
    | wp_step)
theorem ne_K {Q : Value → Shared → Prop} (hu : A.units + 1 < cLine) (X : K.In s.heap) (I : PySem.W.InstAt s.heap x ox C od) (hb : PySem.W.Looks (model prog w) s.heap (typeOf b) tb) (hn : PySem.W.notFirst K C tb = true)
    (hne : PySem.W.findIn K (.ref C) "__ne__" = some (some (.builtin "object.__ne__"))) (hm : PySem.W.mroIn K C (.type "object") = some true) (hs : PySem.W.findIn K (.ref C) "__eq__" = some (some (.ref f))) (hf : PySem.W.isFn K (.ref f) = true)
    (h : wpAny (model prog w) A.in1 (call (.ref f) [.ref x, b]) (fun v s' => ∃ r, v = .bool r ∧ Q (.bool (!r)) s') E s) : wpAny (model prog w) A (richCompare .NotEq (.ref x) b) Q E s := by
  have sub : PySem.W.Looks (model prog w) s.heap (isInstance (.ref x) (.type "object")) true := I.type.andThen (PySem.W.looks_mroIn X hm)
  have one : wpAny (model prog w) A (tryCompare (.ref x) "__ne__" b) (fun r s' => ∃ v, r = some v ∧ Q v s') E s := by
    unfold tryCompare
    refine wpAny_bind (ne_ifBound X I hne (wpAny_call (codeAny_call_builtin PySem.F.cmp_object.ne.plain PySem.F.cmpEntry_ne (PySem.W.check_slot PySem.F.cmpKind_ne PySem.F.cmpSplit_ne sub (PySem.F.cmpArgs_ne _ _) (ne_entry (A := A.in1) hu X I hs hf (wpAny_mono h (fun v s' hv => ?_) fun _ _ e => e))))))
    obtain ⟨r, rfl, hq⟩ := hv
    first | exact ⟨r, rfl, wpAny_pure ⟨_, rfl, hq⟩⟩ | exact ⟨r, rfl, wpAny_pure (wpAny_pure ⟨_, rfl, hq⟩)⟩
  unfold richCompare
  simp only [oneThing_ref]
  refine wpAny_holding (wpAny_bind (wpAny_cRoomFor (Nat.lt_of_succ_lt hu) ?_))
  refine wpAny_bind (I.type.here (wpAny_bind (hb.here ?_)))
  split
  · rename_i q
    have e : PySem.W.subIn K tb (.ref C) = some false := by
      rcases Bool.or_eq_true_iff.mp hn with e | e
      · rw [beq_iff_eq.mp e] at q; simp at q
      · exact beq_iff_eq.mp e
    refine wpAny_bind ((PySem.W.looks_subIn X e).here ?_)
    simp only [Bool.false_eq_true, if_false]
    refine wpAny_bind (wpAny_mono one (fun r s' z => ?_) fun _ _ e => e)
    obtain ⟨v, rfl, hq⟩ := z
    exact wpAny_pure hq
  · refine wpAny_bind (wpAny_pure ?_)
    simp only [Bool.false_eq_true, if_false]
    refine wpAny_bind (wpAny_mono one (fun r s' z => ?_) fun _ _ e => e)
    obtain ⟨v, rfl, hq⟩ := z
    exact wpAny_pure hq
end
/-! ### == and != of the package's own objects -/
/-- what ==, != and isinstance ask of the class at C -/
structure OwEq (K : PySem.W.Frag) (C : Addr) : Prop where
  cl : Cls K C
  ne : PySem.W.findIn K (.ref C) "__ne__" = some (some (.builtin "object.__ne__"))
  nf : ∀ t ∈ kinds, PySem.W.subIn K (.type t) (.ref C) = some false
  ha : PySem.W.findIn K (.ref C) "__class__" = some (some (.builtin "object.__class__"))
  hn : PySem.W.specialIn K (.builtin "object.__class__") "__get__" = some (some (.builtin "getset_descriptor.__get__"))
  ht : PySem.W.takesIn K (.builtin "object.__class__") = some true
  mo : PySem.W.mroIn K C (.type "object") = some true
  me : PySem.W.kitOne K (.ref C) (.ref C) = some true
  no : ∀ t ∈ kinds, PySem.W.kitOne K (.type t) (.ref C) = some false
/-- a value of a built-in kind, or an object of the class -/
def kdC (c : Str) : D → Bool
  | .obj c' _ => decide (c' = c)
  | d => (tyS d).isSome
section
variable {X : Cx} {ad : Str → Addr} {E : L2.St → XK} {Ed : DXt} {a b e : Expr} {fa fb : DE} {pos : Pos} {c : Str} {C : Addr} {dsp : DSp} {n k j : Nat} {ps : List Str}
theorem kd_ty {K : PySem.W.Frag} {B : Addr → Prop} {H : Hp} {v : V} {d : D} (o : OwEq K (ad c)) (h : Dx ad (Fz B H) v d) (e : kdC c d = true) : ∃ t, TyX K H v t ∧ PySem.W.notFirst K (ad c) t = true ∧ PySem.W.kitOne K t (.ref (ad c)) = some (tyS d).isNone := by
  have key : ∀ t, tyS d = some t → ∃ t, TyX K H v t ∧ PySem.W.notFirst K (ad c) t = true ∧ PySem.W.kitOne K t (.ref (ad c)) = some (tyS d).isNone := fun t et => by
    have mem : t ∈ kinds := by cases d <;> cases et <;> simp [kinds]
    refine ⟨_, h.ty et, ?_, by rw [et]; exact o.no t mem⟩
    unfold PySem.W.notFirst
    rw [o.nf t mem]; simp
  cases h with
  | obj ea ra =>
    have e := of_decide_eq_true e
    subst e
    exact ⟨_, .base (.ins ea.2 o.cl o.ha o.hn o.ht o.mo), by unfold PySem.W.notFirst; simp, o.me⟩
  | _ => exact key _ rfl
def rOwnD (K : PySem.W.Frag) (C : Addr) (sp : Sp) (neg : Bool) : R2 := fun x y H Q => ∃ a dx fs t, x = .ref a ∧ H a = some (.ins C dx fs) ∧ TyX K H y t ∧ PySem.W.notFirst K C t = true ∧ sp [x, y] H (fun v H' => ∃ r, v = .bl r ∧ Q (.bl (ng neg r)) H') E0
theorem pass0 : Passes (L2.CX X.prog X.w) X E0 := fun _ _ _ _ _ _ _ ⟨_, _, _, _, _, _, _, _, _, _, _, _, h⟩ => h.elim
theorem op_ownEq {sp : Sp} {g : Addr} (F : FnR X.prog X.w X.K X.mg X.base (L2.CX X.prog X.w) n g sp) (hr : Room n X.A) (m : Meth X.K C "__eq__" g) : OpR X (compareOp .Eq) (rOwnD X.K C sp false) := by
  intro pins s σ H x y v u Q I rx ry h
  obtain ⟨a, dx, fs, t, rfl, ha, ty, hn, q⟩ := h
  cases (show v = Value.ref a from rx)
  obtain ⟨mA, J, _⟩ := ins_get I.hok ha
  obtain ⟨od, J, _⟩ := J.look
  obtain ⟨P, Z, p, _⟩ := kit_of I ry ty
  obtain ⟨mf, hF⟩ := I.fr
  refine PySem.W.cmp_K (op := .Eq) (tb := t) hr.units0 hF I.ok.mod.kin J (Z.ty _ _ I.kIn p) hn m.at_ m.fn ?_
  refine wpAny_mono (wpAny_call (run_fnR (us := [.ref a, u]) (vs := [.ref a, y]) F hr pass0 I (.cons rfl (.cons ry .nil)) q)) (fun w s' z => ?_) fun _ _ x => x
  obtain ⟨z', H', I', rz, r, e, qz⟩ := z
  subst e
  refine SlX.cmpback rz ⟨.bl r, H', I', rz, qz⟩
theorem op_ownNe {sp : Sp} {g : Addr} (F : FnR X.prog X.w X.K X.mg X.base (L2.CX X.prog X.w) n g sp) (hr : Room (n + 1) X.A) (m : Meth X.K C "__eq__" g) (o : OwEq X.K C) : OpR X (compareOp .NotEq) (rOwnD X.K C sp true) := by
  intro pins s σ H x y v u Q I rx ry h
  obtain ⟨a, dx, fs, t, rfl, ha, ty, hn, q⟩ := h
  cases (show v = Value.ref a from rx)
  obtain ⟨mA, J, _⟩ := ins_get I.hok ha
  obtain ⟨od, J, _⟩ := J.look
  obtain ⟨P, Z, p, _⟩ := kit_of I ry ty
  have hu := hr.units5
  refine ne_K (tb := t) (by omega) I.kIn J (Z.ty _ _ I.kIn p) hn o.ne o.mo m.at_ m.fn ?_
  refine wpAny_mono (wpAny_call (SlX.run_at (A := X.A.in1) (us := [.ref a, u]) (ws := [.ref a, y]) F hr.in1 I.env0.in1 pass0 I (.cons rfl (.cons ry .nil)) q)) (fun w s' z => ?_) fun _ _ x => x
  obtain ⟨z', H', I', rz, r, e, qz⟩ := z
  subst e
  cases (show w = Value.bool r from rz)
  exact ⟨r, rfl, .bl (!r), H', I', rfl, qz⟩
def oOwn (neg : Bool) (c : Str) (f : DSp) : D → D → (D → Prop) → Prop := fun x y Q => match x with
  | .obj c' fs => c' = c ∧ kdC c y = true ∧ f [.dat (.obj c' fs), .dat y] (fun d => ∃ b, d = .bl b ∧ Q (.bl (ng neg b))) fun _ _ => False
  | _ => False
theorem dOwn {K : PySem.W.Frag} {neg : Bool} (o : OwEq K (ad c)) : OpD ad (rOwnD K (ad c) (spD ad dsp) neg) (oOwn neg c dsp) := fun B s H x y dx dy Qd Q w da db h k => by
  unfold oOwn at h
  cases da with
  | obj ea ra =>
    obtain ⟨rfl, hk, h⟩ := h
    obtain ⟨t, ty, hn, _⟩ := kd_ty o db hk
    refine ⟨_, _, _, t, rfl, ea.2, ty, hn, B, s, _, _, _, w, .cons (a := .dat _) (.obj ea ra) (.cons (a := .dat _) db .nil), h, fun d v H' ⟨r, e, q⟩ f dv => ?_, fun cn d v x H' hd => hd.elim⟩
    subst e
    cases dv
    exact ⟨r, rfl, k _ _ H' q f (.bl _)⟩
  | _ => exact h.elim
theorem pdOwnEq (D : MetX X.prog X.w X.K X.mg X.base ad k c "__eq__" ps dsp) (o : OwEq X.K (ad c)) (hr : Room j X.A) (ha : PD X ad E Ed a fa) (hb : PD X ad E Ed b fb) (hm : behindInMarks .Eq b = false) (hk : k ≤ j := by decide) : PD X ad E Ed (.Compare a [.Eq] [b] pos) (e2 (oOwn false c dsp) fa fb) := by
  obtain ⟨g, fd, F, m, hb'⟩ := D.ex
  have F := (F.raw hb' .nil).imp (sp' := spD ad dsp) fun vs H Q E h => by rw [List.append_nil]; exact h
  exact pdCmp (op_ownEq F (hr.mono hk) m) (dOwn o) ha hb hm
theorem tdOwnEq (D : MetX X.prog X.w X.K X.mg X.base ad k c "__eq__" ps dsp) (o : OwEq X.K (ad c)) (hr : Room j X.A) (ha : PD X ad E Ed a fa) (hb : PD X ad E Ed b fb) (hm : behindInMarks .Eq b = false) (hk : k ≤ j := by decide) : TD X ad E Ed (.Compare a [.Eq] [b] pos) (t2 (oOwn false c dsp) fa fb) := by
  obtain ⟨g, fd, F, m, hb'⟩ := D.ex
  have F := (F.raw hb' .nil).imp (sp' := spD ad dsp) fun vs H Q E h => by rw [List.append_nil]; exact h
  exact tdCmp (op_ownEq F (hr.mono hk) m) (dOwn o) ha hb hm
theorem pdOwnNe (D : MetX X.prog X.w X.K X.mg X.base ad k c "__eq__" ps dsp) (o : OwEq X.K (ad c)) (hr : Room j X.A) (ha : PD X ad E Ed a fa) (hb : PD X ad E Ed b fb) (hm : behindInMarks .NotEq b = false) (hk : k + 1 ≤ j := by decide) : PD X ad E Ed (.Compare a [.NotEq] [b] pos) (e2 (oOwn true c dsp) fa fb) := by
  obtain ⟨g, fd, F, m, hb'⟩ := D.ex
  have F := (F.raw hb' .nil).imp (sp' := spD ad dsp) fun vs H Q E h => by rw [List.append_nil]; exact h
  exact pdCmp (op_ownNe F (hr.mono hk) m o) (dOwn o) ha hb hm
theorem tdOwnNe (D : MetX X.prog X.w X.K X.mg X.base ad k c "__eq__" ps dsp) (o : OwEq X.K (ad c)) (hr : Room j X.A) (ha : PD X ad E Ed a fa) (hb : PD X ad E Ed b fb) (hm : behindInMarks .NotEq b = false) (hk : k + 1 ≤ j := by decide) : TD X ad E Ed (.Compare a [.NotEq] [b] pos) (t2 (oOwn true c dsp) fa fb) := by
  obtain ⟨g, fd, F, m, hb'⟩ := D.ex
  have F := (F.raw hb' .nil).imp (sp' := spD ad dsp) fun vs H Q E h => by rw [List.append_nil]; exact h
  exact tdCmp (op_ownNe F (hr.mono hk) m o) (dOwn o) ha hb hm
/-- isinstance(x, C), C a class of the package's -/
def eIsO (c : Str) (f : DE) : DE := fun ρ Q Ed => f ρ (fun d => kdC c d = true ∧ Q (.bl (tyS d).isNone)) Ed
theorem pdIsO {p p2 : Pos} (o : OwEq X.K (ad c)) (hg : Gl X "isinstance") (hm : X.mg "isinstance" = none) (gT : Gl X c) (mT : X.mg c = some (.ref (ad c))) (ha : PD X ad E Ed e fa)
    (hdb : (c == ("__debug__" : Str)) = false := by decide)
    (hs : starEach [e, .Name c p2] X.env = (false, eval e X.env) :: starEach [.Name c p2] X.env := by rfl) (hs2 : starEach [.Name c p2] X.env = (false, eval (.Name c p2) X.env) :: starEach [] X.env := by rfl) (hpl : (backTo pos (starEach [.Name c p2] X.env)).any (·.1) = false := by rfl) :
    PD X ad E Ed (.Call (.Name "isinstance" p) [e, .Name c p2] [] pos) (eIsO c fa) :=
  ⟨weakE (pe_callB call_isi hg hm PyProof.Rows.boot_isinstance (pa_cons ha.pe (pa_cons (pe_glob (v := .ref (ad c)) gT mT rfl hdb) pa_nil hs2) hs) (by decide) (by decide) hs hpl) fun σ H Q ⟨B, s, ρ, Qd, W, h, k⟩ => ⟨B, s, ρ, _, W, h, fun d v H1 hd f1 dv => by
    obtain ⟨hk, hd⟩ := hd
    obtain ⟨t, ty, _, hki⟩ := kd_ty o dv hk
    exact ⟨v, .ref (ad c), t, _, _, rfl, .own _, ty, hki, k _ _ H1 hd f1 (.bl _)⟩⟩⟩
end
end DL

set_option Elab.async false
set_option linter.all false
set_option maxRecDepth 100000
set_option maxHeartbeats 4000000
namespace DL
open PySem PySem.Spec PySem.W PySem.SeqAt PySem.Calls PyProof.Rows L2 BT
/-! ### sorted, of tuples of whole numbers -/
def tupI (l : List Int) : D := .tup (l.map .int)
def pyI (l : List Int) : PyData := .tuple (l.map .int)
theorem le_ints (a b : List Int) : sortLe (listOrd itemOrd) false keyToks (pyI a) (pyI b) = !decide (b < a) := by
  show (!PyProof.Rows.lexLt itemOrd (keyToks (pyI b)) (keyToks (pyI a))) = _
  rw [← dataLt_ints]
  rfl
theorem pyI_inj : ∀ {a b : List Int}, pyI a = pyI b → a = b := by
  have key : ∀ {a b : List Int}, a.map PyData.int = b.map PyData.int → a = b := by
    intro a
    induction a with
    | nil => intro b h; cases b with
      | nil => rfl
      | cons => cases h
    | cons x a ih =>
      intro b h
      cases b with
      | nil => cases h
      | cons y b =>
        injection h with h1 h2
        injection h1 with h1
        rw [h1, ih h2]
  intro a b h
  injection h with h
  exact key h
/-- the order in which sorted tells them -/
def SrtT (ls : List (List Int)) : Prop := ls.Pairwise fun a b => ¬ b < a
theorem sortD_ints (ls : List (List Int)) : ∃ ls' : List (List Int), sortD (ls.map pyI) = ls'.map pyI ∧ ls'.Perm ls ∧ SrtT ls' := by
  refine ⟨ls.mergeSort fun a b => !decide (b < a), ?_, List.mergeSort_perm _ _, ?_⟩
  · unfold sortD
    rw [← sort_maps (f := pyI) (r := fun a b => !decide (b < a))]
    exact fun a _ b _ => (le_ints a b).symm
  · unfold SrtT
    refine List.Pairwise.imp (R := fun a b => (fun a b => !decide (b < a)) a b = true) (fun h => by simpa using h) (List.pairwise_mergeSort (fun a b c h1 h2 => ?_) (fun a b => ?_) ls)
    · have := (sortLe_total (listOrd itemOrd) false keyToks).trans (pyI a) (pyI b) (pyI c) (by rw [le_ints]; exact h1) (by rw [le_ints]; exact h2)
      rw [le_ints] at this; exact this
    · have := (sortLe_total (listOrd itemOrd) false keyToks).total (pyI a) (pyI b)
      rw [le_ints, le_ints] at this
      simpa using this
theorem srtT_one {a b : List (List Int)} (p : a.Perm b) (ha : SrtT a) (hb : SrtT b) : a = b :=
  List.Perm.eq_of_pairwise (le := fun a b => ¬ b < a) (fun x y _ _ h1 h2 => List.le_antisymm h1 h2) ha hb p
section
variable {X : Cx}
def rSortedG (K : PySem.W.Frag) : List V → Hp → VK → Prop := fun vs H Q => ∃ (a : Addr) (xs : List V) (ds : List PyData) (G : V → PyData → Prop), vs = [V.ref a] ∧ H a = some (.lst xs) ∧ EachIs G xs ds ∧ (∀ x d, G x d → Dv H x d) ∧ (∀ d ∈ ds, TupD d) ∧ ∀ (ys : List V) (p : Addr), EachIs G ys (sortD ds) → H p = none → Q (.ref p) (upd H p (.lst ys))
theorem eachG_of {G : V → PyData → Prop} : ∀ {xs : List V} {ds : List PyData} {vs : List Value}, EachIs G xs ds → Vals xs vs → EachIs (fun v d => ∃ x, RelV x v ∧ G x d) vs ds
  | _, _, _, .nil, .nil => .nil
  | _, _, _, .cons h1 h2, .cons r1 r2 => .cons ⟨_, r1, h1⟩ (eachG_of h2 r2)
theorem of_eachG {G : V → PyData → Prop} : ∀ {ds : List PyData} {vs : List Value}, EachIs (fun v d => ∃ x, RelV x v ∧ G x d) vs ds → ∃ xs, Vals xs vs ∧ EachIs G xs ds
  | _, _, .nil => ⟨[], .nil, .nil⟩
  | _, _, .cons h t => by
    obtain ⟨x, r, d⟩ := h
    obtain ⟨xs, rs, ds⟩ := of_eachG t
    exact ⟨x :: xs, .cons r rs, .cons d ds⟩
theorem cr_sortedG (hu : X.A.units + 64 < cLine) : CallR X (.builtin "sorted") (rSortedG X.K) := by
  intro pins s σ H vs us Q I r h
  obtain ⟨a, xs, ds, G, rfl, ha, hA, hG, ht, q⟩ := h
  obtain ⟨u, rfl, r1⟩ := vals1 r
  cases (show u = Value.ref a from r1)
  obtain ⟨its, rv, pl, hz⟩ := I.list (.inl (.inl ha))
  have lv := rv.length
  have I2 : Inv X pins σ H { s with heap := sortingHeap (copyHeap s.heap its) (s.heap.objs.size + 1) its, toks := s.toks } := I.kept fun b o e => sorting_copy_old e
  have each := eachG_of hA rv
  have reads : EachIs (fun v d => ∃ as, Reads (sortingHeap (copyHeap s.heap its) (s.heap.objs.size + 1) its) v d as) its ds := each.mono fun v d h => by
    obtain ⟨x, rx, dx⟩ := h
    obtain ⟨as, h1, _⟩ := Dv.reads I2 d x v (hG _ _ dx) rx
    exact ⟨as, h1⟩
  have hal := tups_alike ht
  have S : SortsAt X.prog X.w X.A.in1.in1 { s with heap := sortingHeap (copyHeap s.heap its) (s.heap.objs.size + 1) its } (dataKind (sortingHeap (copyHeap s.heap its) (s.heap.objs.size + 1) its) ds) its :=
    sorts_tups (s := { s with heap := sortingHeap (copyHeap s.heap its) (s.heap.objs.size + 1) its }) reads hal (fun d hd => by obtain ⟨ns, e⟩ := ht d hd; exact ⟨_, e⟩) fun d hd => by
      have := tup_depth (ht d hd)
      show X.A.units + 1 + 1 + d.depth < cLine
      omega
  refine sorted_vals pl.isList S (by rw [← lv]; exact hz) ?_
  have keys : EachIs (fun v d => (dataKind (sortingHeap (copyHeap s.heap its) (s.heap.objs.size + 1) its) ds).keyOf v = some (keyToks d)) its ds := (each_and reads (S := fun d => d ∈ ds) fun d hd => hd).mono fun v d h => by
    obtain ⟨⟨as, r⟩, hd⟩ := h
    exact dataKind_some hal hd r
  have out := sortVals_each (κ := dataKind (sortingHeap (copyHeap s.heap its) (s.heap.objs.size + 1) its) ds) (rev := false) keyToks each keys
  obtain ⟨ys, ry, hy⟩ := of_eachG out
  obtain ⟨ep, he⟩ := PyProof.Rows.sortedAll_at s.heap its (sortVals (dataKind (sortingHeap (copyHeap s.heap its) (s.heap.objs.size + 1) its) ds) false its its).toArray
  refine ⟨.ref _, upd H (s.heap.objs.size + 1) (.lst ys), I.laid (t' := s.toks) (fun _ _ => PyProof.Rows.sortedAll_old) (Nat.le_succ _) ⟨?_, _, ep, ry, he⟩, rfl, q ys _ hy (I.hok.fresh (Nat.le_succ _))⟩
  rw [ry.length, sortVals_length false rfl, ← lv]
  exact hz
end
section
variable {X : Cx} {ad : Str → Addr} {E : L2.St → XK} {Ed : DXt} {e : Expr} {ga : DA} {n : Nat} {p : Pos} {pos : Pos}
def oSrtT : List D → (D → Prop) → Prop
  | [.lst xs], Q => ∃ ls : List (List Int), xs = ls.map tupI ∧ ∀ ls' : List (List Int), ls'.Perm ls → SrtT ls' → Q (.lst (ls'.map tupI))
  | _, _ => False
theorem pyR_ints (l : List Int) : pyR (tupI l) = some (pyI l) := by
  have key : ∀ l : List Int, pyRs (l.map D.int) = some (l.map PyData.int) := by
    intro l
    induction l with
    | nil => rfl
    | cons x l ih =>
      rw [List.map_cons]
      simp only [pyRs, pyR, ih]
      rfl
  unfold tupI pyI
  simp only [pyR, key]
  rfl
theorem each_tups {F : Addr → HO → Prop} : ∀ {xs : List V} {ls : List (List Int)}, DxA ad F xs (ls.map tupI) → EachIs (fun x d => ∃ l, d = pyI l ∧ Dx ad F x (tupI l)) xs (ls.map pyI)
  | _, [], h => by cases h; exact .nil
  | _, l :: ls, h => by
    cases h with
    | cons a r => exact .cons ⟨l, rfl, a⟩ (each_tups r)
theorem of_tups {F : Addr → HO → Prop} : ∀ {xs : List V} {ls : List (List Int)}, EachIs (fun x d => ∃ l, d = pyI l ∧ Dx ad F x (tupI l)) xs (ls.map pyI) → DxA ad F xs (ls.map tupI)
  | _, [], h => by cases h; exact .nil
  | _, l :: ls, h => by
    cases h with
    | cons a r =>
      obtain ⟨l', e, d⟩ := a
      cases pyI_inj e
      exact .cons d (of_tups r)
theorem pdSrtT (hu : X.A.units + 64 < cLine) (hg : Gl X "sorted") (hm : X.mg "sorted" = none) (ha : AD X ad E Ed [e] n ga) (he : starEach [e] X.env = (false, eval e X.env) :: starEach [] X.env := by rfl) (hpl : (backTo pos (starEach [] X.env)).any (·.1) = false := by rfl) : PD X ad E Ed (.Call (.Name "sorted" p) [e] [] pos) (eB oSrtT ga) :=
  pdB (cr_sortedG hu) (fun B s H vs ds Qd Q w da h k => by
    unfold oSrtT at h
    split at h
    · obtain ⟨ls, e, h⟩ := h
      subst e
      cases da with
      | cons a r => cases r; cases a with
        | lst ea ra =>
          refine ⟨_, _, ls.map pyI, fun x d => ∃ l, d = pyI l ∧ Dx ad (Fz B H) x (tupI l), rfl, ea.2, each_tups ra, ?_, ?_, fun ys p hy hp => ?_⟩
          · rintro x d ⟨l, rfl, dx⟩
            exact dx.dv (pyR_ints l)
          · intro d hd
            obtain ⟨l, _, rfl⟩ := List.mem_map.mp hd
            exact ⟨l, rfl⟩
          · obtain ⟨ls', e, hp', hs⟩ := sortD_ints ls
            rw [e] at hy
            exact k _ _ _ (h ls' hp' hs) (w.new hp) (.lst ⟨w.nb hp, upd_same⟩ ((of_tups hy).mono (w.fz (w.new hp))))
    · exact h.elim) hg hm (by decide +kernel) ha (by decide) (by decide) he hpl
end
section
variable {X : Cx} {ad : Str → Addr} {E : L2.St → XK} {Ed : DXt} {pos : Pos}
theorem pdDct0 : PD X ad E Ed (.Dict [] [] pos) (eC (.dct [])) :=
  ⟨weakE pe_dnewK fun σ H Q ⟨B, s, ρ, Qd, W, h, k⟩ => fun p hp => k _ _ _ h (W.wd.new hp) (.dct ⟨W.wd.nb hp, upd_same⟩ .nil)⟩
end
end DL

set_option Elab.async false
set_option linter.all false
set_option maxRecDepth 100000
set_option maxHeartbeats 4000000
namespace DL
open PySem PySem.Spec PyProof.Rows L2 BT
/-! ### the law's own def: from its source on -/
def spLaw (K : PySem.W.Frag) : Sp := fun vs H Q _ => ∃ (a : Addr) (ns : List Int), vs = [.ref a] ∧ SqL K H a (ns.map V.int) ∧ ∀ H', Q (.bl true) H'
theorem law_rep {ad : Str → Addr} {l p : Addr} {H : Hp} {σ : L2.St} {n : Nat} (src : Src l p H) (h1 : σ[1]? = some (some (.ref p))) (hl : σ.length = n + 2) :
    Rep ad ⟨fun b => b = p ∨ b = l, some (l, p), fun b o => False⟩ (fun _ => none) H σ (.un :: .src :: List.replicate n .un) := by
  have hB : ∀ b, Bl ⟨fun b => b = p ∨ b = l, some (l, p), fun b o => False⟩ (fun _ => none) b ↔ b = p ∨ b = l := fun b => ⟨fun h => h.elim id fun ⟨i, e⟩ => (nomatch e), .inl⟩
  have sl : ∀ (i : Nat) (sl : Sl), (Sl.un :: Sl.src :: List.replicate n Sl.un)[i]? = some sl → sl = .un ∨ (i = 1 ∧ sl = .src) := fun i sl e => by
    match i, e with
    | 0, e => exact .inl (Option.some.inj e).symm
    | 1, e => exact .inr ⟨rfl, (Option.some.inj e).symm⟩
    | i + 2, e =>
      have e : (List.replicate n Sl.un)[i]? = some sl := e
      rw [List.getElem?_replicate] at e
      split at e
      · exact .inl (Option.some.inj e).symm
      · cases e
  refine ⟨⟨fun b h => ?_, fun l' a' e => ?_⟩, fun l' a' e => ?_, fun b o q => q.elim, fun i p e => (nomatch e), fun i j p e => (nomatch e), fun i sl' e => ?_, fun i xs e => ?_, fun i xs e => ?_, ?_⟩
  · rcases (hB b).mp h with rfl | rfl
    · obtain ⟨i, x, c, cl, n, y, _, h1⟩ := src.at_
      exact ⟨_, h1, fun _ e => (nomatch e)⟩
    · obtain ⟨ns, h2⟩ := src.nums
      exact ⟨_, h2, fun _ e => (nomatch e)⟩
  · cases e
    exact ⟨src, .inl (.inl rfl), .inl (.inr rfl)⟩
  · cases e
    exact ⟨.inl rfl, .inr rfl, fun o q => q.elim⟩
  · rcases sl i sl' e with rfl | ⟨rfl, rfl⟩
    · trivial
    · exact ⟨l, p, rfl, h1⟩
  · rcases sl i _ e with e | ⟨_, e⟩ <;> cases e
  · rcases sl i _ e with e | ⟨_, e⟩ <;> cases e
  · rw [hl]; simp
theorem law_go {ad : Str → Addr} {l p : Addr} {H : Hp} {σ : L2.St} {n : Nat} {g : DS} {Q : VK} (src : Src l p H) (h1 : σ[1]? = some (some (.ref p))) (hl : σ.length = n + 2) (k : ∀ H', Q (.bl true) H')
    (sem : g { nx := fun _ => False, rt := fun d => d = .bl true } (.un :: .src :: List.replicate n .un) fun _ _ _ => False) : tsD ad (fun _ => E0) (fun _ _ _ => False) g { nx := fun _ H' => Q .non H', rt := Q } σ H :=
  ⟨_, _, _, { nx := fun _ => False, rt := fun d => d = .bl true }, law_rep src h1 hl, ⟨fun P σ ρ H cn d v x _ _ _ q => q.elim⟩, ⟨fun P σ ρ H _ q => q.elim, fun P σ ρ H _ q => q.elim, fun P σ ρ H _ q => q.elim, fun P σ ρ H d v _ dv q => by
    subst q
    cases dv
    exact k H⟩, sem⟩
end DL

set_option Elab.async false
set_option linter.all false
set_option maxRecDepth 100000
set_option maxHeartbeats 2000000
namespace DL
open PySem PySem.Spec PyProof.Rows L2 BT
/-! ### the head: classes with an own == -/
def owB (K : PySem.W.Frag) (c : Str) : Bool :=
  He.eqO (PySem.W.findIn K (.ref (He.ga K c)) "__ne__") (some (some (.builtin "object.__ne__"))) && (kinds.all (fun t => decide (PySem.W.subIn K (.type t) (.ref (He.ga K c)) = some false)) && (He.eqO (PySem.W.findIn K (.ref (He.ga K c)) "__class__") (some (some (.builtin "object.__class__"))) &&
  (He.eqO (PySem.W.specialIn K (.builtin "object.__class__") "__get__") (some (some (.builtin "getset_descriptor.__get__"))) && (decide (PySem.W.takesIn K (.builtin "object.__class__") = some true) && (decide (PySem.W.mroIn K (He.ga K c) (.type "object") = some true) &&
  (decide (PySem.W.kitOne K (.ref (He.ga K c)) (.ref (He.ga K c)) = some true) && kinds.all (fun t => decide (PySem.W.kitOne K (.type t) (.ref (He.ga K c)) = some false))))))))
theorem owB_ok {K : PySem.W.Frag} {c : Str} (cl : Cls K (He.ga K c)) (b : owB K c = true) : OwEq K (He.ga K c) := by
  unfold owB at b
  simp only [Bool.and_eq_true, decide_eq_true_eq, List.all_eq_true] at b
  obtain ⟨b1, b2, b3, b4, b5, b6, b7, b8⟩ := b
  exact ⟨cl, He.eqO_ok b1, b2, He.eqO_ok b3, He.eqO_ok b4, b5, b6, b7, b8⟩
def obsZ (fa : List He.Fa) (fn : List He.DefD) (xs os : List Str) (K : PySem.W.Frag) : AlX := (xs.all (errB K) && os.all (owB K), He.obsD fa fn K)
def obsZG (n : Nat) (fa : List He.Fa) (fn : List He.DefD) (xs os : List Str) (g : Addr → Option Obj) : AlX := obsZ fa fn xs os (He.frG g (He.asD g n))
def hookZ (n : Nat) (fa : List He.Fa) (fn : List He.DefD) (xs os : List Str) : PySem.W.Hook where
  α := AlX
  obs := fun s => obsZG n fa fn xs os s.heap.get?
  val := fun _ => (true, He.valD fn)
  says := fun _ h => ∃ K : PySem.W.Frag, K.In h ∧ (xs.all (errB K) && os.all (owB K)) = true ∧ He.SaysD fa fn K
  of := fun _ _ e => ⟨_, He.frG_in, congrArg (fun z : AlX => z.1) e, congrArg (fun z : AlX => z.2) e⟩
  keeps := fun _ _ _ h k => by
    obtain ⟨K, h1, h2, h3⟩ := h
    exact ⟨K, PySem.W.Frag.In.keeps h1 k, h2, h3⟩
theorem obsZG_eq {n : Nat} {fa : List He.Fa} {fn : List He.DefD} {xs os : List Str} {g : Addr → Option Obj} {s : Shared} (h : ∀ a, g a = s.heap.get? a) : obsZG n fa fn xs os g = (hookZ n fa fn xs os).obs s := by
  cases (show g = s.heap.get? from funext h)
  rfl
theorem ow_of {K : PySem.W.Frag} {xs : List Str} (c : xs.all (owB K) = true) (i : Nat) {x : Str} (h : xs[i]? = some x := by rfl) : owB K x = true := List.all_eq_true.mp c x (List.mem_of_getElem? h)
/-- one class -/
theorem tab_one {K : PySem.W.Frag} {ad : Str → Addr} {c : Str} {fs : List Str} (cl : Cls K (ad c)) (no : ∀ f ∈ fs, NoAttr K (ad c) f) : ClsTab K ad [(c, fs)] := by
  have one : ∀ (c' : Str) (fs' : List Str), List.lookup c' [(c, fs)] = some fs' → c' = c ∧ fs' = fs := fun c' fs' h => by
    rw [List.lookup_cons] at h
    split at h
    · rename_i q
      exact ⟨by simpa using q, (Option.some.inj h).symm⟩
    · simp at h
  exact ⟨fun c' fs' h => by obtain ⟨rfl, rfl⟩ := one c' fs' h; exact cl, fun c' fs' h => by obtain ⟨rfl, rfl⟩ := one c' fs' h; exact no⟩
end DL

set_option Elab.async false
set_option linter.all false
set_option maxRecDepth 100000
set_option maxHeartbeats 2000000
namespace DL
open PySem PySem.Spec PyProof.Rows L2 BT
/-! ### repr of flags and numbers too; x in a tuple of whole numbers; three names -/
section
variable {X : Cx} {ad : Str → Addr} {E : L2.St → XK} {Ed : DXt} {e : Expr} {p pos : Pos} {n : Nat} {ga : DA}
def blS (b : Bool) : Str := if b then "True" else "False"
def rReprB : List V → Hp → VK → Prop := fun xs H Q => rRepr xs H Q ∨ (∃ b, xs = [.bl b] ∧ Q (.str (blS b)) H) ∨ ∃ i : Int, xs = [.int i] ∧ i.natAbs.log2 < 1920 ∧ Q (.str (toString i)) H
theorem call_reprB (gd : X.A.guards = some []) (hu : X.A.units + 64 < cLine) : CallR X (.builtin "repr") rReprB := by
  intro pins s σ H xs us Q I r h
  rcases h with h | ⟨b, rfl, q⟩ | ⟨i, rfl, hz, q⟩
  · exact call_repr gd hu pins s σ H xs us Q I r h
  · obtain ⟨u, rfl, r1⟩ := vals1 r
    cases (show u = Value.bool b from r1)
    exact PySem.P.repr_of_bool ⟨.str (blS b), H, I.tok _, ⟨_, rfl⟩, q⟩
  · obtain ⟨u, rfl, t, rfl⟩ := vals1 r
    exact PySem.P.repr_of_int hz ⟨.str _, H, I.tok _, ⟨_, rfl⟩, q⟩
def oReprB : List D → (D → Prop) → Prop
  | [.bl b], Q => Q (.str (blS b))
  | [.int i], Q => i.natAbs.log2 < 1920 ∧ Q (.str (toString i))
  | [d], Q => (match d with | .tup _ => True | .lst _ => True | .dct _ => True | _ => False) ∧ ∃ p, pyR d = some p ∧ Sr p ∧ Q (.str p.shown)
  | _, _ => False
theorem pdReprB (gd : X.A.guards = some []) (hu : X.A.units + 64 < cLine) (hg : Gl X "repr") (hm : X.mg "repr" = none) (ha : AD X ad E Ed [e] n ga) (he : starEach [e] X.env = (false, eval e X.env) :: starEach [] X.env := by rfl) (hpl : (backTo pos (starEach [] X.env)).any (·.1) = false := by rfl) : PD X ad E Ed (.Call (.Name "repr" p) [e] [] pos) (eB oReprB ga) :=
  pdB (call_reprB gd hu) (fun B s H vs ds Qd Q w da h k => by
    unfold oReprB at h
    split at h
    · cases da with
      | cons a r => cases r; cases a; exact .inr (.inl ⟨_, rfl, k _ _ H h w.refl (.str _)⟩)
    · cases da with
      | cons a r => cases r; cases a; exact .inr (.inr ⟨_, rfl, h.1, k _ _ H h.2 w.refl (.str _)⟩)
    · obtain ⟨hk, p, e, sr, h⟩ := h
      cases da with
      | cons a r =>
        cases r
        have dv := a.dv e
        cases a with
        | tup ea ra => exact .inl ⟨_, p, rfl, dv, sr, k _ _ H h w.refl (.str _)⟩
        | lst ea ra => exact .inl ⟨_, p, rfl, dv, sr, k _ _ H h w.refl (.str _)⟩
        | dct ea ra => exact .inl ⟨_, p, rfl, dv, sr, k _ _ H h w.refl (.str _)⟩
        | _ => exact hk.elim
    · exact h.elim) hg hm PyProof.Rows.boot_repr ha (by decide) (by decide) he hpl
/-- i in a tuple of whole numbers -/
def oInI (neg : Bool) : D → D → (D → Prop) → Prop
  | .int i, .tup ys, Q => ∃ ns, intsD ys = some ns ∧ Q (.bl (ng neg (decide (i ∈ ns))))
  | _, _, _ => False
theorem inV_ints (i : Int) : ∀ ns : List Int, inV (.int i) (ns.map V.int) = decide (i ∈ ns)
  | [] => rfl
  | j :: ns => by
    have ih := inV_ints i ns
    unfold inV at ih ⊢
    rw [List.map_cons, List.any_cons, ih]
    show (j == i || decide (i ∈ ns)) = decide (i ∈ j :: ns)
    by_cases h : i = j
    · subst h; simp
    · have h' : (j == i) = false := by simp; exact fun e => h e.symm
      rw [h']
      simp [h]
theorem flat_ints : ∀ ns : List Int, (ns.map V.int).all flatV = true
  | [] => rfl
  | _ :: ns => flat_ints ns
theorem dInI {K : PySem.W.Frag} : OpD ad (rIn K false) (oInI false) := fun B s H x y dx dy Qd Q w da db h k => by
  unfold oInI at h
  split at h
  · obtain ⟨ns, e, h⟩ := h
    cases da
    cases db with
    | tup ea ra =>
      have ev := ra.intsD e
      subst ev
      refine ⟨_, _, rfl, .inr (.inl (.inl ea.2)), rfl, flat_ints ns, ?_⟩
      rw [inV_ints]
      exact k _ _ H h w.refl (.bl _)
  · exact h.elim
theorem dNotInI {K : PySem.W.Frag} : OpD ad (rIn K true) (oInI true) := fun B s H x y dx dy Qd Q w da db h k => by
  unfold oInI at h
  split at h
  · obtain ⟨ns, e, h⟩ := h
    cases da
    cases db with
    | tup ea ra =>
      have ev := ra.intsD e
      subst ev
      refine ⟨_, _, rfl, .inr (.inl (.inl ea.2)), rfl, flat_ints ns, ?_⟩
      rw [inV_ints]
      exact k _ _ H h w.refl (.bl _)
  · exact h.elim
/-- three names -/
def gN3 (i j l : Nat) : DG := fun d ρ Q => match d with
  | .tup [x, y, z] => Q (((ρ.set i (.dat x)).set j (.dat y)).set l (.dat z))
  | _ => False
theorem gdN3 {i j l : Nat} {tgt : Expr} {K : PySem.W.Frag} (h : PG X tgt (gTup K 3 (gCons (gName i) (gCons (gName j) (gCons (gName l) gNil))))) : GD X ad tgt (gN3 i j l) := ⟨weakG h fun v σ H Q ⟨c, P, ρ, d, Qd, r, dv, h, k⟩ => by
    unfold gN3 at h
    split at h
    · rename_i x y z
      cases dv with
      | tup ea ra =>
        cases ra with
        | cons a ra => cases ra with
          | cons b ra => cases ra with
            | cons q ra =>
              cases ra
              exact ⟨_, _, rfl, .inl (.inl ea.2), rfl, _, _, rfl, _, _, rfl, _, _, rfl, rfl, k _ _ _ (((r.setD a).setD (b.mono (fz_rm _))).setD ((q.mono (fz_rm _)).mono (fz_rm _))) h⟩
    · exact h.elim⟩
end
end DL
namespace DL
open PySem PySem.Spec PyProof.Rows L2 BT
section
variable {X : Cx} {ad : Str → Addr} {E : L2.St → XK} {Ed : DXt} {a b c : Expr} {fa fb fc : DE} {pos : Pos}
/-- a chain's value -/
def eCh (o1 o2 : D → D → (D → Prop) → Prop) (fa fb fc : DE) : DE := fun ρ Q Ed => tCh o1 o2 fa fb fc ρ (fun k => Q (.bl k)) Ed
theorem pdChain {op op' : CmpOp} {r r' : R2} {o1 o2 : D → D → (D → Prop) → Prop} (ho : OpR X (compareOp op) r) (ho' : OpR X (compareOp op') r') (h1 : OpD ad r o1) (h2 : OpD ad r' o2) (ha : PD X ad E Ed a fa) (hb : PD X ad E Ed b fb) (hc : PD X ad E Ed c fc)
    (pe : ∀ {ta tb tc : TE}, PE X a ta → PE X b tb → PE X c tc → PE X (.Compare a [op, op'] [b, c] pos) (tChain r r' ta tb tc)) : PD X ad E Ed (.Compare a [op, op'] [b, c] pos) (eCh o1 o2 fa fb fc) :=
  ⟨weakE (pe ha.pe hb.pe hc.pe) fun σ H Q ⟨B, s, ρ, Qd, W, h, k⟩ => ⟨B, s, ρ, _, W, h, fun x v H1 hx f1 dx => ⟨B, s, ρ, _, W.frm f1, hx, fun y u H2 hy f2 dy =>
    h1 B s H2 v u x y _ _ (W.frm (f1.trans f2)).wd ((W.frm f1).wd.dx f2 dx) dy hy fun d v' H3 hd f3 dd => by
      cases d with
      | bl c =>
        cases dd
        cases c with
        | true => exact ⟨true, rfl, iteT ⟨B, s, ρ, _, W.frm (f1.trans (f2.trans f3)), hd, fun z z' H4 hz f4 dz => h2 B s H4 u z' y z _ _ (W.frm (f1.trans (f2.trans (f3.trans f4)))).wd ((W.frm (f1.trans f2)).wd.dx (f3.trans f4) dy) dz hz fun d2 w' H5 hd2 f5 dd2 => by
            cases d2 with
            | bl c => cases dd2; exact k (.bl c) _ H5 hd2 (f1.trans (f2.trans (f3.trans (f4.trans f5)))) (.bl c)
            | _ => exact hd2.elim⟩⟩
        | false => exact ⟨false, rfl, iteF (k (.bl false) _ H3 hd (f1.trans (f2.trans f3)) (.bl false))⟩
      | _ => exact hd.elim⟩⟩⟩
end
end DL
namespace DL
open PySem PySem.Spec PyProof.Rows L2 BT
section
variable {X : Cx} {ad : Str → Addr} {E : L2.St → XK} {Ed : DXt} {e : Expr} {fa : DE} {p pos pos' apos : Pos}
/-- data that lies nowhere -/
def flatD : D → Prop
  | .non => True
  | .bl _ => True
  | .int _ => True
  | .str _ => True
  | _ => False
theorem flatD_dx {ad : Str → Addr} {F F' : Addr → HO → Prop} {v : V} {d : D} (h : flatD d) (dv : Dx ad F v d) : Dx ad F' v d := by
  cases dv with
  | non => exact .non
  | bl b => exact .bl b
  | int i => exact .int i
  | str x => exact .str x
  | _ => exact h.elim
/-- xs.append(..), what is put reads xs itself -/
def sAppF (i : Nat) (f : DE) : DS := fun De ρ Ed => match ρ[i]? with
  | some (.own xs) => f (ρ.set i (.dat (.lst xs))) (fun d => flatD d ∧ xs.length < 1000000 ∧ De.nx (ρ.set i (.own (xs ++ [d])))) Ed
  | _ => False
theorem sdAppF {i : Nat} {x : Str} (hv : PE X (.Name x pos') (tVar i)) (h : PD X ad E Ed e fa)
    (pe : ∀ {te : TE}, PE X e te → PS X (.Expr (.Call (.Attribute (.Name x pos') "append" apos) [e] [] p) pos) (tDrop (tBM X.K "list" rAppend (tVar i) (tCons te tNil)))) : SD X ad E Ed (.Expr (.Call (.Attribute (.Name x pos') "append" apos) [e] [] p) pos) (sAppF i fa) :=
  ⟨weakS (pe h.pe) fun Dn σ H ⟨c, P, ρ, De, r, t, en, h⟩ => by
    unfold sAppF at h
    split at h
    · rename_i xs e
      obtain ⟨p, ep, es⟩ := r.own i xs e
      obtain ⟨q, vs, e2, b, n, hq, da⟩ := r.sl i _ e
      rw [es] at e2
      have : p = q := by injection e2 with e2; injection e2 with e2; injection e2
      subst this
      refine ⟨.ref p, es, .inl ⟨rfl, _, .inl (.inl hq)⟩, tie_e c (rm P i) _ De Dn (r.freeze e) t h fun d v H1 hd _ f1 dv => ?_⟩
      have r1 := r.frm f1
      have hv1 := f1.st p _ n hq
      have da1 := da.mono (r.wd.fz f1)
      exact ⟨p, vs, v, rfl, rfl, hv1, by rw [da.length, sizeLine_eq]; omega, en.nx _ _ _ _ (r1.app e ep es hv1 (da1.append (.cons (flatD_dx hd.1 dv) .nil))) hd.2.2⟩
    · exact h.elim⟩
end
end DL

set_option Elab.async false
set_option linter.all false
set_option maxRecDepth 100000
set_option maxHeartbeats 4000000
set_option exponentiation.threshold 2000
namespace BT
open PySem PySem.Spec PyProof.Rows L2
/-! ### bits, lots -/
theorem lotV_get {l : List Nat} {i : Nat} {x : V} (h : (lotV l)[i]? = some x) : ∃ p, l[i]? = some p ∧ x = .int (p : Int) := by
  unfold lotV at h
  rw [List.getElem?_map] at h
  cases e : l[i]? with
  | none => rw [e] at h; cases h
  | some p => rw [e] at h; exact ⟨p, rfl, (Option.some.inj h).symm⟩
theorem take_snoc {α : Type} {l : List α} {i : Nat} {x : α} (h : l[i]? = some x) : l.take (i + 1) = l.take i ++ [x] := by
  rw [List.take_add_one, h]; rfl
theorem lotV_len (l : List Nat) : (lotV l).length = l.length := List.length_map ..
theorem bitOr_nat (a b : Nat) : Builtin.bitOr (a : Int) (b : Int) = ((a ||| b : Nat) : Int) := by
  rw [bitOr_and, bitAnd_pp (Int.natCast_nonneg _) (Int.natCast_nonneg _), Int.toNat_natCast, Int.toNat_natCast]
  have := or_and_add a b
  omega
theorem intBits_nat (m : Nat) : Builtin.Int.intBits (m : Int) = bitsN m := by
  unfold Builtin.Int.intBits bitsN
  by_cases h : m = 0
  · subst h; rfl
  · rw [if_neg (by simpa using h), if_neg h]; rfl
theorem shr_bit (m p : Nat) : (Builtin.bitAnd ((m : Int) / 2 ^ ((p : Int).toNat)) 1 != 0) = m.testBit p := by
  rw [bitAnd_m1, Int.toNat_natCast, Nat.testBit_eq_decide_div_mod_eq]
  have e : ((m : Int) / 2 ^ p) % 2 = ((m / 2 ^ p % 2 : Nat) : Int) := by
    rw [Int.natCast_emod, Int.natCast_ediv, Int.natCast_pow]; rfl
  rw [e]
  rcases Nat.mod_two_eq_zero_or_one (m / 2 ^ p) with h | h <;> rw [h] <;> rfl
theorem lotB_step (m i : Nat) : lotB (i + 1) m = if m.testBit i = true then lotB i m ++ [i] else lotB i m := by
  unfold lotB
  rw [List.range_succ, List.filter_append]
  by_cases h : m.testBit i = true <;> simp [h]
theorem lotB_yes {m i : Nat} (h : m.testBit i = true) : lotB (i + 1) m = lotB i m ++ [i] := by rw [lotB_step, if_pos h]
theorem lotB_no {m i : Nat} (h : m.testBit i = false) : lotB (i + 1) m = lotB i m := by rw [lotB_step, h]; rfl
theorem lotB_len (n m : Nat) : (lotB n m).length ≤ n := by
  unfold lotB
  exact Nat.le_trans (List.length_filter_le _ _) (by rw [List.length_range]; exact Nat.le_refl _)
theorem bitXor_nat (a b : Nat) : Builtin.bitXor (a : Int) (b : Int) = ((a ^^^ b : Nat) : Int) := by
  rw [bitXor_and, bitAnd_pp (Int.natCast_nonneg _) (Int.natCast_nonneg _), Int.toNat_natCast, Int.toNat_natCast]
  have := xor_and_add a b
  omega
theorem bitAnd_nat (a b : Nat) : Builtin.bitAnd (a : Int) (b : Int) = ((a &&& b : Nat) : Int) := by
  rw [bitAnd_pp (Int.natCast_nonneg _) (Int.natCast_nonneg _), Int.toNat_natCast, Int.toNat_natCast]
theorem shr_nat (a p : Nat) : (a : Int) / 2 ^ ((p : Int).toNat) = ((a >>> p : Nat) : Int) := by
  rw [Int.toNat_natCast, Nat.shiftRight_eq_div_pow, Int.natCast_ediv, Int.natCast_pow]; rfl
end BT
namespace DL
open PySem PySem.Spec PyProof.Rows L2 BT
def natX (l : List Nat) : List D := l.map fun p : Nat => .int (p : Int)
def lotX (l : List Nat) : D := .tup (natX l)
def lotsX (ls : List (List Nat)) : D := .lst (ls.map lotX)
def intsN (l : List Nat) : List Int := l.map fun p : Nat => (p : Int)
theorem lotX_tup (l : List Nat) : lotX l = tupI (intsN l) := by
  unfold lotX natX tupI intsN; rw [List.map_map]; rfl
theorem intsN_inj {a b : List Nat} (h : intsN a = intsN b) : a = b := (List.map_inj_right fun x y h => Int.ofNat.inj h).mp h
theorem lotD_py (l : List Nat) : lotD l = pyI (intsN l) := by
  unfold lotD pyI intsN; rw [List.map_map]; rfl
theorem lotD_inj {a b : List Nat} (h : lotD a = lotD b) : a = b := by
  rw [lotD_py, lotD_py] at h
  exact intsN_inj (pyI_inj h)
section
variable {ad : Str → Addr} {B : Addr → Prop} {s : SO} {H : Hp} {F : Addr → HO → Prop}
theorem pyR_lot (l : List Nat) : pyR (lotX l) = some (lotD l) := by rw [lotX_tup, lotD_py]; exact pyR_ints _
theorem pyRs_lots : ∀ ls : List (List Nat), pyRs (ls.map lotX) = some (ls.map lotD)
  | [] => rfl
  | l :: ls => by
    rw [List.map_cons, List.map_cons]
    simp only [pyRs, pyR_lot, pyRs_lots ls]; rfl
theorem pyR_lots (ls : List (List Nat)) : pyR (lotsX ls) = some (.list (ls.map lotD)) := by
  unfold lotsX
  simp only [pyR, pyRs_lots]; rfl
end
theorem natX_app (a b : List Nat) : natX a ++ natX b = natX (a ++ b) := by unfold natX; rw [List.map_append]
theorem natX_one (p : Nat) : [D.int (p : Int)] = natX [p] := rfl
theorem natX_len (l : List Nat) : (natX l).length = l.length := List.length_map ..
theorem natX_get {l : List Nat} {i : Nat} {x : D} (h : (natX l)[i]? = some x) : ∃ p, l[i]? = some p ∧ x = .int (p : Int) := by
  unfold natX at h
  rw [List.getElem?_map] at h
  cases e : l[i]? with
  | none => rw [e] at h; cases h
  | some p => rw [e] at h; exact ⟨p, rfl, (Option.some.inj h).symm⟩
theorem at_nat {α : Type} {l : List α} {i : Nat} : atI l (i : Int) = l[i]? := by
  unfold atI
  by_cases h : i < l.length
  · rw [show ixN l.length (i : Int) = some i by unfold ixN; rw [if_pos (by omega), if_pos (by omega)]; rfl]; rfl
  · rw [show ixN l.length (i : Int) = none by unfold ixN; rw [if_pos (by omega), if_neg (by omega)]]
    rw [List.getElem?_eq_none (by omega)]; rfl
theorem natX_rev (l : List Nat) : (natX l).reverse = natX l.reverse := by unfold natX; rw [List.map_reverse]
theorem lotN_bits (m : Nat) : (List.range (bitsN m)).filter (fun p => m.testBit p) = lotN m := rfl
theorem and1_bit (m i : Nat) : (m >>> i &&& 1 = 1) ↔ m.testBit i = true := by
  rw [Nat.testBit, Nat.and_comm]
  cases h : (m >>> i) % 2 with
  | zero => simp [Nat.one_and_eq_mod_two, h]
  | succ k =>
    have : (m >>> i) % 2 = 1 := by omega
    simp [Nat.one_and_eq_mod_two, this]
theorem filt_succ (f : Nat → Bool) (i : Nat) : (List.range (i + 1)).filter f = (List.range i).filter f ++ (if f i then [i] else []) := by
  rw [List.range_succ, List.filter_append]
  cases h : f i <;> simp [h]
theorem bitsN_small {m : Nat} (h : m < 2 ^ 1000) : bitsN m ≤ 1000 := bitsN_le h
theorem shl1_nat (p : Nat) : (1 : Int) * 2 ^ ((p : Int).toNat) = ((2 ^ p : Nat) : Int) := by rw [Int.toNat_natCast, Int.one_mul, Int.natCast_pow]; rfl
theorem cpow1 {p : Nat} (h : p < 1000) : CPow 1 (p : Int) := ⟨by omega, by omega, by decide⟩
theorem cpowN {a p : Nat} (ha : a < 2 ^ 60) (h : p < 1000) : CPow (a : Int) (p : Int) := ⟨by omega, by omega, by rw [Int.natAbs_natCast]; omega⟩
theorem natX_snoc (l : List Nat) (p : Nat) : natX l ++ [D.int (p : Int)] = natX (l ++ [p]) := natX_app l [p]
theorem natX_at {l : List Nat} {i p : Nat} (h : l[i]? = some p) : atI (natX l) (i : Int) = some (.int (p : Int)) := by
  rw [at_nat]; unfold natX; rw [List.getElem?_map, h]; rfl
theorem take_map {α β : Type} {l : List α} {f : α → β} {i : Nat} {x : α} (h : l[i]? = some x) : (l.take i).map f ++ [f x] = (l.take (i + 1)).map f := by
  rw [take_snoc h, List.map_append]; rfl
theorem lcMapN {fi : DI} {vs : List Nat} {i : Nat} {te : DE} {ρ : List Sl} {Q : List D → Prop} {Ed : DXt} (rs : List Nat) (f : Nat → Nat) (hf : ∀ R : List D → Prop, R (natX rs) → fi ρ R Ed) (hl : rs.length ≤ 1000000)
    (hs : ∀ r ∈ rs, ∀ Q' : D → Prop, Q' (.int (f r : Nat)) → te ((wipeD ρ vs).set i (.dat (.int (r : Int)))) Q' X0) (q : Q (natX (rs.map f))) : fLc fi vs i tYs te ρ Q Ed := by
  refine hf _ ⟨by rw [natX_len]; exact hl, fun j acc => acc = natX ((rs.take j).map f), rfl, ?_, ?_⟩
  · rintro j x acc hj rfl
    obtain ⟨r, hr, rfl⟩ := natX_get hj
    dsimp only [tYs]
    rw [if_pos rfl]
    refine hs r (List.mem_of_getElem? hr) _ ?_
    rw [natX_snoc, take_map (f := f) hr]
  · rintro acc rfl
    rw [natX_len, List.take_length]; exact q
def isNumX : D → Bool
  | .int _ => true
  | _ => false
end DL

set_option Elab.async false
set_option linter.all false
set_option maxRecDepth 100000
set_option maxHeartbeats 2000000
namespace DL
open PySem PySem.Spec PyProof.Rows L2 BT
theorem DxA.eraseIdx {ad : Str → Addr} {F : Addr → HO → Prop} : ∀ {vs : List V} {ds : List D} (i : Nat), DxA ad F vs ds → DxA ad F (vs.eraseIdx i) (ds.eraseIdx i)
  | _, _, _, .nil => .nil
  | _, _, 0, .cons a r => r
  | _, _, i + 1, .cons a r => .cons a (DxA.eraseIdx i r)
section
variable {X : Cx} {ad : Str → Addr} {E : L2.St → XK} {Ed : DXt} {e : Expr} {fa : DE} {p p2 pos pos' pos2 apos apos2 : Pos}
/-- xs.append(ys.pop(..)), both lists one's own -/
def sApPop (i j : Nat) (f : DE) : DS := fun De ρ Ed => i ≠ j ∧ match ρ[i]?, ρ[j]? with
  | some (.own xs), some (.own ys) => f ρ (fun d => match d with
    | .int k => ∃ (m : Nat) (y : D), k = (m : Int) ∧ m < ys.length ∧ ys.length ≤ 1000000 ∧ ys[m]? = some y ∧ xs.length < 1000000 ∧ De.nx ((ρ.set j (.own (ys.eraseIdx m))).set i (.own (xs ++ [y])))
    | _ => False) Ed
  | _, _ => False
theorem sdApPop {i j : Nat} {x y : Str} (hv : PE X (.Name x pos') (tVar i)) (hw : PE X (.Name y pos2) (tVar j)) (h : PD X ad E Ed e fa)
    (pe : ∀ {te : TE}, PE X e te → PS X (.Expr (.Call (.Attribute (.Name x pos') "append" apos) [.Call (.Attribute (.Name y pos2) "pop" apos2) [e] [] p2] [] p) pos) (tDrop (tBM X.K "list" rAppend (tVar i) (tCons (tBM X.K "list" rPopAt (tVar j) (tCons te tNil)) tNil)))) :
    SD X ad E Ed (.Expr (.Call (.Attribute (.Name x pos') "append" apos) [.Call (.Attribute (.Name y pos2) "pop" apos2) [e] [] p2] [] p) pos) (sApPop i j fa) :=
  ⟨weakS (pe h.pe) fun Dn σ H ⟨c, P, ρ, De, r, t, en, h⟩ => by
    obtain ⟨hij, h⟩ := h
    split at h
    · rename_i xs ys ei ej
      obtain ⟨p, ep, es⟩ := r.own i xs ei
      obtain ⟨p', vs, e2, b, n, hp, da⟩ := r.sl i _ ei
      rw [es] at e2
      have : p = p' := by injection e2 with e2; injection e2 with e2; injection e2
      subst this
      obtain ⟨q, eq, et⟩ := r.own j ys ej
      obtain ⟨q', ws, e3, b3, n3, hq, db⟩ := r.sl j _ ej
      rw [et] at e3
      have : q = q' := by injection e3 with e3; injection e3 with e3; injection e3
      subst this
      have hpq : p ≠ q := fun z => hij (r.inj i j p ep (z ▸ eq))
      refine ⟨.ref p, es, .inl ⟨rfl, _, .inl (.inl hp)⟩, .ref q, et, .inl ⟨rfl, _, .inl (.inl hq)⟩, tie_e c P ρ De Dn r t h fun d v H1 hd r1 f1 dv => ?_⟩
      have hp1 := f1.st p _ n hp
      have hq1 := f1.st q _ n3 hq
      have da1 := da.mono (r.wd.fz f1)
      have db1 := db.mono (r.wd.fz f1)
      split at hd
      · rename_i k
        obtain ⟨m, y, rfl, hm, hl, hy, hx, hn⟩ := hd
        cases dv
        obtain ⟨w, hw2, dw⟩ := db1.getD hy
        have r2 := r1.app ej eq et hq1 (db1.eraseIdx m)
        have bq : Bl c P q := .inr ⟨j, eq⟩
        have fz : ∀ b o, Fz (Bl c P) H1 b o → Fz (Bl c P) (upd H1 q (.lst (ws.eraseIdx m))) b o := fun b o h => ⟨h.1, by rw [upd_ne (fun e : b = q => h.1 (by rw [e]; exact bq))]; exact h.2⟩
        have hl2 : ws.length = ys.length := db1.length
        refine ⟨q, ws, _, m, w, rfl, rfl, hq1, by omega, by omega, ?_, hw2, ?_⟩
        · unfold seqIndex?
          rw [hl2]
          simp
          omega
        have hp2 : (upd H1 q (.lst (ws.eraseIdx m))) p = some (.lst vs) := by rw [upd_ne hpq]; exact hp1
        have ei2 : (ρ.set j (.own (ys.eraseIdx m)))[i]? = some (.own xs) := by rw [List.getElem?_set_ne (Ne.symm hij)]; exact ei
        exact ⟨p, vs, w, rfl, rfl, hp2, by rw [da1.length, sizeLine_eq]; omega, en.nx _ _ _ _ (r2.app ei2 ep es hp2 ((da1.mono fz).append (.cons (dw.mono fz) .nil))) hn⟩
      · exact hd.elim
    · exact h.elim⟩
end
end DL
namespace DL
open PySem PySem.Spec PyProof.Rows L2 BT
section
variable {X : Cx} {ad : Str → Addr} {E : L2.St → XK} {Ed : DXt} {e : Expr} {fa : DE} {p p2 pos pos2 : Pos}
theorem dx_map {F : Addr → HO → Prop} (g : Nat → V) (h : Nat → D) (k : ∀ i, Dx ad F (g i) (h i)) : ∀ l : List Nat, DxA ad F (l.map g) (l.map h)
  | [] => .nil
  | i :: l => .cons (k i) (dx_map g h k l)
/-- list(range(..)) -/
def fListRg1 (f : DE) : DF := fun ρ Q Ed => f ρ (fun d => match d with
  | .int n => 0 ≤ n ∧ n ≤ 1000000 ∧ Q (rgD 0 n.toNat)
  | _ => False) Ed
theorem pfListRg1 (hc : X.calm = true) (hg : Gl X "list") (hm : X.mg "list" = none) (hg2 : Gl X "range") (hm2 : X.mg "range" = none) (h : PD X ad E Ed e fa) (na : starEach [.Call (.Name "range" p2) [e] [] pos2] X.env = (false, eval (.Call (.Name "range" p2) [e] [] pos2) X.env) :: starEach [] X.env := by rfl)
    (nb : starEach [e] X.env = (false, eval e X.env) :: starEach [] X.env := by rfl) : PF X ad E Ed (.Call (.Name "list" p) [.Call (.Name "range" p2) [e] [] pos2] [] pos) (fListRg1 fa) :=
  ⟨weakE (pe_listRg hc hg hm (prg_1 hg2 hm2 h.pe nb) na) fun σ H Q ⟨B, s, ρ, Qd, W, h, k⟩ => ⟨B, s, ρ, _, W, h, fun d v H1 hd f1 dv => by
    split at hd
    · rename_i n
      obtain ⟨h0, h1, hd⟩ := hd
      cases dv
      refine ⟨n, rfl, RgOk.of_le (by omega) (by omega) (by omega) h0, fun l hl => ?_⟩
      unfold rgV
      rw [Int.sub_zero]
      exact fin_new (W.frm f1).wd f1 hl (dx_map _ _ (fun i => .int _) _) hd k
    · exact hd.elim⟩⟩
end
end DL

set_option Elab.async false
set_option linter.all false
set_option maxRecDepth 100000
namespace BT
open PySem PySem.Spec PyProof.Rows L2
def top (i : Nat) : Stmt := PySem.Challenge.pw_blindtwins_k63_whole_three_factors.main.body.getD i (.Pass ⟨0, 0, 0, 0⟩)
abbrev s_BlindError_init : Stmt := inClass (top 1) 0
abbrev s_mask_of : Stmt := top 7
abbrev s_lot_of : Stmt := top 8
abbrev s_is_number : Stmt := top 11
abbrev s_is_between : Stmt := top 12
abbrev s_is_bit : Stmt := top 13
abbrev s_need_size : Stmt := top 14
abbrev s_is_lot : Stmt := top 15
abbrev s_need_lot : Stmt := top 16
abbrev s_plus : Stmt := top 17
abbrev s_need_wires : Stmt := top 20
abbrev s_is_pair : Stmt := top 21
abbrev s_is_look : Stmt := top 22
abbrev s_need_look : Stmt := top 23
abbrev s_together : Stmt := top 24
abbrev s_times : Stmt := top 25
abbrev s_common : Stmt := top 26
abbrev s_law_cell : Stmt := top 28
abbrev s_law_source : Stmt := top 29
abbrev s_law_draw : Stmt := top 30
abbrev s_law_lot : Stmt := top 31
abbrev s_law_mask : Stmt := top 32
abbrev s_law_ones : Stmt := top 33
abbrev s_law_goes : Stmt := top 34
abbrev s_law_shaped : Stmt := top 35
abbrev s_law_suits : Stmt := top 36
abbrev s_law_fitted : Stmt := top 37
abbrev s_law_drawn_looks : Stmt := top 38
abbrev s_law_moved : Stmt := top 39
abbrev s_law_moved_by_all : Stmt := top 40
abbrev s_law_expected : Stmt := top 41
abbrev s_law_orders_hold : Stmt := top 42
abbrev s_law_facts_hold : Stmt := top 43
abbrev s_law : Stmt := top 44
end BT

set_option Elab.async false
set_option linter.all false
set_option maxRecDepth 100000
set_option maxHeartbeats 4000000
set_option exponentiation.threshold 2000
namespace BT
open PySem PySem.Spec PyProof.Rows L2
/-- the built-in names that the text leaves alone -/
structure Bi (mg : Str → Option Value) : Prop where
  int : mg "int" = none
  bool : mg "bool" = none
  tuple : mg "tuple" = none
  list : mg "list" = none
  range : mg "range" = none
  len : mg "len" = none
  isinstance : mg "isinstance" = none
  enumerate : mg "enumerate" = none
  abs : mg "abs" = none
  min : mg "min" = none
  repr : mg "repr" = none
structure Bi2 (mg : Str → Option Value) : Prop where
  sorted : mg "sorted" = none
  any : mg "any" = none
  all : mg "all" = none
  sum : mg "sum" = none
theorem scr_at {ns : List Int} {k : Int} (h0 : 0 ≤ k) (h1 : k < (ns.length : Int)) : ∃ z, atI (ns.map V.int) k = some (.int z) := by
  obtain ⟨j, rfl⟩ := Int.eq_ofNat_of_zero_le h0
  have hj : j < ns.length := by omega
  exact ⟨ns[j], atI_nat (by rw [List.getElem?_map, List.getElem?_eq_getElem hj]; rfl)⟩
theorem cm_mod {u m t : Int} (h1 : 0 < m) (h2 : m < 2 ^ 64) : CMul (u % m) t := .inl ⟨by have := Int.emod_nonneg u (Int.ne_of_gt h1); omega, by have := Int.emod_lt_of_pos u h1; omega⟩
theorem Src.put2 {l a : Addr} {H : Hp} (s : Src l a H) {i b : Int} (h : True) : Keeps l a H (upd H a (.lst [.int i, .int b])) := by
  obtain ⟨ns, h2⟩ := s.nums
  refine ⟨⟨⟨i, b, 0, 0, 0, 0, h, upd_same⟩, ?_⟩, fun p o hp e => by rw [upd_ne hp]; exact e⟩
  by_cases e : l = a
  · subst e
    exact ⟨[i, b], upd_same⟩
  · exact ⟨ns, by rw [upd_ne e]; exact h2⟩
section
variable {P : Program} {w : World} {K : PySem.W.Frag} {mg : Str → Option Value} {base : Heap}
/-! ### cell -/
def spCell (K : PySem.W.Frag) : Sp := fun vs H Q _ => ∃ (a : Addr) (ns : List Int) (k : Int), vs = [.ref a, .int k] ∧ 0 ≤ k ∧ SqL K H a (ns.map V.int) ∧ ∀ v : Int, Q (.int v) H
theorem scCell : FnScope ["_law_script", "_law_k", "_law_spare"] ["_law_script", "_law_k"] (defScope s_law_cell) := ⟨rfl, rfl, rfl, by decide +kernel, rfl, by decide +kernel, by decide +kernel⟩
theorem ok_law_cell {f : Addr} {fd : FuncData} (T : Bi mg) (T2 : Bi2 mg) (F : FnP K "_law_cell" s_law_cell f fd) : FnOk P w K mg base CX0 1 f fd ["_law_script", "_law_k"] (spCell K) := by
  refine F.ok scCell (fun vs H Q E h => ?_) (fun cdv A outer s H vs Q E hr h => ?_)
  · obtain ⟨a, ns, k, rfl, _⟩ := h
    rfl
  · obtain ⟨a, ns, k, rfl, k0, hS, q⟩ := h
    refine ⟨_, PSs.nox (pss_cons (ps_if (pt_cmpR op_lt (pv 1) (pe_callB call_len_seq (by rfl) T.len PySem.boot_len (pa_cons (pv 0) pa_nil)) (nomark _))
        (pss_one (ps_ret (pe_callTy call_int1 rfl T.int PyProof.Rows.boot_int (pa_cons (pe_ix ix_list (pv 0) (pv 1) (fun _ _ => rfl)) pa_nil)))) pss_nil)
      (pss_cons (ps_set (i := 2) scCell.nd rfl (Or.inl rfl) (pe_op op_mod (pe_op op_mul (pe_callTy call_int1 rfl T.int PyProof.Rows.boot_int (pa_cons (pe_op op_add (pe_op op_add (pe_op op_mod (pe_callTy call_int1 rfl T.int PyProof.Rows.boot_int (pa_cons (pe_callB (cr_sum rfl) rfl T2.sum (by decide +kernel) (pa_cons (pv 0) pa_nil)) pa_nil)) pe_int) (pe_op op_mul pe_int (pv 1))) pe_int) pa_nil)) pe_int) pe_int))
      (pss_one (ps_ret (pe_op op_mod (pe_callTy call_int1 rfl T.int PyProof.Rows.boot_int (pa_cons (pe_op op_mul (pv 2) (pe_op op_add (pe_op op_fdiv (pv 2) pe_int) pe_int)) pa_nil)) pe_int))))), ?_⟩
    refine ⟨_, rfl, _, rfl, a, _, rfl, .inl hS, _, _, rfl, rfl, _, rfl, ?_⟩
    rw [List.length_map]
    refine ite2 (fun h => ?_) (fun _ => ?_)
    · obtain ⟨z, hz⟩ := scr_at k0 (of_decide_eq_true h)
      exact ⟨_, rfl, _, rfl, a, _, k, _, rfl, rfl, hS, hz, .inl ⟨_, rfl, q _⟩⟩
    · refine ⟨_, rfl, a, ns, rfl, hS, .inl ⟨_, rfl, _, _, rfl, rfl, (by show (0 : Int) < 2147483629; decide), _, rfl, _, _, rfl, rfl, .inl (by decide), _, _, rfl, rfl, _, _, rfl, rfl, .inl ⟨_, rfl, _, _, rfl, rfl, .inr (by decide), _, _, rfl, rfl, (by show (0 : Int) < 2147483647; decide), ?_⟩⟩⟩
      refine ⟨_, rfl, _, rfl, _, _, rfl, rfl, ⟨by decide, by decide⟩, _, _, rfl, rfl, _, _, rfl, rfl, cm_mod (by decide) (by decide), .inl ⟨_, rfl, _, _, rfl, rfl, (by show (0 : Int) < 2147483647; decide), q _⟩⟩
/-! ### source -/
def spSource2 (K : PySem.W.Frag) : Sp := fun vs H Q _ => ∃ (a : Addr) (ns : List Int) (k : Int), vs = [.ref a, .int k] ∧ 0 ≤ k ∧ SqL K H a (ns.map V.int) ∧ ∀ (p l : Addr) (H' : Hp), H p = none → Same H H' → Src l p H' → Q (.ref p) H'
theorem scSource : FnScope ["_law_script", "_law_k"] ["_law_script", "_law_k"] (defScope s_law_source) := ⟨rfl, rfl, rfl, by decide +kernel, rfl, by decide +kernel, by decide +kernel⟩
theorem ok_law_source {f : Addr} {fd : FuncData} (T : Bi mg) (DC : DefOk P w K mg base CX0 1 "_law_cell" ["_law_script", "_law_k"] (spCell K)) (F : FnP K "_law_source" s_law_source f fd) : FnOk P w K mg base CX0 2 f fd ["_law_script", "_law_k"] (spSource2 K) := by
  refine F.ok scSource (fun vs H Q E h => ?_) (fun cdv A outer s H vs Q E hr h => ?_)
  · obtain ⟨a, ns, k, rfl, _⟩ := h
    rfl
  · obtain ⟨a, ns, k, rfl, k0, hS, q⟩ := h
    refine ⟨_, PSs.nox (pss_one (ps_ret (pe_lst (pa_cons (pe_callB call_abs (by rfl) T.abs PyProof.Rows.boot_abs (pa_cons (pe_d DC hr rfl (pa_cons (pv 0) (pa_cons (pv 1) pa_nil))) pa_nil)) (pa_cons (pe_op op_mul pe_int (pv 1)) pa_nil))))), ?_⟩
    refine ⟨_, rfl, _, rfl, a, ns, k, rfl, k0, hS, fun v => ⟨_, rfl, _, rfl, _, _, rfl, rfl, .inl (by decide), (by show 2 ≤ sizeLine; decide), fun p hp => ?_⟩⟩
    have h0 : True := trivial
    exact q p p _ hp (Same.new (Same.refl H) hp) ⟨⟨_, _, 0, 0, 0, 0, h0, upd_same⟩, ⟨[_, _], upd_same⟩⟩
/-! ### draw -/
def spDraw : Sp := fun vs H Q _ => ∃ (l a : Addr) (m : Int), vs = [.ref a, .int m] ∧ 0 < m ∧ m < 1073741824 ∧ Src l a H ∧ ∀ (v : Int) (H' : Hp), 0 ≤ v → v < m → Keeps l a H H' → Q (.int v) H'
theorem scDraw : FnScope ["_law_source_here", "_law_many", "_law_digit", "_law_number"] ["_law_source_here", "_law_many"] (defScope s_law_draw) := ⟨rfl, rfl, rfl, by decide +kernel, rfl, by decide +kernel, by decide +kernel⟩
theorem ok_law_draw {f : Addr} {fd : FuncData} (T : Bi mg) (F : FnP K "_law_draw" s_law_draw f fd) : FnOk P w K mg base CX0 1 f fd ["_law_source_here", "_law_many"] spDraw := by
  refine F.ok scDraw (fun vs H Q E h => ?_) (fun cdv A outer s H vs Q E hr h => ?_)
  · obtain ⟨l, a, m, rfl, _⟩ := h
    rfl
  · obtain ⟨l, a, m, rfl, m0, m1, hS, k⟩ := h
    refine ⟨_, PSs.nox (pss_cons (ps_if (pt_cmpR op_ge (pe_ix ix_list (pv 0) pe_int (fun _ _ => rfl)) (pe_op op_pow pe_int pe_int) (nomark _))
        (pss_cons (ps_set (i := 2) scDraw.nd rfl (Or.inl rfl) (pe_op op_mod (pe_callTy call_int1 rfl T.int PyProof.Rows.boot_int (pa_cons (pe_ix ix_list (pv 0) pe_int (fun _ _ => rfl)) pa_nil)) (pv 1)))
          (pss_cons (ps_asg (pe_op op_fdiv (pe_ix ix_list (pv 0) pe_int (fun _ _ => rfl)) (pv 1)) (pg_sub (pv 0) pe_int set_list))
            (pss_one (ps_ret (pv 2))))) pss_nil)
      (pss_cons (ps_asg (pe_op op_add (pe_ix ix_list (pv 0) pe_int (fun _ _ => rfl)) pe_int) (pg_sub (pv 0) pe_int set_list))
      (pss_cons (ps_set (i := 3) scDraw.nd rfl (Or.inl rfl) (pe_op op_mod (pe_op op_mul (pe_callTy call_int1 rfl T.int PyProof.Rows.boot_int (pa_cons (pe_op op_add (pe_op op_add (pe_op op_mod (pe_callTy call_int1 rfl T.int PyProof.Rows.boot_int (pa_cons (pe_ix ix_list (pv 0) pe_int (fun _ _ => rfl)) pa_nil)) pe_int) (pe_op op_mul pe_int (pe_ix ix_list (pv 0) pe_int (fun _ _ => rfl)))) pe_int) pa_nil)) pe_int) pe_int))
      (pss_cons (ps_set (i := 3) scDraw.nd rfl (Or.inl rfl) (pe_op op_mod (pe_callTy call_int1 rfl T.int PyProof.Rows.boot_int (pa_cons (pe_op op_mul (pv 3) (pe_op op_add (pe_op op_fdiv (pv 3) pe_int) pe_int)) pa_nil)) pe_int))
      (pss_cons (ps_set (i := 3) scDraw.nd rfl (Or.inl rfl) (pe_op op_mod (pe_callTy call_int1 rfl T.int PyProof.Rows.boot_int (pa_cons (pe_op op_mul (pv 3) (pe_op op_add (pe_op op_fdiv (pv 3) pe_int) pe_int)) pa_nil)) pe_int))
      (pss_one (ps_ret (pe_op op_mod (pe_callTy call_int1 rfl T.int PyProof.Rows.boot_int (pa_cons (pe_op op_fdiv (pv 3) pe_int) pa_nil)) (pv 1))))))))), ?_⟩
    obtain ⟨i, b, c, cl, n, z, h0, h1⟩ := hS.at_
    refine ⟨_, rfl, a, _, 0, .int i, rfl, rfl, .inl (.inl h1), rfl, _, _, rfl, rfl, ⟨by decide, by decide, by decide⟩, _, _, rfl, rfl, _, rfl, ?_⟩
    refine ite2 (fun _ => ?_) (fun _ => ?_)
    · refine ⟨_, rfl, a, _, 0, .int i, rfl, rfl, .inl (.inl h1), rfl, .inl ⟨_, rfl, _, rfl, _, _, rfl, rfl, m0, ?_⟩⟩
      refine ⟨_, rfl, a, _, 0, .int i, rfl, rfl, .inl (.inl h1), rfl, _, rfl, _, _, rfl, rfl, ⟨m0, m1⟩, _, rfl, a, _, 0, 0, rfl, rfl, h1, rfl, ?_⟩
      exact ⟨_, rfl, k (i % m) _ (Int.emod_nonneg _ (Int.ne_of_gt m0)) (Int.emod_lt_of_pos _ m0) (hS.put2 (i := i / m) (b := b) trivial)⟩
    · refine ⟨_, rfl, a, _, 1, .int b, rfl, rfl, .inl (.inl h1), rfl, _, _, rfl, rfl, _, rfl, a, _, 1, 1, rfl, rfl, h1, rfl, ?_⟩
      have k1 : Keeps l a H (upd H a (.lst [.int i, .int (b + 1)])) := hS.put2 h0
      have g1 : (upd H a (.lst [.int i, .int (b + 1)])) a = some (.lst [.int i, .int (b + 1)]) := upd_same
      show tSeq _ _ _ _ (upd H a (.lst [.int i, .int (b + 1)]))
      refine ⟨_, rfl, a, _, 0, .int i, rfl, rfl, .inl (.inl g1), rfl, .inl ⟨_, rfl, _, _, rfl, rfl, (by show (0 : Int) < 2147483629; decide), _, rfl, a, _, 1, .int (b + 1), rfl, rfl, .inl (.inl g1), rfl, _, _, rfl, rfl, .inl (by decide), _, _, rfl, rfl, _, _, rfl, rfl, .inl ⟨_, rfl, _, _, rfl, rfl, .inr (by decide), _, _, rfl, rfl, (by show (0 : Int) < 2147483647; decide), ?_⟩⟩⟩
      refine ⟨_, rfl, _, rfl, _, _, rfl, rfl, ⟨by decide, by decide⟩, _, _, rfl, rfl, _, _, rfl, rfl, cm_mod (by decide) (by decide), .inl ⟨_, rfl, _, _, rfl, rfl, (by show (0 : Int) < 2147483647; decide), ?_⟩⟩
      refine ⟨_, rfl, _, rfl, _, _, rfl, rfl, ⟨by decide, by decide⟩, _, _, rfl, rfl, _, _, rfl, rfl, cm_mod (by decide) (by decide), .inl ⟨_, rfl, _, _, rfl, rfl, (by show (0 : Int) < 2147483399; decide), ?_⟩⟩
      refine ⟨_, rfl, _, _, rfl, rfl, ⟨by decide, by decide⟩, .inl ⟨_, rfl, _, rfl, _, _, rfl, rfl, m0, ?_⟩⟩
      exact k _ _ (Int.emod_nonneg _ (Int.ne_of_gt m0)) (Int.emod_lt_of_pos _ m0) k1
end
end BT
namespace DL
open PySem PySem.Spec PyProof.Rows L2 BT
section
variable {P : Program} {w : World} {K : PySem.W.Frag} {mg : Str → Option Value} {base : Heap} {ad : Str → Addr} {k : Nat}
def d_law_draw : DSp := fun as Q _ => ∃ m : Int, as = [.src, .dat (.int m)] ∧ 0 < m ∧ m < 1073741824 ∧ ∀ v : Int, 0 ≤ v → v < m → Q (.int v)
theorem DefOk.wide {x : Str} {ps : List Str} {sp : Sp} (D : DefOk P w K mg base CX0 k x ps sp) : DefOk P w K mg base (L2.CX P w) k x ps sp := by
  obtain ⟨f, fd, F, r⟩ := D.ex
  exact ⟨f, fd, FnOk.wide F, r⟩
theorem DefOk.imp {CX : CXT} {x : Str} {ps : List Str} {sp sp' : Sp} (D : DefOk P w K mg base CX k x ps sp) (h : ∀ vs H Q E, sp' vs H Q E → sp vs H Q E) : DefOk P w K mg base CX k x ps sp' := by
  obtain ⟨f, fd, F, r⟩ := D.ex
  exact ⟨f, fd, F.imp h, r⟩
theorem frm_keeps {B : Addr → Prop} {l a : Addr} {H H' : Hp} (h : Keeps l a H H') : Frm (some (l, a)) H H' := ⟨fun b o n e => h.same b o (n l a rfl) e, fun l' a' e => by cases e; exact h.src⟩
theorem cv_law_draw (D : DefOk P w K mg base CX0 k "_law_draw" ["_law_source_here", "_law_many"] spDraw) : DefX P w K mg base ad k "_law_draw" ["_law_source_here", "_law_many"] d_law_draw :=
  DefOk.imp (DefOk.wide D) fun vs H Q E h => by
    obtain ⟨B, s, as, Qd, Xd, W, ar, ⟨m, rfl, m0, m1, q⟩, kk, _⟩ := h
    cases ar with
    | cons a1 r1 => cases r1 with
      | cons a2 r2 =>
        cases r2
        obtain ⟨l, b, e1, e2⟩ := a1
        subst e1 e2
        cases a2
        refine ⟨l, b, m, rfl, m0, m1, (W.sr l b rfl).1, fun v H' v0 v1 hk => kk _ _ H' (q v v0 v1) (frm_keeps (B := B) hk) (.int v)⟩
end
end DL

set_option Elab.async false
set_option linter.all false
set_option maxRecDepth 100000
set_option maxHeartbeats 4000000
set_option exponentiation.threshold 2000
namespace DL
open PySem PySem.Spec PyProof.Rows L2 BT
/-! ### what the program's defs promise, by data -/
mutual
/-- no object of a class of the program in it -/
def noO : D → Bool
  | .tup xs => noOs xs
  | .lst xs => noOs xs
  | .dct es => noOk es
  | .obj _ _ => false
  | _ => true
def noOs : List D → Bool
  | [] => true
  | x :: xs => noO x && noOs xs
def noOk : List (Key × D) → Bool
  | [] => true
  | (_, x) :: xs => noO x && noOk xs
end
def lotFrom (n : Int) : Int → List D → Bool
  | _, [] => true
  | l, .int p :: r => decide (l ≤ p ∧ p < n) && lotFrom n (p + 1) r
  | _, _ :: _ => false
def isLotX (n : Int) : D → Bool
  | .tup xs => lotFrom n 0 xs
  | _ => false
def isBitX : D → Bool
  | .int i => decide (0 ≤ i ∧ i ≤ 1)
  | _ => false
def btwX (a b : Int) : D → Bool
  | .int i => decide (a ≤ i ∧ i ≤ b)
  | _ => false
def isPairX (n : Int) : D → Bool
  | .tup [f, t] => isLotX n f && isLotX n t
  | _ => false
def isWires : D → Bool
  | .int i => decide (1 ≤ i ∧ i ≤ 10)
  | _ => false
def isLookX (n : Int) : D → Bool
  | .tup [s, f, t] => isBitX s && (isLotX n f && isLotX n t)
  | _ => false
/-- a look by its masks -/
def lookX (s f t : Nat) : D := .tup [.int (s : Int), lotX (lotN f), lotX (lotN t)]
def goF (f t f' t' : Nat) : Bool := decide ((pop (f &&& t') + pop (t &&& f')) % 2 = 0)
def quF (s f t s' f' t' : Nat) : Int := 2 * s + 2 * s' + pop (f &&& t) + pop (f' &&& t') + (2 * pop (t &&& f') - pop ((f ^^^ f') &&& (t ^^^ t')))
def sgF (s f t s' f' t' : Nat) : Nat := (quF s f t s' f' t' % 4 / 2).toNat
def d_mask_of : DSp := fun as Q _ => ∃ l : List Nat, as = [.dat (lotX l)] ∧ (∀ p ∈ l, p < 1000) ∧ Q (.int (maskN l : Nat))
def d_lot_of : DSp := fun as Q _ => ∃ m : Nat, as = [.dat (.int (m : Int))] ∧ m < 2 ^ 1000 ∧ Q (lotX (lotN m))
def d_is_number : DSp := fun as Q _ => ∃ d, as = [.dat d] ∧ noO d = true ∧ Q (.bl (isNumX d))
def d_is_between : DSp := fun as Q _ => ∃ (d : D) (a b : Int), as = [.dat d, .dat (.int a), .dat (.int b)] ∧ noO d = true ∧ Q (.bl (btwX a b d))
def d_need_wires : DSp := fun as Q X => ∃ w : D, as = [.dat w] ∧ noO w = true ∧ (isWires w = false → X "BadSize" w) ∧ (isWires w = true → Q .non)
def d_is_pair : DSp := fun as Q _ => ∃ (d : D) (n : Nat), as = [.dat d, .dat (.int (n : Int))] ∧ noO d = true ∧ n ≤ 60 ∧ Q (.bl (isPairX n d))
def d_is_bit : DSp := fun as Q _ => ∃ d, as = [.dat d] ∧ noO d = true ∧ Q (.bl (isBitX d))
def d_need_size : DSp := fun as Q _ => ∃ n : Nat, as = [.dat (.int (n : Int))] ∧ n ≤ 60 ∧ Q .non
def d_is_lot : DSp := fun as Q _ => ∃ (d : D) (n : Nat), as = [.dat d, .dat (.int (n : Int))] ∧ noO d = true ∧ n ≤ 60 ∧ Q (.bl (isLotX n d))
def d_need_lot : DSp := fun as Q _ => ∃ (d : D) (n : Nat), as = [.dat d, .dat (.int (n : Int))] ∧ noO d = true ∧ n ≤ 60 ∧ isLotX n d = true ∧ Q .non
def d_plus : DSp := fun as Q _ => ∃ a b : Nat, as = [.dat (lotX (lotN a)), .dat (lotX (lotN b))] ∧ a < 2 ^ 60 ∧ b < 2 ^ 60 ∧ Q (lotX (lotN (a ^^^ b)))
def d_common : DSp := fun as Q _ => ∃ a b : Nat, as = [.dat (lotX (lotN a)), .dat (lotX (lotN b))] ∧ a < 2 ^ 60 ∧ b < 2 ^ 60 ∧ Q (.int (pop (a &&& b) : Nat))
def d_is_look : DSp := fun as Q X => ∃ d w : D, as = [.dat d, .dat w] ∧ noO d = true ∧ noO w = true ∧ (isWires w = false → X "BadSize" w) ∧ (∀ n : Nat, w = .int (n : Int) → 1 ≤ n → n ≤ 10 → Q (.bl (isLookX n d)))
def d_need_look : DSp := fun as Q X => ∃ d : D, as = [.dat d, .dat (.int 10)] ∧ noO d = true ∧ (isLookX 10 d = false → X "BadLook" d) ∧ (isLookX 10 d = true → Q .non)
def d_together : DSp := fun as Q X => ∃ d e : D, as = [.dat d, .dat e] ∧ noO d = true ∧ noO e = true ∧ (isLookX 10 d = false → X "BadLook" d) ∧ (isLookX 10 d = true → isLookX 10 e = false → X "BadLook" e) ∧
  ∀ s f t s' f' t' : Nat, d = lookX s f t → e = lookX s' f' t' → s < 2 → f < 2 ^ 10 → t < 2 ^ 10 → s' < 2 → f' < 2 ^ 10 → t' < 2 ^ 10 → Q (.bl (goF f t f' t'))
def d_times : DSp := fun as Q X => ∃ d e : D, as = [.dat d, .dat e] ∧ noO d = true ∧ noO e = true ∧ (isLookX 10 d = false → X "BadLook" d) ∧ (isLookX 10 d = true → isLookX 10 e = false → X "BadLook" e) ∧
  ∀ s f t s' f' t' : Nat, d = lookX s f t → e = lookX s' f' t' → s < 2 → f < 2 ^ 10 → t < 2 ^ 10 → s' < 2 → f' < 2 ^ 10 → t' < 2 ^ 10 → (goF f t f' t' = false → X "BadLooks" .non) ∧ (goF f t f' t' = true → Q (lookX (sgF s f t s' f' t') (f ^^^ f') (t ^^^ t')))
end DL

set_option Elab.async false
set_option linter.all false
set_option maxRecDepth 100000
set_option maxHeartbeats 4000000
set_option exponentiation.threshold 2000
namespace DL
open PySem PySem.Spec PyProof.Rows L2 BT
section
variable {P : Program} {w : World} {K : PySem.W.Frag} {mg : Str → Option Value} {base : Heap} {ad : Str → Addr}
/-! ### mask_of (s_mask_of) -/
def r_mask_of : DS := (sSeq (sSet 1 (eC (.int 0)))
  (sSeq (sFor (iSq (eV 0)) (gN 2) (sAug 1 (oI fun i j => .int (Builtin.bitOr i j)) (e2 (oIC CPow fun i j => .int (i * 2 ^ j.toNat)) (eC (.int 1)) (eV 2))))
  (sRet (eV 1))))
theorem sc_mask_of : FnScope ["lot", "mask", "place"] ["lot"] (defScope s_mask_of) := ⟨rfl, rfl, rfl, by decide +kernel, rfl, by decide +kernel, by decide +kernel⟩
theorem rd_mask_of {f : Addr} : ∀ (cdv : Value) (A : Around) (outer : List Env) (s : Shared) (H : Hp) (E : XK) (Ed : DXt), Room 0 (A.deeper (envOfC "mask_of" (defScope s_mask_of) s.heap.objs.size f cdv)) → BS (cxOf (L2.CX P w) P w K mg base ["lot", "mask", "place"] "mask_of" (defScope s_mask_of) f cdv A outer s H E) ad (fun _ => E) Ed (defBody s_mask_of) r_mask_of := by
    intro cdv A outer s H E Ed hr
    have hu := hr.units
    have hu5 := hr.units5
    have tk : Takes (cxOf (L2.CX P w) P w K mg base ["lot", "mask", "place"] "mask_of" (defScope s_mask_of) f cdv A outer s H E) (fun cls d _ H => E cls d H) := takes_of rfl rfl rfl rfl
    have hx : Lets (cxOf (L2.CX P w) P w K mg base ["lot", "mask", "place"] "mask_of" (defScope s_mask_of) f cdv A outer s H E) (fun _ => E) := letsP (passes_call tk fun _ _ _ _ h => h)
    exact (bsCons (sdSet (fun h => ps_set (i := 1) sc_mask_of.nd rfl (by first | exact Or.inl rfl | exact Or.inr rfl) h) pdInt)
    (bsCons (sdFor (passes_of rfl) rfl (idSq (pdv 0 (pv 0))) (gdN (pg_name (i := 2) sc_mask_of.nd rfl (by first | exact Or.inl rfl | exact Or.inr rfl))) (bsOne (sdAug (i := 1) (fun h => ps_aug (i := 1) sc_mask_of.nd rfl (by first | exact Or.inl rfl | exact Or.inr rfl) h iop_or) (dI fun i j F => .int _) (pdShl pdInt (pdv 2 (pv 2))))))
    (bsOne (sdRet (pdv 1 (pv 1))))))
/-! ### lot_of (s_lot_of) -/
def r_lot_of : DS := (sRet (e1 oTuple (eF (fLc (iRg1 (aC (e1 (oI1 fun i => .int (Builtin.Int.intBits i : Nat)) (eV 0)) aN)) [1] 1 (tTru (e2 (oI fun i j => .int (Builtin.bitAnd i j)) (e2 (oIC (fun _ j => 0 ≤ j) fun i j => .int (i / 2 ^ j.toNat)) (eV 0) (eV 1)) (eC (.int 1)))) (eV 1)))))
theorem sc_lot_of : FnScope ["mask", "place"] ["mask"] (defScope s_lot_of) := ⟨rfl, rfl, rfl, by decide +kernel, rfl, by decide +kernel, by decide +kernel⟩
theorem rd_lot_of {f : Addr} (T : Bi mg) : ∀ (cdv : Value) (A : Around) (outer : List Env) (s : Shared) (H : Hp) (E : XK) (Ed : DXt), Room 0 (A.deeper (envOfC "lot_of" (defScope s_lot_of) s.heap.objs.size f cdv)) → BS (cxOf (L2.CX P w) P w K mg base ["mask", "place"] "lot_of" (defScope s_lot_of) f cdv A outer s H E) ad (fun _ => E) Ed (defBody s_lot_of) r_lot_of := by
    intro cdv A outer s H E Ed hr
    have hu := hr.units
    have hu5 := hr.units5
    have tk : Takes (cxOf (L2.CX P w) P w K mg base ["mask", "place"] "lot_of" (defScope s_lot_of) f cdv A outer s H E) (fun cls d _ H => E cls d H) := takes_of rfl rfl rfl rfl
    have hx : Lets (cxOf (L2.CX P w) P w K mg base ["mask", "place"] "lot_of" (defScope s_lot_of) f cdv A outer s H E) (fun _ => E) := letsP (passes_call tk fun _ _ _ _ h => h)
    exact (bsOne (sdRet (pdTuple rfl T.tuple (PF.pd (pfLc (own := [("place", 1)]) (i := 1) rfl sc_lot_of.nd (idRg1 rfl T.range (adC (pdBits (pdv 0 (pv 0))) adN)) (blkOk_by (N := ["mask", "place"]) (sc := defScope s_lot_of) (by decide +kernel)) (fun _ _ _ _ _ => pg_name (i := 1) sc_lot_of.nd rfl (Or.inl rfl)) (fun _ _ _ _ _ => (fd1 (tdTru (pdAnd (pdShr (pdv 0 (pv 0)) (pdv 1 (pv 1))) pdInt)))) (fun _ _ _ _ _ => (pdv 1 (pv 1))))))))
/-! ### is_number (s_is_number) -/
def r_is_number : DS := (sRet (eAn (eIs "int" (eV 0)) (eNot (eIs "bool" (eV 0)))))
theorem sc_is_number : FnScope ["value"] ["value"] (defScope s_is_number) := ⟨rfl, rfl, rfl, by decide +kernel, rfl, by decide +kernel, by decide +kernel⟩
theorem rd_is_number {f : Addr} (T : Bi mg) : ∀ (cdv : Value) (A : Around) (outer : List Env) (s : Shared) (H : Hp) (E : XK) (Ed : DXt), Room 0 (A.deeper (envOfC "is_number" (defScope s_is_number) s.heap.objs.size f cdv)) → BS (cxOf (L2.CX P w) P w K mg base ["value"] "is_number" (defScope s_is_number) f cdv A outer s H E) ad (fun _ => E) Ed (defBody s_is_number) r_is_number := by
    intro cdv A outer s H E Ed hr
    have hu := hr.units
    have hu5 := hr.units5
    have tk : Takes (cxOf (L2.CX P w) P w K mg base ["value"] "is_number" (defScope s_is_number) f cdv A outer s H E) (fun cls d _ H => E cls d H) := takes_of rfl rfl rfl rfl
    have hx : Lets (cxOf (L2.CX P w) P w K mg base ["value"] "is_number" (defScope s_is_number) f cdv A outer s H E) (fun _ => E) := letsP (passes_call tk fun _ _ _ _ h => h)
    exact (bsOne (sdRet (pdAn (pdIs rfl T.isinstance rfl T.int PyProof.Rows.boot_int (by decide +kernel) (pdv 0 (pv 0))) (pdOne (pdNot (pdIs rfl T.isinstance rfl T.bool PyProof.Rows.boot_bool (by decide +kernel) (pdv 0 (pv 0))))))))
/-! ### is_between (s_is_between) -/
def r_is_between : DS := (sRet (eAn (eCall d_is_number (aV 0 aN)) (eCh oLe oLe (eV 1) (eV 0) (eV 2))))
theorem sc_is_between : FnScope ["value", "least", "most"] ["value", "least", "most"] (defScope s_is_between) := ⟨rfl, rfl, rfl, by decide +kernel, rfl, by decide +kernel, by decide +kernel⟩
theorem rd_is_between {f : Addr} (D_is_number : DefX P w K mg base ad 1 "is_number" ["value"] d_is_number) : ∀ (cdv : Value) (A : Around) (outer : List Env) (s : Shared) (H : Hp) (E : XK) (Ed : DXt), Room 1 (A.deeper (envOfC "is_between" (defScope s_is_between) s.heap.objs.size f cdv)) → BS (cxOf (L2.CX P w) P w K mg base ["value", "least", "most"] "is_between" (defScope s_is_between) f cdv A outer s H E) ad (fun _ => E) Ed (defBody s_is_between) r_is_between := by
    intro cdv A outer s H E Ed hr
    have hu := hr.units
    have hu5 := hr.units5
    have tk : Takes (cxOf (L2.CX P w) P w K mg base ["value", "least", "most"] "is_between" (defScope s_is_between) f cdv A outer s H E) (fun cls d _ H => E cls d H) := takes_of rfl rfl rfl rfl
    have hx : Lets (cxOf (L2.CX P w) P w K mg base ["value", "least", "most"] "is_between" (defScope s_is_between) f cdv A outer s H E) (fun _ => E) := letsP (passes_call tk fun _ _ _ _ h => h)
    exact (bsOne (sdRet (pdAn (pdCall D_is_number hr hx rfl (adV 0 (pv 0) adN)) (pdOne (pdChain op_le op_le dLe dLe (pdv 1 (pv 1)) (pdv 0 (pv 0)) (pdv 2 (pv 2)) (fun ha hb hc => pe_chain op_le op_le ha hb hc))))))
/-! ### is_bit (s_is_bit) -/
def r_is_bit : DS := (sRet (eCall d_is_between (aV 0 (aC (eC (.int 0)) (aC (eC (.int 1)) aN)))))
theorem sc_is_bit : FnScope ["value"] ["value"] (defScope s_is_bit) := ⟨rfl, rfl, rfl, by decide +kernel, rfl, by decide +kernel, by decide +kernel⟩
theorem rd_is_bit {f : Addr} (D_is_between : DefX P w K mg base ad 2 "is_between" ["value", "least", "most"] d_is_between) : ∀ (cdv : Value) (A : Around) (outer : List Env) (s : Shared) (H : Hp) (E : XK) (Ed : DXt), Room 2 (A.deeper (envOfC "is_bit" (defScope s_is_bit) s.heap.objs.size f cdv)) → BS (cxOf (L2.CX P w) P w K mg base ["value"] "is_bit" (defScope s_is_bit) f cdv A outer s H E) ad (fun _ => E) Ed (defBody s_is_bit) r_is_bit := by
    intro cdv A outer s H E Ed hr
    have hu := hr.units
    have hu5 := hr.units5
    have tk : Takes (cxOf (L2.CX P w) P w K mg base ["value"] "is_bit" (defScope s_is_bit) f cdv A outer s H E) (fun cls d _ H => E cls d H) := takes_of rfl rfl rfl rfl
    have hx : Lets (cxOf (L2.CX P w) P w K mg base ["value"] "is_bit" (defScope s_is_bit) f cdv A outer s H E) (fun _ => E) := letsP (passes_call tk fun _ _ _ _ h => h)
    exact (bsOne (sdRet (pdCall D_is_between hr hx rfl (adV 0 (pv 0) (adC pdInt (adC pdInt adN))))))
/-! ### need_size (s_need_size) -/
def r_need_size : DS := (sIf (tN (tTru (eCall d_is_between (aV 0 (aC (eC (.int 0)) (aC (eC (.int 60)) aN)))))) (sRaise "BadSize" (eV 0)) sNil)
theorem sc_need_size : FnScope ["size"] ["size"] (defScope s_need_size) := ⟨rfl, rfl, rfl, by decide +kernel, rfl, by decide +kernel, by decide +kernel⟩
theorem rd_need_size {f : Addr} {tMOST_PLACES : Tok} (D_is_between : DefX P w K mg base ad 2 "is_between" ["value", "least", "most"] d_is_between) (E_BadSize : ErrC P w K mg base "BadSize" (ad "BadSize")) (h_MOST_PLACES : mg "MOST_PLACES" = some (.int 60 tMOST_PLACES)) : ∀ (cdv : Value) (A : Around) (outer : List Env) (s : Shared) (H : Hp) (E : XK) (Ed : DXt), Room 2 (A.deeper (envOfC "need_size" (defScope s_need_size) s.heap.objs.size f cdv)) → BS (cxOf (L2.CX P w) P w K mg base ["size"] "need_size" (defScope s_need_size) f cdv A outer s H E) ad (fun _ => E) Ed (defBody s_need_size) r_need_size := by
    intro cdv A outer s H E Ed hr
    have hu := hr.units
    have hu5 := hr.units5
    have tk : Takes (cxOf (L2.CX P w) P w K mg base ["size"] "need_size" (defScope s_need_size) f cdv A outer s H E) (fun cls d _ H => E cls d H) := takes_of rfl rfl rfl rfl
    have hx : Lets (cxOf (L2.CX P w) P w K mg base ["size"] "need_size" (defScope s_need_size) f cdv A outer s H E) (fun _ => E) := letsP (passes_call tk fun _ _ _ _ h => h)
    exact (bsOne (sdIf (tdNot (tdTru (pdCall D_is_between hr hx rfl (adV 0 (pv 0) (adC pdInt (adC (pdGlobI rfl h_MOST_PLACES) adN)))))) (bsOne (sdRaise E_BadSize hr rfl tk rfl (pdv 0 (pv 0)))) bsNil))
/-! ### is_lot (s_is_lot) -/
def r_is_lot : DS := (sSeq (sExp (eCall d_need_size (aV 1 aN)))
  (sSeq (sIf (tN (tTru (eIs "tuple" (eV 0)))) (sRet (eC (.bl false))) sNil)
  (sSeq (sSet 2 (eC (.int 0)))
  (sSeq (sFor (iSq (eV 0)) (gN 3) (sSeq (sIf (tOo (tN (tTru (eCall d_is_number (aV 3 aN)))) (tN (tCh oLe oLt (eV 2) (eV 3) (eV 1)))) (sRet (eC (.bl false))) sNil)
  (sSet 2 (e2 oAdd (eV 3) (eC (.int 1))))))
  (sRet (eC (.bl true)))))))
theorem sc_is_lot : FnScope ["value", "size", "least", "place"] ["value", "size"] (defScope s_is_lot) := ⟨rfl, rfl, rfl, by decide +kernel, rfl, by decide +kernel, by decide +kernel⟩
theorem rd_is_lot {f : Addr} (T : Bi mg) (D_is_number : DefX P w K mg base ad 1 "is_number" ["value"] d_is_number) (D_need_size : DefX P w K mg base ad 3 "need_size" ["size"] d_need_size) : ∀ (cdv : Value) (A : Around) (outer : List Env) (s : Shared) (H : Hp) (E : XK) (Ed : DXt), Room 3 (A.deeper (envOfC "is_lot" (defScope s_is_lot) s.heap.objs.size f cdv)) → BS (cxOf (L2.CX P w) P w K mg base ["value", "size", "least", "place"] "is_lot" (defScope s_is_lot) f cdv A outer s H E) ad (fun _ => E) Ed (defBody s_is_lot) r_is_lot := by
    intro cdv A outer s H E Ed hr
    have hu := hr.units
    have hu5 := hr.units5
    have tk : Takes (cxOf (L2.CX P w) P w K mg base ["value", "size", "least", "place"] "is_lot" (defScope s_is_lot) f cdv A outer s H E) (fun cls d _ H => E cls d H) := takes_of rfl rfl rfl rfl
    have hx : Lets (cxOf (L2.CX P w) P w K mg base ["value", "size", "least", "place"] "is_lot" (defScope s_is_lot) f cdv A outer s H E) (fun _ => E) := letsP (passes_call tk fun _ _ _ _ h => h)
    exact (bsCons (sdExp (pdCall D_need_size hr hx rfl (adV 1 (pv 1) adN)))
    (bsCons (sdIf (tdNot (tdTru (pdIs rfl T.isinstance rfl T.tuple PyProof.Rows.boot_tuple (by decide +kernel) (pdv 0 (pv 0))))) (bsOne (sdRet pdBl)) bsNil)
    (bsCons (sdSet (fun h => ps_set (i := 2) sc_is_lot.nd rfl (by first | exact Or.inl rfl | exact Or.inr rfl) h) pdInt)
    (bsCons (sdFor (passes_of rfl) rfl (idSq (pdv 0 (pv 0))) (gdN (pg_name (i := 3) sc_is_lot.nd rfl (by first | exact Or.inl rfl | exact Or.inr rfl))) (bsCons (sdIf (BD.td (bdOr (tdNot (tdTru (pdCall D_is_number hr hx rfl (adV 3 (pv 3) adN)))) (bdOr1 (tdNot (tdChain op_le op_lt dLe dLt (pdv 2 (pv 2)) (pdv 3 (pv 3)) (pdv 1 (pv 1)) (fun ha hb hc => pt_chain op_le op_lt ha hb hc)))))) (bsOne (sdRet pdBl)) bsNil)
    (bsOne (sdSet (fun h => ps_set (i := 2) sc_is_lot.nd rfl (by first | exact Or.inl rfl | exact Or.inr rfl) h) (pdAdd (pdv 3 (pv 3)) pdInt)))))
    (bsOne (sdRet pdBl))))))
/-! ### need_lot (s_need_lot) -/
def r_need_lot : DS := (sIf (tN (tTru (eCall d_is_lot (aV 0 (aV 1 aN))))) (sRaise "BadLot" (eV 0)) sNil)
theorem sc_need_lot : FnScope ["value", "size"] ["value", "size"] (defScope s_need_lot) := ⟨rfl, rfl, rfl, by decide +kernel, rfl, by decide +kernel, by decide +kernel⟩
theorem rd_need_lot {f : Addr} (D_is_lot : DefX P w K mg base ad 4 "is_lot" ["value", "size"] d_is_lot) (E_BadLot : ErrC P w K mg base "BadLot" (ad "BadLot")) : ∀ (cdv : Value) (A : Around) (outer : List Env) (s : Shared) (H : Hp) (E : XK) (Ed : DXt), Room 4 (A.deeper (envOfC "need_lot" (defScope s_need_lot) s.heap.objs.size f cdv)) → BS (cxOf (L2.CX P w) P w K mg base ["value", "size"] "need_lot" (defScope s_need_lot) f cdv A outer s H E) ad (fun _ => E) Ed (defBody s_need_lot) r_need_lot := by
    intro cdv A outer s H E Ed hr
    have hu := hr.units
    have hu5 := hr.units5
    have tk : Takes (cxOf (L2.CX P w) P w K mg base ["value", "size"] "need_lot" (defScope s_need_lot) f cdv A outer s H E) (fun cls d _ H => E cls d H) := takes_of rfl rfl rfl rfl
    have hx : Lets (cxOf (L2.CX P w) P w K mg base ["value", "size"] "need_lot" (defScope s_need_lot) f cdv A outer s H E) (fun _ => E) := letsP (passes_call tk fun _ _ _ _ h => h)
    exact (bsOne (sdIf (tdNot (tdTru (pdCall D_is_lot hr hx rfl (adV 0 (pv 0) (adV 1 (pv 1) adN))))) (bsOne (sdRaise E_BadLot hr rfl tk rfl (pdv 0 (pv 0)))) bsNil))
/-! ### plus (s_plus) -/
def r_plus : DS := (sSeq (sExp (eCall d_need_lot (aV 0 (aC (eC (.int 60)) aN))))
  (sSeq (sExp (eCall d_need_lot (aV 1 (aC (eC (.int 60)) aN))))
  (sRet (eCall d_lot_of (aC (e2 (oI fun i j => .int (Builtin.bitXor i j)) (eCall d_mask_of (aV 0 aN)) (eCall d_mask_of (aV 1 aN))) aN)))))
theorem sc_plus : FnScope ["one", "other"] ["one", "other"] (defScope s_plus) := ⟨rfl, rfl, rfl, by decide +kernel, rfl, by decide +kernel, by decide +kernel⟩
theorem rd_plus {f : Addr} {tMOST_PLACES : Tok} (D_lot_of : DefX P w K mg base ad 1 "lot_of" ["mask"] d_lot_of) (D_mask_of : DefX P w K mg base ad 1 "mask_of" ["lot"] d_mask_of) (D_need_lot : DefX P w K mg base ad 5 "need_lot" ["value", "size"] d_need_lot) (h_MOST_PLACES : mg "MOST_PLACES" = some (.int 60 tMOST_PLACES)) : ∀ (cdv : Value) (A : Around) (outer : List Env) (s : Shared) (H : Hp) (E : XK) (Ed : DXt), Room 5 (A.deeper (envOfC "plus" (defScope s_plus) s.heap.objs.size f cdv)) → BS (cxOf (L2.CX P w) P w K mg base ["one", "other"] "plus" (defScope s_plus) f cdv A outer s H E) ad (fun _ => E) Ed (defBody s_plus) r_plus := by
    intro cdv A outer s H E Ed hr
    have hu := hr.units
    have hu5 := hr.units5
    have tk : Takes (cxOf (L2.CX P w) P w K mg base ["one", "other"] "plus" (defScope s_plus) f cdv A outer s H E) (fun cls d _ H => E cls d H) := takes_of rfl rfl rfl rfl
    have hx : Lets (cxOf (L2.CX P w) P w K mg base ["one", "other"] "plus" (defScope s_plus) f cdv A outer s H E) (fun _ => E) := letsP (passes_call tk fun _ _ _ _ h => h)
    exact (bsCons (sdExp (pdCall D_need_lot hr hx rfl (adV 0 (pv 0) (adC (pdGlobI rfl h_MOST_PLACES) adN))))
    (bsCons (sdExp (pdCall D_need_lot hr hx rfl (adV 1 (pv 1) (adC (pdGlobI rfl h_MOST_PLACES) adN))))
    (bsOne (sdRet (pdCall D_lot_of hr hx rfl (adC (pdXor (pdCall D_mask_of hr hx rfl (adV 0 (pv 0) adN)) (pdCall D_mask_of hr hx rfl (adV 1 (pv 1) adN))) adN))))))
/-! ### _common (s_common) -/
def r_common : DS := (sRet (eB oLen (aC (eF (fLc (iSq (eV 0)) [2] 2 (t2 (oInI false) (eV 2) (eV 1)) (eV 2))) aN)))
theorem sc_common : FnScope ["one", "other", "wire"] ["one", "other"] (defScope s_common) := ⟨rfl, rfl, rfl, by decide +kernel, rfl, by decide +kernel, by decide +kernel⟩
theorem rd_common {f : Addr} (T : Bi mg) : ∀ (cdv : Value) (A : Around) (outer : List Env) (s : Shared) (H : Hp) (E : XK) (Ed : DXt), Room 0 (A.deeper (envOfC "_common" (defScope s_common) s.heap.objs.size f cdv)) → BS (cxOf (L2.CX P w) P w K mg base ["one", "other", "wire"] "_common" (defScope s_common) f cdv A outer s H E) ad (fun _ => E) Ed (defBody s_common) r_common := by
    intro cdv A outer s H E Ed hr
    have hu := hr.units
    have hu5 := hr.units5
    have tk : Takes (cxOf (L2.CX P w) P w K mg base ["one", "other", "wire"] "_common" (defScope s_common) f cdv A outer s H E) (fun cls d _ H => E cls d H) := takes_of rfl rfl rfl rfl
    have hx : Lets (cxOf (L2.CX P w) P w K mg base ["one", "other", "wire"] "_common" (defScope s_common) f cdv A outer s H E) (fun _ => E) := letsP (passes_call tk fun _ _ _ _ h => h)
    exact (bsOne (sdRet (pdLen rfl T.len (adC (PF.pd (pfLc (own := [("wire", 2)]) (i := 2) rfl sc_common.nd (idSq (pdv 0 (pv 0))) (blkOk_by (N := ["one", "other", "wire"]) (sc := defScope s_common) (by decide +kernel)) (fun _ _ _ _ _ => pg_name (i := 2) sc_common.nd rfl (Or.inl rfl)) (fun _ _ _ _ _ => (fd1 (tdCmp op_in_seq dInI (pdv 2 (pv 2)) (pdv 1 (pv 1)) (by first | exact nomark _ | (intros; rfl))))) (fun _ _ _ _ _ => (pdv 2 (pv 2))))) adN))))
/-! ### need_wires (s_need_wires) -/
def r_need_wires : DS := (sIf (tN (tTru (eCall d_is_between (aV 0 (aC (eC (.int 1)) (aC (eC (.int 10)) aN)))))) (sRaise "BadSize" (eV 0)) sNil)
theorem sc_need_wires : FnScope ["wires"] ["wires"] (defScope s_need_wires) := ⟨rfl, rfl, rfl, by decide +kernel, rfl, by decide +kernel, by decide +kernel⟩
theorem rd_need_wires {f : Addr} {tMOST_WIRES : Tok} (D_is_between : DefX P w K mg base ad 2 "is_between" ["value", "least", "most"] d_is_between) (E_BadSize : ErrC P w K mg base "BadSize" (ad "BadSize")) (h_MOST_WIRES : mg "MOST_WIRES" = some (.int 10 tMOST_WIRES)) : ∀ (cdv : Value) (A : Around) (outer : List Env) (s : Shared) (H : Hp) (E : XK) (Ed : DXt), Room 2 (A.deeper (envOfC "need_wires" (defScope s_need_wires) s.heap.objs.size f cdv)) → BS (cxOf (L2.CX P w) P w K mg base ["wires"] "need_wires" (defScope s_need_wires) f cdv A outer s H E) ad (fun _ => E) Ed (defBody s_need_wires) r_need_wires := by
    intro cdv A outer s H E Ed hr
    have hu := hr.units
    have hu5 := hr.units5
    have tk : Takes (cxOf (L2.CX P w) P w K mg base ["wires"] "need_wires" (defScope s_need_wires) f cdv A outer s H E) (fun cls d _ H => E cls d H) := takes_of rfl rfl rfl rfl
    have hx : Lets (cxOf (L2.CX P w) P w K mg base ["wires"] "need_wires" (defScope s_need_wires) f cdv A outer s H E) (fun _ => E) := letsP (passes_call tk fun _ _ _ _ h => h)
    exact (bsOne (sdIf (tdNot (tdTru (pdCall D_is_between hr hx rfl (adV 0 (pv 0) (adC pdInt (adC (pdGlobI rfl h_MOST_WIRES) adN)))))) (bsOne (sdRaise E_BadSize hr rfl tk rfl (pdv 0 (pv 0)))) bsNil))
/-! ### is_pair (s_is_pair) -/
def r_is_pair : DS := (sSeq (sIf (tOo (tN (tTru (eIs "tuple" (eV 0)))) (t2 (oEq true) (eB oLen (aV 0 aN)) (eC (.int 2)))) (sRet (eC (.bl false))) sNil)
  (sRet (eAn (eCall d_is_lot (aC (e2 oIx (eV 0) (eC (.int 0))) (aV 1 aN))) (eCall d_is_lot (aC (e2 oIx (eV 0) (eC (.int 1))) (aV 1 aN))))))
theorem sc_is_pair : FnScope ["value", "wires"] ["value", "wires"] (defScope s_is_pair) := ⟨rfl, rfl, rfl, by decide +kernel, rfl, by decide +kernel, by decide +kernel⟩
theorem rd_is_pair {f : Addr} (T : Bi mg) (D_is_lot : DefX P w K mg base ad 4 "is_lot" ["value", "size"] d_is_lot) : ∀ (cdv : Value) (A : Around) (outer : List Env) (s : Shared) (H : Hp) (E : XK) (Ed : DXt), Room 4 (A.deeper (envOfC "is_pair" (defScope s_is_pair) s.heap.objs.size f cdv)) → BS (cxOf (L2.CX P w) P w K mg base ["value", "wires"] "is_pair" (defScope s_is_pair) f cdv A outer s H E) ad (fun _ => E) Ed (defBody s_is_pair) r_is_pair := by
    intro cdv A outer s H E Ed hr
    have hu := hr.units
    have hu5 := hr.units5
    have tk : Takes (cxOf (L2.CX P w) P w K mg base ["value", "wires"] "is_pair" (defScope s_is_pair) f cdv A outer s H E) (fun cls d _ H => E cls d H) := takes_of rfl rfl rfl rfl
    have hx : Lets (cxOf (L2.CX P w) P w K mg base ["value", "wires"] "is_pair" (defScope s_is_pair) f cdv A outer s H E) (fun _ => E) := letsP (passes_call tk fun _ _ _ _ h => h)
    exact (bsCons (sdIf (BD.td (bdOr (tdNot (tdTru (pdIs rfl T.isinstance rfl T.tuple PyProof.Rows.boot_tuple (by decide +kernel) (pdv 0 (pv 0))))) (bdOr1 (tdNe hu (pdLen rfl T.len (adV 0 (pv 0) adN)) pdInt (by first | exact nomark _ | (intros; rfl)))))) (bsOne (sdRet pdBl)) bsNil)
    (bsOne (sdRet (pdAn (pdCall D_is_lot hr hx rfl (adC (pdIx (pdv 0 (pv 0)) pdInt (fun _ _ => rfl)) (adV 1 (pv 1) adN))) (pdOne (pdCall D_is_lot hr hx rfl (adC (pdIx (pdv 0 (pv 0)) pdInt (fun _ _ => rfl)) (adV 1 (pv 1) adN))))))))
/-! ### is_look (s_is_look) -/
def r_is_look : DS := (sSeq (sExp (eCall d_need_wires (aV 1 aN)))
  (sSeq (sIf (tOo (tN (tTru (eIs "tuple" (eV 0)))) (t2 (oEq true) (eB oLen (aV 0 aN)) (eC (.int 3)))) (sRet (eC (.bl false))) sNil)
  (sRet (eAn (eCall d_is_bit (aC (e2 oIx (eV 0) (eC (.int 0))) aN)) (eCall d_is_pair (aC (eSl (eV 0) (oPt (eC (.int 1))) oNo) (aV 1 aN)))))))
theorem sc_is_look : FnScope ["value", "wires"] ["value", "wires"] (defScope s_is_look) := ⟨rfl, rfl, rfl, by decide +kernel, rfl, by decide +kernel, by decide +kernel⟩
theorem rd_is_look {f : Addr} (T : Bi mg) (D_is_bit : DefX P w K mg base ad 3 "is_bit" ["value"] d_is_bit) (D_is_pair : DefX P w K mg base ad 5 "is_pair" ["value", "wires"] d_is_pair) (D_need_wires : DefX P w K mg base ad 3 "need_wires" ["wires"] d_need_wires) : ∀ (cdv : Value) (A : Around) (outer : List Env) (s : Shared) (H : Hp) (E : XK) (Ed : DXt), Room 5 (A.deeper (envOfC "is_look" (defScope s_is_look) s.heap.objs.size f cdv)) → BS (cxOf (L2.CX P w) P w K mg base ["value", "wires"] "is_look" (defScope s_is_look) f cdv A outer s H E) ad (fun _ => E) Ed (defBody s_is_look) r_is_look := by
    intro cdv A outer s H E Ed hr
    have hu := hr.units
    have hu5 := hr.units5
    have tk : Takes (cxOf (L2.CX P w) P w K mg base ["value", "wires"] "is_look" (defScope s_is_look) f cdv A outer s H E) (fun cls d _ H => E cls d H) := takes_of rfl rfl rfl rfl
    have hx : Lets (cxOf (L2.CX P w) P w K mg base ["value", "wires"] "is_look" (defScope s_is_look) f cdv A outer s H E) (fun _ => E) := letsP (passes_call tk fun _ _ _ _ h => h)
    exact (bsCons (sdExp (pdCall D_need_wires hr hx rfl (adV 1 (pv 1) adN)))
    (bsCons (sdIf (BD.td (bdOr (tdNot (tdTru (pdIs rfl T.isinstance rfl T.tuple PyProof.Rows.boot_tuple (by decide +kernel) (pdv 0 (pv 0))))) (bdOr1 (tdNe hu (pdLen rfl T.len (adV 0 (pv 0) adN)) pdInt (by first | exact nomark _ | (intros; rfl)))))) (bsOne (sdRet pdBl)) bsNil)
    (bsOne (sdRet (pdAn (pdCall D_is_bit hr hx rfl (adC (pdIx (pdv 0 (pv 0)) pdInt (fun _ _ => rfl)) adN)) (pdOne (pdCall D_is_pair hr hx rfl (adC (pdSl (pdv 0 (pv 0)) (odPt pdInt) odNo) (adV 1 (pv 1) adN)))))))))
/-! ### need_look (s_need_look) -/
def r_need_look : DS := (sIf (tN (tTru (eCall d_is_look (aV 0 (aV 1 aN))))) (sRaise "BadLook" (eV 0)) sNil)
theorem sc_need_look : FnScope ["value", "wires"] ["value", "wires"] (defScope s_need_look) := ⟨rfl, rfl, rfl, by decide +kernel, rfl, by decide +kernel, by decide +kernel⟩
theorem rd_need_look {f : Addr} (D_is_look : DefX P w K mg base ad 6 "is_look" ["value", "wires"] d_is_look) (E_BadLook : ErrC P w K mg base "BadLook" (ad "BadLook")) : ∀ (cdv : Value) (A : Around) (outer : List Env) (s : Shared) (H : Hp) (E : XK) (Ed : DXt), Room 6 (A.deeper (envOfC "need_look" (defScope s_need_look) s.heap.objs.size f cdv)) → BS (cxOf (L2.CX P w) P w K mg base ["value", "wires"] "need_look" (defScope s_need_look) f cdv A outer s H E) ad (fun _ => E) Ed (defBody s_need_look) r_need_look := by
    intro cdv A outer s H E Ed hr
    have hu := hr.units
    have hu5 := hr.units5
    have tk : Takes (cxOf (L2.CX P w) P w K mg base ["value", "wires"] "need_look" (defScope s_need_look) f cdv A outer s H E) (fun cls d _ H => E cls d H) := takes_of rfl rfl rfl rfl
    have hx : Lets (cxOf (L2.CX P w) P w K mg base ["value", "wires"] "need_look" (defScope s_need_look) f cdv A outer s H E) (fun _ => E) := letsP (passes_call tk fun _ _ _ _ h => h)
    exact (bsOne (sdIf (tdNot (tdTru (pdCall D_is_look hr hx rfl (adV 0 (pv 0) (adV 1 (pv 1) adN))))) (bsOne (sdRaise E_BadLook hr rfl tk rfl (pdv 0 (pv 0)))) bsNil))
/-! ### together (s_together) -/
def r_together : DS := (sSeq (sExp (eCall d_need_look (aV 0 (aC (eC (.int 10)) aN))))
  (sSeq (sExp (eCall d_need_look (aV 1 (aC (eC (.int 10)) aN))))
  (sRet (e2 (oEq false) (e2 (oIC (fun _ j => 0 < j) fun i j => .int (i % j)) (e2 oAdd (eCall d_common (aC (e2 oIx (eV 0) (eC (.int 1))) (aC (e2 oIx (eV 1) (eC (.int 2))) aN))) (eCall d_common (aC (e2 oIx (eV 0) (eC (.int 2))) (aC (e2 oIx (eV 1) (eC (.int 1))) aN)))) (eC (.int 2))) (eC (.int 0))))))
theorem sc_together : FnScope ["one", "other"] ["one", "other"] (defScope s_together) := ⟨rfl, rfl, rfl, by decide +kernel, rfl, by decide +kernel, by decide +kernel⟩
theorem rd_together {f : Addr} {tMOST_WIRES : Tok} (D_common : DefX P w K mg base ad 1 "_common" ["one", "other"] d_common) (D_need_look : DefX P w K mg base ad 7 "need_look" ["value", "wires"] d_need_look) (h_MOST_WIRES : mg "MOST_WIRES" = some (.int 10 tMOST_WIRES)) : ∀ (cdv : Value) (A : Around) (outer : List Env) (s : Shared) (H : Hp) (E : XK) (Ed : DXt), Room 7 (A.deeper (envOfC "together" (defScope s_together) s.heap.objs.size f cdv)) → BS (cxOf (L2.CX P w) P w K mg base ["one", "other"] "together" (defScope s_together) f cdv A outer s H E) ad (fun _ => E) Ed (defBody s_together) r_together := by
    intro cdv A outer s H E Ed hr
    have hu := hr.units
    have hu5 := hr.units5
    have tk : Takes (cxOf (L2.CX P w) P w K mg base ["one", "other"] "together" (defScope s_together) f cdv A outer s H E) (fun cls d _ H => E cls d H) := takes_of rfl rfl rfl rfl
    have hx : Lets (cxOf (L2.CX P w) P w K mg base ["one", "other"] "together" (defScope s_together) f cdv A outer s H E) (fun _ => E) := letsP (passes_call tk fun _ _ _ _ h => h)
    exact (bsCons (sdExp (pdCall D_need_look hr hx rfl (adV 0 (pv 0) (adC (pdGlobI rfl h_MOST_WIRES) adN))))
    (bsCons (sdExp (pdCall D_need_look hr hx rfl (adV 1 (pv 1) (adC (pdGlobI rfl h_MOST_WIRES) adN))))
    (bsOne (sdRet (pdEq hu (pdMod (pdAdd (pdCall D_common hr hx rfl (adC (pdIx (pdv 0 (pv 0)) pdInt (fun _ _ => rfl)) (adC (pdIx (pdv 1 (pv 1)) pdInt (fun _ _ => rfl)) adN))) (pdCall D_common hr hx rfl (adC (pdIx (pdv 0 (pv 0)) pdInt (fun _ _ => rfl)) (adC (pdIx (pdv 1 (pv 1)) pdInt (fun _ _ => rfl)) adN)))) pdInt) pdInt (by first | exact nomark _ | (intros; rfl)))))))
/-! ### times (s_times) -/
def r_times : DS := (sSeq (sIf (tN (tTru (eCall d_together (aV 0 (aV 1 aN))))) (sRaise "BadLooks" (eC .non)) sNil)
  (sSeq (sSet 2 (eCall d_plus (aC (e2 oIx (eV 0) (eC (.int 1))) (aC (e2 oIx (eV 1) (eC (.int 1))) aN))))
  (sSeq (sSet 3 (eCall d_plus (aC (e2 oIx (eV 0) (eC (.int 2))) (aC (e2 oIx (eV 1) (eC (.int 2))) aN))))
  (sSeq (sSet 4 (e2 oAdd (e2 oAdd (e2 oAdd (e2 oMul (eC (.int 2)) (e2 oIx (eV 0) (eC (.int 0)))) (e2 oMul (eC (.int 2)) (e2 oIx (eV 1) (eC (.int 0))))) (eCall d_common (aC (e2 oIx (eV 0) (eC (.int 1))) (aC (e2 oIx (eV 0) (eC (.int 2))) aN)))) (eCall d_common (aC (e2 oIx (eV 1) (eC (.int 1))) (aC (e2 oIx (eV 1) (eC (.int 2))) aN)))))
  (sSeq (sAug 4 (oI fun i j => .int (i + j)) (e2 (oI fun i j => .int (i - j)) (e2 oMul (eC (.int 2)) (eCall d_common (aC (e2 oIx (eV 0) (eC (.int 2))) (aC (e2 oIx (eV 1) (eC (.int 1))) aN)))) (eCall d_common (aV 2 (aV 3 aN)))))
  (sRet (eTup (aC (e2 (oIC CDiv fun i j => .int (i / j)) (e2 (oIC (fun _ j => 0 < j) fun i j => .int (i % j)) (eV 4) (eC (.int 4))) (eC (.int 2))) (aV 2 (aV 3 aN))))))))))
theorem sc_times : FnScope ["one", "other", "flips", "turns", "quarters"] ["one", "other"] (defScope s_times) := ⟨rfl, rfl, rfl, by decide +kernel, rfl, by decide +kernel, by decide +kernel⟩
theorem rd_times {f : Addr} (D_common : DefX P w K mg base ad 1 "_common" ["one", "other"] d_common) (D_plus : DefX P w K mg base ad 6 "plus" ["one", "other"] d_plus) (D_together : DefX P w K mg base ad 8 "together" ["one", "other"] d_together) (E_BadLooks : ErrC P w K mg base "BadLooks" (ad "BadLooks")) : ∀ (cdv : Value) (A : Around) (outer : List Env) (s : Shared) (H : Hp) (E : XK) (Ed : DXt), Room 8 (A.deeper (envOfC "times" (defScope s_times) s.heap.objs.size f cdv)) → BS (cxOf (L2.CX P w) P w K mg base ["one", "other", "flips", "turns", "quarters"] "times" (defScope s_times) f cdv A outer s H E) ad (fun _ => E) Ed (defBody s_times) r_times := by
    intro cdv A outer s H E Ed hr
    have hu := hr.units
    have hu5 := hr.units5
    have tk : Takes (cxOf (L2.CX P w) P w K mg base ["one", "other", "flips", "turns", "quarters"] "times" (defScope s_times) f cdv A outer s H E) (fun cls d _ H => E cls d H) := takes_of rfl rfl rfl rfl
    have hx : Lets (cxOf (L2.CX P w) P w K mg base ["one", "other", "flips", "turns", "quarters"] "times" (defScope s_times) f cdv A outer s H E) (fun _ => E) := letsP (passes_call tk fun _ _ _ _ h => h)
    exact (bsCons (sdIf (tdNot (tdTru (pdCall D_together hr hx rfl (adV 0 (pv 0) (adV 1 (pv 1) adN))))) (bsOne (sdRaise E_BadLooks hr rfl tk rfl pdNon)) bsNil)
    (bsCons (sdSet (fun h => ps_set (i := 2) sc_times.nd rfl (by first | exact Or.inl rfl | exact Or.inr rfl) h) (pdCall D_plus hr hx rfl (adC (pdIx (pdv 0 (pv 0)) pdInt (fun _ _ => rfl)) (adC (pdIx (pdv 1 (pv 1)) pdInt (fun _ _ => rfl)) adN))))
    (bsCons (sdSet (fun h => ps_set (i := 3) sc_times.nd rfl (by first | exact Or.inl rfl | exact Or.inr rfl) h) (pdCall D_plus hr hx rfl (adC (pdIx (pdv 0 (pv 0)) pdInt (fun _ _ => rfl)) (adC (pdIx (pdv 1 (pv 1)) pdInt (fun _ _ => rfl)) adN))))
    (bsCons (sdSet (fun h => ps_set (i := 4) sc_times.nd rfl (by first | exact Or.inl rfl | exact Or.inr rfl) h) (pdAdd (pdAdd (pdAdd (pdMul pdInt (pdIx (pdv 0 (pv 0)) pdInt (fun _ _ => rfl))) (pdMul pdInt (pdIx (pdv 1 (pv 1)) pdInt (fun _ _ => rfl)))) (pdCall D_common hr hx rfl (adC (pdIx (pdv 0 (pv 0)) pdInt (fun _ _ => rfl)) (adC (pdIx (pdv 0 (pv 0)) pdInt (fun _ _ => rfl)) adN)))) (pdCall D_common hr hx rfl (adC (pdIx (pdv 1 (pv 1)) pdInt (fun _ _ => rfl)) (adC (pdIx (pdv 1 (pv 1)) pdInt (fun _ _ => rfl)) adN)))))
    (bsCons (sdAug (i := 4) (fun h => ps_aug (i := 4) sc_times.nd rfl (by first | exact Or.inl rfl | exact Or.inr rfl) h iop_add) (dI fun i j F => .int _) (pdSub (pdMul pdInt (pdCall D_common hr hx rfl (adC (pdIx (pdv 0 (pv 0)) pdInt (fun _ _ => rfl)) (adC (pdIx (pdv 1 (pv 1)) pdInt (fun _ _ => rfl)) adN)))) (pdCall D_common hr hx rfl (adV 2 (pv 2) (adV 3 (pv 3) adN)))))
    (bsOne (sdRet (pdTup (adC (pdDiv (pdMod (pdv 4 (pv 4)) pdInt) pdInt) (adV 2 (pv 2) (adV 3 (pv 3) adN)))))))))))
end
end DL

set_option Elab.async false
set_option linter.all false
set_option maxRecDepth 100000
set_option maxHeartbeats 4000000
set_option exponentiation.threshold 2000
namespace DL
open PySem PySem.Spec PyProof.Rows L2 BT
/-! ### the program's lots -/
theorem noO_ty {d : D} (h : noO d = true) : ∃ t, tyS d = some t := by
  cases d with
  | obj => simp [noO] at h
  | _ => exact ⟨_, rfl⟩
theorem noOs_get : ∀ {xs : List D} {i : Nat} {x : D}, noOs xs = true → xs[i]? = some x → noO x = true
  | [], _, _, _, h => by simp at h
  | y :: ys, 0, x, h, e => by
    simp only [noOs, Bool.and_eq_true] at h
    have e : y = x := Option.some.inj e
    rw [← e]; exact h.1
  | y :: ys, i + 1, x, h, e => by
    simp only [noOs, Bool.and_eq_true] at h
    exact noOs_get (i := i) h.2 e
theorem noO_nats : ∀ l : List Nat, noOs (natX l) = true
  | [] => rfl
  | _ :: l => noO_nats l
theorem noO_lot (l : List Nat) : noO (lotX l) = true := noO_nats l
theorem noO_look (s f t : Nat) : noO (lookX s f t) = true := by
  unfold lookX
  simp only [noO, noOs, noO_lot, Bool.and_true]
theorem sem_mask_of : ∀ as Qd Xd, d_mask_of as Qd Xd → as.length = ["lot"].length ∧ r_mask_of { nx := fun _ => Qd .non, rt := Qd } (as ++ List.replicate (["lot", "mask", "place"].length - as.length) .un) (fun _ => Xd) := by
  rintro as Qd Xd ⟨l, rfl, hl, q⟩
  refine ⟨rfl, ?_⟩
  unfold r_mask_of lotX
  (try dsimp only [gN, gN2, sNil, sSeq, sExp, sRet, sIf, sPass, sCont, sBrk, sSet, sSetO, sApp, sAppF, sApPop, flatD, sFrz, sAug, sRaise, sAsg, sPut, eV, eC, e1, e2, t2, tBl, tTru, tN, tAn, tOo, tCh, eNot, eAn, eOo, eIf, eTup, eLst, eF, eFld, eIs, eIxO, eLenO, eSl, eRev, eB, eCall, eCallG, eMeth, aN, aC, aV, oNo, oPt, eIsO, oSrtI, oSrtT, oLt, oLe, oReprB, oInI, gN3, eCh, oGt, oGe, oI, oIC, oI1, oAdd, oMul, oEq, oIsN, oIx, oLen, oList, oTuple, oAbs, oMin2, oInt1, fLst, fListRg1, fList, fRep, fCat, tYs, tru, isS, dats, seqD, seqO, tyS, List.set, List.getElem?_cons_zero, List.getElem?_cons_succ, List.append_eq, List.nil_append, List.cons_append, Option.map_some, Option.bind_some, ng, wipeD, List.length_cons, List.length_nil, Nat.reduceAdd, Nat.reduceSub, List.replicate_succ, List.replicate_zero, sFor, iRg1, iRg2, iSq, iEn, fLc]; try simp only [decide_eq_true_eq, Bool.not_eq_true', decide_eq_false_iff_not, Bool.false_eq_true, if_false, if_true, reduceIte, String.reduceBEq, Bool.true_or, Bool.false_or, Bool.or_false, Bool.and_false, Bool.false_and, Bool.and_true, Bool.true_and, Bool.not_true, Bool.not_false, ne_eq, not_true_eq_false, reduceCtorEq, Bool.true_eq_false, decide_true, decide_false])
  refine ⟨fun i ρ => ∃ z, ρ = [.dat (.tup (natX l)), .dat (.int (maskN (l.take i) : Nat)), z], ⟨_, rfl⟩, ?_, ?_⟩
  · rintro i x ρ hx ⟨z, rfl⟩
    obtain ⟨p, hp, rfl⟩ := natX_get hx
    (try dsimp only [gN, gN2, sNil, sSeq, sExp, sRet, sIf, sPass, sCont, sBrk, sSet, sSetO, sApp, sAppF, sApPop, flatD, sFrz, sAug, sRaise, sAsg, sPut, eV, eC, e1, e2, t2, tBl, tTru, tN, tAn, tOo, tCh, eNot, eAn, eOo, eIf, eTup, eLst, eF, eFld, eIs, eIxO, eLenO, eSl, eRev, eB, eCall, eCallG, eMeth, aN, aC, aV, oNo, oPt, eIsO, oSrtI, oSrtT, oLt, oLe, oReprB, oInI, gN3, eCh, oGt, oGe, oI, oIC, oI1, oAdd, oMul, oEq, oIsN, oIx, oLen, oList, oTuple, oAbs, oMin2, oInt1, fLst, fListRg1, fList, fRep, fCat, tYs, tru, isS, dats, seqD, seqO, tyS, List.set, List.getElem?_cons_zero, List.getElem?_cons_succ, List.append_eq, List.nil_append, List.cons_append, Option.map_some, Option.bind_some, ng, wipeD, List.length_cons, List.length_nil, Nat.reduceAdd, Nat.reduceSub, List.replicate_succ, List.replicate_zero]; try simp only [decide_eq_true_eq, Bool.not_eq_true', decide_eq_false_iff_not, Bool.false_eq_true, if_false, if_true, reduceIte, String.reduceBEq, Bool.true_or, Bool.false_or, Bool.or_false, Bool.and_false, Bool.false_and, Bool.and_true, Bool.true_and, Bool.not_true, Bool.not_false, ne_eq, not_true_eq_false, reduceCtorEq, Bool.true_eq_false, decide_true, decide_false])
    have := hl p (List.mem_of_getElem? hp)
    refine ⟨cpow1 this, .dat (.int (p : Int)), ?_⟩
    rw [shl1_nat, bitOr_nat, ← maskN_snoc, ← take_snoc hp]
  · rintro ρ ⟨z, rfl⟩
    (try dsimp only [gN, gN2, sNil, sSeq, sExp, sRet, sIf, sPass, sCont, sBrk, sSet, sSetO, sApp, sAppF, sApPop, flatD, sFrz, sAug, sRaise, sAsg, sPut, eV, eC, e1, e2, t2, tBl, tTru, tN, tAn, tOo, tCh, eNot, eAn, eOo, eIf, eTup, eLst, eF, eFld, eIs, eIxO, eLenO, eSl, eRev, eB, eCall, eCallG, eMeth, aN, aC, aV, oNo, oPt, eIsO, oSrtI, oSrtT, oLt, oLe, oReprB, oInI, gN3, eCh, oGt, oGe, oI, oIC, oI1, oAdd, oMul, oEq, oIsN, oIx, oLen, oList, oTuple, oAbs, oMin2, oInt1, fLst, fListRg1, fList, fRep, fCat, tYs, tru, isS, dats, seqD, seqO, tyS, List.set, List.getElem?_cons_zero, List.getElem?_cons_succ, List.append_eq, List.nil_append, List.cons_append, Option.map_some, Option.bind_some, ng, wipeD, List.length_cons, List.length_nil, Nat.reduceAdd, Nat.reduceSub, List.replicate_succ, List.replicate_zero]; try simp only [decide_eq_true_eq, Bool.not_eq_true', decide_eq_false_iff_not, Bool.false_eq_true, if_false, if_true, reduceIte, String.reduceBEq, Bool.true_or, Bool.false_or, Bool.or_false, Bool.and_false, Bool.false_and, Bool.and_true, Bool.true_and, Bool.not_true, Bool.not_false, ne_eq, not_true_eq_false, reduceCtorEq, Bool.true_eq_false, decide_true, decide_false])
    rw [natX_len, List.take_length]
    exact q
theorem rg_nat (n : Nat) : rgD 0 n = natX (List.range n) := by
  unfold rgD natX
  refine List.map_congr_left fun i _ => ?_
  rw [Int.zero_add]
theorem bit_shr (m p : Nat) : Builtin.bitAnd ((m : Int) / 2 ^ ((p : Int).toNat)) 1 = ((m >>> p &&& 1 : Nat) : Int) := by
  rw [shr_nat, show (1 : Int) = ((1 : Nat) : Int) from rfl, bitAnd_nat]
theorem natX_filt (f : Nat → Bool) (l : List Nat) : (natX l).filter (fun x => match x with | .int i => f i.toNat | _ => false) = natX (l.filter f) := by
  unfold natX
  rw [List.filter_map]; rfl
/-- [x for x in numbers if ..] -/
theorem lcFiltN {fi : DI} {vs : List Nat} {i : Nat} {tt : DT} {te : DE} {ρ : List Sl} {Q : List D → Prop} {Ed : DXt} (rs : List Nat) (p : Nat → Bool) (hf : ∀ R : List D → Prop, R (natX rs) → fi ρ R Ed) (hl : rs.length ≤ 1000000)
    (ht : ∀ r ∈ rs, ∀ Q' : Bool → Prop, Q' (p r) → tt ((wipeD ρ vs).set i (.dat (.int (r : Int)))) Q' X0) (hs : ∀ r ∈ rs, p r = true → ∀ Q' : D → Prop, Q' (.int (r : Int)) → te ((wipeD ρ vs).set i (.dat (.int (r : Int)))) Q' X0) (q : Q (natX (rs.filter p))) : fLc fi vs i tt te ρ Q Ed := by
  refine lcFilter (natX rs) (fun x => match x with | .int i => p i.toNat | _ => false) (fun x => x) hf (by rw [natX_len]; exact hl) (fun x hx Q' q => ?_) (fun x hx e Q' q => ?_) (by rw [natX_filt, List.map_id']; exact q)
  · obtain ⟨r, hr, rfl⟩ := List.mem_map.mp hx
    exact ht r hr Q' q
  · obtain ⟨r, hr, rfl⟩ := List.mem_map.mp hx
    exact hs r hr e Q' q
theorem sem_lot_of : ∀ as Qd Xd, d_lot_of as Qd Xd → as.length = ["mask"].length ∧ r_lot_of { nx := fun _ => Qd .non, rt := Qd } (as ++ List.replicate (["mask", "place"].length - as.length) .un) (fun _ => Xd) := by
  rintro as Qd Xd ⟨m, rfl, hm, q⟩
  refine ⟨rfl, ?_⟩
  unfold r_lot_of
  have hb := bitsN_small hm
  (try dsimp only [gN, gN2, sNil, sSeq, sExp, sRet, sIf, sPass, sCont, sBrk, sSet, sSetO, sApp, sAppF, sApPop, flatD, sFrz, sAug, sRaise, sAsg, sPut, eV, eC, e1, e2, t2, tBl, tTru, tN, tAn, tOo, tCh, eNot, eAn, eOo, eIf, eTup, eLst, eF, eFld, eIs, eIxO, eLenO, eSl, eRev, eB, eCall, eCallG, eMeth, aN, aC, aV, oNo, oPt, eIsO, oSrtI, oSrtT, oLt, oLe, oReprB, oInI, gN3, eCh, oGt, oGe, oI, oIC, oI1, oAdd, oMul, oEq, oIsN, oIx, oLen, oList, oTuple, oAbs, oMin2, oInt1, fLst, fListRg1, fList, fRep, fCat, tYs, tru, isS, dats, seqD, seqO, tyS, List.set, List.getElem?_cons_zero, List.getElem?_cons_succ, List.append_eq, List.nil_append, List.cons_append, Option.map_some, Option.bind_some, ng, wipeD, List.length_cons, List.length_nil, Nat.reduceAdd, Nat.reduceSub, List.replicate_succ, List.replicate_zero]; try simp only [decide_eq_true_eq, Bool.not_eq_true', decide_eq_false_iff_not, Bool.false_eq_true, if_false, if_true, reduceIte, String.reduceBEq, Bool.true_or, Bool.false_or, Bool.or_false, Bool.and_false, Bool.false_and, Bool.and_true, Bool.true_and, Bool.not_true, Bool.not_false, ne_eq, not_true_eq_false, reduceCtorEq, Bool.true_eq_false, decide_true, decide_false])
  refine lcFiltN (List.range (bitsN m)) (fun p => m.testBit p) (fun R h => ?_) (by rw [List.length_range]; omega) (fun r hr Q' q => ?_) (fun r hr e Q' q => ?_) ?_
  · (try dsimp only [gN, gN2, sNil, sSeq, sExp, sRet, sIf, sPass, sCont, sBrk, sSet, sSetO, sApp, sAppF, sApPop, flatD, sFrz, sAug, sRaise, sAsg, sPut, eV, eC, e1, e2, t2, tBl, tTru, tN, tAn, tOo, tCh, eNot, eAn, eOo, eIf, eTup, eLst, eF, eFld, eIs, eIxO, eLenO, eSl, eRev, eB, eCall, eCallG, eMeth, aN, aC, aV, oNo, oPt, eIsO, oSrtI, oSrtT, oLt, oLe, oReprB, oInI, gN3, eCh, oGt, oGe, oI, oIC, oI1, oAdd, oMul, oEq, oIsN, oIx, oLen, oList, oTuple, oAbs, oMin2, oInt1, fLst, fListRg1, fList, fRep, fCat, tYs, tru, isS, dats, seqD, seqO, tyS, List.set, List.getElem?_cons_zero, List.getElem?_cons_succ, List.append_eq, List.nil_append, List.cons_append, Option.map_some, Option.bind_some, ng, wipeD, List.length_cons, List.length_nil, Nat.reduceAdd, Nat.reduceSub, List.replicate_succ, List.replicate_zero]; try simp only [decide_eq_true_eq, Bool.not_eq_true', decide_eq_false_iff_not, Bool.false_eq_true, if_false, if_true, reduceIte, String.reduceBEq, Bool.true_or, Bool.false_or, Bool.or_false, Bool.and_false, Bool.false_and, Bool.and_true, Bool.true_and, Bool.not_true, Bool.not_false, ne_eq, not_true_eq_false, reduceCtorEq, Bool.true_eq_false, decide_true, decide_false])
    refine ⟨by rw [intBits_nat]; omega, by rw [intBits_nat]; omega, ?_⟩
    rw [intBits_nat, Int.toNat_natCast, rg_nat]; exact h
  · (try dsimp only [gN, gN2, sNil, sSeq, sExp, sRet, sIf, sPass, sCont, sBrk, sSet, sSetO, sApp, sAppF, sApPop, flatD, sFrz, sAug, sRaise, sAsg, sPut, eV, eC, e1, e2, t2, tBl, tTru, tN, tAn, tOo, tCh, eNot, eAn, eOo, eIf, eTup, eLst, eF, eFld, eIs, eIxO, eLenO, eSl, eRev, eB, eCall, eCallG, eMeth, aN, aC, aV, oNo, oPt, eIsO, oSrtI, oSrtT, oLt, oLe, oReprB, oInI, gN3, eCh, oGt, oGe, oI, oIC, oI1, oAdd, oMul, oEq, oIsN, oIx, oLen, oList, oTuple, oAbs, oMin2, oInt1, fLst, fListRg1, fList, fRep, fCat, tYs, tru, isS, dats, seqD, seqO, tyS, List.set, List.getElem?_cons_zero, List.getElem?_cons_succ, List.append_eq, List.nil_append, List.cons_append, Option.map_some, Option.bind_some, ng, wipeD, List.length_cons, List.length_nil, Nat.reduceAdd, Nat.reduceSub, List.replicate_succ, List.replicate_zero]; try simp only [decide_eq_true_eq, Bool.not_eq_true', decide_eq_false_iff_not, Bool.false_eq_true, if_false, if_true, reduceIte, String.reduceBEq, Bool.true_or, Bool.false_or, Bool.or_false, Bool.and_false, Bool.false_and, Bool.and_true, Bool.true_and, Bool.not_true, Bool.not_false, ne_eq, not_true_eq_false, reduceCtorEq, Bool.true_eq_false, decide_true, decide_false])
    refine ⟨by omega, ?_⟩
    rw [bit_shr]
    have e := and1_bit m r
    cases h : m.testBit r with
    | true => rw [e.mpr h]; rw [h] at q; exact q
    | false =>
      have e0 : m >>> r &&& 1 = 0 := by
        have h1 : ¬ (m >>> r &&& 1 = 1) := fun q => by rw [e.mp q] at h; cases h
        have h2 : m >>> r &&& 1 ≤ 1 := Nat.and_le_right
        omega
      rw [e0]; rw [h] at q; exact q
  · (try dsimp only [gN, gN2, sNil, sSeq, sExp, sRet, sIf, sPass, sCont, sBrk, sSet, sSetO, sApp, sAppF, sApPop, flatD, sFrz, sAug, sRaise, sAsg, sPut, eV, eC, e1, e2, t2, tBl, tTru, tN, tAn, tOo, tCh, eNot, eAn, eOo, eIf, eTup, eLst, eF, eFld, eIs, eIxO, eLenO, eSl, eRev, eB, eCall, eCallG, eMeth, aN, aC, aV, oNo, oPt, eIsO, oSrtI, oSrtT, oLt, oLe, oReprB, oInI, gN3, eCh, oGt, oGe, oI, oIC, oI1, oAdd, oMul, oEq, oIsN, oIx, oLen, oList, oTuple, oAbs, oMin2, oInt1, fLst, fListRg1, fList, fRep, fCat, tYs, tru, isS, dats, seqD, seqO, tyS, List.set, List.getElem?_cons_zero, List.getElem?_cons_succ, List.append_eq, List.nil_append, List.cons_append, Option.map_some, Option.bind_some, ng, wipeD, List.length_cons, List.length_nil, Nat.reduceAdd, Nat.reduceSub, List.replicate_succ, List.replicate_zero]; try simp only [decide_eq_true_eq, Bool.not_eq_true', decide_eq_false_iff_not, Bool.false_eq_true, if_false, if_true, reduceIte, String.reduceBEq, Bool.true_or, Bool.false_or, Bool.or_false, Bool.and_false, Bool.false_and, Bool.and_true, Bool.true_and, Bool.not_true, Bool.not_false, ne_eq, not_true_eq_false, reduceCtorEq, Bool.true_eq_false, decide_true, decide_false])
    exact q
  · exact q
theorem sem_is_number : ∀ as Qd Xd, d_is_number as Qd Xd → as.length = ["value"].length ∧ r_is_number { nx := fun _ => Qd .non, rt := Qd } (as ++ List.replicate (["value"].length - as.length) .un) (fun _ => Xd) := by
  rintro as Qd Xd ⟨d, rfl, ht, q⟩
  refine ⟨rfl, ?_⟩
  cases d <;> first | exact q | cases ht
theorem sem_is_between : ∀ as Qd Xd, d_is_between as Qd Xd → as.length = ["value", "least", "most"].length ∧ r_is_between { nx := fun _ => Qd .non, rt := Qd } (as ++ List.replicate (["value", "least", "most"].length - as.length) .un) (fun _ => Xd) := by
  rintro as Qd Xd ⟨d, a, b, rfl, ht, q⟩
  refine ⟨rfl, ?_⟩
  unfold r_is_between
  (try dsimp only [gN, gN2, sNil, sSeq, sExp, sRet, sIf, sPass, sCont, sBrk, sSet, sSetO, sApp, sAppF, sApPop, flatD, sFrz, sAug, sRaise, sAsg, sPut, eV, eC, e1, e2, t2, tBl, tTru, tN, tAn, tOo, tCh, eNot, eAn, eOo, eIf, eTup, eLst, eF, eFld, eIs, eIxO, eLenO, eSl, eRev, eB, eCall, eCallG, eMeth, aN, aC, aV, oNo, oPt, eIsO, oSrtI, oSrtT, oLt, oLe, oReprB, oInI, gN3, eCh, oGt, oGe, oI, oIC, oI1, oAdd, oMul, oEq, oIsN, oIx, oLen, oList, oTuple, oAbs, oMin2, oInt1, fLst, fListRg1, fList, fRep, fCat, tYs, tru, isS, dats, seqD, seqO, tyS, List.set, List.getElem?_cons_zero, List.getElem?_cons_succ, List.append_eq, List.nil_append, List.cons_append, Option.map_some, Option.bind_some, ng, wipeD, List.length_cons, List.length_nil, Nat.reduceAdd, Nat.reduceSub, List.replicate_succ, List.replicate_zero]; try simp only [decide_eq_true_eq, Bool.not_eq_true', decide_eq_false_iff_not, Bool.false_eq_true, if_false, if_true, reduceIte, String.reduceBEq, Bool.true_or, Bool.false_or, Bool.or_false, Bool.and_false, Bool.false_and, Bool.and_true, Bool.true_and, Bool.not_true, Bool.not_false, ne_eq, not_true_eq_false, reduceCtorEq, Bool.true_eq_false, decide_true, decide_false])
  refine ⟨d, rfl, ht, ?_⟩
  cases d with
  | int i =>
    have q : Qd (.bl (decide (a ≤ i ∧ i ≤ b))) := q
    unfold isNumX
    (try dsimp only [gN, gN2, sNil, sSeq, sExp, sRet, sIf, sPass, sCont, sBrk, sSet, sSetO, sApp, sAppF, sApPop, flatD, sFrz, sAug, sRaise, sAsg, sPut, eV, eC, e1, e2, t2, tBl, tTru, tN, tAn, tOo, tCh, eNot, eAn, eOo, eIf, eTup, eLst, eF, eFld, eIs, eIxO, eLenO, eSl, eRev, eB, eCall, eCallG, eMeth, aN, aC, aV, oNo, oPt, eIsO, oSrtI, oSrtT, oLt, oLe, oReprB, oInI, gN3, eCh, oGt, oGe, oI, oIC, oI1, oAdd, oMul, oEq, oIsN, oIx, oLen, oList, oTuple, oAbs, oMin2, oInt1, fLst, fListRg1, fList, fRep, fCat, tYs, tru, isS, dats, seqD, seqO, tyS, List.set, List.getElem?_cons_zero, List.getElem?_cons_succ, List.append_eq, List.nil_append, List.cons_append, Option.map_some, Option.bind_some, ng, wipeD, List.length_cons, List.length_nil, Nat.reduceAdd, Nat.reduceSub, List.replicate_succ, List.replicate_zero]; try simp only [decide_eq_true_eq, Bool.not_eq_true', decide_eq_false_iff_not, Bool.false_eq_true, if_false, if_true, reduceIte, String.reduceBEq, Bool.true_or, Bool.false_or, Bool.or_false, Bool.and_false, Bool.false_and, Bool.and_true, Bool.true_and, Bool.not_true, Bool.not_false, ne_eq, not_true_eq_false, reduceCtorEq, Bool.true_eq_false, decide_true, decide_false])
    by_cases h : a ≤ i
    · rw [decide_eq_true h]
      dsimp only
      by_cases h2 : i ≤ b
      · rw [decide_eq_true h2]; rw [decide_eq_true ⟨h, h2⟩] at q; exact q
      · rw [decide_eq_false h2]; rw [decide_eq_false (fun z => h2 z.2)] at q; exact q
    · rw [decide_eq_false h]
      rw [decide_eq_false (fun z => h z.1)] at q
      exact q
  | _ => exact q
theorem btw_bit (d : D) : btwX 0 1 d = isBitX d := by cases d <;> rfl
theorem btw_wires (d : D) : btwX 1 10 d = isWires d := by cases d <;> rfl
theorem sem_is_bit : ∀ as Qd Xd, d_is_bit as Qd Xd → as.length = ["value"].length ∧ r_is_bit { nx := fun _ => Qd .non, rt := Qd } (as ++ List.replicate (["value"].length - as.length) .un) (fun _ => Xd) := by
  rintro as Qd Xd ⟨d, rfl, ht, q⟩
  refine ⟨rfl, ?_⟩
  unfold r_is_bit
  (try dsimp only [gN, gN2, sNil, sSeq, sExp, sRet, sIf, sPass, sCont, sBrk, sSet, sSetO, sApp, sAppF, sApPop, flatD, sFrz, sAug, sRaise, sAsg, sPut, eV, eC, e1, e2, t2, tBl, tTru, tN, tAn, tOo, tCh, eNot, eAn, eOo, eIf, eTup, eLst, eF, eFld, eIs, eIxO, eLenO, eSl, eRev, eB, eCall, eCallG, eMeth, aN, aC, aV, oNo, oPt, eIsO, oSrtI, oSrtT, oLt, oLe, oReprB, oInI, gN3, eCh, oGt, oGe, oI, oIC, oI1, oAdd, oMul, oEq, oIsN, oIx, oLen, oList, oTuple, oAbs, oMin2, oInt1, fLst, fListRg1, fList, fRep, fCat, tYs, tru, isS, dats, seqD, seqO, tyS, List.set, List.getElem?_cons_zero, List.getElem?_cons_succ, List.append_eq, List.nil_append, List.cons_append, Option.map_some, Option.bind_some, ng, wipeD, List.length_cons, List.length_nil, Nat.reduceAdd, Nat.reduceSub, List.replicate_succ, List.replicate_zero]; try simp only [decide_eq_true_eq, Bool.not_eq_true', decide_eq_false_iff_not, Bool.false_eq_true, if_false, if_true, reduceIte, String.reduceBEq, Bool.true_or, Bool.false_or, Bool.or_false, Bool.and_false, Bool.false_and, Bool.and_true, Bool.true_and, Bool.not_true, Bool.not_false, ne_eq, not_true_eq_false, reduceCtorEq, Bool.true_eq_false, decide_true, decide_false])
  exact ⟨d, 0, 1, rfl, ht, by rw [btw_bit]; exact q⟩
theorem sem_need_size : ∀ as Qd Xd, d_need_size as Qd Xd → as.length = ["size"].length ∧ r_need_size { nx := fun _ => Qd .non, rt := Qd } (as ++ List.replicate (["size"].length - as.length) .un) (fun _ => Xd) := by
  rintro as Qd Xd ⟨n, rfl, hn, q⟩
  refine ⟨rfl, ?_⟩
  unfold r_need_size
  (try dsimp only [gN, gN2, sNil, sSeq, sExp, sRet, sIf, sPass, sCont, sBrk, sSet, sSetO, sApp, sAppF, sApPop, flatD, sFrz, sAug, sRaise, sAsg, sPut, eV, eC, e1, e2, t2, tBl, tTru, tN, tAn, tOo, tCh, eNot, eAn, eOo, eIf, eTup, eLst, eF, eFld, eIs, eIxO, eLenO, eSl, eRev, eB, eCall, eCallG, eMeth, aN, aC, aV, oNo, oPt, eIsO, oSrtI, oSrtT, oLt, oLe, oReprB, oInI, gN3, eCh, oGt, oGe, oI, oIC, oI1, oAdd, oMul, oEq, oIsN, oIx, oLen, oList, oTuple, oAbs, oMin2, oInt1, fLst, fListRg1, fList, fRep, fCat, tYs, tru, isS, dats, seqD, seqO, tyS, List.set, List.getElem?_cons_zero, List.getElem?_cons_succ, List.append_eq, List.nil_append, List.cons_append, Option.map_some, Option.bind_some, ng, wipeD, List.length_cons, List.length_nil, Nat.reduceAdd, Nat.reduceSub, List.replicate_succ, List.replicate_zero]; try simp only [decide_eq_true_eq, Bool.not_eq_true', decide_eq_false_iff_not, Bool.false_eq_true, if_false, if_true, reduceIte, String.reduceBEq, Bool.true_or, Bool.false_or, Bool.or_false, Bool.and_false, Bool.false_and, Bool.and_true, Bool.true_and, Bool.not_true, Bool.not_false, ne_eq, not_true_eq_false, reduceCtorEq, Bool.true_eq_false, decide_true, decide_false])
  refine ⟨_, _, _, rfl, rfl, ?_⟩
  rw [show btwX 0 60 (.int (n : Int)) = true from decide_eq_true ⟨by omega, by omega⟩]
  (try dsimp only [gN, gN2, sNil, sSeq, sExp, sRet, sIf, sPass, sCont, sBrk, sSet, sSetO, sApp, sAppF, sApPop, flatD, sFrz, sAug, sRaise, sAsg, sPut, eV, eC, e1, e2, t2, tBl, tTru, tN, tAn, tOo, tCh, eNot, eAn, eOo, eIf, eTup, eLst, eF, eFld, eIs, eIxO, eLenO, eSl, eRev, eB, eCall, eCallG, eMeth, aN, aC, aV, oNo, oPt, eIsO, oSrtI, oSrtT, oLt, oLe, oReprB, oInI, gN3, eCh, oGt, oGe, oI, oIC, oI1, oAdd, oMul, oEq, oIsN, oIx, oLen, oList, oTuple, oAbs, oMin2, oInt1, fLst, fListRg1, fList, fRep, fCat, tYs, tru, isS, dats, seqD, seqO, tyS, List.set, List.getElem?_cons_zero, List.getElem?_cons_succ, List.append_eq, List.nil_append, List.cons_append, Option.map_some, Option.bind_some, ng, wipeD, List.length_cons, List.length_nil, Nat.reduceAdd, Nat.reduceSub, List.replicate_succ, List.replicate_zero]; try simp only [decide_eq_true_eq, Bool.not_eq_true', decide_eq_false_iff_not, Bool.false_eq_true, if_false, if_true, reduceIte, String.reduceBEq, Bool.true_or, Bool.false_or, Bool.or_false, Bool.and_false, Bool.false_and, Bool.and_true, Bool.true_and, Bool.not_true, Bool.not_false, ne_eq, not_true_eq_false, reduceCtorEq, Bool.true_eq_false, decide_true, decide_false])
  exact q
theorem sem_need_wires : ∀ as Qd Xd, d_need_wires as Qd Xd → as.length = ["wires"].length ∧ r_need_wires { nx := fun _ => Qd .non, rt := Qd } (as ++ List.replicate (["wires"].length - as.length) .un) (fun _ => Xd) := by
  rintro as Qd Xd ⟨w, rfl, hw, k1, k2⟩
  refine ⟨rfl, ?_⟩
  unfold r_need_wires
  (try dsimp only [gN, gN2, sNil, sSeq, sExp, sRet, sIf, sPass, sCont, sBrk, sSet, sSetO, sApp, sAppF, sApPop, flatD, sFrz, sAug, sRaise, sAsg, sPut, eV, eC, e1, e2, t2, tBl, tTru, tN, tAn, tOo, tCh, eNot, eAn, eOo, eIf, eTup, eLst, eF, eFld, eIs, eIxO, eLenO, eSl, eRev, eB, eCall, eCallG, eMeth, aN, aC, aV, oNo, oPt, eIsO, oSrtI, oSrtT, oLt, oLe, oReprB, oInI, gN3, eCh, oGt, oGe, oI, oIC, oI1, oAdd, oMul, oEq, oIsN, oIx, oLen, oList, oTuple, oAbs, oMin2, oInt1, fLst, fListRg1, fList, fRep, fCat, tYs, tru, isS, dats, seqD, seqO, tyS, List.set, List.getElem?_cons_zero, List.getElem?_cons_succ, List.append_eq, List.nil_append, List.cons_append, Option.map_some, Option.bind_some, ng, wipeD, List.length_cons, List.length_nil, Nat.reduceAdd, Nat.reduceSub, List.replicate_succ, List.replicate_zero]; try simp only [decide_eq_true_eq, Bool.not_eq_true', decide_eq_false_iff_not, Bool.false_eq_true, if_false, if_true, reduceIte, String.reduceBEq, Bool.true_or, Bool.false_or, Bool.or_false, Bool.and_false, Bool.false_and, Bool.and_true, Bool.true_and, Bool.not_true, Bool.not_false, ne_eq, not_true_eq_false, reduceCtorEq, Bool.true_eq_false, decide_true, decide_false])
  refine ⟨_, _, _, rfl, hw, ?_⟩
  rw [btw_wires]
  cases h : isWires w with
  | true => (try dsimp only [gN, gN2, sNil, sSeq, sExp, sRet, sIf, sPass, sCont, sBrk, sSet, sSetO, sApp, sAppF, sApPop, flatD, sFrz, sAug, sRaise, sAsg, sPut, eV, eC, e1, e2, t2, tBl, tTru, tN, tAn, tOo, tCh, eNot, eAn, eOo, eIf, eTup, eLst, eF, eFld, eIs, eIxO, eLenO, eSl, eRev, eB, eCall, eCallG, eMeth, aN, aC, aV, oNo, oPt, eIsO, oSrtI, oSrtT, oLt, oLe, oReprB, oInI, gN3, eCh, oGt, oGe, oI, oIC, oI1, oAdd, oMul, oEq, oIsN, oIx, oLen, oList, oTuple, oAbs, oMin2, oInt1, fLst, fListRg1, fList, fRep, fCat, tYs, tru, isS, dats, seqD, seqO, tyS, List.set, List.getElem?_cons_zero, List.getElem?_cons_succ, List.append_eq, List.nil_append, List.cons_append, Option.map_some, Option.bind_some, ng, wipeD, List.length_cons, List.length_nil, Nat.reduceAdd, Nat.reduceSub, List.replicate_succ, List.replicate_zero]; try simp only [decide_eq_true_eq, Bool.not_eq_true', decide_eq_false_iff_not, Bool.false_eq_true, if_false, if_true, reduceIte, String.reduceBEq, Bool.true_or, Bool.false_or, Bool.or_false, Bool.and_false, Bool.false_and, Bool.and_true, Bool.true_and, Bool.not_true, Bool.not_false, ne_eq, not_true_eq_false, reduceCtorEq, Bool.true_eq_false, decide_true, decide_false]); exact k2 h
  | false => (try dsimp only [gN, gN2, sNil, sSeq, sExp, sRet, sIf, sPass, sCont, sBrk, sSet, sSetO, sApp, sAppF, sApPop, flatD, sFrz, sAug, sRaise, sAsg, sPut, eV, eC, e1, e2, t2, tBl, tTru, tN, tAn, tOo, tCh, eNot, eAn, eOo, eIf, eTup, eLst, eF, eFld, eIs, eIxO, eLenO, eSl, eRev, eB, eCall, eCallG, eMeth, aN, aC, aV, oNo, oPt, eIsO, oSrtI, oSrtT, oLt, oLe, oReprB, oInI, gN3, eCh, oGt, oGe, oI, oIC, oI1, oAdd, oMul, oEq, oIsN, oIx, oLen, oList, oTuple, oAbs, oMin2, oInt1, fLst, fListRg1, fList, fRep, fCat, tYs, tru, isS, dats, seqD, seqO, tyS, List.set, List.getElem?_cons_zero, List.getElem?_cons_succ, List.append_eq, List.nil_append, List.cons_append, Option.map_some, Option.bind_some, ng, wipeD, List.length_cons, List.length_nil, Nat.reduceAdd, Nat.reduceSub, List.replicate_succ, List.replicate_zero]; try simp only [decide_eq_true_eq, Bool.not_eq_true', decide_eq_false_iff_not, Bool.false_eq_true, if_false, if_true, reduceIte, String.reduceBEq, Bool.true_or, Bool.false_or, Bool.or_false, Bool.and_false, Bool.false_and, Bool.and_true, Bool.true_and, Bool.not_true, Bool.not_false, ne_eq, not_true_eq_false, reduceCtorEq, Bool.true_eq_false, decide_true, decide_false]); exact k1 h
theorem lotFrom_int (n l p : Int) (r : List D) : lotFrom n l (.int p :: r) = (decide (l ≤ p ∧ p < n) && lotFrom n (p + 1) r) := rfl
theorem lot_drop {n : Int} {xs : List D} {i : Nat} {x : D} {l : Int} (h : xs[i]? = some x) : lotFrom n l (xs.drop i) = lotFrom n l (x :: xs.drop (i + 1)) := by
  have hl := (List.getElem?_eq_some_iff.mp h).1
  rw [List.drop_eq_getElem_cons hl, (List.getElem?_eq_some_iff.mp h).2]
theorem sem_is_lot : ∀ as Qd Xd, d_is_lot as Qd Xd → as.length = ["value", "size"].length ∧ r_is_lot { nx := fun _ => Qd .non, rt := Qd } (as ++ List.replicate (["value", "size", "least", "place"].length - as.length) .un) (fun _ => Xd) := by
  rintro as Qd Xd ⟨d, n, rfl, ht, hn, q⟩
  refine ⟨rfl, ?_⟩
  unfold r_is_lot
  (try dsimp only [gN, gN2, sNil, sSeq, sExp, sRet, sIf, sPass, sCont, sBrk, sSet, sSetO, sApp, sAppF, sApPop, flatD, sFrz, sAug, sRaise, sAsg, sPut, eV, eC, e1, e2, t2, tBl, tTru, tN, tAn, tOo, tCh, eNot, eAn, eOo, eIf, eTup, eLst, eF, eFld, eIs, eIxO, eLenO, eSl, eRev, eB, eCall, eCallG, eMeth, aN, aC, aV, oNo, oPt, eIsO, oSrtI, oSrtT, oLt, oLe, oReprB, oInI, gN3, eCh, oGt, oGe, oI, oIC, oI1, oAdd, oMul, oEq, oIsN, oIx, oLen, oList, oTuple, oAbs, oMin2, oInt1, fLst, fListRg1, fList, fRep, fCat, tYs, tru, isS, dats, seqD, seqO, tyS, List.set, List.getElem?_cons_zero, List.getElem?_cons_succ, List.append_eq, List.nil_append, List.cons_append, Option.map_some, Option.bind_some, ng, wipeD, List.length_cons, List.length_nil, Nat.reduceAdd, Nat.reduceSub, List.replicate_succ, List.replicate_zero]; try simp only [decide_eq_true_eq, Bool.not_eq_true', decide_eq_false_iff_not, Bool.false_eq_true, if_false, if_true, reduceIte, String.reduceBEq, Bool.true_or, Bool.false_or, Bool.or_false, Bool.and_false, Bool.false_and, Bool.and_true, Bool.true_and, Bool.not_true, Bool.not_false, ne_eq, not_true_eq_false, reduceCtorEq, Bool.true_eq_false, decide_true, decide_false])
  refine ⟨n, rfl, hn, ?_⟩
  (try dsimp only [gN, gN2, sNil, sSeq, sExp, sRet, sIf, sPass, sCont, sBrk, sSet, sSetO, sApp, sAppF, sApPop, flatD, sFrz, sAug, sRaise, sAsg, sPut, eV, eC, e1, e2, t2, tBl, tTru, tN, tAn, tOo, tCh, eNot, eAn, eOo, eIf, eTup, eLst, eF, eFld, eIs, eIxO, eLenO, eSl, eRev, eB, eCall, eCallG, eMeth, aN, aC, aV, oNo, oPt, eIsO, oSrtI, oSrtT, oLt, oLe, oReprB, oInI, gN3, eCh, oGt, oGe, oI, oIC, oI1, oAdd, oMul, oEq, oIsN, oIx, oLen, oList, oTuple, oAbs, oMin2, oInt1, fLst, fListRg1, fList, fRep, fCat, tYs, tru, isS, dats, seqD, seqO, tyS, List.set, List.getElem?_cons_zero, List.getElem?_cons_succ, List.append_eq, List.nil_append, List.cons_append, Option.map_some, Option.bind_some, ng, wipeD, List.length_cons, List.length_nil, Nat.reduceAdd, Nat.reduceSub, List.replicate_succ, List.replicate_zero]; try simp only [decide_eq_true_eq, Bool.not_eq_true', decide_eq_false_iff_not, Bool.false_eq_true, if_false, if_true, reduceIte, String.reduceBEq, Bool.true_or, Bool.false_or, Bool.or_false, Bool.and_false, Bool.false_and, Bool.and_true, Bool.true_and, Bool.not_true, Bool.not_false, ne_eq, not_true_eq_false, reduceCtorEq, Bool.true_eq_false, decide_true, decide_false])
  cases d with
  | tup xs =>
    (try dsimp only [gN, gN2, sNil, sSeq, sExp, sRet, sIf, sPass, sCont, sBrk, sSet, sSetO, sApp, sAppF, sApPop, flatD, sFrz, sAug, sRaise, sAsg, sPut, eV, eC, e1, e2, t2, tBl, tTru, tN, tAn, tOo, tCh, eNot, eAn, eOo, eIf, eTup, eLst, eF, eFld, eIs, eIxO, eLenO, eSl, eRev, eB, eCall, eCallG, eMeth, aN, aC, aV, oNo, oPt, eIsO, oSrtI, oSrtT, oLt, oLe, oReprB, oInI, gN3, eCh, oGt, oGe, oI, oIC, oI1, oAdd, oMul, oEq, oIsN, oIx, oLen, oList, oTuple, oAbs, oMin2, oInt1, fLst, fListRg1, fList, fRep, fCat, tYs, tru, isS, dats, seqD, seqO, tyS, List.set, List.getElem?_cons_zero, List.getElem?_cons_succ, List.append_eq, List.nil_append, List.cons_append, Option.map_some, Option.bind_some, ng, wipeD, List.length_cons, List.length_nil, Nat.reduceAdd, Nat.reduceSub, List.replicate_succ, List.replicate_zero, sFor, iRg1, iRg2, iSq, iEn, fLc]; try simp only [decide_eq_true_eq, Bool.not_eq_true', decide_eq_false_iff_not, Bool.false_eq_true, if_false, if_true, reduceIte, String.reduceBEq, Bool.true_or, Bool.false_or, Bool.or_false, Bool.and_false, Bool.false_and, Bool.and_true, Bool.true_and, Bool.not_true, Bool.not_false, ne_eq, not_true_eq_false, reduceCtorEq, Bool.true_eq_false, decide_true, decide_false])
    refine ⟨fun i ρ => ∃ l z, ρ = [.dat (.tup xs), .dat (.int (n : Int)), .dat (.int l), z] ∧ lotFrom n l (xs.drop i) = lotFrom n 0 xs, ⟨0, _, rfl, rfl⟩, ?_, ?_⟩
    · rintro i x ρ hx ⟨l, z, rfl, e⟩
      rw [lot_drop hx] at e
      have hox : noO x = true := noOs_get (by simpa only [noO] using ht) hx
      (try dsimp only [gN, gN2, sNil, sSeq, sExp, sRet, sIf, sPass, sCont, sBrk, sSet, sSetO, sApp, sAppF, sApPop, flatD, sFrz, sAug, sRaise, sAsg, sPut, eV, eC, e1, e2, t2, tBl, tTru, tN, tAn, tOo, tCh, eNot, eAn, eOo, eIf, eTup, eLst, eF, eFld, eIs, eIxO, eLenO, eSl, eRev, eB, eCall, eCallG, eMeth, aN, aC, aV, oNo, oPt, eIsO, oSrtI, oSrtT, oLt, oLe, oReprB, oInI, gN3, eCh, oGt, oGe, oI, oIC, oI1, oAdd, oMul, oEq, oIsN, oIx, oLen, oList, oTuple, oAbs, oMin2, oInt1, fLst, fListRg1, fList, fRep, fCat, tYs, tru, isS, dats, seqD, seqO, tyS, List.set, List.getElem?_cons_zero, List.getElem?_cons_succ, List.append_eq, List.nil_append, List.cons_append, Option.map_some, Option.bind_some, ng, wipeD, List.length_cons, List.length_nil, Nat.reduceAdd, Nat.reduceSub, List.replicate_succ, List.replicate_zero]; try simp only [decide_eq_true_eq, Bool.not_eq_true', decide_eq_false_iff_not, Bool.false_eq_true, if_false, if_true, reduceIte, String.reduceBEq, Bool.true_or, Bool.false_or, Bool.or_false, Bool.and_false, Bool.false_and, Bool.and_true, Bool.true_and, Bool.not_true, Bool.not_false, ne_eq, not_true_eq_false, reduceCtorEq, Bool.true_eq_false, decide_true, decide_false])
      refine ⟨x, rfl, hox, ?_⟩
      have q : Qd (.bl (lotFrom n 0 xs)) := q
      cases x with
      | int p =>
        unfold isNumX
        rw [lotFrom_int] at e
        (try dsimp only [gN, gN2, sNil, sSeq, sExp, sRet, sIf, sPass, sCont, sBrk, sSet, sSetO, sApp, sAppF, sApPop, flatD, sFrz, sAug, sRaise, sAsg, sPut, eV, eC, e1, e2, t2, tBl, tTru, tN, tAn, tOo, tCh, eNot, eAn, eOo, eIf, eTup, eLst, eF, eFld, eIs, eIxO, eLenO, eSl, eRev, eB, eCall, eCallG, eMeth, aN, aC, aV, oNo, oPt, eIsO, oSrtI, oSrtT, oLt, oLe, oReprB, oInI, gN3, eCh, oGt, oGe, oI, oIC, oI1, oAdd, oMul, oEq, oIsN, oIx, oLen, oList, oTuple, oAbs, oMin2, oInt1, fLst, fListRg1, fList, fRep, fCat, tYs, tru, isS, dats, seqD, seqO, tyS, List.set, List.getElem?_cons_zero, List.getElem?_cons_succ, List.append_eq, List.nil_append, List.cons_append, Option.map_some, Option.bind_some, ng, wipeD, List.length_cons, List.length_nil, Nat.reduceAdd, Nat.reduceSub, List.replicate_succ, List.replicate_zero]; try simp only [decide_eq_true_eq, Bool.not_eq_true', decide_eq_false_iff_not, Bool.false_eq_true, if_false, if_true, reduceIte, String.reduceBEq, Bool.true_or, Bool.false_or, Bool.or_false, Bool.and_false, Bool.false_and, Bool.and_true, Bool.true_and, Bool.not_true, Bool.not_false, ne_eq, not_true_eq_false, reduceCtorEq, Bool.true_eq_false, decide_true, decide_false])
        by_cases h1 : l ≤ p
        · rw [decide_eq_true h1]
          (try dsimp only [gN, gN2, sNil, sSeq, sExp, sRet, sIf, sPass, sCont, sBrk, sSet, sSetO, sApp, sAppF, sApPop, flatD, sFrz, sAug, sRaise, sAsg, sPut, eV, eC, e1, e2, t2, tBl, tTru, tN, tAn, tOo, tCh, eNot, eAn, eOo, eIf, eTup, eLst, eF, eFld, eIs, eIxO, eLenO, eSl, eRev, eB, eCall, eCallG, eMeth, aN, aC, aV, oNo, oPt, eIsO, oSrtI, oSrtT, oLt, oLe, oReprB, oInI, gN3, eCh, oGt, oGe, oI, oIC, oI1, oAdd, oMul, oEq, oIsN, oIx, oLen, oList, oTuple, oAbs, oMin2, oInt1, fLst, fListRg1, fList, fRep, fCat, tYs, tru, isS, dats, seqD, seqO, tyS, List.set, List.getElem?_cons_zero, List.getElem?_cons_succ, List.append_eq, List.nil_append, List.cons_append, Option.map_some, Option.bind_some, ng, wipeD, List.length_cons, List.length_nil, Nat.reduceAdd, Nat.reduceSub, List.replicate_succ, List.replicate_zero]; try simp only [decide_eq_true_eq, Bool.not_eq_true', decide_eq_false_iff_not, Bool.false_eq_true, if_false, if_true, reduceIte, String.reduceBEq, Bool.true_or, Bool.false_or, Bool.or_false, Bool.and_false, Bool.false_and, Bool.and_true, Bool.true_and, Bool.not_true, Bool.not_false, ne_eq, not_true_eq_false, reduceCtorEq, Bool.true_eq_false, decide_true, decide_false])
          by_cases h2 : p < (n : Int)
          · rw [if_neg (fun z => z h2)]
            rw [decide_eq_true ⟨h1, h2⟩, Bool.true_and] at e
            exact ⟨_, _, rfl, e⟩
          · rw [if_pos h2]
            rw [decide_eq_false (fun z => h2 z.2), Bool.false_and] at e
            rw [← e] at q; exact q
        · rw [decide_eq_false h1]
          (try dsimp only [gN, gN2, sNil, sSeq, sExp, sRet, sIf, sPass, sCont, sBrk, sSet, sSetO, sApp, sAppF, sApPop, flatD, sFrz, sAug, sRaise, sAsg, sPut, eV, eC, e1, e2, t2, tBl, tTru, tN, tAn, tOo, tCh, eNot, eAn, eOo, eIf, eTup, eLst, eF, eFld, eIs, eIxO, eLenO, eSl, eRev, eB, eCall, eCallG, eMeth, aN, aC, aV, oNo, oPt, eIsO, oSrtI, oSrtT, oLt, oLe, oReprB, oInI, gN3, eCh, oGt, oGe, oI, oIC, oI1, oAdd, oMul, oEq, oIsN, oIx, oLen, oList, oTuple, oAbs, oMin2, oInt1, fLst, fListRg1, fList, fRep, fCat, tYs, tru, isS, dats, seqD, seqO, tyS, List.set, List.getElem?_cons_zero, List.getElem?_cons_succ, List.append_eq, List.nil_append, List.cons_append, Option.map_some, Option.bind_some, ng, wipeD, List.length_cons, List.length_nil, Nat.reduceAdd, Nat.reduceSub, List.replicate_succ, List.replicate_zero]; try simp only [decide_eq_true_eq, Bool.not_eq_true', decide_eq_false_iff_not, Bool.false_eq_true, if_false, if_true, reduceIte, String.reduceBEq, Bool.true_or, Bool.false_or, Bool.or_false, Bool.and_false, Bool.false_and, Bool.and_true, Bool.true_and, Bool.not_true, Bool.not_false, ne_eq, not_true_eq_false, reduceCtorEq, Bool.true_eq_false, decide_true, decide_false])
          rw [decide_eq_false (fun z => h1 z.1), Bool.false_and] at e
          rw [e]; exact q
      | _ =>
        have e : false = lotFrom n 0 xs := e
        unfold isNumX
        (try dsimp only [gN, gN2, sNil, sSeq, sExp, sRet, sIf, sPass, sCont, sBrk, sSet, sSetO, sApp, sAppF, sApPop, flatD, sFrz, sAug, sRaise, sAsg, sPut, eV, eC, e1, e2, t2, tBl, tTru, tN, tAn, tOo, tCh, eNot, eAn, eOo, eIf, eTup, eLst, eF, eFld, eIs, eIxO, eLenO, eSl, eRev, eB, eCall, eCallG, eMeth, aN, aC, aV, oNo, oPt, eIsO, oSrtI, oSrtT, oLt, oLe, oReprB, oInI, gN3, eCh, oGt, oGe, oI, oIC, oI1, oAdd, oMul, oEq, oIsN, oIx, oLen, oList, oTuple, oAbs, oMin2, oInt1, fLst, fListRg1, fList, fRep, fCat, tYs, tru, isS, dats, seqD, seqO, tyS, List.set, List.getElem?_cons_zero, List.getElem?_cons_succ, List.append_eq, List.nil_append, List.cons_append, Option.map_some, Option.bind_some, ng, wipeD, List.length_cons, List.length_nil, Nat.reduceAdd, Nat.reduceSub, List.replicate_succ, List.replicate_zero]; try simp only [decide_eq_true_eq, Bool.not_eq_true', decide_eq_false_iff_not, Bool.false_eq_true, if_false, if_true, reduceIte, String.reduceBEq, Bool.true_or, Bool.false_or, Bool.or_false, Bool.and_false, Bool.false_and, Bool.and_true, Bool.true_and, Bool.not_true, Bool.not_false, ne_eq, not_true_eq_false, reduceCtorEq, Bool.true_eq_false, decide_true, decide_false])
        rw [← e] at q; exact q
    · rintro ρ ⟨l, z, rfl, e⟩
      rw [List.drop_length] at e
      have e : true = lotFrom n 0 xs := e
      have q : Qd (.bl (lotFrom n 0 xs)) := q
      (try dsimp only [gN, gN2, sNil, sSeq, sExp, sRet, sIf, sPass, sCont, sBrk, sSet, sSetO, sApp, sAppF, sApPop, flatD, sFrz, sAug, sRaise, sAsg, sPut, eV, eC, e1, e2, t2, tBl, tTru, tN, tAn, tOo, tCh, eNot, eAn, eOo, eIf, eTup, eLst, eF, eFld, eIs, eIxO, eLenO, eSl, eRev, eB, eCall, eCallG, eMeth, aN, aC, aV, oNo, oPt, eIsO, oSrtI, oSrtT, oLt, oLe, oReprB, oInI, gN3, eCh, oGt, oGe, oI, oIC, oI1, oAdd, oMul, oEq, oIsN, oIx, oLen, oList, oTuple, oAbs, oMin2, oInt1, fLst, fListRg1, fList, fRep, fCat, tYs, tru, isS, dats, seqD, seqO, tyS, List.set, List.getElem?_cons_zero, List.getElem?_cons_succ, List.append_eq, List.nil_append, List.cons_append, Option.map_some, Option.bind_some, ng, wipeD, List.length_cons, List.length_nil, Nat.reduceAdd, Nat.reduceSub, List.replicate_succ, List.replicate_zero]; try simp only [decide_eq_true_eq, Bool.not_eq_true', decide_eq_false_iff_not, Bool.false_eq_true, if_false, if_true, reduceIte, String.reduceBEq, Bool.true_or, Bool.false_or, Bool.or_false, Bool.and_false, Bool.false_and, Bool.and_true, Bool.true_and, Bool.not_true, Bool.not_false, ne_eq, not_true_eq_false, reduceCtorEq, Bool.true_eq_false, decide_true, decide_false])
      rw [← e] at q
      exact q
  | obj => simp [noO] at ht
  | _ => exact q
theorem sem_need_lot : ∀ as Qd Xd, d_need_lot as Qd Xd → as.length = ["value", "size"].length ∧ r_need_lot { nx := fun _ => Qd .non, rt := Qd } (as ++ List.replicate (["value", "size"].length - as.length) .un) (fun _ => Xd) := by
  rintro as Qd Xd ⟨d, n, rfl, ht, hn, hd, q⟩
  refine ⟨rfl, ?_⟩
  unfold r_need_lot
  (try dsimp only [gN, gN2, sNil, sSeq, sExp, sRet, sIf, sPass, sCont, sBrk, sSet, sSetO, sApp, sAppF, sApPop, flatD, sFrz, sAug, sRaise, sAsg, sPut, eV, eC, e1, e2, t2, tBl, tTru, tN, tAn, tOo, tCh, eNot, eAn, eOo, eIf, eTup, eLst, eF, eFld, eIs, eIxO, eLenO, eSl, eRev, eB, eCall, eCallG, eMeth, aN, aC, aV, oNo, oPt, eIsO, oSrtI, oSrtT, oLt, oLe, oReprB, oInI, gN3, eCh, oGt, oGe, oI, oIC, oI1, oAdd, oMul, oEq, oIsN, oIx, oLen, oList, oTuple, oAbs, oMin2, oInt1, fLst, fListRg1, fList, fRep, fCat, tYs, tru, isS, dats, seqD, seqO, tyS, List.set, List.getElem?_cons_zero, List.getElem?_cons_succ, List.append_eq, List.nil_append, List.cons_append, Option.map_some, Option.bind_some, ng, wipeD, List.length_cons, List.length_nil, Nat.reduceAdd, Nat.reduceSub, List.replicate_succ, List.replicate_zero]; try simp only [decide_eq_true_eq, Bool.not_eq_true', decide_eq_false_iff_not, Bool.false_eq_true, if_false, if_true, reduceIte, String.reduceBEq, Bool.true_or, Bool.false_or, Bool.or_false, Bool.and_false, Bool.false_and, Bool.and_true, Bool.true_and, Bool.not_true, Bool.not_false, ne_eq, not_true_eq_false, reduceCtorEq, Bool.true_eq_false, decide_true, decide_false])
  refine ⟨d, n, rfl, ht, hn, ?_⟩
  rw [hd]
  (try dsimp only [gN, gN2, sNil, sSeq, sExp, sRet, sIf, sPass, sCont, sBrk, sSet, sSetO, sApp, sAppF, sApPop, flatD, sFrz, sAug, sRaise, sAsg, sPut, eV, eC, e1, e2, t2, tBl, tTru, tN, tAn, tOo, tCh, eNot, eAn, eOo, eIf, eTup, eLst, eF, eFld, eIs, eIxO, eLenO, eSl, eRev, eB, eCall, eCallG, eMeth, aN, aC, aV, oNo, oPt, eIsO, oSrtI, oSrtT, oLt, oLe, oReprB, oInI, gN3, eCh, oGt, oGe, oI, oIC, oI1, oAdd, oMul, oEq, oIsN, oIx, oLen, oList, oTuple, oAbs, oMin2, oInt1, fLst, fListRg1, fList, fRep, fCat, tYs, tru, isS, dats, seqD, seqO, tyS, List.set, List.getElem?_cons_zero, List.getElem?_cons_succ, List.append_eq, List.nil_append, List.cons_append, Option.map_some, Option.bind_some, ng, wipeD, List.length_cons, List.length_nil, Nat.reduceAdd, Nat.reduceSub, List.replicate_succ, List.replicate_zero]; try simp only [decide_eq_true_eq, Bool.not_eq_true', decide_eq_false_iff_not, Bool.false_eq_true, if_false, if_true, reduceIte, String.reduceBEq, Bool.true_or, Bool.false_or, Bool.or_false, Bool.and_false, Bool.false_and, Bool.and_true, Bool.true_and, Bool.not_true, Bool.not_false, ne_eq, not_true_eq_false, reduceCtorEq, Bool.true_eq_false, decide_true, decide_false])
  exact q
theorem lotFrom_nat {n : Nat} : ∀ {L : List Nat} {l : Nat}, L.Pairwise (· < ·) → (∀ p ∈ L, l ≤ p ∧ p < n) → lotFrom n l (natX L) = true
  | [], _, _, _ => rfl
  | p :: L, l, ha, hb => by
    have h1 := hb p List.mem_cons_self
    have h2 := List.pairwise_cons.mp ha
    show (decide ((l : Int) ≤ (p : Int) ∧ (p : Int) < (n : Int)) && lotFrom n ((p : Int) + 1) (natX L)) = true
    rw [decide_eq_true (by omega), Bool.true_and]
    have := lotFrom_nat (n := n) (L := L) (l := p + 1) h2.2 fun q hq => ⟨h2.1 q hq, (hb q (List.mem_cons_of_mem _ hq)).2⟩
    exact this
theorem lot_is {n m : Nat} (h : m < 2 ^ n) : isLotX n (lotX (lotN m)) = true := lotFrom_nat (l := 0) (lotN_asc m) fun p hp => ⟨Nat.zero_le _, lotN_lt h p hp⟩
theorem lotFrom_inv {n : Nat} : ∀ {xs : List D} {l : Nat}, lotFrom n l xs = true → ∃ L : List Nat, xs = natX L ∧ L.Pairwise (· < ·) ∧ ∀ p ∈ L, l ≤ p ∧ p < n
  | [], _, _ => ⟨[], rfl, List.Pairwise.nil, fun _ h => nomatch h⟩
  | .int p :: xs, l, h => by
    have h : (decide ((l : Int) ≤ p ∧ p < (n : Int)) && lotFrom n (p + 1) xs) = true := h
    rw [Bool.and_eq_true] at h
    have h1 := of_decide_eq_true h.1
    obtain ⟨q, rfl⟩ := Int.eq_ofNat_of_zero_le (show 0 ≤ p by omega)
    obtain ⟨L, rfl, ha, hb⟩ := lotFrom_inv (n := n) (xs := xs) (l := q + 1) h.2
    refine ⟨q :: L, rfl, List.pairwise_cons.mpr ⟨fun r hr => (hb r hr).1, ha⟩, fun r hr => ?_⟩
    rcases List.mem_cons.mp hr with rfl | hr
    · omega
    · have := hb r hr; omega
  | .non :: _, _, h => by cases h
  | .bl _ :: _, _, h => by cases h
  | .str _ :: _, _, h => by cases h
  | .tup _ :: _, _, h => by cases h
  | .lst _ :: _, _, h => by cases h
  | .dct _ :: _, _, h => by cases h
  | .obj _ _ :: _, _, h => by cases h
theorem is_lot_inv {n : Nat} {d : D} (h : isLotX n d = true) : ∃ m, m < 2 ^ n ∧ d = lotX (lotN m) := by
  cases d with
  | tup xs =>
    obtain ⟨L, rfl, ha, hb⟩ := lotFrom_inv (l := 0) h
    exact ⟨maskN L, maskN_lt fun p hp => (hb p hp).2, by rw [lotN_maskN ha]; rfl⟩
  | _ => cases h
theorem lotN_small {m n : Nat} (h : m < 2 ^ n) (hn : n ≤ 1000) : ∀ p ∈ lotN m, p < 1000 := fun p hp => Nat.lt_of_lt_of_le (lotN_lt h p hp) hn
theorem pow_le {n k : Nat} (h : n ≤ k) : 2 ^ n ≤ 2 ^ k := Nat.pow_le_pow_right (by decide) h
theorem sem_plus : ∀ as Qd Xd, d_plus as Qd Xd → as.length = ["one", "other"].length ∧ r_plus { nx := fun _ => Qd .non, rt := Qd } (as ++ List.replicate (["one", "other"].length - as.length) .un) (fun _ => Xd) := by
  rintro as Qd Xd ⟨a, b, rfl, ha, hb, q⟩
  refine ⟨rfl, ?_⟩
  unfold r_plus
  (try dsimp only [gN, gN2, sNil, sSeq, sExp, sRet, sIf, sPass, sCont, sBrk, sSet, sSetO, sApp, sAppF, sApPop, flatD, sFrz, sAug, sRaise, sAsg, sPut, eV, eC, e1, e2, t2, tBl, tTru, tN, tAn, tOo, tCh, eNot, eAn, eOo, eIf, eTup, eLst, eF, eFld, eIs, eIxO, eLenO, eSl, eRev, eB, eCall, eCallG, eMeth, aN, aC, aV, oNo, oPt, eIsO, oSrtI, oSrtT, oLt, oLe, oReprB, oInI, gN3, eCh, oGt, oGe, oI, oIC, oI1, oAdd, oMul, oEq, oIsN, oIx, oLen, oList, oTuple, oAbs, oMin2, oInt1, fLst, fListRg1, fList, fRep, fCat, tYs, tru, isS, dats, seqD, seqO, tyS, List.set, List.getElem?_cons_zero, List.getElem?_cons_succ, List.append_eq, List.nil_append, List.cons_append, Option.map_some, Option.bind_some, ng, wipeD, List.length_cons, List.length_nil, Nat.reduceAdd, Nat.reduceSub, List.replicate_succ, List.replicate_zero]; try simp only [decide_eq_true_eq, Bool.not_eq_true', decide_eq_false_iff_not, Bool.false_eq_true, if_false, if_true, reduceIte, String.reduceBEq, Bool.true_or, Bool.false_or, Bool.or_false, Bool.and_false, Bool.false_and, Bool.and_true, Bool.true_and, Bool.not_true, Bool.not_false, ne_eq, not_true_eq_false, reduceCtorEq, Bool.true_eq_false, decide_true, decide_false])
  refine ⟨_, 60, rfl, noO_lot _, Nat.le_refl _, lot_is ha, ?_⟩
  (try dsimp only [gN, gN2, sNil, sSeq, sExp, sRet, sIf, sPass, sCont, sBrk, sSet, sSetO, sApp, sAppF, sApPop, flatD, sFrz, sAug, sRaise, sAsg, sPut, eV, eC, e1, e2, t2, tBl, tTru, tN, tAn, tOo, tCh, eNot, eAn, eOo, eIf, eTup, eLst, eF, eFld, eIs, eIxO, eLenO, eSl, eRev, eB, eCall, eCallG, eMeth, aN, aC, aV, oNo, oPt, eIsO, oSrtI, oSrtT, oLt, oLe, oReprB, oInI, gN3, eCh, oGt, oGe, oI, oIC, oI1, oAdd, oMul, oEq, oIsN, oIx, oLen, oList, oTuple, oAbs, oMin2, oInt1, fLst, fListRg1, fList, fRep, fCat, tYs, tru, isS, dats, seqD, seqO, tyS, List.set, List.getElem?_cons_zero, List.getElem?_cons_succ, List.append_eq, List.nil_append, List.cons_append, Option.map_some, Option.bind_some, ng, wipeD, List.length_cons, List.length_nil, Nat.reduceAdd, Nat.reduceSub, List.replicate_succ, List.replicate_zero]; try simp only [decide_eq_true_eq, Bool.not_eq_true', decide_eq_false_iff_not, Bool.false_eq_true, if_false, if_true, reduceIte, String.reduceBEq, Bool.true_or, Bool.false_or, Bool.or_false, Bool.and_false, Bool.false_and, Bool.and_true, Bool.true_and, Bool.not_true, Bool.not_false, ne_eq, not_true_eq_false, reduceCtorEq, Bool.true_eq_false, decide_true, decide_false])
  refine ⟨_, 60, rfl, noO_lot _, Nat.le_refl _, lot_is hb, ?_⟩
  (try dsimp only [gN, gN2, sNil, sSeq, sExp, sRet, sIf, sPass, sCont, sBrk, sSet, sSetO, sApp, sAppF, sApPop, flatD, sFrz, sAug, sRaise, sAsg, sPut, eV, eC, e1, e2, t2, tBl, tTru, tN, tAn, tOo, tCh, eNot, eAn, eOo, eIf, eTup, eLst, eF, eFld, eIs, eIxO, eLenO, eSl, eRev, eB, eCall, eCallG, eMeth, aN, aC, aV, oNo, oPt, eIsO, oSrtI, oSrtT, oLt, oLe, oReprB, oInI, gN3, eCh, oGt, oGe, oI, oIC, oI1, oAdd, oMul, oEq, oIsN, oIx, oLen, oList, oTuple, oAbs, oMin2, oInt1, fLst, fListRg1, fList, fRep, fCat, tYs, tru, isS, dats, seqD, seqO, tyS, List.set, List.getElem?_cons_zero, List.getElem?_cons_succ, List.append_eq, List.nil_append, List.cons_append, Option.map_some, Option.bind_some, ng, wipeD, List.length_cons, List.length_nil, Nat.reduceAdd, Nat.reduceSub, List.replicate_succ, List.replicate_zero]; try simp only [decide_eq_true_eq, Bool.not_eq_true', decide_eq_false_iff_not, Bool.false_eq_true, if_false, if_true, reduceIte, String.reduceBEq, Bool.true_or, Bool.false_or, Bool.or_false, Bool.and_false, Bool.false_and, Bool.and_true, Bool.true_and, Bool.not_true, Bool.not_false, ne_eq, not_true_eq_false, reduceCtorEq, Bool.true_eq_false, decide_true, decide_false])
  refine ⟨_, rfl, lotN_small ha (by decide), ?_⟩
  (try dsimp only [gN, gN2, sNil, sSeq, sExp, sRet, sIf, sPass, sCont, sBrk, sSet, sSetO, sApp, sAppF, sApPop, flatD, sFrz, sAug, sRaise, sAsg, sPut, eV, eC, e1, e2, t2, tBl, tTru, tN, tAn, tOo, tCh, eNot, eAn, eOo, eIf, eTup, eLst, eF, eFld, eIs, eIxO, eLenO, eSl, eRev, eB, eCall, eCallG, eMeth, aN, aC, aV, oNo, oPt, eIsO, oSrtI, oSrtT, oLt, oLe, oReprB, oInI, gN3, eCh, oGt, oGe, oI, oIC, oI1, oAdd, oMul, oEq, oIsN, oIx, oLen, oList, oTuple, oAbs, oMin2, oInt1, fLst, fListRg1, fList, fRep, fCat, tYs, tru, isS, dats, seqD, seqO, tyS, List.set, List.getElem?_cons_zero, List.getElem?_cons_succ, List.append_eq, List.nil_append, List.cons_append, Option.map_some, Option.bind_some, ng, wipeD, List.length_cons, List.length_nil, Nat.reduceAdd, Nat.reduceSub, List.replicate_succ, List.replicate_zero]; try simp only [decide_eq_true_eq, Bool.not_eq_true', decide_eq_false_iff_not, Bool.false_eq_true, if_false, if_true, reduceIte, String.reduceBEq, Bool.true_or, Bool.false_or, Bool.or_false, Bool.and_false, Bool.false_and, Bool.and_true, Bool.true_and, Bool.not_true, Bool.not_false, ne_eq, not_true_eq_false, reduceCtorEq, Bool.true_eq_false, decide_true, decide_false])
  refine ⟨_, rfl, lotN_small hb (by decide), ?_⟩
  (try dsimp only [gN, gN2, sNil, sSeq, sExp, sRet, sIf, sPass, sCont, sBrk, sSet, sSetO, sApp, sAppF, sApPop, flatD, sFrz, sAug, sRaise, sAsg, sPut, eV, eC, e1, e2, t2, tBl, tTru, tN, tAn, tOo, tCh, eNot, eAn, eOo, eIf, eTup, eLst, eF, eFld, eIs, eIxO, eLenO, eSl, eRev, eB, eCall, eCallG, eMeth, aN, aC, aV, oNo, oPt, eIsO, oSrtI, oSrtT, oLt, oLe, oReprB, oInI, gN3, eCh, oGt, oGe, oI, oIC, oI1, oAdd, oMul, oEq, oIsN, oIx, oLen, oList, oTuple, oAbs, oMin2, oInt1, fLst, fListRg1, fList, fRep, fCat, tYs, tru, isS, dats, seqD, seqO, tyS, List.set, List.getElem?_cons_zero, List.getElem?_cons_succ, List.append_eq, List.nil_append, List.cons_append, Option.map_some, Option.bind_some, ng, wipeD, List.length_cons, List.length_nil, Nat.reduceAdd, Nat.reduceSub, List.replicate_succ, List.replicate_zero]; try simp only [decide_eq_true_eq, Bool.not_eq_true', decide_eq_false_iff_not, Bool.false_eq_true, if_false, if_true, reduceIte, String.reduceBEq, Bool.true_or, Bool.false_or, Bool.or_false, Bool.and_false, Bool.false_and, Bool.and_true, Bool.true_and, Bool.not_true, Bool.not_false, ne_eq, not_true_eq_false, reduceCtorEq, Bool.true_eq_false, decide_true, decide_false])
  rw [maskN_lotN, maskN_lotN, bitXor_nat]
  exact ⟨_, rfl, Nat.lt_of_lt_of_le (Nat.xor_lt_two_pow ha hb) (pow_le (by decide)), q⟩
theorem lotN_len {r n : Nat} (h : r < 2 ^ n) : (lotN r).length ≤ n := by
  rw [lotN_eq h]
  unfold lotB
  exact Nat.le_trans (List.length_filter_le ..) (by rw [List.length_range]; exact Nat.le_refl _)
theorem intsD_nat (l : List Nat) : intsD (natX l) = some (l.map fun p : Nat => (p : Int)) := by
  have := ints_of (l.map fun p : Nat => (p : Int))
  rw [List.map_map] at this
  exact this
theorem mem_intsN {p : Nat} {l : List Nat} : ((p : Int) ∈ l.map fun p : Nat => (p : Int)) ↔ p ∈ l := by
  constructor
  · intro h
    obtain ⟨q, hq, e⟩ := List.mem_map.mp h
    cases Int.ofNat.inj e
    exact hq
  · exact fun h => List.mem_map.mpr ⟨p, h, rfl⟩
theorem sem_common : ∀ as Qd Xd, d_common as Qd Xd → as.length = ["one", "other"].length ∧ r_common { nx := fun _ => Qd .non, rt := Qd } (as ++ List.replicate (["one", "other", "wire"].length - as.length) .un) (fun _ => Xd) := by
  rintro as Qd Xd ⟨a, b, rfl, ha, hb, q⟩
  refine ⟨rfl, ?_⟩
  unfold r_common
  (try dsimp only [gN, gN2, sNil, sSeq, sExp, sRet, sIf, sPass, sCont, sBrk, sSet, sSetO, sApp, sAppF, sApPop, flatD, sFrz, sAug, sRaise, sAsg, sPut, eV, eC, e1, e2, t2, tBl, tTru, tN, tAn, tOo, tCh, eNot, eAn, eOo, eIf, eTup, eLst, eF, eFld, eIs, eIxO, eLenO, eSl, eRev, eB, eCall, eCallG, eMeth, aN, aC, aV, oNo, oPt, eIsO, oSrtI, oSrtT, oLt, oLe, oReprB, oInI, gN3, eCh, oGt, oGe, oI, oIC, oI1, oAdd, oMul, oEq, oIsN, oIx, oLen, oList, oTuple, oAbs, oMin2, oInt1, fLst, fListRg1, fList, fRep, fCat, tYs, tru, isS, dats, seqD, seqO, tyS, List.set, List.getElem?_cons_zero, List.getElem?_cons_succ, List.append_eq, List.nil_append, List.cons_append, Option.map_some, Option.bind_some, ng, wipeD, List.length_cons, List.length_nil, Nat.reduceAdd, Nat.reduceSub, List.replicate_succ, List.replicate_zero]; try simp only [decide_eq_true_eq, Bool.not_eq_true', decide_eq_false_iff_not, Bool.false_eq_true, if_false, if_true, reduceIte, String.reduceBEq, Bool.true_or, Bool.false_or, Bool.or_false, Bool.and_false, Bool.false_and, Bool.and_true, Bool.true_and, Bool.not_true, Bool.not_false, ne_eq, not_true_eq_false, reduceCtorEq, Bool.true_eq_false, decide_true, decide_false])
  have hl := lotN_len ha
  refine lcFiltN (lotN a) (fun p => decide (p ∈ lotN b)) (fun R h => h) (by omega) (fun r hr Q' q => ?_) (fun r hr e Q' q => ?_) ?_
  · unfold lotX
    (try dsimp only [gN, gN2, sNil, sSeq, sExp, sRet, sIf, sPass, sCont, sBrk, sSet, sSetO, sApp, sAppF, sApPop, flatD, sFrz, sAug, sRaise, sAsg, sPut, eV, eC, e1, e2, t2, tBl, tTru, tN, tAn, tOo, tCh, eNot, eAn, eOo, eIf, eTup, eLst, eF, eFld, eIs, eIxO, eLenO, eSl, eRev, eB, eCall, eCallG, eMeth, aN, aC, aV, oNo, oPt, eIsO, oSrtI, oSrtT, oLt, oLe, oReprB, oInI, gN3, eCh, oGt, oGe, oI, oIC, oI1, oAdd, oMul, oEq, oIsN, oIx, oLen, oList, oTuple, oAbs, oMin2, oInt1, fLst, fListRg1, fList, fRep, fCat, tYs, tru, isS, dats, seqD, seqO, tyS, List.set, List.getElem?_cons_zero, List.getElem?_cons_succ, List.append_eq, List.nil_append, List.cons_append, Option.map_some, Option.bind_some, ng, wipeD, List.length_cons, List.length_nil, Nat.reduceAdd, Nat.reduceSub, List.replicate_succ, List.replicate_zero]; try simp only [decide_eq_true_eq, Bool.not_eq_true', decide_eq_false_iff_not, Bool.false_eq_true, if_false, if_true, reduceIte, String.reduceBEq, Bool.true_or, Bool.false_or, Bool.or_false, Bool.and_false, Bool.false_and, Bool.and_true, Bool.true_and, Bool.not_true, Bool.not_false, ne_eq, not_true_eq_false, reduceCtorEq, Bool.true_eq_false, decide_true, decide_false])
    refine ⟨_, intsD_nat _, ?_⟩
    rw [show decide ((r : Int) ∈ (lotN b).map fun p : Nat => (p : Int)) = decide (r ∈ lotN b) from decide_eq_decide.mpr mem_intsN]
    exact q
  · (try dsimp only [gN, gN2, sNil, sSeq, sExp, sRet, sIf, sPass, sCont, sBrk, sSet, sSetO, sApp, sAppF, sApPop, flatD, sFrz, sAug, sRaise, sAsg, sPut, eV, eC, e1, e2, t2, tBl, tTru, tN, tAn, tOo, tCh, eNot, eAn, eOo, eIf, eTup, eLst, eF, eFld, eIs, eIxO, eLenO, eSl, eRev, eB, eCall, eCallG, eMeth, aN, aC, aV, oNo, oPt, eIsO, oSrtI, oSrtT, oLt, oLe, oReprB, oInI, gN3, eCh, oGt, oGe, oI, oIC, oI1, oAdd, oMul, oEq, oIsN, oIx, oLen, oList, oTuple, oAbs, oMin2, oInt1, fLst, fListRg1, fList, fRep, fCat, tYs, tru, isS, dats, seqD, seqO, tyS, List.set, List.getElem?_cons_zero, List.getElem?_cons_succ, List.append_eq, List.nil_append, List.cons_append, Option.map_some, Option.bind_some, ng, wipeD, List.length_cons, List.length_nil, Nat.reduceAdd, Nat.reduceSub, List.replicate_succ, List.replicate_zero]; try simp only [decide_eq_true_eq, Bool.not_eq_true', decide_eq_false_iff_not, Bool.false_eq_true, if_false, if_true, reduceIte, String.reduceBEq, Bool.true_or, Bool.false_or, Bool.or_false, Bool.and_false, Bool.false_and, Bool.and_true, Bool.true_and, Bool.not_true, Bool.not_false, ne_eq, not_true_eq_false, reduceCtorEq, Bool.true_eq_false, decide_true, decide_false])
    exact q
  · (try dsimp only [gN, gN2, sNil, sSeq, sExp, sRet, sIf, sPass, sCont, sBrk, sSet, sSetO, sApp, sAppF, sApPop, flatD, sFrz, sAug, sRaise, sAsg, sPut, eV, eC, e1, e2, t2, tBl, tTru, tN, tAn, tOo, tCh, eNot, eAn, eOo, eIf, eTup, eLst, eF, eFld, eIs, eIxO, eLenO, eSl, eRev, eB, eCall, eCallG, eMeth, aN, aC, aV, oNo, oPt, eIsO, oSrtI, oSrtT, oLt, oLe, oReprB, oInI, gN3, eCh, oGt, oGe, oI, oIC, oI1, oAdd, oMul, oEq, oIsN, oIx, oLen, oList, oTuple, oAbs, oMin2, oInt1, fLst, fListRg1, fList, fRep, fCat, tYs, tru, isS, dats, seqD, seqO, tyS, List.set, List.getElem?_cons_zero, List.getElem?_cons_succ, List.append_eq, List.nil_append, List.cons_append, Option.map_some, Option.bind_some, ng, wipeD, List.length_cons, List.length_nil, Nat.reduceAdd, Nat.reduceSub, List.replicate_succ, List.replicate_zero]; try simp only [decide_eq_true_eq, Bool.not_eq_true', decide_eq_false_iff_not, Bool.false_eq_true, if_false, if_true, reduceIte, String.reduceBEq, Bool.true_or, Bool.false_or, Bool.or_false, Bool.and_false, Bool.false_and, Bool.and_true, Bool.true_and, Bool.not_true, Bool.not_false, ne_eq, not_true_eq_false, reduceCtorEq, Bool.true_eq_false, decide_true, decide_false])
    rw [natX_len, ← pop_and (lotN_asc a), maskN_lotN, maskN_lotN]
    exact q
/-! ### looks -/
theorem bit_inv {d : D} (h : isBitX d = true) : ∃ s : Nat, s < 2 ∧ d = .int (s : Int) := by
  cases d with
  | int i =>
    have h : decide (0 ≤ i ∧ i ≤ 1) = true := h
    have h := of_decide_eq_true h
    obtain ⟨s, rfl⟩ := Int.eq_ofNat_of_zero_le h.1
    exact ⟨s, by omega, rfl⟩
  | _ => cases h
theorem look_inv {d : D} (h : isLookX 10 d = true) : ∃ s f t : Nat, s < 2 ∧ f < 2 ^ 10 ∧ t < 2 ^ 10 ∧ d = lookX s f t := by
  unfold isLookX at h
  split at h
  · rename_i x y z
    rw [Bool.and_eq_true, Bool.and_eq_true] at h
    obtain ⟨s, hs, rfl⟩ := bit_inv h.1
    obtain ⟨f, hf, rfl⟩ := is_lot_inv (n := 10) h.2.1
    obtain ⟨t, ht, rfl⟩ := is_lot_inv (n := 10) h.2.2
    exact ⟨s, f, t, hs, hf, ht, rfl⟩
  · cases h
theorem look_is {s f t n : Nat} (hs : s < 2) (hf : f < 2 ^ n) (ht : t < 2 ^ n) : isLookX n (lookX s f t) = true := by
  show (decide ((0 : Int) ≤ (s : Int) ∧ (s : Int) ≤ 1) && (isLotX n (lotX (lotN f)) && isLotX n (lotX (lotN t)))) = true
  rw [lot_is hf, lot_is ht, decide_eq_true (by omega)]; rfl
theorem sem_is_pair : ∀ as Qd Xd, d_is_pair as Qd Xd → as.length = ["value", "wires"].length ∧ r_is_pair { nx := fun _ => Qd .non, rt := Qd } (as ++ List.replicate (["value", "wires"].length - as.length) .un) (fun _ => Xd) := by
  rintro as Qd Xd ⟨d, n, rfl, hd, hn, q⟩
  refine ⟨rfl, ?_⟩
  unfold r_is_pair
  (try dsimp only [gN, gN2, sNil, sSeq, sExp, sRet, sIf, sPass, sCont, sBrk, sSet, sSetO, sApp, sAppF, sApPop, flatD, sFrz, sAug, sRaise, sAsg, sPut, eV, eC, e1, e2, t2, tBl, tTru, tN, tAn, tOo, tCh, eNot, eAn, eOo, eIf, eTup, eLst, eF, eFld, eIs, eIxO, eLenO, eSl, eRev, eB, eCall, eCallG, eMeth, aN, aC, aV, oNo, oPt, eIsO, oSrtI, oSrtT, oLt, oLe, oReprB, oInI, gN3, eCh, oGt, oGe, oI, oIC, oI1, oAdd, oMul, oEq, oIsN, oIx, oLen, oList, oTuple, oAbs, oMin2, oInt1, fLst, fListRg1, fList, fRep, fCat, tYs, tru, isS, dats, seqD, seqO, tyS, List.set, List.getElem?_cons_zero, List.getElem?_cons_succ, List.append_eq, List.nil_append, List.cons_append, Option.map_some, Option.bind_some, ng, wipeD, List.length_cons, List.length_nil, Nat.reduceAdd, Nat.reduceSub, List.replicate_succ, List.replicate_zero]; try simp only [decide_eq_true_eq, Bool.not_eq_true', decide_eq_false_iff_not, Bool.false_eq_true, if_false, if_true, reduceIte, String.reduceBEq, Bool.true_or, Bool.false_or, Bool.or_false, Bool.and_false, Bool.false_and, Bool.and_true, Bool.true_and, Bool.not_true, Bool.not_false, ne_eq, not_true_eq_false, reduceCtorEq, Bool.true_eq_false, decide_true, decide_false])
  cases d with
  | tup xs =>
    (try dsimp only [gN, gN2, sNil, sSeq, sExp, sRet, sIf, sPass, sCont, sBrk, sSet, sSetO, sApp, sAppF, sApPop, flatD, sFrz, sAug, sRaise, sAsg, sPut, eV, eC, e1, e2, t2, tBl, tTru, tN, tAn, tOo, tCh, eNot, eAn, eOo, eIf, eTup, eLst, eF, eFld, eIs, eIxO, eLenO, eSl, eRev, eB, eCall, eCallG, eMeth, aN, aC, aV, oNo, oPt, eIsO, oSrtI, oSrtT, oLt, oLe, oReprB, oInI, gN3, eCh, oGt, oGe, oI, oIC, oI1, oAdd, oMul, oEq, oIsN, oIx, oLen, oList, oTuple, oAbs, oMin2, oInt1, fLst, fListRg1, fList, fRep, fCat, tYs, tru, isS, dats, seqD, seqO, tyS, List.set, List.getElem?_cons_zero, List.getElem?_cons_succ, List.append_eq, List.nil_append, List.cons_append, Option.map_some, Option.bind_some, ng, wipeD, List.length_cons, List.length_nil, Nat.reduceAdd, Nat.reduceSub, List.replicate_succ, List.replicate_zero]; try simp only [decide_eq_true_eq, Bool.not_eq_true', decide_eq_false_iff_not, Bool.false_eq_true, if_false, if_true, reduceIte, String.reduceBEq, Bool.true_or, Bool.false_or, Bool.or_false, Bool.and_false, Bool.false_and, Bool.and_true, Bool.true_and, Bool.not_true, Bool.not_false, ne_eq, not_true_eq_false, reduceCtorEq, Bool.true_eq_false, decide_true, decide_false])
    by_cases h3 : (xs.length : Int) = 2
    · rw [if_neg (by rw [h3]; decide)]
      match xs, h3 with
      | [y, z], _ =>
        (try dsimp only [gN, gN2, sNil, sSeq, sExp, sRet, sIf, sPass, sCont, sBrk, sSet, sSetO, sApp, sAppF, sApPop, flatD, sFrz, sAug, sRaise, sAsg, sPut, eV, eC, e1, e2, t2, tBl, tTru, tN, tAn, tOo, tCh, eNot, eAn, eOo, eIf, eTup, eLst, eF, eFld, eIs, eIxO, eLenO, eSl, eRev, eB, eCall, eCallG, eMeth, aN, aC, aV, oNo, oPt, eIsO, oSrtI, oSrtT, oLt, oLe, oReprB, oInI, gN3, eCh, oGt, oGe, oI, oIC, oI1, oAdd, oMul, oEq, oIsN, oIx, oLen, oList, oTuple, oAbs, oMin2, oInt1, fLst, fListRg1, fList, fRep, fCat, tYs, tru, isS, dats, seqD, seqO, tyS, List.set, List.getElem?_cons_zero, List.getElem?_cons_succ, List.append_eq, List.nil_append, List.cons_append, Option.map_some, Option.bind_some, ng, wipeD, List.length_cons, List.length_nil, Nat.reduceAdd, Nat.reduceSub, List.replicate_succ, List.replicate_zero]; try simp only [decide_eq_true_eq, Bool.not_eq_true', decide_eq_false_iff_not, Bool.false_eq_true, if_false, if_true, reduceIte, String.reduceBEq, Bool.true_or, Bool.false_or, Bool.or_false, Bool.and_false, Bool.false_and, Bool.and_true, Bool.true_and, Bool.not_true, Bool.not_false, ne_eq, not_true_eq_false, reduceCtorEq, Bool.true_eq_false, decide_true, decide_false])
        have hd : (noO y && (noO z && true)) = true := hd
        simp only [Bool.and_eq_true, and_true] at hd
        have q : Qd (.bl (isLotX n y && isLotX n z)) := q
        refine ⟨y, n, rfl, hd.1, hn, ?_⟩
        cases h : isLotX n y with
        | false => rw [h] at q; exact q
        | true =>
          rw [h, Bool.true_and] at q
          (try dsimp only [gN, gN2, sNil, sSeq, sExp, sRet, sIf, sPass, sCont, sBrk, sSet, sSetO, sApp, sAppF, sApPop, flatD, sFrz, sAug, sRaise, sAsg, sPut, eV, eC, e1, e2, t2, tBl, tTru, tN, tAn, tOo, tCh, eNot, eAn, eOo, eIf, eTup, eLst, eF, eFld, eIs, eIxO, eLenO, eSl, eRev, eB, eCall, eCallG, eMeth, aN, aC, aV, oNo, oPt, eIsO, oSrtI, oSrtT, oLt, oLe, oReprB, oInI, gN3, eCh, oGt, oGe, oI, oIC, oI1, oAdd, oMul, oEq, oIsN, oIx, oLen, oList, oTuple, oAbs, oMin2, oInt1, fLst, fListRg1, fList, fRep, fCat, tYs, tru, isS, dats, seqD, seqO, tyS, List.set, List.getElem?_cons_zero, List.getElem?_cons_succ, List.append_eq, List.nil_append, List.cons_append, Option.map_some, Option.bind_some, ng, wipeD, List.length_cons, List.length_nil, Nat.reduceAdd, Nat.reduceSub, List.replicate_succ, List.replicate_zero]; try simp only [decide_eq_true_eq, Bool.not_eq_true', decide_eq_false_iff_not, Bool.false_eq_true, if_false, if_true, reduceIte, String.reduceBEq, Bool.true_or, Bool.false_or, Bool.or_false, Bool.and_false, Bool.false_and, Bool.and_true, Bool.true_and, Bool.not_true, Bool.not_false, ne_eq, not_true_eq_false, reduceCtorEq, Bool.true_eq_false, decide_true, decide_false])
          exact ⟨z, n, rfl, hd.2, hn, q⟩
    · rw [if_pos (by simpa using h3)]
      have e : isPairX n (.tup xs) = false := by
        unfold isPairX
        split
        · rename_i h; cases h; exact absurd rfl h3
        · rfl
      rw [e] at q; exact q
  | obj => simp [noO] at hd
  | _ => exact q
theorem sem_is_look : ∀ as Qd Xd, d_is_look as Qd Xd → as.length = ["value", "wires"].length ∧ r_is_look { nx := fun _ => Qd .non, rt := Qd } (as ++ List.replicate (["value", "wires"].length - as.length) .un) (fun _ => Xd) := by
  rintro as Qd Xd ⟨d, w, rfl, hd, hw, k1, k2⟩
  refine ⟨rfl, ?_⟩
  unfold r_is_look
  (try dsimp only [gN, gN2, sNil, sSeq, sExp, sRet, sIf, sPass, sCont, sBrk, sSet, sSetO, sApp, sAppF, sApPop, flatD, sFrz, sAug, sRaise, sAsg, sPut, eV, eC, e1, e2, t2, tBl, tTru, tN, tAn, tOo, tCh, eNot, eAn, eOo, eIf, eTup, eLst, eF, eFld, eIs, eIxO, eLenO, eSl, eRev, eB, eCall, eCallG, eMeth, aN, aC, aV, oNo, oPt, eIsO, oSrtI, oSrtT, oLt, oLe, oReprB, oInI, gN3, eCh, oGt, oGe, oI, oIC, oI1, oAdd, oMul, oEq, oIsN, oIx, oLen, oList, oTuple, oAbs, oMin2, oInt1, fLst, fListRg1, fList, fRep, fCat, tYs, tru, isS, dats, seqD, seqO, tyS, List.set, List.getElem?_cons_zero, List.getElem?_cons_succ, List.append_eq, List.nil_append, List.cons_append, Option.map_some, Option.bind_some, ng, wipeD, List.length_cons, List.length_nil, Nat.reduceAdd, Nat.reduceSub, List.replicate_succ, List.replicate_zero]; try simp only [decide_eq_true_eq, Bool.not_eq_true', decide_eq_false_iff_not, Bool.false_eq_true, if_false, if_true, reduceIte, String.reduceBEq, Bool.true_or, Bool.false_or, Bool.or_false, Bool.and_false, Bool.false_and, Bool.and_true, Bool.true_and, Bool.not_true, Bool.not_false, ne_eq, not_true_eq_false, reduceCtorEq, Bool.true_eq_false, decide_true, decide_false])
  refine ⟨w, rfl, hw, k1, fun e => ?_⟩
  have key : ∃ n : Nat, w = .int (n : Int) ∧ 1 ≤ n ∧ n ≤ 10 := by
    cases w with
    | int i =>
      have h := of_decide_eq_true (show decide (1 ≤ i ∧ i ≤ 10) = true from e)
      obtain ⟨n, rfl⟩ := Int.eq_ofNat_of_zero_le (show 0 ≤ i by omega)
      exact ⟨n, rfl, by omega, by omega⟩
    | _ => cases e
  obtain ⟨n, rfl, n1, n10⟩ := key
  have q := k2 n rfl n1 n10
  cases d with
  | tup xs =>
    (try dsimp only [gN, gN2, sNil, sSeq, sExp, sRet, sIf, sPass, sCont, sBrk, sSet, sSetO, sApp, sAppF, sApPop, flatD, sFrz, sAug, sRaise, sAsg, sPut, eV, eC, e1, e2, t2, tBl, tTru, tN, tAn, tOo, tCh, eNot, eAn, eOo, eIf, eTup, eLst, eF, eFld, eIs, eIxO, eLenO, eSl, eRev, eB, eCall, eCallG, eMeth, aN, aC, aV, oNo, oPt, eIsO, oSrtI, oSrtT, oLt, oLe, oReprB, oInI, gN3, eCh, oGt, oGe, oI, oIC, oI1, oAdd, oMul, oEq, oIsN, oIx, oLen, oList, oTuple, oAbs, oMin2, oInt1, fLst, fListRg1, fList, fRep, fCat, tYs, tru, isS, dats, seqD, seqO, tyS, List.set, List.getElem?_cons_zero, List.getElem?_cons_succ, List.append_eq, List.nil_append, List.cons_append, Option.map_some, Option.bind_some, ng, wipeD, List.length_cons, List.length_nil, Nat.reduceAdd, Nat.reduceSub, List.replicate_succ, List.replicate_zero]; try simp only [decide_eq_true_eq, Bool.not_eq_true', decide_eq_false_iff_not, Bool.false_eq_true, if_false, if_true, reduceIte, String.reduceBEq, Bool.true_or, Bool.false_or, Bool.or_false, Bool.and_false, Bool.false_and, Bool.and_true, Bool.true_and, Bool.not_true, Bool.not_false, ne_eq, not_true_eq_false, reduceCtorEq, Bool.true_eq_false, decide_true, decide_false])
    by_cases h3 : (xs.length : Int) = 3
    · rw [if_neg (by rw [h3]; decide)]
      match xs, h3 with
      | [x, y, z], _ =>
        (try dsimp only [gN, gN2, sNil, sSeq, sExp, sRet, sIf, sPass, sCont, sBrk, sSet, sSetO, sApp, sAppF, sApPop, flatD, sFrz, sAug, sRaise, sAsg, sPut, eV, eC, e1, e2, t2, tBl, tTru, tN, tAn, tOo, tCh, eNot, eAn, eOo, eIf, eTup, eLst, eF, eFld, eIs, eIxO, eLenO, eSl, eRev, eB, eCall, eCallG, eMeth, aN, aC, aV, oNo, oPt, eIsO, oSrtI, oSrtT, oLt, oLe, oReprB, oInI, gN3, eCh, oGt, oGe, oI, oIC, oI1, oAdd, oMul, oEq, oIsN, oIx, oLen, oList, oTuple, oAbs, oMin2, oInt1, fLst, fListRg1, fList, fRep, fCat, tYs, tru, isS, dats, seqD, seqO, tyS, List.set, List.getElem?_cons_zero, List.getElem?_cons_succ, List.append_eq, List.nil_append, List.cons_append, Option.map_some, Option.bind_some, ng, wipeD, List.length_cons, List.length_nil, Nat.reduceAdd, Nat.reduceSub, List.replicate_succ, List.replicate_zero]; try simp only [decide_eq_true_eq, Bool.not_eq_true', decide_eq_false_iff_not, Bool.false_eq_true, if_false, if_true, reduceIte, String.reduceBEq, Bool.true_or, Bool.false_or, Bool.or_false, Bool.and_false, Bool.false_and, Bool.and_true, Bool.true_and, Bool.not_true, Bool.not_false, ne_eq, not_true_eq_false, reduceCtorEq, Bool.true_eq_false, decide_true, decide_false])
        have hd : (noO x && (noO y && (noO z && true))) = true := hd
        simp only [Bool.and_eq_true, and_true] at hd
        refine ⟨x, rfl, hd.1, ?_⟩
        have q : Qd (.bl (isBitX x && (isLotX n y && isLotX n z))) := q
        cases h : isBitX x with
        | false => rw [h] at q; exact q
        | true =>
          rw [h, Bool.true_and] at q
          (try dsimp only [gN, gN2, sNil, sSeq, sExp, sRet, sIf, sPass, sCont, sBrk, sSet, sSetO, sApp, sAppF, sApPop, flatD, sFrz, sAug, sRaise, sAsg, sPut, eV, eC, e1, e2, t2, tBl, tTru, tN, tAn, tOo, tCh, eNot, eAn, eOo, eIf, eTup, eLst, eF, eFld, eIs, eIxO, eLenO, eSl, eRev, eB, eCall, eCallG, eMeth, aN, aC, aV, oNo, oPt, eIsO, oSrtI, oSrtT, oLt, oLe, oReprB, oInI, gN3, eCh, oGt, oGe, oI, oIC, oI1, oAdd, oMul, oEq, oIsN, oIx, oLen, oList, oTuple, oAbs, oMin2, oInt1, fLst, fListRg1, fList, fRep, fCat, tYs, tru, isS, dats, seqD, seqO, tyS, List.set, List.getElem?_cons_zero, List.getElem?_cons_succ, List.append_eq, List.nil_append, List.cons_append, Option.map_some, Option.bind_some, ng, wipeD, List.length_cons, List.length_nil, Nat.reduceAdd, Nat.reduceSub, List.replicate_succ, List.replicate_zero]; try simp only [decide_eq_true_eq, Bool.not_eq_true', decide_eq_false_iff_not, Bool.false_eq_true, if_false, if_true, reduceIte, String.reduceBEq, Bool.true_or, Bool.false_or, Bool.or_false, Bool.and_false, Bool.false_and, Bool.and_true, Bool.true_and, Bool.not_true, Bool.not_false, ne_eq, not_true_eq_false, reduceCtorEq, Bool.true_eq_false, decide_true, decide_false])
          refine ⟨.tup [y, z], n, rfl, ?_, by omega, q⟩
          simp only [noO, noOs, Bool.and_eq_true, and_true]
          exact hd.2
    · rw [if_pos (by simpa using h3)]
      have e : isLookX n (.tup xs) = false := by
        unfold isLookX
        split
        · rename_i h; cases h; exact absurd rfl h3
        · rfl
      rw [e] at q; exact q
  | obj => simp [noO] at hd
  | _ => exact q
theorem sem_need_look : ∀ as Qd Xd, d_need_look as Qd Xd → as.length = ["value", "wires"].length ∧ r_need_look { nx := fun _ => Qd .non, rt := Qd } (as ++ List.replicate (["value", "wires"].length - as.length) .un) (fun _ => Xd) := by
  rintro as Qd Xd ⟨d, rfl, hd, k1, k2⟩
  refine ⟨rfl, ?_⟩
  unfold r_need_look
  (try dsimp only [gN, gN2, sNil, sSeq, sExp, sRet, sIf, sPass, sCont, sBrk, sSet, sSetO, sApp, sAppF, sApPop, flatD, sFrz, sAug, sRaise, sAsg, sPut, eV, eC, e1, e2, t2, tBl, tTru, tN, tAn, tOo, tCh, eNot, eAn, eOo, eIf, eTup, eLst, eF, eFld, eIs, eIxO, eLenO, eSl, eRev, eB, eCall, eCallG, eMeth, aN, aC, aV, oNo, oPt, eIsO, oSrtI, oSrtT, oLt, oLe, oReprB, oInI, gN3, eCh, oGt, oGe, oI, oIC, oI1, oAdd, oMul, oEq, oIsN, oIx, oLen, oList, oTuple, oAbs, oMin2, oInt1, fLst, fListRg1, fList, fRep, fCat, tYs, tru, isS, dats, seqD, seqO, tyS, List.set, List.getElem?_cons_zero, List.getElem?_cons_succ, List.append_eq, List.nil_append, List.cons_append, Option.map_some, Option.bind_some, ng, wipeD, List.length_cons, List.length_nil, Nat.reduceAdd, Nat.reduceSub, List.replicate_succ, List.replicate_zero]; try simp only [decide_eq_true_eq, Bool.not_eq_true', decide_eq_false_iff_not, Bool.false_eq_true, if_false, if_true, reduceIte, String.reduceBEq, Bool.true_or, Bool.false_or, Bool.or_false, Bool.and_false, Bool.false_and, Bool.and_true, Bool.true_and, Bool.not_true, Bool.not_false, ne_eq, not_true_eq_false, reduceCtorEq, Bool.true_eq_false, decide_true, decide_false])
  refine ⟨d, .int 10, rfl, hd, rfl, fun h => (by cases h), fun n e _ _ => ?_⟩
  have en : n = 10 := by injection e with e; omega
  subst en
  have e10 : isLookX ((10 : Nat) : Int) d = isLookX 10 d := rfl
  rw [e10]
  cases h : isLookX 10 d with
  | true => (try dsimp only [gN, gN2, sNil, sSeq, sExp, sRet, sIf, sPass, sCont, sBrk, sSet, sSetO, sApp, sAppF, sApPop, flatD, sFrz, sAug, sRaise, sAsg, sPut, eV, eC, e1, e2, t2, tBl, tTru, tN, tAn, tOo, tCh, eNot, eAn, eOo, eIf, eTup, eLst, eF, eFld, eIs, eIxO, eLenO, eSl, eRev, eB, eCall, eCallG, eMeth, aN, aC, aV, oNo, oPt, eIsO, oSrtI, oSrtT, oLt, oLe, oReprB, oInI, gN3, eCh, oGt, oGe, oI, oIC, oI1, oAdd, oMul, oEq, oIsN, oIx, oLen, oList, oTuple, oAbs, oMin2, oInt1, fLst, fListRg1, fList, fRep, fCat, tYs, tru, isS, dats, seqD, seqO, tyS, List.set, List.getElem?_cons_zero, List.getElem?_cons_succ, List.append_eq, List.nil_append, List.cons_append, Option.map_some, Option.bind_some, ng, wipeD, List.length_cons, List.length_nil, Nat.reduceAdd, Nat.reduceSub, List.replicate_succ, List.replicate_zero]; try simp only [decide_eq_true_eq, Bool.not_eq_true', decide_eq_false_iff_not, Bool.false_eq_true, if_false, if_true, reduceIte, String.reduceBEq, Bool.true_or, Bool.false_or, Bool.or_false, Bool.and_false, Bool.false_and, Bool.and_true, Bool.true_and, Bool.not_true, Bool.not_false, ne_eq, not_true_eq_false, reduceCtorEq, Bool.true_eq_false, decide_true, decide_false]); exact k2 h
  | false => (try dsimp only [gN, gN2, sNil, sSeq, sExp, sRet, sIf, sPass, sCont, sBrk, sSet, sSetO, sApp, sAppF, sApPop, flatD, sFrz, sAug, sRaise, sAsg, sPut, eV, eC, e1, e2, t2, tBl, tTru, tN, tAn, tOo, tCh, eNot, eAn, eOo, eIf, eTup, eLst, eF, eFld, eIs, eIxO, eLenO, eSl, eRev, eB, eCall, eCallG, eMeth, aN, aC, aV, oNo, oPt, eIsO, oSrtI, oSrtT, oLt, oLe, oReprB, oInI, gN3, eCh, oGt, oGe, oI, oIC, oI1, oAdd, oMul, oEq, oIsN, oIx, oLen, oList, oTuple, oAbs, oMin2, oInt1, fLst, fListRg1, fList, fRep, fCat, tYs, tru, isS, dats, seqD, seqO, tyS, List.set, List.getElem?_cons_zero, List.getElem?_cons_succ, List.append_eq, List.nil_append, List.cons_append, Option.map_some, Option.bind_some, ng, wipeD, List.length_cons, List.length_nil, Nat.reduceAdd, Nat.reduceSub, List.replicate_succ, List.replicate_zero]; try simp only [decide_eq_true_eq, Bool.not_eq_true', decide_eq_false_iff_not, Bool.false_eq_true, if_false, if_true, reduceIte, String.reduceBEq, Bool.true_or, Bool.false_or, Bool.or_false, Bool.and_false, Bool.false_and, Bool.and_true, Bool.true_and, Bool.not_true, Bool.not_false, ne_eq, not_true_eq_false, reduceCtorEq, Bool.true_eq_false, decide_true, decide_false]); exact k1 h
end DL

set_option Elab.async false
set_option linter.all false
set_option maxRecDepth 100000
set_option maxHeartbeats 4000000
set_option exponentiation.threshold 2000
namespace DL
open PySem PySem.Spec PyProof.Rows L2 BT
/-! ### looks together, products -/
theorem at3_0 (a b c : D) : atI [a, b, c] 0 = some a := rfl
theorem at3_1 (a b c : D) : atI [a, b, c] 1 = some b := rfl
theorem at3_2 (a b c : D) : atI [a, b, c] 2 = some c := rfl
theorem p60 {m : Nat} (h : m < 2 ^ 10) : m < 2 ^ 60 := Nat.lt_of_lt_of_le h (pow_le (by decide))
theorem sem_together : ∀ as Qd Xd, d_together as Qd Xd → as.length = ["one", "other"].length ∧ r_together { nx := fun _ => Qd .non, rt := Qd } (as ++ List.replicate (["one", "other"].length - as.length) .un) (fun _ => Xd) := by
  rintro as Qd Xd ⟨d, e, rfl, hd, he, k1, k2, k3⟩
  refine ⟨rfl, ?_⟩
  unfold r_together
  (try dsimp only [gN, gN2, sNil, sSeq, sExp, sRet, sIf, sPass, sCont, sBrk, sSet, sSetO, sApp, sAppF, sApPop, flatD, sFrz, sAug, sRaise, sAsg, sPut, eV, eC, e1, e2, t2, tBl, tTru, tN, tAn, tOo, tCh, eNot, eAn, eOo, eIf, eTup, eLst, eF, eFld, eIs, eIxO, eLenO, eSl, eRev, eB, eCall, eCallG, eMeth, aN, aC, aV, oNo, oPt, eIsO, oSrtI, oSrtT, oLt, oLe, oReprB, oInI, gN3, eCh, oGt, oGe, oI, oIC, oI1, oAdd, oMul, oEq, oIsN, oIx, oLen, oList, oTuple, oAbs, oMin2, oInt1, fLst, fListRg1, fList, fRep, fCat, tYs, tru, isS, dats, seqD, seqO, tyS, List.set, List.getElem?_cons_zero, List.getElem?_cons_succ, List.append_eq, List.nil_append, List.cons_append, Option.map_some, Option.bind_some, ng, wipeD, List.length_cons, List.length_nil, Nat.reduceAdd, Nat.reduceSub, List.replicate_succ, List.replicate_zero]; try simp only [decide_eq_true_eq, Bool.not_eq_true', decide_eq_false_iff_not, Bool.false_eq_true, if_false, if_true, reduceIte, String.reduceBEq, Bool.true_or, Bool.false_or, Bool.or_false, Bool.and_false, Bool.false_and, Bool.and_true, Bool.true_and, Bool.not_true, Bool.not_false, ne_eq, not_true_eq_false, reduceCtorEq, Bool.true_eq_false, decide_true, decide_false])
  refine ⟨d, rfl, hd, k1, fun h1 => ?_⟩
  (try dsimp only [gN, gN2, sNil, sSeq, sExp, sRet, sIf, sPass, sCont, sBrk, sSet, sSetO, sApp, sAppF, sApPop, flatD, sFrz, sAug, sRaise, sAsg, sPut, eV, eC, e1, e2, t2, tBl, tTru, tN, tAn, tOo, tCh, eNot, eAn, eOo, eIf, eTup, eLst, eF, eFld, eIs, eIxO, eLenO, eSl, eRev, eB, eCall, eCallG, eMeth, aN, aC, aV, oNo, oPt, eIsO, oSrtI, oSrtT, oLt, oLe, oReprB, oInI, gN3, eCh, oGt, oGe, oI, oIC, oI1, oAdd, oMul, oEq, oIsN, oIx, oLen, oList, oTuple, oAbs, oMin2, oInt1, fLst, fListRg1, fList, fRep, fCat, tYs, tru, isS, dats, seqD, seqO, tyS, List.set, List.getElem?_cons_zero, List.getElem?_cons_succ, List.append_eq, List.nil_append, List.cons_append, Option.map_some, Option.bind_some, ng, wipeD, List.length_cons, List.length_nil, Nat.reduceAdd, Nat.reduceSub, List.replicate_succ, List.replicate_zero]; try simp only [decide_eq_true_eq, Bool.not_eq_true', decide_eq_false_iff_not, Bool.false_eq_true, if_false, if_true, reduceIte, String.reduceBEq, Bool.true_or, Bool.false_or, Bool.or_false, Bool.and_false, Bool.false_and, Bool.and_true, Bool.true_and, Bool.not_true, Bool.not_false, ne_eq, not_true_eq_false, reduceCtorEq, Bool.true_eq_false, decide_true, decide_false])
  refine ⟨e, rfl, he, k2 h1, fun h2 => ?_⟩
  obtain ⟨s, f, t, hs, hf, ht, rfl⟩ := look_inv h1
  obtain ⟨s', f', t', hs', hf', ht', rfl⟩ := look_inv h2
  have q := k3 s f t s' f' t' rfl rfl hs hf ht hs' hf' ht'
  unfold lookX
  (try dsimp only [gN, gN2, sNil, sSeq, sExp, sRet, sIf, sPass, sCont, sBrk, sSet, sSetO, sApp, sAppF, sApPop, flatD, sFrz, sAug, sRaise, sAsg, sPut, eV, eC, e1, e2, t2, tBl, tTru, tN, tAn, tOo, tCh, eNot, eAn, eOo, eIf, eTup, eLst, eF, eFld, eIs, eIxO, eLenO, eSl, eRev, eB, eCall, eCallG, eMeth, aN, aC, aV, oNo, oPt, eIsO, oSrtI, oSrtT, oLt, oLe, oReprB, oInI, gN3, eCh, oGt, oGe, oI, oIC, oI1, oAdd, oMul, oEq, oIsN, oIx, oLen, oList, oTuple, oAbs, oMin2, oInt1, fLst, fListRg1, fList, fRep, fCat, tYs, tru, isS, dats, seqD, seqO, tyS, List.set, List.getElem?_cons_zero, List.getElem?_cons_succ, List.append_eq, List.nil_append, List.cons_append, Option.map_some, Option.bind_some, ng, wipeD, List.length_cons, List.length_nil, Nat.reduceAdd, Nat.reduceSub, List.replicate_succ, List.replicate_zero]; try simp only [decide_eq_true_eq, Bool.not_eq_true', decide_eq_false_iff_not, Bool.false_eq_true, if_false, if_true, reduceIte, String.reduceBEq, Bool.true_or, Bool.false_or, Bool.or_false, Bool.and_false, Bool.false_and, Bool.and_true, Bool.true_and, Bool.not_true, Bool.not_false, ne_eq, not_true_eq_false, reduceCtorEq, Bool.true_eq_false, decide_true, decide_false])
  rw [at3_1, at3_2]
  dsimp only
  refine ⟨_, _, rfl, p60 hf, p60 ht', ?_⟩
  rw [at3_1, at3_2]
  dsimp only
  refine ⟨_, _, rfl, p60 ht, p60 hf', by decide, ?_⟩
  have e : decide ((((pop (f &&& t') : Nat) : Int) + ((pop (t &&& f') : Nat) : Int)) % 2 = 0) = goF f t f' t' := decide_eq_decide.mpr (by omega)
  dsimp only
  rw [e]
  exact q
theorem sem_times : ∀ as Qd Xd, d_times as Qd Xd → as.length = ["one", "other"].length ∧ r_times { nx := fun _ => Qd .non, rt := Qd } (as ++ List.replicate (["one", "other", "flips", "turns", "quarters"].length - as.length) .un) (fun _ => Xd) := by
  rintro as Qd Xd ⟨d, e, rfl, hd, he, k1, k2, k3⟩
  refine ⟨rfl, ?_⟩
  unfold r_times
  (try dsimp only [gN, gN2, sNil, sSeq, sExp, sRet, sIf, sPass, sCont, sBrk, sSet, sSetO, sApp, sAppF, sApPop, flatD, sFrz, sAug, sRaise, sAsg, sPut, eV, eC, e1, e2, t2, tBl, tTru, tN, tAn, tOo, tCh, eNot, eAn, eOo, eIf, eTup, eLst, eF, eFld, eIs, eIxO, eLenO, eSl, eRev, eB, eCall, eCallG, eMeth, aN, aC, aV, oNo, oPt, eIsO, oSrtI, oSrtT, oLt, oLe, oReprB, oInI, gN3, eCh, oGt, oGe, oI, oIC, oI1, oAdd, oMul, oEq, oIsN, oIx, oLen, oList, oTuple, oAbs, oMin2, oInt1, fLst, fListRg1, fList, fRep, fCat, tYs, tru, isS, dats, seqD, seqO, tyS, List.set, List.getElem?_cons_zero, List.getElem?_cons_succ, List.append_eq, List.nil_append, List.cons_append, Option.map_some, Option.bind_some, ng, wipeD, List.length_cons, List.length_nil, Nat.reduceAdd, Nat.reduceSub, List.replicate_succ, List.replicate_zero]; try simp only [decide_eq_true_eq, Bool.not_eq_true', decide_eq_false_iff_not, Bool.false_eq_true, if_false, if_true, reduceIte, String.reduceBEq, Bool.true_or, Bool.false_or, Bool.or_false, Bool.and_false, Bool.false_and, Bool.and_true, Bool.true_and, Bool.not_true, Bool.not_false, ne_eq, not_true_eq_false, reduceCtorEq, Bool.true_eq_false, decide_true, decide_false])
  refine ⟨d, e, rfl, hd, he, k1, k2, fun s f t s' f' t' e1 e2 hs hf ht hs' hf' ht' => ?_⟩
  obtain ⟨q1, q2⟩ := k3 s f t s' f' t' e1 e2 hs hf ht hs' hf' ht'
  subst e1 e2
  cases h : goF f t f' t' with
  | false => (try dsimp only [gN, gN2, sNil, sSeq, sExp, sRet, sIf, sPass, sCont, sBrk, sSet, sSetO, sApp, sAppF, sApPop, flatD, sFrz, sAug, sRaise, sAsg, sPut, eV, eC, e1, e2, t2, tBl, tTru, tN, tAn, tOo, tCh, eNot, eAn, eOo, eIf, eTup, eLst, eF, eFld, eIs, eIxO, eLenO, eSl, eRev, eB, eCall, eCallG, eMeth, aN, aC, aV, oNo, oPt, eIsO, oSrtI, oSrtT, oLt, oLe, oReprB, oInI, gN3, eCh, oGt, oGe, oI, oIC, oI1, oAdd, oMul, oEq, oIsN, oIx, oLen, oList, oTuple, oAbs, oMin2, oInt1, fLst, fListRg1, fList, fRep, fCat, tYs, tru, isS, dats, seqD, seqO, tyS, List.set, List.getElem?_cons_zero, List.getElem?_cons_succ, List.append_eq, List.nil_append, List.cons_append, Option.map_some, Option.bind_some, ng, wipeD, List.length_cons, List.length_nil, Nat.reduceAdd, Nat.reduceSub, List.replicate_succ, List.replicate_zero]; try simp only [decide_eq_true_eq, Bool.not_eq_true', decide_eq_false_iff_not, Bool.false_eq_true, if_false, if_true, reduceIte, String.reduceBEq, Bool.true_or, Bool.false_or, Bool.or_false, Bool.and_false, Bool.false_and, Bool.and_true, Bool.true_and, Bool.not_true, Bool.not_false, ne_eq, not_true_eq_false, reduceCtorEq, Bool.true_eq_false, decide_true, decide_false]); exact q1 h
  | true =>
    have q := q2 h
    unfold lookX at q ⊢
    (try dsimp only [gN, gN2, sNil, sSeq, sExp, sRet, sIf, sPass, sCont, sBrk, sSet, sSetO, sApp, sAppF, sApPop, flatD, sFrz, sAug, sRaise, sAsg, sPut, eV, eC, e1, e2, t2, tBl, tTru, tN, tAn, tOo, tCh, eNot, eAn, eOo, eIf, eTup, eLst, eF, eFld, eIs, eIxO, eLenO, eSl, eRev, eB, eCall, eCallG, eMeth, aN, aC, aV, oNo, oPt, eIsO, oSrtI, oSrtT, oLt, oLe, oReprB, oInI, gN3, eCh, oGt, oGe, oI, oIC, oI1, oAdd, oMul, oEq, oIsN, oIx, oLen, oList, oTuple, oAbs, oMin2, oInt1, fLst, fListRg1, fList, fRep, fCat, tYs, tru, isS, dats, seqD, seqO, tyS, List.set, List.getElem?_cons_zero, List.getElem?_cons_succ, List.append_eq, List.nil_append, List.cons_append, Option.map_some, Option.bind_some, ng, wipeD, List.length_cons, List.length_nil, Nat.reduceAdd, Nat.reduceSub, List.replicate_succ, List.replicate_zero]; try simp only [decide_eq_true_eq, Bool.not_eq_true', decide_eq_false_iff_not, Bool.false_eq_true, if_false, if_true, reduceIte, String.reduceBEq, Bool.true_or, Bool.false_or, Bool.or_false, Bool.and_false, Bool.false_and, Bool.and_true, Bool.true_and, Bool.not_true, Bool.not_false, ne_eq, not_true_eq_false, reduceCtorEq, Bool.true_eq_false, decide_true, decide_false])
    rw [at3_1, at3_1]
    dsimp only
    refine ⟨_, _, rfl, p60 hf, p60 hf', ?_⟩
    (try dsimp only [gN, gN2, sNil, sSeq, sExp, sRet, sIf, sPass, sCont, sBrk, sSet, sSetO, sApp, sAppF, sApPop, flatD, sFrz, sAug, sRaise, sAsg, sPut, eV, eC, e1, e2, t2, tBl, tTru, tN, tAn, tOo, tCh, eNot, eAn, eOo, eIf, eTup, eLst, eF, eFld, eIs, eIxO, eLenO, eSl, eRev, eB, eCall, eCallG, eMeth, aN, aC, aV, oNo, oPt, eIsO, oSrtI, oSrtT, oLt, oLe, oReprB, oInI, gN3, eCh, oGt, oGe, oI, oIC, oI1, oAdd, oMul, oEq, oIsN, oIx, oLen, oList, oTuple, oAbs, oMin2, oInt1, fLst, fListRg1, fList, fRep, fCat, tYs, tru, isS, dats, seqD, seqO, tyS, List.set, List.getElem?_cons_zero, List.getElem?_cons_succ, List.append_eq, List.nil_append, List.cons_append, Option.map_some, Option.bind_some, ng, wipeD, List.length_cons, List.length_nil, Nat.reduceAdd, Nat.reduceSub, List.replicate_succ, List.replicate_zero]; try simp only [decide_eq_true_eq, Bool.not_eq_true', decide_eq_false_iff_not, Bool.false_eq_true, if_false, if_true, reduceIte, String.reduceBEq, Bool.true_or, Bool.false_or, Bool.or_false, Bool.and_false, Bool.false_and, Bool.and_true, Bool.true_and, Bool.not_true, Bool.not_false, ne_eq, not_true_eq_false, reduceCtorEq, Bool.true_eq_false, decide_true, decide_false])
    rw [at3_2, at3_2]
    dsimp only
    refine ⟨_, _, rfl, p60 ht, p60 ht', ?_⟩
    (try dsimp only [gN, gN2, sNil, sSeq, sExp, sRet, sIf, sPass, sCont, sBrk, sSet, sSetO, sApp, sAppF, sApPop, flatD, sFrz, sAug, sRaise, sAsg, sPut, eV, eC, e1, e2, t2, tBl, tTru, tN, tAn, tOo, tCh, eNot, eAn, eOo, eIf, eTup, eLst, eF, eFld, eIs, eIxO, eLenO, eSl, eRev, eB, eCall, eCallG, eMeth, aN, aC, aV, oNo, oPt, eIsO, oSrtI, oSrtT, oLt, oLe, oReprB, oInI, gN3, eCh, oGt, oGe, oI, oIC, oI1, oAdd, oMul, oEq, oIsN, oIx, oLen, oList, oTuple, oAbs, oMin2, oInt1, fLst, fListRg1, fList, fRep, fCat, tYs, tru, isS, dats, seqD, seqO, tyS, List.set, List.getElem?_cons_zero, List.getElem?_cons_succ, List.append_eq, List.nil_append, List.cons_append, Option.map_some, Option.bind_some, ng, wipeD, List.length_cons, List.length_nil, Nat.reduceAdd, Nat.reduceSub, List.replicate_succ, List.replicate_zero]; try simp only [decide_eq_true_eq, Bool.not_eq_true', decide_eq_false_iff_not, Bool.false_eq_true, if_false, if_true, reduceIte, String.reduceBEq, Bool.true_or, Bool.false_or, Bool.or_false, Bool.and_false, Bool.false_and, Bool.and_true, Bool.true_and, Bool.not_true, Bool.not_false, ne_eq, not_true_eq_false, reduceCtorEq, Bool.true_eq_false, decide_true, decide_false])
    rw [at3_0, at3_0]
    dsimp only
    refine ⟨.inl (by decide), .inl (by decide), _, _, rfl, p60 hf, p60 ht, ?_⟩
    dsimp only
    refine ⟨_, _, rfl, p60 hf', p60 ht', ?_⟩
    dsimp only
    refine ⟨_, _, rfl, p60 ht, p60 hf', .inl (by decide), ?_⟩
    refine ⟨_, _, rfl, Nat.xor_lt_two_pow (p60 hf) (p60 hf'), Nat.xor_lt_two_pow (p60 ht) (p60 ht'), by decide, ⟨by decide, by decide⟩, ?_⟩
    have e : ((sgF s f t s' f' t' : Nat) : Int) = quF s f t s' f' t' % 4 / 2 := by unfold sgF; omega
    rw [e] at q
    exact q
end DL

set_option Elab.async false
set_option linter.all false
set_option maxRecDepth 100000
set_option maxHeartbeats 4000000
namespace BT
open PySem PySem.Spec PyProof.Rows L2
section
variable {P : Program} {w : World} {K : PySem.W.Frag} {mg : Str → Option Value} {base : Heap}
/-! ### BlindError.__init__ -/
theorem scInit : FnScope ["self", "what"] ["self", "what"] (defScope s_BlindError_init) := ⟨rfl, rfl, rfl, by decide +kernel, rfl, by decide +kernel, by decide +kernel⟩
theorem ok_init {f : Addr} {fd : FuncData} {dvs : List V} {kws : List (Str × V)} (F : FunD K "__init__" "BlindError.__init__" (defArgs s_BlindError_init) (defBody s_BlindError_init) (defScope s_BlindError_init) dvs kws f fd) :
    FnOk P w K mg base CX0 1 f fd ["self", "what"] (spInit K) := by
  refine F.ok scInit (fun vs H Q E h => ?_) (fun cdv A outer s H vs Q E hr h => ?_)
  · obtain ⟨a, C, y, rfl, _⟩ := h
    rfl
  · obtain ⟨a, C, y, rfl, oc, nw, ha, k⟩ := h
    refine ⟨_, PSs.nox (pss_one (ps_ost (pv 0) (pv 1))), ?_⟩
    exact ⟨_, rfl, _, rfl, a, C, rfl, oc, nw, .inl ⟨ha, fun dx hd hne => k dx hd hne⟩⟩
end
end BT

set_option Elab.async false
set_option linter.all false
set_option maxRecDepth 100000
set_option maxHeartbeats 4000000
set_option exponentiation.threshold 2000
namespace DL
open PySem PySem.Spec PyProof.Rows L2 BT
/-! ### products of looks, by quarters -/
theorem pop_xor_add : ∀ (k a b : Nat), a < 2 ^ k → b < 2 ^ k → (pop (a ^^^ b) + 2 * pop (a &&& b)) = pop a + pop b
  | 0, a, b, ha, hb => by
    have : a = 0 := by omega
    have : b = 0 := by omega
    subst a b; rfl
  | k + 1, a, b, ha, hb => by
    rw [pop_step (a ^^^ b), pop_step (a &&& b), pop_step a, pop_step b]
    have ih := pop_xor_add k (a / 2) (b / 2) (by omega) (by omega)
    have e1 : (a ^^^ b) / 2 = a / 2 ^^^ b / 2 := by
      have := Nat.xor_div_two_pow (a := a) (b := b) (n := 1)
      simpa using this
    have e2 : (a &&& b) / 2 = a / 2 &&& b / 2 := by
      have := Nat.and_div_two_pow (a := a) (b := b) (n := 1)
      simpa using this
    have e3 : (a ^^^ b) % 2 = (a % 2 + b % 2) % 2 := by
      have h : (a ^^^ b) % 2 = a % 2 ^^^ b % 2 := by
        have := Nat.xor_mod_two_pow (a := a) (b := b) (n := 1)
        simpa using this
      rw [h]
      rcases Nat.mod_two_eq_zero_or_one a with h1 | h1 <;> rcases Nat.mod_two_eq_zero_or_one b with h2 | h2 <;> rw [h1, h2] <;> rfl
    have e4 : (a &&& b) % 2 = (a % 2) * (b % 2) := by
      have h : (a &&& b) % 2 = a % 2 &&& b % 2 := by
        have := Nat.and_mod_two_pow (a := a) (b := b) (n := 1)
        simpa using this
      rw [h]
      rcases Nat.mod_two_eq_zero_or_one a with h1 | h1 <;> rcases Nat.mod_two_eq_zero_or_one b with h2 | h2 <;> rw [h1, h2] <;> rfl
    rw [e1, e2, e3, e4]
    rcases Nat.mod_two_eq_zero_or_one a with h1 | h1 <;> rcases Nat.mod_two_eq_zero_or_one b with h2 | h2 <;> rw [h1, h2] <;> omega
theorem pop_xor2 (a b : Nat) : pop (a ^^^ b) % 2 = (pop a + pop b) % 2 := by
  have h1 : a < 2 ^ (a + b + 1) := Nat.lt_of_lt_of_le Nat.lt_two_pow_self (pow_le (by omega))
  have h2 : b < 2 ^ (a + b + 1) := Nat.lt_of_lt_of_le Nat.lt_two_pow_self (pow_le (by omega))
  have := pop_xor_add _ a b h1 h2
  omega
theorem pop_andx (x a b : Nat) : pop (x &&& (a ^^^ b)) % 2 = (pop (x &&& a) + pop (x &&& b)) % 2 := by
  rw [Nat.and_xor_distrib_left, pop_xor2]
theorem pop_xand (x a b : Nat) : pop ((a ^^^ b) &&& x) % 2 = (pop (a &&& x) + pop (b &&& x)) % 2 := by
  rw [Nat.and_xor_distrib_right, pop_xor2]
structure Lk where
  s : Nat
  f : Nat
  t : Nat
structure LkOk (a : Lk) : Prop where
  s : a.s < 2
  f : a.f < 2 ^ 10
  t : a.t < 2 ^ 10
def lkD (a : Lk) : D := lookX a.s a.f a.t
def Go (a b : Lk) : Prop := (pop (a.f &&& b.t) + pop (a.t &&& b.f)) % 2 = 0
def mulL (a b : Lk) : Lk := ⟨sgF a.s a.f a.t b.s b.f b.t, a.f ^^^ b.f, a.t ^^^ b.t⟩
def ph (a : Lk) : Nat := (2 * a.s + pop (a.f &&& a.t)) % 4
def one : Lk := ⟨0, 0, 0⟩
def neg (a : Lk) : Lk := ⟨1 - a.s, a.f, a.t⟩
theorem go_iff (a b : Lk) : goF a.f a.t b.f b.t = true ↔ Go a b := by
  unfold goF Go; exact decide_eq_true_iff
theorem Go.symm {a b : Lk} (h : Go a b) : Go b a := by
  unfold Go at *
  rw [Nat.and_comm b.f, Nat.and_comm b.t]; omega
theorem go_self (a : Lk) : Go a a := by unfold Go; rw [Nat.and_comm a.t]; omega
theorem go_one (a : Lk) : Go a one := by unfold Go one; simp [pop_zero]
theorem go_neg {a b : Lk} (h : Go a b) : Go (neg a) b := h
theorem neg_ok {a : Lk} (h : LkOk a) : LkOk (neg a) := ⟨by unfold neg; dsimp only; omega, h.f, h.t⟩
theorem one_ok : LkOk one := ⟨by decide, by decide, by decide⟩
theorem go_mul {a b c : Lk} (h1 : Go a c) (h2 : Go b c) : Go (mulL a b) c := by
  unfold Go mulL at *
  dsimp only
  have e1 := pop_xand c.t a.f b.f
  have e2 := pop_xand c.f a.t b.t
  omega
theorem mul_ok {a b : Lk} (ha : LkOk a) (hb : LkOk b) : LkOk (mulL a b) := by
  refine ⟨?_, Nat.xor_lt_two_pow ha.f hb.f, Nat.xor_lt_two_pow ha.t hb.t⟩
  unfold mulL sgF
  dsimp only
  omega
theorem ph_mul {a b : Lk} (h : Go a b) : ph (mulL a b) = (ph a + ph b + 2 * pop (a.t &&& b.f)) % 4 := by
  have e1 := pop_andx (a.f ^^^ b.f) a.t b.t
  have e2 := pop_xand a.t a.f b.f
  have e3 := pop_xand b.t a.f b.f
  have e4 : pop (b.f &&& a.t) = pop (a.t &&& b.f) := by rw [Nat.and_comm]
  unfold Go at h
  unfold ph mulL sgF quF
  dsimp only
  omega
theorem lk_ext {a b : Lk} (ha : LkOk a) (hb : LkOk b) (hf : a.f = b.f) (ht : a.t = b.t) (hp : ph a = ph b) : a = b := by
  obtain ⟨s, f, t⟩ := a
  obtain ⟨s', f', t'⟩ := b
  dsimp only at hf ht
  subst hf ht
  have h1 := ha.s
  have h2 := hb.s
  unfold ph at hp
  dsimp only at hp h1 h2
  have : s = s' := by omega
  rw [this]
theorem mul_comm {a b : Lk} (ha : LkOk a) (hb : LkOk b) (h : Go a b) : mulL a b = mulL b a := by
  refine lk_ext (mul_ok ha hb) (mul_ok hb ha) (Nat.xor_comm ..) (Nat.xor_comm ..) ?_
  rw [ph_mul h, ph_mul h.symm]
  unfold Go at h
  have : pop (b.t &&& a.f) = pop (a.f &&& b.t) := by rw [Nat.and_comm]
  omega
theorem mul_assoc {a b c : Lk} (ha : LkOk a) (hb : LkOk b) (hc : LkOk c) (h1 : Go a b) (h2 : Go a c) (h3 : Go b c) : mulL (mulL a b) c = mulL a (mulL b c) := by
  refine lk_ext (mul_ok (mul_ok ha hb) hc) (mul_ok ha (mul_ok hb hc)) (Nat.xor_assoc ..) (Nat.xor_assoc ..) ?_
  rw [ph_mul (go_mul h2 h3), ph_mul (go_mul h1.symm h2.symm).symm, ph_mul h1, ph_mul h3]
  have e1 := pop_xand c.f a.t b.t
  have e2 := pop_andx a.t b.f c.f
  have e3 : (mulL a b).t = a.t ^^^ b.t := rfl
  have e4 : (mulL b c).f = b.f ^^^ c.f := rfl
  rw [e3, e4]
  omega
theorem mul_self {a : Lk} (ha : LkOk a) : mulL a a = one := by
  refine lk_ext (mul_ok ha ha) one_ok (Nat.xor_self _) (Nat.xor_self _) ?_
  rw [ph_mul (go_self a)]
  have e : pop (a.t &&& a.f) = pop (a.f &&& a.t) := by rw [Nat.and_comm]
  have e1 : ph one = 0 := rfl
  rw [e, e1]
  unfold ph
  omega
theorem mul_one {a : Lk} (ha : LkOk a) : mulL a one = a := by
  refine lk_ext (mul_ok ha one_ok) ha (Nat.xor_zero _) (Nat.xor_zero _) ?_
  rw [ph_mul (go_one a)]
  have e : pop (a.t &&& one.f) = 0 := by
    show pop (a.t &&& 0) = 0
    rw [Nat.and_zero, pop_zero]
  have e1 : ph one = 0 := rfl
  rw [e, e1]
  unfold ph
  omega
theorem ph_neg {a : Lk} (ha : LkOk a) : ph (neg a) = (ph a + 2) % 4 := by
  have := ha.s
  unfold ph neg
  dsimp only
  omega
theorem mul_neg {a b : Lk} (ha : LkOk a) (hb : LkOk b) (h : Go a b) : mulL (neg a) b = neg (mulL a b) := by
  refine lk_ext (mul_ok (neg_ok ha) hb) (neg_ok (mul_ok ha hb)) rfl rfl ?_
  rw [ph_mul (go_neg h), ph_neg (mul_ok ha hb), ph_mul h, ph_neg ha]
  have e : (neg a).t = a.t := rfl
  rw [e]
  omega
/-! ### looks that move -/
def mv (a : Lk) (x : Nat × Nat) : Nat × Nat := (x.1 ^^^ a.f, (x.2 + (2 * a.s + 2 * pop (a.t &&& x.1) + pop (a.f &&& a.t))) % 4)
theorem mv_ph (a : Lk) (x : Nat × Nat) : mv a x = (x.1 ^^^ a.f, (x.2 + ph a + 2 * pop (a.t &&& x.1)) % 4) := by
  unfold mv ph
  refine Prod.ext rfl ?_
  dsimp only
  omega
theorem mv_mul {a b : Lk} (h : Go a b) (x : Nat × Nat) : mv (mulL a b) x = mv a (mv b x) := by
  rw [mv_ph, mv_ph, mv_ph, ph_mul h]
  have e1 := pop_xand x.1 a.t b.t
  have e2 := pop_andx a.t x.1 b.f
  have e3 : (mulL a b).t = a.t ^^^ b.t := rfl
  have e4 : (mulL a b).f = a.f ^^^ b.f := rfl
  rw [e3, e4]
  refine Prod.ext ?_ ?_
  · dsimp only
    rw [Nat.xor_comm a.f, Nat.xor_assoc]
  · dsimp only
    omega
theorem mv_sign {a b : Lk} (ha : LkOk a) (hb : LkOk b) (hf : a.f = b.f) (ht : a.t = b.t) (x : Nat × Nat) (h : mv a x = mv b x) : a = b := by
  refine lk_ext ha hb hf ht ?_
  rw [mv_ph, mv_ph, ht] at h
  have h2 := (Prod.mk.inj h).2
  have p1 : ph a < 4 := Nat.mod_lt _ (by decide)
  have p2 : ph b < 4 := Nat.mod_lt _ (by decide)
  omega
/-! ### lots and their masks, by sums -/
theorem sum_lotB (m : Nat) : ∀ n : Nat, ((lotB n m).map fun p => 2 ^ p).sum = m % 2 ^ n
  | 0 => by
    have : lotB 0 m = [] := rfl
    rw [this, Nat.pow_zero, Nat.mod_one]; rfl
  | n + 1 => by
    have ih := sum_lotB m n
    rw [lotB_step, Nat.mod_pow_succ]
    have hb := Nat.testBit_eq_decide_div_mod_eq (x := m) (i := n)
    have h2 := Nat.mod_two_eq_zero_or_one (m / 2 ^ n)
    cases h : m.testBit n with
    | true =>
      rw [h] at hb
      have hb := of_decide_eq_true hb.symm
      rw [if_pos rfl, List.map_append, List.sum_append, ih, hb]; simp
    | false =>
      rw [h] at hb
      have hb := of_decide_eq_false hb.symm
      rw [if_neg (by decide), ih, show m / 2 ^ n % 2 = 0 by omega]; simp
theorem sum_lotN (m : Nat) : ((lotN m).map fun p => 2 ^ p).sum = m := by
  show ((lotB (bitsN m) m).map fun p => 2 ^ p).sum = m
  rw [sum_lotB, Nat.mod_eq_of_lt (lt_bitsN m)]
theorem sum_bits (m : Nat) : ∀ n : Nat, ((List.range n).map fun p => m >>> p &&& 1).sum = (lotB n m).length
  | 0 => rfl
  | n + 1 => by
    have ih := sum_bits m n
    rw [List.range_succ, List.map_append, List.sum_append, ih, lotB_step]
    have e := and1_bit m n
    cases h : m.testBit n with
    | true =>
      rw [if_pos rfl, List.length_append]
      show _ + ((m >>> n &&& 1) + 0) = _ + 1
      rw [e.mpr h]
    | false =>
      have h1 : ¬ (m >>> n &&& 1 = 1) := fun q => by rw [e.mp q] at h; cases h
      have h2 : m >>> n &&& 1 ≤ 1 := Nat.and_le_right
      have h0 : m >>> n &&& 1 = 0 := by omega
      rw [if_neg (by decide)]
      show _ + ((m >>> n &&& 1) + 0) = _
      rw [h0]; rfl
theorem ones_pop {m n : Nat} (h : m < 2 ^ n) : ((List.range n).map fun p => m >>> p &&& 1).sum = pop m := by
  rw [sum_bits]
  show _ = (lotN m).length
  rw [lotN_eq h]
end DL

set_option Elab.async false
set_option linter.all false
set_option maxRecDepth 100000
set_option maxHeartbeats 4000000
set_option exponentiation.threshold 2000
namespace DL
open PySem PySem.Spec PyProof.Rows L2 BT
/-! ### what the law's defs promise -/
def cF (c : Nat) : Nat := c &&& 1023
def cT (c : Nat) : Nat := c >>> 10
def goC (c e : Nat) : Bool := goF (cF c) (cT c) (cF e) (cT e)
def pairX (x : Nat × Nat) : D := .tup [.int (x.1 : Int), .int (x.2 : Int)]
def d_law_lot : DSp := fun as Q _ => ∃ m : Nat, as = [.dat (.int (m : Int))] ∧ m < 2 ^ 10 ∧ Q (lotX (lotN m))
def d_law_mask : DSp := fun as Q _ => ∃ m : Nat, as = [.dat (lotX (lotN m))] ∧ m < 2 ^ 10 ∧ Q (.int (m : Int))
def d_law_ones : DSp := fun as Q _ => ∃ m : Nat, as = [.dat (.int (m : Int))] ∧ m < 2 ^ 10 ∧ Q (.int (pop m : Nat))
def d_law_goes : DSp := fun as Q _ => ∃ c e : Nat, as = [.dat (.int (c : Int)), .dat (.int (e : Int))] ∧ c < 2 ^ 20 ∧ e < 2 ^ 20 ∧ Q (.bl (goC c e))
def d_law_shaped : DSp := fun as Q _ => ∃ es : List Nat, as = [.src, .dat (.lst (natX es))] ∧ es.length ≤ 3 ∧ (∀ e ∈ es, e < 2 ^ 20) ∧ ∀ c : Nat, c < 2 ^ 20 → Q (.int (c : Int))
def d_law_suits : DSp := fun as Q _ => ∃ (c : Nat) (es : List Nat), as = [.dat (.int (c : Int)), .dat (.lst (natX es))] ∧ c < 2 ^ 20 ∧ es.length ≤ 3 ∧ (∀ e ∈ es, e < 2 ^ 20) ∧ Q (.bl (es.all (goC c)))
def d_law_fitted : DSp := fun as Q _ => ∃ (c : Nat) (es : List Nat), as = [.dat (.int (c : Int)), .dat (.lst (natX es))] ∧ c < 2 ^ 20 ∧ es.length ≤ 3 ∧ (∀ e ∈ es, e < 2 ^ 20) ∧ ∀ r : Nat, r < 2 ^ 20 → es.all (goC r) = true → Q (.int (r : Int))
def lk3X (a b c : Lk) : D := .lst [lkD a, lkD b, lkD c]
structure Tri (a b c : Lk) : Prop where
  oa : LkOk a
  ob : LkOk b
  oc : LkOk c
  ab : Go a b
  ac : Go a c
  bc : Go b c
def d_law_drawn_looks : DSp := fun as Q _ => as = [.src] ∧ ∀ a b c : Lk, Tri a b c → Q (lk3X a b c)
def d_law_moved : DSp := fun as Q _ => ∃ (a : Lk) (x : Nat × Nat), as = [.dat (lkD a), .dat (pairX x)] ∧ LkOk a ∧ x.1 < 2 ^ 10 ∧ Q (pairX (mv a x))
def d_law_moved_by_all : DSp := fun as Q _ => ∃ (a b c : Lk) (i : Nat), as = [.dat (lk3X a b c), .dat (.int (i : Int))] ∧ LkOk a ∧ LkOk b ∧ LkOk c ∧ i < 2 ^ 10 ∧ Q (pairX (mv a (mv b (mv c (i, 0)))))
def d_law_expected : DSp := fun as Q _ => ∃ a b c : Lk, as = [.dat (lk3X a b c)] ∧ Tri a b c ∧ Q (lkD (mulL (mulL a b) c))
def d_law_orders_hold : DSp := fun as Q _ => ∃ a b c : Lk, as = [.dat (lk3X a b c), .dat (lkD (mulL (mulL a b) c))] ∧ Tri a b c ∧ Q (.bl true)
def d_law_facts_hold : DSp := fun as Q _ => ∃ a b c : Lk, as = [.dat (lk3X a b c), .dat (lkD (mulL (mulL a b) c))] ∧ Tri a b c ∧ Q (.bl true)
end DL

set_option Elab.async false
set_option linter.all false
set_option maxRecDepth 100000
set_option maxHeartbeats 4000000
set_option exponentiation.threshold 2000
namespace DL
open PySem PySem.Spec PyProof.Rows L2 BT
section
variable {P : Program} {w : World} {K : PySem.W.Frag} {mg : Str → Option Value} {base : Heap} {ad : Str → Addr}
/-! ### _law_lot (s_law_lot) -/
def r_law_lot : DS := (sRet (e1 oTuple (eF (fLc (iRg1 (aC (eC (.int 10)) aN)) [1] 1 (t2 (oEq false) (e2 (oI fun i j => .int (Builtin.bitAnd i j)) (e2 (oIC (fun _ j => 0 ≤ j) fun i j => .int (i / 2 ^ j.toNat)) (eV 0) (eV 1)) (eC (.int 1))) (eC (.int 1))) (eV 1)))))
theorem sc_law_lot : FnScope ["_law_mask_here", "_law_place"] ["_law_mask_here"] (defScope s_law_lot) := ⟨rfl, rfl, rfl, by decide +kernel, rfl, by decide +kernel, by decide +kernel⟩
theorem rd_law_lot {f : Addr} (T : Bi mg) : ∀ (cdv : Value) (A : Around) (outer : List Env) (s : Shared) (H : Hp) (E : XK) (Ed : DXt), Room 0 (A.deeper (envOfC "_law_lot" (defScope s_law_lot) s.heap.objs.size f cdv)) → BS (cxOf (L2.CX P w) P w K mg base ["_law_mask_here", "_law_place"] "_law_lot" (defScope s_law_lot) f cdv A outer s H E) ad (fun _ => E) Ed (defBody s_law_lot) r_law_lot := by
    intro cdv A outer s H E Ed hr
    have hu := hr.units
    have hu5 := hr.units5
    have tk : Takes (cxOf (L2.CX P w) P w K mg base ["_law_mask_here", "_law_place"] "_law_lot" (defScope s_law_lot) f cdv A outer s H E) (fun cls d _ H => E cls d H) := takes_of rfl rfl rfl rfl
    have hx : Lets (cxOf (L2.CX P w) P w K mg base ["_law_mask_here", "_law_place"] "_law_lot" (defScope s_law_lot) f cdv A outer s H E) (fun _ => E) := letsP (passes_call tk fun _ _ _ _ h => h)
    exact (bsOne (sdRet (pdTuple rfl T.tuple (PF.pd (pfLc (own := [("_law_place", 1)]) (i := 1) rfl sc_law_lot.nd (idRg1 rfl T.range (adC pdInt adN)) (blkOk_by (N := ["_law_mask_here", "_law_place"]) (sc := defScope s_law_lot) (by decide +kernel)) (fun _ _ _ _ _ => pg_name (i := 1) sc_law_lot.nd rfl (Or.inl rfl)) (fun _ _ _ _ _ => (fd1 (tdEq hu (pdAnd (pdShr (pdv 0 (pv 0)) (pdv 1 (pv 1))) pdInt) pdInt (by first | exact nomark _ | (intros; rfl))))) (fun _ _ _ _ _ => (pdv 1 (pv 1))))))))
/-! ### _law_mask (s_law_mask) -/
def r_law_mask : DS := (sRet (eB oSum (aC (eF (fLc (iSq (eV 0)) [1] 1 tYs (e2 (oIC CPow fun i j => .int (i * 2 ^ j.toNat)) (eC (.int 1)) (eV 1)))) aN)))
theorem sc_law_mask : FnScope ["_law_lot_here", "_law_place"] ["_law_lot_here"] (defScope s_law_mask) := ⟨rfl, rfl, rfl, by decide +kernel, rfl, by decide +kernel, by decide +kernel⟩
theorem rd_law_mask {f : Addr} (T2 : Bi2 mg) : ∀ (cdv : Value) (A : Around) (outer : List Env) (s : Shared) (H : Hp) (E : XK) (Ed : DXt), Room 0 (A.deeper (envOfC "_law_mask" (defScope s_law_mask) s.heap.objs.size f cdv)) → BS (cxOf (L2.CX P w) P w K mg base ["_law_lot_here", "_law_place"] "_law_mask" (defScope s_law_mask) f cdv A outer s H E) ad (fun _ => E) Ed (defBody s_law_mask) r_law_mask := by
    intro cdv A outer s H E Ed hr
    have hu := hr.units
    have hu5 := hr.units5
    have tk : Takes (cxOf (L2.CX P w) P w K mg base ["_law_lot_here", "_law_place"] "_law_mask" (defScope s_law_mask) f cdv A outer s H E) (fun cls d _ H => E cls d H) := takes_of rfl rfl rfl rfl
    have hx : Lets (cxOf (L2.CX P w) P w K mg base ["_law_lot_here", "_law_place"] "_law_mask" (defScope s_law_mask) f cdv A outer s H E) (fun _ => E) := letsP (passes_call tk fun _ _ _ _ h => h)
    exact (bsOne (sdRet (pdSum rfl rfl T2.sum (adC (PF.pd (pfLc (own := [("_law_place", 1)]) (i := 1) rfl sc_law_mask.nd (idSq (pdv 0 (pv 0))) (blkOk_by (N := ["_law_lot_here", "_law_place"]) (sc := defScope s_law_mask) (by decide +kernel)) (fun _ _ _ _ _ => pg_name (i := 1) sc_law_mask.nd rfl (Or.inl rfl)) (fun _ _ _ _ _ => fdN) (fun _ _ _ _ _ => (pdShl pdInt (pdv 1 (pv 1)))))) adN))))
/-! ### _law_ones (s_law_ones) -/
def r_law_ones : DS := (sRet (eB oSum (aC (eF (fLc (iRg1 (aC (eC (.int 10)) aN)) [1] 1 tYs (e2 (oI fun i j => .int (Builtin.bitAnd i j)) (e2 (oIC (fun _ j => 0 ≤ j) fun i j => .int (i / 2 ^ j.toNat)) (eV 0) (eV 1)) (eC (.int 1))))) aN)))
theorem sc_law_ones : FnScope ["_law_mask_here", "_law_place"] ["_law_mask_here"] (defScope s_law_ones) := ⟨rfl, rfl, rfl, by decide +kernel, rfl, by decide +kernel, by decide +kernel⟩
theorem rd_law_ones {f : Addr} (T : Bi mg) (T2 : Bi2 mg) : ∀ (cdv : Value) (A : Around) (outer : List Env) (s : Shared) (H : Hp) (E : XK) (Ed : DXt), Room 0 (A.deeper (envOfC "_law_ones" (defScope s_law_ones) s.heap.objs.size f cdv)) → BS (cxOf (L2.CX P w) P w K mg base ["_law_mask_here", "_law_place"] "_law_ones" (defScope s_law_ones) f cdv A outer s H E) ad (fun _ => E) Ed (defBody s_law_ones) r_law_ones := by
    intro cdv A outer s H E Ed hr
    have hu := hr.units
    have hu5 := hr.units5
    have tk : Takes (cxOf (L2.CX P w) P w K mg base ["_law_mask_here", "_law_place"] "_law_ones" (defScope s_law_ones) f cdv A outer s H E) (fun cls d _ H => E cls d H) := takes_of rfl rfl rfl rfl
    have hx : Lets (cxOf (L2.CX P w) P w K mg base ["_law_mask_here", "_law_place"] "_law_ones" (defScope s_law_ones) f cdv A outer s H E) (fun _ => E) := letsP (passes_call tk fun _ _ _ _ h => h)
    exact (bsOne (sdRet (pdSum rfl rfl T2.sum (adC (PF.pd (pfLc (own := [("_law_place", 1)]) (i := 1) rfl sc_law_ones.nd (idRg1 rfl T.range (adC pdInt adN)) (blkOk_by (N := ["_law_mask_here", "_law_place"]) (sc := defScope s_law_ones) (by decide +kernel)) (fun _ _ _ _ _ => pg_name (i := 1) sc_law_ones.nd rfl (Or.inl rfl)) (fun _ _ _ _ _ => fdN) (fun _ _ _ _ _ => (pdAnd (pdShr (pdv 0 (pv 0)) (pdv 1 (pv 1))) pdInt)))) adN))))
/-! ### _law_goes (s_law_goes) -/
def r_law_goes : DS := (sSeq (sSet 2 (e2 oAdd (eCall d_law_ones (aC (e2 (oI fun i j => .int (Builtin.bitAnd i j)) (e2 (oI fun i j => .int (Builtin.bitAnd i j)) (eV 0) (eC (.int 1023))) (e2 (oIC (fun _ j => 0 ≤ j) fun i j => .int (i / 2 ^ j.toNat)) (eV 1) (eC (.int 10)))) aN)) (eCall d_law_ones (aC (e2 (oI fun i j => .int (Builtin.bitAnd i j)) (e2 (oIC (fun _ j => 0 ≤ j) fun i j => .int (i / 2 ^ j.toNat)) (eV 0) (eC (.int 10))) (e2 (oI fun i j => .int (Builtin.bitAnd i j)) (eV 1) (eC (.int 1023)))) aN))))
  (sRet (e2 (oEq false) (e2 (oI fun i j => .int (Builtin.bitAnd i j)) (eV 2) (eC (.int 1))) (eC (.int 0)))))
theorem sc_law_goes : FnScope ["_law_first", "_law_second", "_law_crossings"] ["_law_first", "_law_second"] (defScope s_law_goes) := ⟨rfl, rfl, rfl, by decide +kernel, rfl, by decide +kernel, by decide +kernel⟩
theorem rd_law_goes {f : Addr} (D_law_ones : DefX P w K mg base ad 1 "_law_ones" ["_law_mask_here"] d_law_ones) : ∀ (cdv : Value) (A : Around) (outer : List Env) (s : Shared) (H : Hp) (E : XK) (Ed : DXt), Room 1 (A.deeper (envOfC "_law_goes" (defScope s_law_goes) s.heap.objs.size f cdv)) → BS (cxOf (L2.CX P w) P w K mg base ["_law_first", "_law_second", "_law_crossings"] "_law_goes" (defScope s_law_goes) f cdv A outer s H E) ad (fun _ => E) Ed (defBody s_law_goes) r_law_goes := by
    intro cdv A outer s H E Ed hr
    have hu := hr.units
    have hu5 := hr.units5
    have tk : Takes (cxOf (L2.CX P w) P w K mg base ["_law_first", "_law_second", "_law_crossings"] "_law_goes" (defScope s_law_goes) f cdv A outer s H E) (fun cls d _ H => E cls d H) := takes_of rfl rfl rfl rfl
    have hx : Lets (cxOf (L2.CX P w) P w K mg base ["_law_first", "_law_second", "_law_crossings"] "_law_goes" (defScope s_law_goes) f cdv A outer s H E) (fun _ => E) := letsP (passes_call tk fun _ _ _ _ h => h)
    exact (bsCons (sdSet (fun h => ps_set (i := 2) sc_law_goes.nd rfl (by first | exact Or.inl rfl | exact Or.inr rfl) h) (pdAdd (pdCall D_law_ones hr hx rfl (adC (pdAnd (pdAnd (pdv 0 (pv 0)) pdInt) (pdShr (pdv 1 (pv 1)) pdInt)) adN)) (pdCall D_law_ones hr hx rfl (adC (pdAnd (pdShr (pdv 0 (pv 0)) pdInt) (pdAnd (pdv 1 (pv 1)) pdInt)) adN))))
    (bsOne (sdRet (pdEq hu (pdAnd (pdv 2 (pv 2)) pdInt) pdInt (by first | exact nomark _ | (intros; rfl))))))
/-! ### _law_shaped (s_law_shaped) -/
def r_law_shaped : DS := (sSeq (sSet 2 (eCall d_law_draw (aV 0 (aC (eC (.int 8)) aN))))
  (sSeq (sSet 3 (eCall d_law_draw (aV 0 (aC (eC (.int 1024)) aN))))
  (sSeq (sSet 4 (eCall d_law_draw (aV 0 (aC (eC (.int 1024)) aN))))
  (sSeq (sIf (t2 (oEq false) (eV 2) (eC (.int 0))) (sRet (eV 3)) sNil)
  (sSeq (sIf (t2 (oEq false) (eV 2) (eC (.int 1))) (sRet (e2 (oIC CPow fun i j => .int (i * 2 ^ j.toNat)) (eV 4) (eC (.int 10)))) sNil)
  (sSeq (sIf (t2 (oEq false) (eV 2) (eC (.int 2))) (sRet (e2 (oI fun i j => .int (Builtin.bitOr i j)) (e2 (oI fun i j => .int (Builtin.bitAnd i j)) (eV 3) (eV 4)) (e2 (oIC CPow fun i j => .int (i * 2 ^ j.toNat)) (e2 (oI fun i j => .int (Builtin.bitAnd i j)) (eV 3) (eV 4)) (eC (.int 10))))) sNil)
  (sSeq (sIf (tAn (t2 (oEq false) (eV 2) (eC (.int 3))) (t2 oGt (eB oLen (aV 1 aN)) (eC (.int 0)))) (sRet (e2 oIx (eV 1) (eCall d_law_draw (aV 0 (aC (eB oLen (aV 1 aN)) aN))))) sNil)
  (sSeq (sIf (tAn (t2 (oEq false) (eV 2) (eC (.int 4))) (t2 oGt (eB oLen (aV 1 aN)) (eC (.int 1)))) (sRet (e2 (oI fun i j => .int (Builtin.bitXor i j)) (e2 oIx (eV 1) (eC (.int 0))) (e2 oIx (eV 1) (eC (.int 1))))) sNil)
  (sSeq (sIf (t2 (oEq false) (eV 2) (eC (.int 5))) (sRet (e2 (oI fun i j => .int (Builtin.bitOr i j)) (e2 (oIC CPow fun i j => .int (i * 2 ^ j.toNat)) (eC (.int 1)) (eCall d_law_draw (aV 0 (aC (eC (.int 10)) aN)))) (e2 (oIC CPow fun i j => .int (i * 2 ^ j.toNat)) (eC (.int 1)) (e2 oAdd (eC (.int 10)) (eCall d_law_draw (aV 0 (aC (eC (.int 10)) aN))))))) sNil)
  (sRet (e2 (oI fun i j => .int (Builtin.bitOr i j)) (eV 3) (e2 (oIC CPow fun i j => .int (i * 2 ^ j.toNat)) (eV 4) (eC (.int 10))))))))))))))
theorem sc_law_shaped : FnScope ["_law_source_here", "_law_earlier", "_law_kind", "_law_flips", "_law_turns"] ["_law_source_here", "_law_earlier"] (defScope s_law_shaped) := ⟨rfl, rfl, rfl, by decide +kernel, rfl, by decide +kernel, by decide +kernel⟩
theorem rd_law_shaped {f : Addr} (T : Bi mg) (D_law_draw : DefX P w K mg base ad 1 "_law_draw" ["_law_source_here", "_law_many"] d_law_draw) : ∀ (cdv : Value) (A : Around) (outer : List Env) (s : Shared) (H : Hp) (E : XK) (Ed : DXt), Room 1 (A.deeper (envOfC "_law_shaped" (defScope s_law_shaped) s.heap.objs.size f cdv)) → BS (cxOf (L2.CX P w) P w K mg base ["_law_source_here", "_law_earlier", "_law_kind", "_law_flips", "_law_turns"] "_law_shaped" (defScope s_law_shaped) f cdv A outer s H E) ad (fun _ => E) Ed (defBody s_law_shaped) r_law_shaped := by
    intro cdv A outer s H E Ed hr
    have hu := hr.units
    have hu5 := hr.units5
    have tk : Takes (cxOf (L2.CX P w) P w K mg base ["_law_source_here", "_law_earlier", "_law_kind", "_law_flips", "_law_turns"] "_law_shaped" (defScope s_law_shaped) f cdv A outer s H E) (fun cls d _ H => E cls d H) := takes_of rfl rfl rfl rfl
    have hx : Lets (cxOf (L2.CX P w) P w K mg base ["_law_source_here", "_law_earlier", "_law_kind", "_law_flips", "_law_turns"] "_law_shaped" (defScope s_law_shaped) f cdv A outer s H E) (fun _ => E) := letsP (passes_call tk fun _ _ _ _ h => h)
    exact (bsCons (sdSet (fun h => ps_set (i := 2) sc_law_shaped.nd rfl (by first | exact Or.inl rfl | exact Or.inr rfl) h) (pdCall D_law_draw hr hx rfl (adV 0 (pv 0) (adC pdInt adN))))
    (bsCons (sdSet (fun h => ps_set (i := 3) sc_law_shaped.nd rfl (by first | exact Or.inl rfl | exact Or.inr rfl) h) (pdCall D_law_draw hr hx rfl (adV 0 (pv 0) (adC pdInt adN))))
    (bsCons (sdSet (fun h => ps_set (i := 4) sc_law_shaped.nd rfl (by first | exact Or.inl rfl | exact Or.inr rfl) h) (pdCall D_law_draw hr hx rfl (adV 0 (pv 0) (adC pdInt adN))))
    (bsCons (sdIf (tdEq hu (pdv 2 (pv 2)) pdInt (by first | exact nomark _ | (intros; rfl))) (bsOne (sdRet (pdv 3 (pv 3)))) bsNil)
    (bsCons (sdIf (tdEq hu (pdv 2 (pv 2)) pdInt (by first | exact nomark _ | (intros; rfl))) (bsOne (sdRet (pdShl (pdv 4 (pv 4)) pdInt))) bsNil)
    (bsCons (sdIf (tdEq hu (pdv 2 (pv 2)) pdInt (by first | exact nomark _ | (intros; rfl))) (bsOne (sdRet (pdOr (pdAnd (pdv 3 (pv 3)) (pdv 4 (pv 4))) (pdShl (pdAnd (pdv 3 (pv 3)) (pdv 4 (pv 4))) pdInt)))) bsNil)
    (bsCons (sdIf (BD.td (bdAnd (tdEq hu (pdv 2 (pv 2)) pdInt (by first | exact nomark _ | (intros; rfl))) (bdAnd1 (tdCmp op_gt dGt (pdLen rfl T.len (adV 1 (pv 1) adN)) pdInt (by first | exact nomark _ | (intros; rfl)))))) (bsOne (sdRet (pdIx (pdv 1 (pv 1)) (pdCall D_law_draw hr hx rfl (adV 0 (pv 0) (adC (pdLen rfl T.len (adV 1 (pv 1) adN)) adN))) (fun _ _ => rfl)))) bsNil)
    (bsCons (sdIf (BD.td (bdAnd (tdEq hu (pdv 2 (pv 2)) pdInt (by first | exact nomark _ | (intros; rfl))) (bdAnd1 (tdCmp op_gt dGt (pdLen rfl T.len (adV 1 (pv 1) adN)) pdInt (by first | exact nomark _ | (intros; rfl)))))) (bsOne (sdRet (pdXor (pdIx (pdv 1 (pv 1)) pdInt (fun _ _ => rfl)) (pdIx (pdv 1 (pv 1)) pdInt (fun _ _ => rfl))))) bsNil)
    (bsCons (sdIf (tdEq hu (pdv 2 (pv 2)) pdInt (by first | exact nomark _ | (intros; rfl))) (bsOne (sdRet (pdOr (pdShl pdInt (pdCall D_law_draw hr hx rfl (adV 0 (pv 0) (adC pdInt adN)))) (pdShl pdInt (pdAdd pdInt (pdCall D_law_draw hr hx rfl (adV 0 (pv 0) (adC pdInt adN)))))))) bsNil)
    (bsOne (sdRet (pdOr (pdv 3 (pv 3)) (pdShl (pdv 4 (pv 4)) pdInt)))))))))))))
/-! ### _law_suits (s_law_suits) -/
def r_law_suits : DS := (sRet (eB oAll (aC (eF (fLc (iSq (eV 1)) [2] 2 tYs (eCall d_law_goes (aV 0 (aV 2 aN))))) aN)))
theorem sc_law_suits : FnScope ["_law_code", "_law_earlier", "_law_other"] ["_law_code", "_law_earlier"] (defScope s_law_suits) := ⟨rfl, rfl, rfl, by decide +kernel, rfl, by decide +kernel, by decide +kernel⟩
theorem rd_law_suits {f : Addr} (T2 : Bi2 mg) (D_law_goes : DefX P w K mg base ad 2 "_law_goes" ["_law_first", "_law_second"] d_law_goes) : ∀ (cdv : Value) (A : Around) (outer : List Env) (s : Shared) (H : Hp) (E : XK) (Ed : DXt), Room 2 (A.deeper (envOfC "_law_suits" (defScope s_law_suits) s.heap.objs.size f cdv)) → BS (cxOf (L2.CX P w) P w K mg base ["_law_code", "_law_earlier", "_law_other"] "_law_suits" (defScope s_law_suits) f cdv A outer s H E) ad (fun _ => E) Ed (defBody s_law_suits) r_law_suits := by
    intro cdv A outer s H E Ed hr
    have hu := hr.units
    have hu5 := hr.units5
    have tk : Takes (cxOf (L2.CX P w) P w K mg base ["_law_code", "_law_earlier", "_law_other"] "_law_suits" (defScope s_law_suits) f cdv A outer s H E) (fun cls d _ H => E cls d H) := takes_of rfl rfl rfl rfl
    have hx : Lets (cxOf (L2.CX P w) P w K mg base ["_law_code", "_law_earlier", "_law_other"] "_law_suits" (defScope s_law_suits) f cdv A outer s H E) (fun _ => E) := letsP (passes_call tk fun _ _ _ _ h => h)
    exact (bsOne (sdRet (pdAll rfl rfl T2.all (adC (PF.pd (pfLc (own := [("_law_other", 2)]) (i := 2) rfl sc_law_suits.nd (idSq (pdv 1 (pv 1))) (blkOk_by (N := ["_law_code", "_law_earlier", "_law_other"]) (sc := defScope s_law_suits) (by decide +kernel)) (fun _ _ _ _ _ => pg_name (i := 2) sc_law_suits.nd rfl (Or.inl rfl)) (fun _ _ _ _ _ => fdN) (fun _ _ _ _ _ => (pdCall D_law_goes hr lets0 rfl (adV 0 (pv 0) (adV 2 (pv 2) adN)))))) adN))))
/-! ### _law_fitted (s_law_fitted) -/
def r_law_fitted : DS := (sSeq (sIf (tTru (eCall d_law_suits (aV 0 (aV 1 aN)))) (sRet (eV 0)) sNil)
  (sSeq (sFor (iRg1 (aC (eC (.int 20)) aN)) (gN 2) (sIf (tTru (eCall d_law_suits (aC (e2 (oI fun i j => .int (Builtin.bitXor i j)) (eV 0) (e2 (oIC CPow fun i j => .int (i * 2 ^ j.toNat)) (eC (.int 1)) (eV 2))) (aV 1 aN)))) (sRet (e2 (oI fun i j => .int (Builtin.bitXor i j)) (eV 0) (e2 (oIC CPow fun i j => .int (i * 2 ^ j.toNat)) (eC (.int 1)) (eV 2)))) sNil))
  (sSeq (sFor (iRg1 (aC (eC (.int 20)) aN)) (gN 2) (sFor (iRg1 (aV 2 aN)) (gN 3) (sIf (tTru (eCall d_law_suits (aC (e2 (oI fun i j => .int (Builtin.bitXor i j)) (e2 (oI fun i j => .int (Builtin.bitXor i j)) (eV 0) (e2 (oIC CPow fun i j => .int (i * 2 ^ j.toNat)) (eC (.int 1)) (eV 2))) (e2 (oIC CPow fun i j => .int (i * 2 ^ j.toNat)) (eC (.int 1)) (eV 3))) (aV 1 aN)))) (sRet (e2 (oI fun i j => .int (Builtin.bitXor i j)) (e2 (oI fun i j => .int (Builtin.bitXor i j)) (eV 0) (e2 (oIC CPow fun i j => .int (i * 2 ^ j.toNat)) (eC (.int 1)) (eV 2))) (e2 (oIC CPow fun i j => .int (i * 2 ^ j.toNat)) (eC (.int 1)) (eV 3)))) sNil)))
  (sRet (eC (.int 0))))))
theorem sc_law_fitted : FnScope ["_law_code", "_law_earlier", "_law_place", "_law_second"] ["_law_code", "_law_earlier"] (defScope s_law_fitted) := ⟨rfl, rfl, rfl, by decide +kernel, rfl, by decide +kernel, by decide +kernel⟩
theorem rd_law_fitted {f : Addr} (T : Bi mg) (D_law_suits : DefX P w K mg base ad 3 "_law_suits" ["_law_code", "_law_earlier"] d_law_suits) : ∀ (cdv : Value) (A : Around) (outer : List Env) (s : Shared) (H : Hp) (E : XK) (Ed : DXt), Room 3 (A.deeper (envOfC "_law_fitted" (defScope s_law_fitted) s.heap.objs.size f cdv)) → BS (cxOf (L2.CX P w) P w K mg base ["_law_code", "_law_earlier", "_law_place", "_law_second"] "_law_fitted" (defScope s_law_fitted) f cdv A outer s H E) ad (fun _ => E) Ed (defBody s_law_fitted) r_law_fitted := by
    intro cdv A outer s H E Ed hr
    have hu := hr.units
    have hu5 := hr.units5
    have tk : Takes (cxOf (L2.CX P w) P w K mg base ["_law_code", "_law_earlier", "_law_place", "_law_second"] "_law_fitted" (defScope s_law_fitted) f cdv A outer s H E) (fun cls d _ H => E cls d H) := takes_of rfl rfl rfl rfl
    have hx : Lets (cxOf (L2.CX P w) P w K mg base ["_law_code", "_law_earlier", "_law_place", "_law_second"] "_law_fitted" (defScope s_law_fitted) f cdv A outer s H E) (fun _ => E) := letsP (passes_call tk fun _ _ _ _ h => h)
    exact (bsCons (sdIf (tdTru (pdCall D_law_suits hr hx rfl (adV 0 (pv 0) (adV 1 (pv 1) adN)))) (bsOne (sdRet (pdv 0 (pv 0)))) bsNil)
    (bsCons (sdFor (passes_of rfl) rfl (idRg1 rfl T.range (adC pdInt adN)) (gdN (pg_name (i := 2) sc_law_fitted.nd rfl (by first | exact Or.inl rfl | exact Or.inr rfl))) (bsOne (sdIf (tdTru (pdCall D_law_suits hr hx rfl (adC (pdXor (pdv 0 (pv 0)) (pdShl pdInt (pdv 2 (pv 2)))) (adV 1 (pv 1) adN)))) (bsOne (sdRet (pdXor (pdv 0 (pv 0)) (pdShl pdInt (pdv 2 (pv 2)))))) bsNil)))
    (bsCons (sdFor (passes_of rfl) rfl (idRg1 rfl T.range (adC pdInt adN)) (gdN (pg_name (i := 2) sc_law_fitted.nd rfl (by first | exact Or.inl rfl | exact Or.inr rfl))) (bsOne (sdFor (passes_of rfl) rfl (idRg1 rfl T.range (adV 2 (pv 2) adN)) (gdN (pg_name (i := 3) sc_law_fitted.nd rfl (by first | exact Or.inl rfl | exact Or.inr rfl))) (bsOne (sdIf (tdTru (pdCall D_law_suits hr hx rfl (adC (pdXor (pdXor (pdv 0 (pv 0)) (pdShl pdInt (pdv 2 (pv 2)))) (pdShl pdInt (pdv 3 (pv 3)))) (adV 1 (pv 1) adN)))) (bsOne (sdRet (pdXor (pdXor (pdv 0 (pv 0)) (pdShl pdInt (pdv 2 (pv 2)))) (pdShl pdInt (pdv 3 (pv 3)))))) bsNil)))))
    (bsOne (sdRet pdInt)))))
/-! ### _law_drawn_looks (s_law_drawn_looks) -/
def r_law_drawn_looks : DS := (sSeq (sSetO 1 (fLst aN))
  (sSeq (sFor (iRg1 (aC (eC (.int 3)) aN)) (gN 2) (sAppF 1 (eCall d_law_fitted (aC (eCall d_law_shaped (aV 0 (aV 1 aN))) (aV 1 aN)))))
  (sFrz 1 (sRet (eF (fLc (iSq (eV 1)) [3] 3 tYs (eTup (aC (eCall d_law_draw (aV 0 (aC (eC (.int 2)) aN))) (aC (eCall d_law_lot (aC (e2 (oI fun i j => .int (Builtin.bitAnd i j)) (eV 3) (eC (.int 1023))) aN)) (aC (eCall d_law_lot (aC (e2 (oIC (fun _ j => 0 ≤ j) fun i j => .int (i / 2 ^ j.toNat)) (eV 3) (eC (.int 10))) aN)) aN))))))))))
theorem sc_law_drawn_looks : FnScope ["_law_source_here", "_law_codes", "_law_k", "_law_code"] ["_law_source_here"] (defScope s_law_drawn_looks) := ⟨rfl, rfl, rfl, by decide +kernel, rfl, by decide +kernel, by decide +kernel⟩
theorem rd_law_drawn_looks {f : Addr} (T : Bi mg) (D_law_draw : DefX P w K mg base ad 1 "_law_draw" ["_law_source_here", "_law_many"] d_law_draw) (D_law_fitted : DefX P w K mg base ad 4 "_law_fitted" ["_law_code", "_law_earlier"] d_law_fitted) (D_law_lot : DefX P w K mg base ad 1 "_law_lot" ["_law_mask_here"] d_law_lot) (D_law_shaped : DefX P w K mg base ad 2 "_law_shaped" ["_law_source_here", "_law_earlier"] d_law_shaped) : ∀ (cdv : Value) (A : Around) (outer : List Env) (s : Shared) (H : Hp) (E : XK) (Ed : DXt), Room 4 (A.deeper (envOfC "_law_drawn_looks" (defScope s_law_drawn_looks) s.heap.objs.size f cdv)) → BS (cxOf (L2.CX P w) P w K mg base ["_law_source_here", "_law_codes", "_law_k", "_law_code"] "_law_drawn_looks" (defScope s_law_drawn_looks) f cdv A outer s H E) ad (fun _ => E) Ed (defBody s_law_drawn_looks) r_law_drawn_looks := by
    intro cdv A outer s H E Ed hr
    have hu := hr.units
    have hu5 := hr.units5
    have tk : Takes (cxOf (L2.CX P w) P w K mg base ["_law_source_here", "_law_codes", "_law_k", "_law_code"] "_law_drawn_looks" (defScope s_law_drawn_looks) f cdv A outer s H E) (fun cls d _ H => E cls d H) := takes_of rfl rfl rfl rfl
    have hx : Lets (cxOf (L2.CX P w) P w K mg base ["_law_source_here", "_law_codes", "_law_k", "_law_code"] "_law_drawn_looks" (defScope s_law_drawn_looks) f cdv A outer s H E) (fun _ => E) := letsP (passes_call tk fun _ _ _ _ h => h)
    exact (bsCons (sdSetO (fun h => ps_set (i := 1) sc_law_drawn_looks.nd rfl (by first | exact Or.inl rfl | exact Or.inr rfl) h) (pfLst adN))
    (bsCons (sdFor (passes_of rfl) rfl (idRg1 rfl T.range (adC pdInt adN)) (gdN (pg_name (i := 2) sc_law_drawn_looks.nd rfl (by first | exact Or.inl rfl | exact Or.inr rfl))) (bsOne (sdAppF (i := 1) (pv 1) (pdCall D_law_fitted hr hx rfl (adC (pdCall D_law_shaped hr hx rfl (adV 0 (pv 0) (adV 1 (pv 1) adN))) (adV 1 (pv 1) adN))) (fun h => ps_expr (pe_bm PySem.F.plainAttrs_list PySem.F.slot_list_append PySem.F.type_list_append mt_append (pv 1) (pa_cons h pa_nil))))))
    (bsOne (sdFrz 1 (sdRet (PF.pd (pfLc (own := [("_law_code", 3)]) (i := 3) rfl sc_law_drawn_looks.nd (idSq (pdv 1 (pv 1))) (blkOk_by (N := ["_law_source_here", "_law_codes", "_law_k", "_law_code"]) (sc := defScope s_law_drawn_looks) (by decide +kernel)) (fun _ _ _ _ _ => pg_name (i := 3) sc_law_drawn_looks.nd rfl (Or.inl rfl)) (fun _ _ _ _ _ => fdN) (fun _ _ _ _ _ => (pdTup (adC (pdCall D_law_draw hr lets0 rfl (adV 0 (pv 0) (adC pdInt adN))) (adC (pdCall D_law_lot hr lets0 rfl (adC (pdAnd (pdv 3 (pv 3)) pdInt) adN)) (adC (pdCall D_law_lot hr lets0 rfl (adC (pdShr (pdv 3 (pv 3)) pdInt) adN)) adN))))))))))))
/-! ### _law_moved (s_law_moved) -/
def r_law_moved : DS := (sSeq (sSet 2 (eCall d_law_mask (aC (e2 oIx (eV 0) (eC (.int 1))) aN)))
  (sSeq (sSet 3 (eCall d_law_mask (aC (e2 oIx (eV 0) (eC (.int 2))) aN)))
  (sSeq (sSet 4 (e2 oAdd (e2 oAdd (e2 oMul (eC (.int 2)) (e2 oIx (eV 0) (eC (.int 0)))) (e2 oMul (eC (.int 2)) (eCall d_law_ones (aC (e2 (oI fun i j => .int (Builtin.bitAnd i j)) (eV 3) (e2 oIx (eV 1) (eC (.int 0)))) aN)))) (eCall d_law_ones (aC (e2 (oI fun i j => .int (Builtin.bitAnd i j)) (eV 2) (eV 3)) aN))))
  (sRet (eTup (aC (e2 (oI fun i j => .int (Builtin.bitXor i j)) (e2 oIx (eV 1) (eC (.int 0))) (eV 2)) (aC (e2 (oI fun i j => .int (Builtin.bitAnd i j)) (e2 oAdd (e2 oIx (eV 1) (eC (.int 1))) (eV 4)) (eC (.int 3))) aN)))))))
theorem sc_law_moved : FnScope ["_law_look", "_law_start", "_law_flips", "_law_turns", "_law_quarters"] ["_law_look", "_law_start"] (defScope s_law_moved) := ⟨rfl, rfl, rfl, by decide +kernel, rfl, by decide +kernel, by decide +kernel⟩
theorem rd_law_moved {f : Addr} (D_law_mask : DefX P w K mg base ad 1 "_law_mask" ["_law_lot_here"] d_law_mask) (D_law_ones : DefX P w K mg base ad 1 "_law_ones" ["_law_mask_here"] d_law_ones) : ∀ (cdv : Value) (A : Around) (outer : List Env) (s : Shared) (H : Hp) (E : XK) (Ed : DXt), Room 1 (A.deeper (envOfC "_law_moved" (defScope s_law_moved) s.heap.objs.size f cdv)) → BS (cxOf (L2.CX P w) P w K mg base ["_law_look", "_law_start", "_law_flips", "_law_turns", "_law_quarters"] "_law_moved" (defScope s_law_moved) f cdv A outer s H E) ad (fun _ => E) Ed (defBody s_law_moved) r_law_moved := by
    intro cdv A outer s H E Ed hr
    have hu := hr.units
    have hu5 := hr.units5
    have tk : Takes (cxOf (L2.CX P w) P w K mg base ["_law_look", "_law_start", "_law_flips", "_law_turns", "_law_quarters"] "_law_moved" (defScope s_law_moved) f cdv A outer s H E) (fun cls d _ H => E cls d H) := takes_of rfl rfl rfl rfl
    have hx : Lets (cxOf (L2.CX P w) P w K mg base ["_law_look", "_law_start", "_law_flips", "_law_turns", "_law_quarters"] "_law_moved" (defScope s_law_moved) f cdv A outer s H E) (fun _ => E) := letsP (passes_call tk fun _ _ _ _ h => h)
    exact (bsCons (sdSet (fun h => ps_set (i := 2) sc_law_moved.nd rfl (by first | exact Or.inl rfl | exact Or.inr rfl) h) (pdCall D_law_mask hr hx rfl (adC (pdIx (pdv 0 (pv 0)) pdInt (fun _ _ => rfl)) adN)))
    (bsCons (sdSet (fun h => ps_set (i := 3) sc_law_moved.nd rfl (by first | exact Or.inl rfl | exact Or.inr rfl) h) (pdCall D_law_mask hr hx rfl (adC (pdIx (pdv 0 (pv 0)) pdInt (fun _ _ => rfl)) adN)))
    (bsCons (sdSet (fun h => ps_set (i := 4) sc_law_moved.nd rfl (by first | exact Or.inl rfl | exact Or.inr rfl) h) (pdAdd (pdAdd (pdMul pdInt (pdIx (pdv 0 (pv 0)) pdInt (fun _ _ => rfl))) (pdMul pdInt (pdCall D_law_ones hr hx rfl (adC (pdAnd (pdv 3 (pv 3)) (pdIx (pdv 1 (pv 1)) pdInt (fun _ _ => rfl))) adN)))) (pdCall D_law_ones hr hx rfl (adC (pdAnd (pdv 2 (pv 2)) (pdv 3 (pv 3))) adN))))
    (bsOne (sdRet (pdTup (adC (pdXor (pdIx (pdv 1 (pv 1)) pdInt (fun _ _ => rfl)) (pdv 2 (pv 2))) (adC (pdAnd (pdAdd (pdIx (pdv 1 (pv 1)) pdInt (fun _ _ => rfl)) (pdv 4 (pv 4))) pdInt) adN))))))))
/-! ### _law_moved_by_all (s_law_moved_by_all) -/
def r_law_moved_by_all : DS := (sSeq (sSet 2 (eTup (aV 1 (aC (eC (.int 0)) aN))))
  (sSeq (sFor (iRg1 (aC (eB oLen (aV 0 aN)) aN)) (gN 3) (sSet 2 (eCall d_law_moved (aC (e2 oIx (eV 0) (e2 (oI fun i j => .int (i - j)) (e2 (oI fun i j => .int (i - j)) (eB oLen (aV 0 aN)) (eC (.int 1))) (eV 3))) (aV 2 aN)))))
  (sRet (eV 2))))
theorem sc_law_moved_by_all : FnScope ["_law_looks", "_law_index", "_law_found", "_law_k"] ["_law_looks", "_law_index"] (defScope s_law_moved_by_all) := ⟨rfl, rfl, rfl, by decide +kernel, rfl, by decide +kernel, by decide +kernel⟩
theorem rd_law_moved_by_all {f : Addr} (T : Bi mg) (D_law_moved : DefX P w K mg base ad 2 "_law_moved" ["_law_look", "_law_start"] d_law_moved) : ∀ (cdv : Value) (A : Around) (outer : List Env) (s : Shared) (H : Hp) (E : XK) (Ed : DXt), Room 2 (A.deeper (envOfC "_law_moved_by_all" (defScope s_law_moved_by_all) s.heap.objs.size f cdv)) → BS (cxOf (L2.CX P w) P w K mg base ["_law_looks", "_law_index", "_law_found", "_law_k"] "_law_moved_by_all" (defScope s_law_moved_by_all) f cdv A outer s H E) ad (fun _ => E) Ed (defBody s_law_moved_by_all) r_law_moved_by_all := by
    intro cdv A outer s H E Ed hr
    have hu := hr.units
    have hu5 := hr.units5
    have tk : Takes (cxOf (L2.CX P w) P w K mg base ["_law_looks", "_law_index", "_law_found", "_law_k"] "_law_moved_by_all" (defScope s_law_moved_by_all) f cdv A outer s H E) (fun cls d _ H => E cls d H) := takes_of rfl rfl rfl rfl
    have hx : Lets (cxOf (L2.CX P w) P w K mg base ["_law_looks", "_law_index", "_law_found", "_law_k"] "_law_moved_by_all" (defScope s_law_moved_by_all) f cdv A outer s H E) (fun _ => E) := letsP (passes_call tk fun _ _ _ _ h => h)
    exact (bsCons (sdSet (fun h => ps_set (i := 2) sc_law_moved_by_all.nd rfl (by first | exact Or.inl rfl | exact Or.inr rfl) h) (pdTup (adV 1 (pv 1) (adC pdInt adN))))
    (bsCons (sdFor (passes_of rfl) rfl (idRg1 rfl T.range (adC (pdLen rfl T.len (adV 0 (pv 0) adN)) adN)) (gdN (pg_name (i := 3) sc_law_moved_by_all.nd rfl (by first | exact Or.inl rfl | exact Or.inr rfl))) (bsOne (sdSet (fun h => ps_set (i := 2) sc_law_moved_by_all.nd rfl (by first | exact Or.inl rfl | exact Or.inr rfl) h) (pdCall D_law_moved hr hx rfl (adC (pdIx (pdv 0 (pv 0)) (pdSub (pdSub (pdLen rfl T.len (adV 0 (pv 0) adN)) pdInt) (pdv 3 (pv 3))) (fun _ _ => rfl)) (adV 2 (pv 2) adN))))))
    (bsOne (sdRet (pdv 2 (pv 2))))))
/-! ### _law_expected (s_law_expected) -/
def r_law_expected : DS := (sSeq (sSet 1 (eC (.int 0)))
  (sSeq (sSet 2 (eC (.int 0)))
  (sSeq (sFor (iSq (eV 0)) (gN 3) (sSeq (sSet 1 (e2 (oI fun i j => .int (Builtin.bitXor i j)) (eV 1) (eCall d_law_mask (aC (e2 oIx (eV 3) (eC (.int 1))) aN))))
  (sSet 2 (e2 (oI fun i j => .int (Builtin.bitXor i j)) (eV 2) (eCall d_law_mask (aC (e2 oIx (eV 3) (eC (.int 2))) aN))))))
  (sSeq (sFor (iRg1 (aC (eC (.int 2)) aN)) (gN 4) (sSeq (sSet 3 (eTup (aV 4 (aC (eCall d_law_lot (aV 1 aN)) (aC (eCall d_law_lot (aV 2 aN)) aN)))))
  (sIf (t2 (oEq false) (eCall d_law_moved (aV 3 (aC (eTup (aC (eC (.int 0)) (aC (eC (.int 0)) aN))) aN))) (eCall d_law_moved_by_all (aV 0 (aC (eC (.int 0)) aN)))) (sRet (eV 3)) sNil)))
  (sRet (eC .non))))))
theorem sc_law_expected : FnScope ["_law_looks", "_law_flips", "_law_turns", "_law_look", "_law_sign"] ["_law_looks"] (defScope s_law_expected) := ⟨rfl, rfl, rfl, by decide +kernel, rfl, by decide +kernel, by decide +kernel⟩
theorem rd_law_expected {f : Addr} (T : Bi mg) (D_law_lot : DefX P w K mg base ad 1 "_law_lot" ["_law_mask_here"] d_law_lot) (D_law_mask : DefX P w K mg base ad 1 "_law_mask" ["_law_lot_here"] d_law_mask) (D_law_moved : DefX P w K mg base ad 2 "_law_moved" ["_law_look", "_law_start"] d_law_moved) (D_law_moved_by_all : DefX P w K mg base ad 3 "_law_moved_by_all" ["_law_looks", "_law_index"] d_law_moved_by_all) : ∀ (cdv : Value) (A : Around) (outer : List Env) (s : Shared) (H : Hp) (E : XK) (Ed : DXt), Room 3 (A.deeper (envOfC "_law_expected" (defScope s_law_expected) s.heap.objs.size f cdv)) → BS (cxOf (L2.CX P w) P w K mg base ["_law_looks", "_law_flips", "_law_turns", "_law_look", "_law_sign"] "_law_expected" (defScope s_law_expected) f cdv A outer s H E) ad (fun _ => E) Ed (defBody s_law_expected) r_law_expected := by
    intro cdv A outer s H E Ed hr
    have hu := hr.units
    have hu5 := hr.units5
    have tk : Takes (cxOf (L2.CX P w) P w K mg base ["_law_looks", "_law_flips", "_law_turns", "_law_look", "_law_sign"] "_law_expected" (defScope s_law_expected) f cdv A outer s H E) (fun cls d _ H => E cls d H) := takes_of rfl rfl rfl rfl
    have hx : Lets (cxOf (L2.CX P w) P w K mg base ["_law_looks", "_law_flips", "_law_turns", "_law_look", "_law_sign"] "_law_expected" (defScope s_law_expected) f cdv A outer s H E) (fun _ => E) := letsP (passes_call tk fun _ _ _ _ h => h)
    exact (bsCons (sdSet (fun h => ps_set (i := 1) sc_law_expected.nd rfl (by first | exact Or.inl rfl | exact Or.inr rfl) h) pdInt)
    (bsCons (sdSet (fun h => ps_set (i := 2) sc_law_expected.nd rfl (by first | exact Or.inl rfl | exact Or.inr rfl) h) pdInt)
    (bsCons (sdFor (passes_of rfl) rfl (idSq (pdv 0 (pv 0))) (gdN (pg_name (i := 3) sc_law_expected.nd rfl (by first | exact Or.inl rfl | exact Or.inr rfl))) (bsCons (sdSet (fun h => ps_set (i := 1) sc_law_expected.nd rfl (by first | exact Or.inl rfl | exact Or.inr rfl) h) (pdXor (pdv 1 (pv 1)) (pdCall D_law_mask hr hx rfl (adC (pdIx (pdv 3 (pv 3)) pdInt (fun _ _ => rfl)) adN))))
    (bsOne (sdSet (fun h => ps_set (i := 2) sc_law_expected.nd rfl (by first | exact Or.inl rfl | exact Or.inr rfl) h) (pdXor (pdv 2 (pv 2)) (pdCall D_law_mask hr hx rfl (adC (pdIx (pdv 3 (pv 3)) pdInt (fun _ _ => rfl)) adN)))))))
    (bsCons (sdFor (passes_of rfl) rfl (idRg1 rfl T.range (adC pdInt adN)) (gdN (pg_name (i := 4) sc_law_expected.nd rfl (by first | exact Or.inl rfl | exact Or.inr rfl))) (bsCons (sdSet (fun h => ps_set (i := 3) sc_law_expected.nd rfl (by first | exact Or.inl rfl | exact Or.inr rfl) h) (pdTup (adV 4 (pv 4) (adC (pdCall D_law_lot hr hx rfl (adV 1 (pv 1) adN)) (adC (pdCall D_law_lot hr hx rfl (adV 2 (pv 2) adN)) adN)))))
    (bsOne (sdIf (tdEq hu (pdCall D_law_moved hr hx rfl (adV 3 (pv 3) (adC (pdTup (adC pdInt (adC pdInt adN))) adN))) (pdCall D_law_moved_by_all hr hx rfl (adV 0 (pv 0) (adC pdInt adN))) (by first | exact nomark _ | (intros; rfl))) (bsOne (sdRet (pdv 3 (pv 3)))) bsNil))))
    (bsOne (sdRet pdNon))))))
/-! ### _law_orders_hold (s_law_orders_hold) -/
def r_law_orders_hold : DS := (sSeq (sFor (iSq (eF (fLst (aC (eTup (aC (eC (.int 0)) (aC (eC (.int 1)) (aC (eC (.int 2)) aN)))) (aC (eTup (aC (eC (.int 0)) (aC (eC (.int 2)) (aC (eC (.int 1)) aN)))) (aC (eTup (aC (eC (.int 1)) (aC (eC (.int 0)) (aC (eC (.int 2)) aN)))) (aC (eTup (aC (eC (.int 1)) (aC (eC (.int 2)) (aC (eC (.int 0)) aN)))) (aC (eTup (aC (eC (.int 2)) (aC (eC (.int 0)) (aC (eC (.int 1)) aN)))) (aC (eTup (aC (eC (.int 2)) (aC (eC (.int 1)) (aC (eC (.int 0)) aN)))) aN))))))))) (gN 2) (sSeq (sSet 3 (e2 oIx (eV 0) (e2 oIx (eV 2) (eC (.int 0)))))
  (sSeq (sSet 4 (e2 oIx (eV 0) (e2 oIx (eV 2) (eC (.int 1)))))
  (sSeq (sSet 5 (e2 oIx (eV 0) (e2 oIx (eV 2) (eC (.int 2)))))
  (sSeq (sIf (t2 (oEq true) (eB oReprB (aC (eCall d_times (aC (eCall d_times (aV 3 (aV 4 aN))) (aV 5 aN))) aN)) (eB oReprB (aV 1 aN))) (sRet (eC (.bl false))) sNil)
  (sIf (t2 (oEq true) (eB oReprB (aC (eCall d_times (aV 3 (aC (eCall d_times (aV 4 (aV 5 aN))) aN))) aN)) (eB oReprB (aV 1 aN))) (sRet (eC (.bl false))) sNil))))))
  (sRet (eC (.bl true))))
theorem sc_law_orders_hold : FnScope ["_law_looks", "_law_expected_here", "_law_order", "_law_first", "_law_second", "_law_third"] ["_law_looks", "_law_expected_here"] (defScope s_law_orders_hold) := ⟨rfl, rfl, rfl, by decide +kernel, rfl, by decide +kernel, by decide +kernel⟩
theorem rd_law_orders_hold {f : Addr} (T : Bi mg) (D_times : DefX P w K mg base ad 9 "times" ["one", "other"] d_times) : ∀ (cdv : Value) (A : Around) (outer : List Env) (s : Shared) (H : Hp) (Ed : DXt), Room 9 (A.deeper (envOfC "_law_orders_hold" (defScope s_law_orders_hold) s.heap.objs.size f cdv)) → A.guards = some [] → BS (cxOf CX0 P w K mg base ["_law_looks", "_law_expected_here", "_law_order", "_law_first", "_law_second", "_law_third"] "_law_orders_hold" (defScope s_law_orders_hold) f cdv A outer s H E0).nox ad (fun _ => E0) Ed (defBody s_law_orders_hold) r_law_orders_hold := by
    intro cdv A outer s H Ed hr gd
    have hu := hr.units
    have hu5 := hr.units5
    have hx : Lets (cxOf CX0 P w K mg base ["_law_looks", "_law_expected_here", "_law_order", "_law_first", "_law_second", "_law_third"] "_law_orders_hold" (defScope s_law_orders_hold) f cdv A outer s H E0).nox (fun _ => E0) := lets0
    exact (bsCons (sdFor PassesOwn.never rfl (idSq (PF.pd (pfLst (adC (pdTup (adC pdInt (adC pdInt (adC pdInt adN)))) (adC (pdTup (adC pdInt (adC pdInt (adC pdInt adN)))) (adC (pdTup (adC pdInt (adC pdInt (adC pdInt adN)))) (adC (pdTup (adC pdInt (adC pdInt (adC pdInt adN)))) (adC (pdTup (adC pdInt (adC pdInt (adC pdInt adN)))) (adC (pdTup (adC pdInt (adC pdInt (adC pdInt adN)))) adN))))))))) (gdN (pg_name (i := 2) sc_law_orders_hold.nd rfl (by first | exact Or.inl rfl | exact Or.inr rfl))) (bsCons (sdSet (fun h => ps_set (i := 3) sc_law_orders_hold.nd rfl (by first | exact Or.inl rfl | exact Or.inr rfl) h) (pdIx (pdv 0 (pv 0)) (pdIx (pdv 2 (pv 2)) pdInt (fun _ _ => rfl)) (fun _ _ => rfl)))
    (bsCons (sdSet (fun h => ps_set (i := 4) sc_law_orders_hold.nd rfl (by first | exact Or.inl rfl | exact Or.inr rfl) h) (pdIx (pdv 0 (pv 0)) (pdIx (pdv 2 (pv 2)) pdInt (fun _ _ => rfl)) (fun _ _ => rfl)))
    (bsCons (sdSet (fun h => ps_set (i := 5) sc_law_orders_hold.nd rfl (by first | exact Or.inl rfl | exact Or.inr rfl) h) (pdIx (pdv 0 (pv 0)) (pdIx (pdv 2 (pv 2)) pdInt (fun _ _ => rfl)) (fun _ _ => rfl)))
    (bsCons (sdIf (tdNe hu (pdReprB gd hu rfl T.repr (adC (pdCall D_times hr hx rfl (adC (pdCall D_times hr hx rfl (adV 3 (pv 3) (adV 4 (pv 4) adN))) (adV 5 (pv 5) adN))) adN)) (pdReprB gd hu rfl T.repr (adV 1 (pv 1) adN)) (by first | exact nomark _ | (intros; rfl))) (bsOne (sdRet pdBl)) bsNil)
    (bsOne (sdIf (tdNe hu (pdReprB gd hu rfl T.repr (adC (pdCall D_times hr hx rfl (adV 3 (pv 3) (adC (pdCall D_times hr hx rfl (adV 4 (pv 4) (adV 5 (pv 5) adN))) adN))) adN)) (pdReprB gd hu rfl T.repr (adV 1 (pv 1) adN)) (by first | exact nomark _ | (intros; rfl))) (bsOne (sdRet pdBl)) bsNil)))))))
    (bsOne (sdRet pdBl)))
/-! ### _law_facts_hold (s_law_facts_hold) -/
def r_law_facts_hold : DS := (sSeq (sFor (iRg1 (aC (eC (.int 3)) aN)) (gN 2) (sSeq (sSet 3 (e2 oIx (eV 0) (eV 2)))
  (sSeq (sSet 4 (e2 oIx (eV 0) (e2 (oIC (fun _ j => 0 < j) fun i j => .int (i % j)) (e2 oAdd (eV 2) (eC (.int 1))) (eC (.int 3)))))
  (sSeq (sSet 5 (eTup (aC (e2 (oI fun i j => .int (i - j)) (eC (.int 1)) (e2 oIx (eV 3) (eC (.int 0)))) (aC (e2 oIx (eV 3) (eC (.int 1))) (aC (e2 oIx (eV 3) (eC (.int 2))) aN)))))
  (sSeq (sIf (tOo (t2 (oEq true) (eB oReprB (aC (eCall d_times (aV 3 (aV 3 aN))) aN)) (eB oReprB (aC (eTup (aC (eC (.int 0)) (aC (eTup aN) (aC (eTup aN) aN)))) aN))) (t2 (oEq true) (eB oReprB (aC (eCall d_times (aV 3 (aV 5 aN))) aN)) (eB oReprB (aC (eTup (aC (eC (.int 1)) (aC (eTup aN) (aC (eTup aN) aN)))) aN)))) (sRet (eC (.bl false))) sNil)
  (sSeq (sIf (t2 (oEq true) (eB oReprB (aC (eCall d_times (aC (eCall d_times (aV 3 (aV 4 aN))) (aV 4 aN))) aN)) (eB oReprB (aV 3 aN))) (sRet (eC (.bl false))) sNil)
  (sSeq (sSet 6 (eCall d_times (aV 4 (aC (e2 oIx (eV 0) (e2 (oIC (fun _ j => 0 < j) fun i j => .int (i % j)) (e2 oAdd (eV 2) (eC (.int 2))) (eC (.int 3)))) aN))))
  (sSeq (sIf (t2 (oEq true) (eB oReprB (aC (eCall d_times (aV 5 (aV 6 aN))) aN)) (eB oReprB (aC (eTup (aC (e2 (oI fun i j => .int (i - j)) (eC (.int 1)) (e2 oIx (eV 1) (eC (.int 0)))) (aC (e2 oIx (eV 1) (eC (.int 1))) (aC (e2 oIx (eV 1) (eC (.int 2))) aN)))) aN))) (sRet (eC (.bl false))) sNil)
  (sIf (tOo (t2 (oEq true) (eB oReprB (aC (eCall d_times (aV 3 (aC (eTup (aC (eC (.int 0)) (aC (eTup aN) (aC (eTup aN) aN)))) aN))) aN)) (eB oReprB (aV 3 aN))) (t2 (oEq true) (eB oReprB (aC (eCall d_times (aV 1 (aV 6 aN))) aN)) (eB oReprB (aV 3 aN)))) (sRet (eC (.bl false))) sNil)))))))))
  (sRet (eC (.bl true))))
theorem sc_law_facts_hold : FnScope ["_law_looks", "_law_expected_here", "_law_k", "_law_look", "_law_other", "_law_negative", "_law_rest"] ["_law_looks", "_law_expected_here"] (defScope s_law_facts_hold) := ⟨rfl, rfl, rfl, by decide +kernel, rfl, by decide +kernel, by decide +kernel⟩
theorem rd_law_facts_hold {f : Addr} (T : Bi mg) (D_times : DefX P w K mg base ad 9 "times" ["one", "other"] d_times) : ∀ (cdv : Value) (A : Around) (outer : List Env) (s : Shared) (H : Hp) (Ed : DXt), Room 9 (A.deeper (envOfC "_law_facts_hold" (defScope s_law_facts_hold) s.heap.objs.size f cdv)) → A.guards = some [] → BS (cxOf CX0 P w K mg base ["_law_looks", "_law_expected_here", "_law_k", "_law_look", "_law_other", "_law_negative", "_law_rest"] "_law_facts_hold" (defScope s_law_facts_hold) f cdv A outer s H E0).nox ad (fun _ => E0) Ed (defBody s_law_facts_hold) r_law_facts_hold := by
    intro cdv A outer s H Ed hr gd
    have hu := hr.units
    have hu5 := hr.units5
    have hx : Lets (cxOf CX0 P w K mg base ["_law_looks", "_law_expected_here", "_law_k", "_law_look", "_law_other", "_law_negative", "_law_rest"] "_law_facts_hold" (defScope s_law_facts_hold) f cdv A outer s H E0).nox (fun _ => E0) := lets0
    exact (bsCons (sdFor PassesOwn.never rfl (idRg1 rfl T.range (adC pdInt adN)) (gdN (pg_name (i := 2) sc_law_facts_hold.nd rfl (by first | exact Or.inl rfl | exact Or.inr rfl))) (bsCons (sdSet (fun h => ps_set (i := 3) sc_law_facts_hold.nd rfl (by first | exact Or.inl rfl | exact Or.inr rfl) h) (pdIx (pdv 0 (pv 0)) (pdv 2 (pv 2)) (fun _ _ => rfl)))
    (bsCons (sdSet (fun h => ps_set (i := 4) sc_law_facts_hold.nd rfl (by first | exact Or.inl rfl | exact Or.inr rfl) h) (pdIx (pdv 0 (pv 0)) (pdMod (pdAdd (pdv 2 (pv 2)) pdInt) pdInt) (fun _ _ => rfl)))
    (bsCons (sdSet (fun h => ps_set (i := 5) sc_law_facts_hold.nd rfl (by first | exact Or.inl rfl | exact Or.inr rfl) h) (pdTup (adC (pdSub pdInt (pdIx (pdv 3 (pv 3)) pdInt (fun _ _ => rfl))) (adC (pdIx (pdv 3 (pv 3)) pdInt (fun _ _ => rfl)) (adC (pdIx (pdv 3 (pv 3)) pdInt (fun _ _ => rfl)) adN)))))
    (bsCons (sdIf (BD.td (bdOr (tdNe hu (pdReprB gd hu rfl T.repr (adC (pdCall D_times hr hx rfl (adV 3 (pv 3) (adV 3 (pv 3) adN))) adN)) (pdReprB gd hu rfl T.repr (adC (pdTup (adC pdInt (adC (pdTup adN) (adC (pdTup adN) adN)))) adN)) (by first | exact nomark _ | (intros; rfl))) (bdOr1 (tdNe hu (pdReprB gd hu rfl T.repr (adC (pdCall D_times hr hx rfl (adV 3 (pv 3) (adV 5 (pv 5) adN))) adN)) (pdReprB gd hu rfl T.repr (adC (pdTup (adC pdInt (adC (pdTup adN) (adC (pdTup adN) adN)))) adN)) (by first | exact nomark _ | (intros; rfl)))))) (bsOne (sdRet pdBl)) bsNil)
    (bsCons (sdIf (tdNe hu (pdReprB gd hu rfl T.repr (adC (pdCall D_times hr hx rfl (adC (pdCall D_times hr hx rfl (adV 3 (pv 3) (adV 4 (pv 4) adN))) (adV 4 (pv 4) adN))) adN)) (pdReprB gd hu rfl T.repr (adV 3 (pv 3) adN)) (by first | exact nomark _ | (intros; rfl))) (bsOne (sdRet pdBl)) bsNil)
    (bsCons (sdSet (fun h => ps_set (i := 6) sc_law_facts_hold.nd rfl (by first | exact Or.inl rfl | exact Or.inr rfl) h) (pdCall D_times hr hx rfl (adV 4 (pv 4) (adC (pdIx (pdv 0 (pv 0)) (pdMod (pdAdd (pdv 2 (pv 2)) pdInt) pdInt) (fun _ _ => rfl)) adN))))
    (bsCons (sdIf (tdNe hu (pdReprB gd hu rfl T.repr (adC (pdCall D_times hr hx rfl (adV 5 (pv 5) (adV 6 (pv 6) adN))) adN)) (pdReprB gd hu rfl T.repr (adC (pdTup (adC (pdSub pdInt (pdIx (pdv 1 (pv 1)) pdInt (fun _ _ => rfl))) (adC (pdIx (pdv 1 (pv 1)) pdInt (fun _ _ => rfl)) (adC (pdIx (pdv 1 (pv 1)) pdInt (fun _ _ => rfl)) adN)))) adN)) (by first | exact nomark _ | (intros; rfl))) (bsOne (sdRet pdBl)) bsNil)
    (bsOne (sdIf (BD.td (bdOr (tdNe hu (pdReprB gd hu rfl T.repr (adC (pdCall D_times hr hx rfl (adV 3 (pv 3) (adC (pdTup (adC pdInt (adC (pdTup adN) (adC (pdTup adN) adN)))) adN))) adN)) (pdReprB gd hu rfl T.repr (adV 3 (pv 3) adN)) (by first | exact nomark _ | (intros; rfl))) (bdOr1 (tdNe hu (pdReprB gd hu rfl T.repr (adC (pdCall D_times hr hx rfl (adV 1 (pv 1) (adV 6 (pv 6) adN))) adN)) (pdReprB gd hu rfl T.repr (adV 3 (pv 3) adN)) (by first | exact nomark _ | (intros; rfl)))))) (bsOne (sdRet pdBl)) bsNil))))))))))
    (bsOne (sdRet pdBl)))
/-! ### law (s_law) -/
def r_law : DS := (sSeq (sSet 2 (eCall d_law_drawn_looks (aV 1 aN)))
  (sSeq (sSet 3 (eCall d_law_expected (aV 2 aN)))
  (sSeq (sIf (t2 (oIsN false) (eV 3) (eC .non)) (sRet (eC (.bl false))) sNil)
  (sSeq (sFor (iRg1 (aC (eC (.int 6)) aN)) (gN 4) (sSeq (sSet 5 (eCall d_law_draw (aV 1 (aC (eC (.int 1024)) aN))))
  (sIf (t2 (oEq true) (eCall d_law_moved (aV 3 (aC (eTup (aV 5 (aC (eC (.int 0)) aN))) aN))) (eCall d_law_moved_by_all (aV 2 (aV 5 aN)))) (sRet (eC (.bl false))) sNil)))
  (sRet (eAn (eCallG d_law_orders_hold (aV 2 (aV 3 aN))) (eCallG d_law_facts_hold (aV 2 (aV 3 aN)))))))))
theorem sc_law : FnScope ["_law_script", "_law_source_here", "_law_looks", "_law_expected_here", "_law_turn", "_law_index"] ["_law_script"] (defScope s_law) := ⟨rfl, rfl, rfl, by decide +kernel, rfl, by decide +kernel, by decide +kernel⟩
theorem rd_law {f : Addr} (T : Bi mg) (D_law_draw : DefX P w K mg base ad 1 "_law_draw" ["_law_source_here", "_law_many"] d_law_draw) (D_law_drawn_looks : DefX P w K mg base ad 5 "_law_drawn_looks" ["_law_source_here"] d_law_drawn_looks) (D_law_expected : DefX P w K mg base ad 4 "_law_expected" ["_law_looks"] d_law_expected) (D_law_facts_hold : DefY P w K mg base ad 10 "_law_facts_hold" ["_law_looks", "_law_expected_here"] d_law_facts_hold) (D_law_moved : DefX P w K mg base ad 2 "_law_moved" ["_law_look", "_law_start"] d_law_moved) (D_law_moved_by_all : DefX P w K mg base ad 3 "_law_moved_by_all" ["_law_looks", "_law_index"] d_law_moved_by_all) (D_law_orders_hold : DefY P w K mg base ad 10 "_law_orders_hold" ["_law_looks", "_law_expected_here"] d_law_orders_hold) : ∀ (cdv : Value) (A : Around) (outer : List Env) (s : Shared) (H : Hp) (Ed : DXt), Room 10 (A.deeper (envOfC "law" (defScope s_law) s.heap.objs.size f cdv)) → A.guards = some [] → BS (cxOf CX0 P w K mg base ["_law_script", "_law_source_here", "_law_looks", "_law_expected_here", "_law_turn", "_law_index"] "law" (defScope s_law) f cdv A outer s H E0).nox ad (fun _ => E0) Ed (defBody s_law).tail r_law := by
    intro cdv A outer s H Ed hr gd
    have hu := hr.units
    have hu5 := hr.units5
    have hx : Lets (cxOf CX0 P w K mg base ["_law_script", "_law_source_here", "_law_looks", "_law_expected_here", "_law_turn", "_law_index"] "law" (defScope s_law) f cdv A outer s H E0).nox (fun _ => E0) := lets0
    exact (bsCons (sdSet (fun h => ps_set (i := 2) sc_law.nd rfl (by first | exact Or.inl rfl | exact Or.inr rfl) h) (pdCall D_law_drawn_looks hr hx rfl (adV 1 (pv 1) adN)))
    (bsCons (sdSet (fun h => ps_set (i := 3) sc_law.nd rfl (by first | exact Or.inl rfl | exact Or.inr rfl) h) (pdCall D_law_expected hr hx rfl (adV 2 (pv 2) adN)))
    (bsCons (sdIf (tdCmp op_isN dIsN (pdv 3 (pv 3)) pdNon (by first | exact nomark _ | (intros; rfl))) (bsOne (sdRet pdBl)) bsNil)
    (bsCons (sdFor PassesOwn.never rfl (idRg1 rfl T.range (adC pdInt adN)) (gdN (pg_name (i := 4) sc_law.nd rfl (by first | exact Or.inl rfl | exact Or.inr rfl))) (bsCons (sdSet (fun h => ps_set (i := 5) sc_law.nd rfl (by first | exact Or.inl rfl | exact Or.inr rfl) h) (pdCall D_law_draw hr hx rfl (adV 1 (pv 1) (adC pdInt adN))))
    (bsOne (sdIf (tdNe hu (pdCall D_law_moved hr hx rfl (adV 3 (pv 3) (adC (pdTup (adV 5 (pv 5) (adC pdInt adN))) adN))) (pdCall D_law_moved_by_all hr hx rfl (adV 2 (pv 2) (adV 5 (pv 5) adN))) (by first | exact nomark _ | (intros; rfl))) (bsOne (sdRet pdBl)) bsNil))))
    (bsOne (sdRet (pdAn (pdCallG D_law_orders_hold hr gd rfl (adV 2 (pv 2) (adV 3 (pv 3) adN))) (pdOne (pdCallG D_law_facts_hold hr gd rfl (adV 2 (pv 2) (adV 3 (pv 3) adN)))))))))))
end
end DL

set_option Elab.async false
set_option linter.all false
set_option maxRecDepth 100000
set_option maxHeartbeats 4000000
set_option exponentiation.threshold 2000
namespace DL
open PySem PySem.Spec PyProof.Rows L2 BT
/-! ### walks over what is numbered; looks that are right -/
theorem at2_0 (a b : D) : atI [a, b] 0 = some a := rfl
theorem at2_1 (a b : D) : atI [a, b] 1 = some b := rfl
theorem atM {n i : Nat} (f : Nat → D) (h : i < n) : atI ((List.range n).map f) (i : Int) = some (f i) := by
  rw [at_nat, List.getElem?_map, List.getElem?_range h]; rfl
theorem in_lot (i m : Nat) : decide ((i : Int) ∈ (lotN m).map fun p : Nat => (p : Int)) = m.testBit i := by
  cases h : m.testBit i with
  | false => exact decide_eq_false fun z => by rw [mem_lotN.mp (mem_intsN.mp z)] at h; cases h
  | true => exact decide_eq_true (mem_intsN.mpr (mem_lotN.mpr h))
/-- [.. for x in xs], the items by numbers -/
theorem lcMapG {fi : DI} {vs : List Nat} {i : Nat} {te : DE} {ρ : List Sl} {Q : List D → Prop} {Ed : DXt} (rs : List Nat) (g f : Nat → D) (hf : ∀ R : List D → Prop, R (rs.map g) → fi ρ R Ed) (hl : rs.length ≤ 1000000)
    (hs : ∀ r ∈ rs, ∀ Q' : D → Prop, Q' (f r) → te ((wipeD ρ vs).set i (.dat (g r))) Q' X0) (q : Q (rs.map f)) : fLc fi vs i tYs te ρ Q Ed := by
  refine hf _ ⟨by rw [List.length_map]; exact hl, fun j acc => acc = (rs.take j).map f, rfl, ?_, ?_⟩
  · rintro j x acc hj rfl
    rw [List.getElem?_map] at hj
    cases e : rs[j]? with
    | none => rw [e] at hj; cases hj
    | some r =>
      rw [e] at hj
      cases Option.some.inj hj
      dsimp only [tYs]
      rw [if_pos rfl]
      refine hs r (List.mem_of_getElem? e) _ ?_
      rw [take_snocD e, List.map_append]; rfl
  · rintro acc rfl
    rw [List.length_map, List.take_length]; exact q
theorem rg4 {R : List D → Prop} {n : Nat} (h : R ((List.range n).map fun k : Nat => .int (k : Int))) : R (rgD 0 n) := by
  rw [rg_nat]; exact h
theorem shr1 {r : Nat} : ((r : Int) / 2 ^ ((1 : Int).toNat)) = ((r / 2 : Nat) : Int) := by
  show (r : Int) / 2 ^ 1 = _
  omega
theorem and1 {r : Nat} : Builtin.bitAnd (r : Int) 1 = ((r % 2 : Nat) : Int) := by
  rw [show (1 : Int) = ((1 : Nat) : Int) from rfl, bitAnd_nat, Nat.and_one_is_mod]
theorem range_snoc {α : Type} (f : Nat → α) (i : Nat) : (List.range i).map f ++ [f i] = (List.range (i + 1)).map f := by
  rw [List.range_succ, List.map_append]; rfl
theorem bit_test (m p : Nat) : decide (((m >>> p &&& 1 : Nat) : Int) = 1) = m.testBit p := by
  have e := and1_bit m p
  cases h : m.testBit p with
  | true => rw [e.mpr h]; rfl
  | false => exact decide_eq_false fun z => by rw [e.mp (Int.ofNat.inj z)] at h; cases h
/-- [x for x in xs if ..], the items by numbers -/
theorem lcFiltG {fi : DI} {vs : List Nat} {i : Nat} {tt : DT} {te : DE} {ρ : List Sl} {Q : List D → Prop} {Ed : DXt} (rs : List Nat) (g : Nat → D) (p : Nat → Bool) (hf : ∀ R : List D → Prop, R (rs.map g) → fi ρ R Ed) (hl : rs.length ≤ 1000000)
    (ht : ∀ r ∈ rs, ∀ Q' : Bool → Prop, Q' (p r) → tt ((wipeD ρ vs).set i (.dat (g r))) Q' X0) (hs : ∀ r ∈ rs, p r = true → ∀ Q' : D → Prop, Q' (g r) → te ((wipeD ρ vs).set i (.dat (g r))) Q' X0) (q : Q ((rs.filter p).map g)) : fLc fi vs i tt te ρ Q Ed := by
  refine hf _ ⟨by rw [List.length_map]; exact hl, fun j acc => acc = ((rs.take j).filter p).map g, rfl, ?_, ?_⟩
  · rintro j x acc hj rfl
    rw [List.getElem?_map] at hj
    cases e : rs[j]? with
    | none => rw [e] at hj; cases hj
    | some r =>
      rw [e] at hj
      cases Option.some.inj hj
      refine ht r (List.mem_of_getElem? e) _ ?_
      dsimp only
      rw [take_snocD e, List.filter_append]
      cases h : p r with
      | true =>
        rw [if_pos rfl]
        refine hs r (List.mem_of_getElem? e) h _ ?_
        try dsimp only
        rw [List.map_append, List.filter_cons_of_pos h]; rfl
      | false =>
        rw [if_neg (by decide), List.filter_cons_of_neg (by rw [h]; decide)]
        simp
  · rintro acc rfl
    rw [List.length_map, List.take_length]; exact q
theorem look_inj {s f t a b c : Nat} (e : lookX s f t = lookX a b c) : s = a ∧ f = b ∧ t = c := by
  unfold lookX lotX at e
  injection e with e
  injection e with e1 e
  injection e with e2 e
  injection e with e3 _
  have ni : ∀ {x y : List Nat}, natX x = natX y → x = y := fun h => (List.map_inj_right fun x y h => by injection h with h; exact Int.ofNat.inj h).mp h
  injection e1 with e1
  injection e2 with e2
  injection e3 with e3
  exact ⟨Int.ofNat.inj e1, by rw [← maskN_lotN f, ni e2, maskN_lotN], by rw [← maskN_lotN t, ni e3, maskN_lotN]⟩
theorem tog_ok {s f t s' f' t' : Nat} {Q : D → Prop} {X : Str → D → Prop} (hs : s < 2) (hf : f < 2 ^ 10) (ht : t < 2 ^ 10) (hs' : s' < 2) (hf' : f' < 2 ^ 10) (ht' : t' < 2 ^ 10) (q : Q (.bl (goF f t f' t'))) : d_together [.dat (lookX s f t), .dat (lookX s' f' t')] Q X := by
  have l1 : isLookX 10 (lookX s f t) = true := look_is (n := 10) hs hf ht
  have l2 : isLookX 10 (lookX s' f' t') = true := look_is (n := 10) hs' hf' ht'
  refine ⟨_, _, rfl, noO_look .., noO_look .., fun h => ?_, fun _ h => ?_, fun a b c a' b' c' e1 e2 _ _ _ _ _ _ => ?_⟩
  · rw [l1] at h; cases h
  · rw [l2] at h; cases h
  · obtain ⟨rfl, rfl, rfl⟩ := look_inj e1
    obtain ⟨rfl, rfl, rfl⟩ := look_inj e2
    exact q
theorem times_ok {s f t s' f' t' : Nat} {Q : D → Prop} {X : Str → D → Prop} (hs : s < 2) (hf : f < 2 ^ 10) (ht : t < 2 ^ 10) (hs' : s' < 2) (hf' : f' < 2 ^ 10) (ht' : t' < 2 ^ 10) (h : goF f t f' t' = true) (q : Q (lookX (sgF s f t s' f' t') (f ^^^ f') (t ^^^ t'))) : d_times [.dat (lookX s f t), .dat (lookX s' f' t')] Q X := by
  have l1 : isLookX 10 (lookX s f t) = true := look_is (n := 10) hs hf ht
  have l2 : isLookX 10 (lookX s' f' t') = true := look_is (n := 10) hs' hf' ht'
  refine ⟨_, _, rfl, noO_look .., noO_look .., fun h => ?_, fun _ h => ?_, fun a b c a' b' c' e1 e2 _ _ _ _ _ _ => ?_⟩
  · rw [l1] at h; cases h
  · rw [l2] at h; cases h
  · obtain ⟨rfl, rfl, rfl⟩ := look_inj e1
    obtain ⟨rfl, rfl, rfl⟩ := look_inj e2
    exact ⟨fun z => (by rw [h] at z; cases z), fun _ => q⟩
theorem cast_sum : ∀ l : List Nat, (l.map fun p : Nat => (p : Int)).sum = ((l.sum : Nat) : Int)
  | [] => rfl
  | p :: l => by rw [List.map_cons, List.sum_cons, List.sum_cons, cast_sum l, Int.natCast_add]
theorem mod4 (q : Nat) : Builtin.bitAnd (q : Int) 3 = ((q % 4 : Nat) : Int) := by
  rw [show (3 : Int) = ((3 : Nat) : Int) from rfl, bitAnd_nat]
  congr 1
  exact Nat.and_two_pow_sub_one_eq_mod q 2
end DL

set_option Elab.async false
set_option linter.all false
set_option maxRecDepth 100000
set_option maxHeartbeats 1000000
set_option exponentiation.threshold 2000
namespace DL
open PySem PySem.Spec PyProof.Rows L2 BT
/-! ### the law's lots and codes -/
theorem sem_law_lot : ∀ as Qd Xd, d_law_lot as Qd Xd → as.length = ["_law_mask_here"].length ∧ r_law_lot { nx := fun _ => Qd .non, rt := Qd } (as ++ List.replicate (["_law_mask_here", "_law_place"].length - as.length) .un) (fun _ => Xd) := by
  rintro as Qd Xd ⟨m, rfl, hm, q⟩
  refine ⟨rfl, ?_⟩
  unfold r_law_lot
  (try dsimp only [gN, gN2, sNil, sSeq, sExp, sRet, sIf, sPass, sCont, sBrk, sSet, sSetO, sApp, sAppF, sApPop, flatD, sFrz, sAug, sRaise, sAsg, sPut, eV, eC, e1, e2, t2, tBl, tTru, tN, tAn, tOo, tCh, eNot, eAn, eOo, eIf, eTup, eLst, eF, eFld, eIs, eIxO, eLenO, eSl, eRev, eB, eCall, eCallG, eMeth, aN, aC, aV, oNo, oPt, eIsO, oSrtI, oSrtT, oLt, oLe, oReprB, oInI, gN3, eCh, oGt, oGe, oI, oIC, oI1, oAdd, oMul, oEq, oIsN, oIx, oLen, oList, oTuple, oAbs, oMin2, oInt1, fLst, fListRg1, fList, fRep, fCat, tYs, tru, isS, dats, seqD, seqO, tyS, List.set, List.getElem?_cons_zero, List.getElem?_cons_succ, List.append_eq, List.nil_append, List.cons_append, Option.map_some, Option.bind_some, ng, wipeD, List.length_cons, List.length_nil, Nat.reduceAdd, Nat.reduceSub, List.replicate_succ, List.replicate_zero]; try simp only [decide_eq_true_eq, Bool.not_eq_true', decide_eq_false_iff_not, Bool.false_eq_true, if_false, if_true, reduceIte, String.reduceBEq, Bool.true_or, Bool.false_or, Bool.or_false, Bool.and_false, Bool.false_and, Bool.and_true, Bool.true_and, Bool.not_true, Bool.not_false, ne_eq, not_true_eq_false, reduceCtorEq, Bool.true_eq_false, decide_true, decide_false])
  refine lcFiltN (List.range 10) (fun p => m.testBit p) (fun R h => ?_) (by decide) (fun r hr Q' q => ?_) (fun r hr e Q' q => q) ?_
  · (try dsimp only [gN, gN2, sNil, sSeq, sExp, sRet, sIf, sPass, sCont, sBrk, sSet, sSetO, sApp, sAppF, sApPop, flatD, sFrz, sAug, sRaise, sAsg, sPut, eV, eC, e1, e2, t2, tBl, tTru, tN, tAn, tOo, tCh, eNot, eAn, eOo, eIf, eTup, eLst, eF, eFld, eIs, eIxO, eLenO, eSl, eRev, eB, eCall, eCallG, eMeth, aN, aC, aV, oNo, oPt, eIsO, oSrtI, oSrtT, oLt, oLe, oReprB, oInI, gN3, eCh, oGt, oGe, oI, oIC, oI1, oAdd, oMul, oEq, oIsN, oIx, oLen, oList, oTuple, oAbs, oMin2, oInt1, fLst, fListRg1, fList, fRep, fCat, tYs, tru, isS, dats, seqD, seqO, tyS, List.set, List.getElem?_cons_zero, List.getElem?_cons_succ, List.append_eq, List.nil_append, List.cons_append, Option.map_some, Option.bind_some, ng, wipeD, List.length_cons, List.length_nil, Nat.reduceAdd, Nat.reduceSub, List.replicate_succ, List.replicate_zero]; try simp only [decide_eq_true_eq, Bool.not_eq_true', decide_eq_false_iff_not, Bool.false_eq_true, if_false, if_true, reduceIte, String.reduceBEq, Bool.true_or, Bool.false_or, Bool.or_false, Bool.and_false, Bool.false_and, Bool.and_true, Bool.true_and, Bool.not_true, Bool.not_false, ne_eq, not_true_eq_false, reduceCtorEq, Bool.true_eq_false, decide_true, decide_false])
    exact ⟨by decide, by decide, rg4 h⟩
  · (try dsimp only [gN, gN2, sNil, sSeq, sExp, sRet, sIf, sPass, sCont, sBrk, sSet, sSetO, sApp, sAppF, sApPop, flatD, sFrz, sAug, sRaise, sAsg, sPut, eV, eC, e1, e2, t2, tBl, tTru, tN, tAn, tOo, tCh, eNot, eAn, eOo, eIf, eTup, eLst, eF, eFld, eIs, eIxO, eLenO, eSl, eRev, eB, eCall, eCallG, eMeth, aN, aC, aV, oNo, oPt, eIsO, oSrtI, oSrtT, oLt, oLe, oReprB, oInI, gN3, eCh, oGt, oGe, oI, oIC, oI1, oAdd, oMul, oEq, oIsN, oIx, oLen, oList, oTuple, oAbs, oMin2, oInt1, fLst, fListRg1, fList, fRep, fCat, tYs, tru, isS, dats, seqD, seqO, tyS, List.set, List.getElem?_cons_zero, List.getElem?_cons_succ, List.append_eq, List.nil_append, List.cons_append, Option.map_some, Option.bind_some, ng, wipeD, List.length_cons, List.length_nil, Nat.reduceAdd, Nat.reduceSub, List.replicate_succ, List.replicate_zero]; try simp only [decide_eq_true_eq, Bool.not_eq_true', decide_eq_false_iff_not, Bool.false_eq_true, if_false, if_true, reduceIte, String.reduceBEq, Bool.true_or, Bool.false_or, Bool.or_false, Bool.and_false, Bool.false_and, Bool.and_true, Bool.true_and, Bool.not_true, Bool.not_false, ne_eq, not_true_eq_false, reduceCtorEq, Bool.true_eq_false, decide_true, decide_false])
    refine ⟨by omega, ?_⟩
    rw [bit_shr, bit_test]
    exact q
  · (try dsimp only [gN, gN2, sNil, sSeq, sExp, sRet, sIf, sPass, sCont, sBrk, sSet, sSetO, sApp, sAppF, sApPop, flatD, sFrz, sAug, sRaise, sAsg, sPut, eV, eC, e1, e2, t2, tBl, tTru, tN, tAn, tOo, tCh, eNot, eAn, eOo, eIf, eTup, eLst, eF, eFld, eIs, eIxO, eLenO, eSl, eRev, eB, eCall, eCallG, eMeth, aN, aC, aV, oNo, oPt, eIsO, oSrtI, oSrtT, oLt, oLe, oReprB, oInI, gN3, eCh, oGt, oGe, oI, oIC, oI1, oAdd, oMul, oEq, oIsN, oIx, oLen, oList, oTuple, oAbs, oMin2, oInt1, fLst, fListRg1, fList, fRep, fCat, tYs, tru, isS, dats, seqD, seqO, tyS, List.set, List.getElem?_cons_zero, List.getElem?_cons_succ, List.append_eq, List.nil_append, List.cons_append, Option.map_some, Option.bind_some, ng, wipeD, List.length_cons, List.length_nil, Nat.reduceAdd, Nat.reduceSub, List.replicate_succ, List.replicate_zero]; try simp only [decide_eq_true_eq, Bool.not_eq_true', decide_eq_false_iff_not, Bool.false_eq_true, if_false, if_true, reduceIte, String.reduceBEq, Bool.true_or, Bool.false_or, Bool.or_false, Bool.and_false, Bool.false_and, Bool.and_true, Bool.true_and, Bool.not_true, Bool.not_false, ne_eq, not_true_eq_false, reduceCtorEq, Bool.true_eq_false, decide_true, decide_false])
    rw [show (List.range 10).filter (fun p => m.testBit p) = lotN m from (lotN_eq hm).symm]
    exact q
theorem sem_law_mask : ∀ as Qd Xd, d_law_mask as Qd Xd → as.length = ["_law_lot_here"].length ∧ r_law_mask { nx := fun _ => Qd .non, rt := Qd } (as ++ List.replicate (["_law_lot_here", "_law_place"].length - as.length) .un) (fun _ => Xd) := by
  rintro as Qd Xd ⟨m, rfl, hm, q⟩
  refine ⟨rfl, ?_⟩
  unfold r_law_mask
  (try dsimp only [gN, gN2, sNil, sSeq, sExp, sRet, sIf, sPass, sCont, sBrk, sSet, sSetO, sApp, sAppF, sApPop, flatD, sFrz, sAug, sRaise, sAsg, sPut, eV, eC, e1, e2, t2, tBl, tTru, tN, tAn, tOo, tCh, eNot, eAn, eOo, eIf, eTup, eLst, eF, eFld, eIs, eIxO, eLenO, eSl, eRev, eB, eCall, eCallG, eMeth, aN, aC, aV, oNo, oPt, eIsO, oSrtI, oSrtT, oLt, oLe, oReprB, oInI, gN3, eCh, oGt, oGe, oI, oIC, oI1, oAdd, oMul, oEq, oIsN, oIx, oLen, oList, oTuple, oAbs, oMin2, oInt1, fLst, fListRg1, fList, fRep, fCat, tYs, tru, isS, dats, seqD, seqO, tyS, List.set, List.getElem?_cons_zero, List.getElem?_cons_succ, List.append_eq, List.nil_append, List.cons_append, Option.map_some, Option.bind_some, ng, wipeD, List.length_cons, List.length_nil, Nat.reduceAdd, Nat.reduceSub, List.replicate_succ, List.replicate_zero]; try simp only [decide_eq_true_eq, Bool.not_eq_true', decide_eq_false_iff_not, Bool.false_eq_true, if_false, if_true, reduceIte, String.reduceBEq, Bool.true_or, Bool.false_or, Bool.or_false, Bool.and_false, Bool.false_and, Bool.and_true, Bool.true_and, Bool.not_true, Bool.not_false, ne_eq, not_true_eq_false, reduceCtorEq, Bool.true_eq_false, decide_true, decide_false])
  have hl := lotN_len hm
  refine lcMapN (lotN m) (fun p => 2 ^ p) (fun R h => h) (by omega) (fun r hr Q' q => ?_) ?_
  · have := lotN_small hm (by decide) r hr
    (try dsimp only [gN, gN2, sNil, sSeq, sExp, sRet, sIf, sPass, sCont, sBrk, sSet, sSetO, sApp, sAppF, sApPop, flatD, sFrz, sAug, sRaise, sAsg, sPut, eV, eC, e1, e2, t2, tBl, tTru, tN, tAn, tOo, tCh, eNot, eAn, eOo, eIf, eTup, eLst, eF, eFld, eIs, eIxO, eLenO, eSl, eRev, eB, eCall, eCallG, eMeth, aN, aC, aV, oNo, oPt, eIsO, oSrtI, oSrtT, oLt, oLe, oReprB, oInI, gN3, eCh, oGt, oGe, oI, oIC, oI1, oAdd, oMul, oEq, oIsN, oIx, oLen, oList, oTuple, oAbs, oMin2, oInt1, fLst, fListRg1, fList, fRep, fCat, tYs, tru, isS, dats, seqD, seqO, tyS, List.set, List.getElem?_cons_zero, List.getElem?_cons_succ, List.append_eq, List.nil_append, List.cons_append, Option.map_some, Option.bind_some, ng, wipeD, List.length_cons, List.length_nil, Nat.reduceAdd, Nat.reduceSub, List.replicate_succ, List.replicate_zero]; try simp only [decide_eq_true_eq, Bool.not_eq_true', decide_eq_false_iff_not, Bool.false_eq_true, if_false, if_true, reduceIte, String.reduceBEq, Bool.true_or, Bool.false_or, Bool.or_false, Bool.and_false, Bool.false_and, Bool.and_true, Bool.true_and, Bool.not_true, Bool.not_false, ne_eq, not_true_eq_false, reduceCtorEq, Bool.true_eq_false, decide_true, decide_false])
    refine ⟨cpow1 this, ?_⟩
    rw [shl1_nat]
    exact q
  · unfold oSum
    dsimp only
    rw [intsD_nat]
    dsimp only
    rw [cast_sum, sum_lotN]
    exact q
theorem sem_law_ones : ∀ as Qd Xd, d_law_ones as Qd Xd → as.length = ["_law_mask_here"].length ∧ r_law_ones { nx := fun _ => Qd .non, rt := Qd } (as ++ List.replicate (["_law_mask_here", "_law_place"].length - as.length) .un) (fun _ => Xd) := by
  rintro as Qd Xd ⟨m, rfl, hm, q⟩
  refine ⟨rfl, ?_⟩
  unfold r_law_ones
  (try dsimp only [gN, gN2, sNil, sSeq, sExp, sRet, sIf, sPass, sCont, sBrk, sSet, sSetO, sApp, sAppF, sApPop, flatD, sFrz, sAug, sRaise, sAsg, sPut, eV, eC, e1, e2, t2, tBl, tTru, tN, tAn, tOo, tCh, eNot, eAn, eOo, eIf, eTup, eLst, eF, eFld, eIs, eIxO, eLenO, eSl, eRev, eB, eCall, eCallG, eMeth, aN, aC, aV, oNo, oPt, eIsO, oSrtI, oSrtT, oLt, oLe, oReprB, oInI, gN3, eCh, oGt, oGe, oI, oIC, oI1, oAdd, oMul, oEq, oIsN, oIx, oLen, oList, oTuple, oAbs, oMin2, oInt1, fLst, fListRg1, fList, fRep, fCat, tYs, tru, isS, dats, seqD, seqO, tyS, List.set, List.getElem?_cons_zero, List.getElem?_cons_succ, List.append_eq, List.nil_append, List.cons_append, Option.map_some, Option.bind_some, ng, wipeD, List.length_cons, List.length_nil, Nat.reduceAdd, Nat.reduceSub, List.replicate_succ, List.replicate_zero]; try simp only [decide_eq_true_eq, Bool.not_eq_true', decide_eq_false_iff_not, Bool.false_eq_true, if_false, if_true, reduceIte, String.reduceBEq, Bool.true_or, Bool.false_or, Bool.or_false, Bool.and_false, Bool.false_and, Bool.and_true, Bool.true_and, Bool.not_true, Bool.not_false, ne_eq, not_true_eq_false, reduceCtorEq, Bool.true_eq_false, decide_true, decide_false])
  refine lcMapN (List.range 10) (fun p => m >>> p &&& 1) (fun R h => ?_) (by decide) (fun r hr Q' q => ?_) ?_
  · (try dsimp only [gN, gN2, sNil, sSeq, sExp, sRet, sIf, sPass, sCont, sBrk, sSet, sSetO, sApp, sAppF, sApPop, flatD, sFrz, sAug, sRaise, sAsg, sPut, eV, eC, e1, e2, t2, tBl, tTru, tN, tAn, tOo, tCh, eNot, eAn, eOo, eIf, eTup, eLst, eF, eFld, eIs, eIxO, eLenO, eSl, eRev, eB, eCall, eCallG, eMeth, aN, aC, aV, oNo, oPt, eIsO, oSrtI, oSrtT, oLt, oLe, oReprB, oInI, gN3, eCh, oGt, oGe, oI, oIC, oI1, oAdd, oMul, oEq, oIsN, oIx, oLen, oList, oTuple, oAbs, oMin2, oInt1, fLst, fListRg1, fList, fRep, fCat, tYs, tru, isS, dats, seqD, seqO, tyS, List.set, List.getElem?_cons_zero, List.getElem?_cons_succ, List.append_eq, List.nil_append, List.cons_append, Option.map_some, Option.bind_some, ng, wipeD, List.length_cons, List.length_nil, Nat.reduceAdd, Nat.reduceSub, List.replicate_succ, List.replicate_zero]; try simp only [decide_eq_true_eq, Bool.not_eq_true', decide_eq_false_iff_not, Bool.false_eq_true, if_false, if_true, reduceIte, String.reduceBEq, Bool.true_or, Bool.false_or, Bool.or_false, Bool.and_false, Bool.false_and, Bool.and_true, Bool.true_and, Bool.not_true, Bool.not_false, ne_eq, not_true_eq_false, reduceCtorEq, Bool.true_eq_false, decide_true, decide_false])
    exact ⟨by decide, by decide, rg4 h⟩
  · (try dsimp only [gN, gN2, sNil, sSeq, sExp, sRet, sIf, sPass, sCont, sBrk, sSet, sSetO, sApp, sAppF, sApPop, flatD, sFrz, sAug, sRaise, sAsg, sPut, eV, eC, e1, e2, t2, tBl, tTru, tN, tAn, tOo, tCh, eNot, eAn, eOo, eIf, eTup, eLst, eF, eFld, eIs, eIxO, eLenO, eSl, eRev, eB, eCall, eCallG, eMeth, aN, aC, aV, oNo, oPt, eIsO, oSrtI, oSrtT, oLt, oLe, oReprB, oInI, gN3, eCh, oGt, oGe, oI, oIC, oI1, oAdd, oMul, oEq, oIsN, oIx, oLen, oList, oTuple, oAbs, oMin2, oInt1, fLst, fListRg1, fList, fRep, fCat, tYs, tru, isS, dats, seqD, seqO, tyS, List.set, List.getElem?_cons_zero, List.getElem?_cons_succ, List.append_eq, List.nil_append, List.cons_append, Option.map_some, Option.bind_some, ng, wipeD, List.length_cons, List.length_nil, Nat.reduceAdd, Nat.reduceSub, List.replicate_succ, List.replicate_zero]; try simp only [decide_eq_true_eq, Bool.not_eq_true', decide_eq_false_iff_not, Bool.false_eq_true, if_false, if_true, reduceIte, String.reduceBEq, Bool.true_or, Bool.false_or, Bool.or_false, Bool.and_false, Bool.false_and, Bool.and_true, Bool.true_and, Bool.not_true, Bool.not_false, ne_eq, not_true_eq_false, reduceCtorEq, Bool.true_eq_false, decide_true, decide_false])
    refine ⟨by omega, ?_⟩
    rw [bit_shr]
    exact q
  · unfold oSum
    dsimp only
    rw [intsD_nat]
    dsimp only
    rw [cast_sum, ones_pop hm]
    exact q
theorem cF_lt (c : Nat) : cF c < 2 ^ 10 := by
  have : cF c ≤ 1023 := Nat.and_le_right
  omega
theorem cT_lt {c : Nat} (h : c < 2 ^ 20) : cT c < 2 ^ 10 := by
  unfold cT
  rw [Nat.shiftRight_eq_div_pow]
  omega
theorem and_cF (c : Nat) : Builtin.bitAnd (c : Int) 1023 = ((cF c : Nat) : Int) := by
  rw [show (1023 : Int) = ((1023 : Nat) : Int) from rfl, bitAnd_nat]; rfl
theorem shr_cT (c : Nat) : (c : Int) / 2 ^ ((10 : Int).toNat) = ((cT c : Nat) : Int) := by
  rw [show (10 : Int) = ((10 : Nat) : Int) from rfl, shr_nat]; rfl
theorem sem_law_goes : ∀ as Qd Xd, d_law_goes as Qd Xd → as.length = ["_law_first", "_law_second"].length ∧ r_law_goes { nx := fun _ => Qd .non, rt := Qd } (as ++ List.replicate (["_law_first", "_law_second", "_law_crossings"].length - as.length) .un) (fun _ => Xd) := by
  rintro as Qd Xd ⟨c, e, rfl, hc, he, q⟩
  refine ⟨rfl, ?_⟩
  unfold r_law_goes
  (try dsimp only [gN, gN2, sNil, sSeq, sExp, sRet, sIf, sPass, sCont, sBrk, sSet, sSetO, sApp, sAppF, sApPop, flatD, sFrz, sAug, sRaise, sAsg, sPut, eV, eC, e1, e2, t2, tBl, tTru, tN, tAn, tOo, tCh, eNot, eAn, eOo, eIf, eTup, eLst, eF, eFld, eIs, eIxO, eLenO, eSl, eRev, eB, eCall, eCallG, eMeth, aN, aC, aV, oNo, oPt, eIsO, oSrtI, oSrtT, oLt, oLe, oReprB, oInI, gN3, eCh, oGt, oGe, oI, oIC, oI1, oAdd, oMul, oEq, oIsN, oIx, oLen, oList, oTuple, oAbs, oMin2, oInt1, fLst, fListRg1, fList, fRep, fCat, tYs, tru, isS, dats, seqD, seqO, tyS, List.set, List.getElem?_cons_zero, List.getElem?_cons_succ, List.append_eq, List.nil_append, List.cons_append, Option.map_some, Option.bind_some, ng, wipeD, List.length_cons, List.length_nil, Nat.reduceAdd, Nat.reduceSub, List.replicate_succ, List.replicate_zero]; try simp only [decide_eq_true_eq, Bool.not_eq_true', decide_eq_false_iff_not, Bool.false_eq_true, if_false, if_true, reduceIte, String.reduceBEq, Bool.true_or, Bool.false_or, Bool.or_false, Bool.and_false, Bool.false_and, Bool.and_true, Bool.true_and, Bool.not_true, Bool.not_false, ne_eq, not_true_eq_false, reduceCtorEq, Bool.true_eq_false, decide_true, decide_false])
  rw [and_cF, shr_cT, bitAnd_nat]
  refine ⟨by decide, _, rfl, Nat.lt_of_le_of_lt Nat.and_le_left (cF_lt c), ?_⟩
  (try dsimp only [gN, gN2, sNil, sSeq, sExp, sRet, sIf, sPass, sCont, sBrk, sSet, sSetO, sApp, sAppF, sApPop, flatD, sFrz, sAug, sRaise, sAsg, sPut, eV, eC, e1, e2, t2, tBl, tTru, tN, tAn, tOo, tCh, eNot, eAn, eOo, eIf, eTup, eLst, eF, eFld, eIs, eIxO, eLenO, eSl, eRev, eB, eCall, eCallG, eMeth, aN, aC, aV, oNo, oPt, eIsO, oSrtI, oSrtT, oLt, oLe, oReprB, oInI, gN3, eCh, oGt, oGe, oI, oIC, oI1, oAdd, oMul, oEq, oIsN, oIx, oLen, oList, oTuple, oAbs, oMin2, oInt1, fLst, fListRg1, fList, fRep, fCat, tYs, tru, isS, dats, seqD, seqO, tyS, List.set, List.getElem?_cons_zero, List.getElem?_cons_succ, List.append_eq, List.nil_append, List.cons_append, Option.map_some, Option.bind_some, ng, wipeD, List.length_cons, List.length_nil, Nat.reduceAdd, Nat.reduceSub, List.replicate_succ, List.replicate_zero]; try simp only [decide_eq_true_eq, Bool.not_eq_true', decide_eq_false_iff_not, Bool.false_eq_true, if_false, if_true, reduceIte, String.reduceBEq, Bool.true_or, Bool.false_or, Bool.or_false, Bool.and_false, Bool.false_and, Bool.and_true, Bool.true_and, Bool.not_true, Bool.not_false, ne_eq, not_true_eq_false, reduceCtorEq, Bool.true_eq_false, decide_true, decide_false])
  rw [and_cF, shr_cT, bitAnd_nat]
  refine ⟨by decide, _, rfl, Nat.lt_of_le_of_lt Nat.and_le_right (cF_lt e), ?_⟩
  (try dsimp only [gN, gN2, sNil, sSeq, sExp, sRet, sIf, sPass, sCont, sBrk, sSet, sSetO, sApp, sAppF, sApPop, flatD, sFrz, sAug, sRaise, sAsg, sPut, eV, eC, e1, e2, t2, tBl, tTru, tN, tAn, tOo, tCh, eNot, eAn, eOo, eIf, eTup, eLst, eF, eFld, eIs, eIxO, eLenO, eSl, eRev, eB, eCall, eCallG, eMeth, aN, aC, aV, oNo, oPt, eIsO, oSrtI, oSrtT, oLt, oLe, oReprB, oInI, gN3, eCh, oGt, oGe, oI, oIC, oI1, oAdd, oMul, oEq, oIsN, oIx, oLen, oList, oTuple, oAbs, oMin2, oInt1, fLst, fListRg1, fList, fRep, fCat, tYs, tru, isS, dats, seqD, seqO, tyS, List.set, List.getElem?_cons_zero, List.getElem?_cons_succ, List.append_eq, List.nil_append, List.cons_append, Option.map_some, Option.bind_some, ng, wipeD, List.length_cons, List.length_nil, Nat.reduceAdd, Nat.reduceSub, List.replicate_succ, List.replicate_zero]; try simp only [decide_eq_true_eq, Bool.not_eq_true', decide_eq_false_iff_not, Bool.false_eq_true, if_false, if_true, reduceIte, String.reduceBEq, Bool.true_or, Bool.false_or, Bool.or_false, Bool.and_false, Bool.false_and, Bool.and_true, Bool.true_and, Bool.not_true, Bool.not_false, ne_eq, not_true_eq_false, reduceCtorEq, Bool.true_eq_false, decide_true, decide_false])
  rw [← Int.natCast_add, and1]
  rw [show decide ((((pop (cF c &&& cT e) + pop (cT c &&& cF e)) % 2 : Nat) : Int) = 0) = goC c e from decide_eq_decide.mpr (by omega)]
  exact q
theorem sem_law_shaped : ∀ as Qd Xd, d_law_shaped as Qd Xd → as.length = ["_law_source_here", "_law_earlier"].length ∧ r_law_shaped { nx := fun _ => Qd .non, rt := Qd } (as ++ List.replicate (["_law_source_here", "_law_earlier", "_law_kind", "_law_flips", "_law_turns"].length - as.length) .un) (fun _ => Xd) := by
  rintro as Qd Xd ⟨es, rfl, hl, hb, q⟩
  refine ⟨rfl, ?_⟩
  unfold r_law_shaped
  (try dsimp only [gN, gN2, sNil, sSeq, sExp, sRet, sIf, sPass, sCont, sBrk, sSet, sSetO, sApp, sAppF, sApPop, flatD, sFrz, sAug, sRaise, sAsg, sPut, eV, eC, e1, e2, t2, tBl, tTru, tN, tAn, tOo, tCh, eNot, eAn, eOo, eIf, eTup, eLst, eF, eFld, eIs, eIxO, eLenO, eSl, eRev, eB, eCall, eCallG, eMeth, aN, aC, aV, oNo, oPt, eIsO, oSrtI, oSrtT, oLt, oLe, oReprB, oInI, gN3, eCh, oGt, oGe, oI, oIC, oI1, oAdd, oMul, oEq, oIsN, oIx, oLen, oList, oTuple, oAbs, oMin2, oInt1, fLst, fListRg1, fList, fRep, fCat, tYs, tru, isS, dats, seqD, seqO, tyS, List.set, List.getElem?_cons_zero, List.getElem?_cons_succ, List.append_eq, List.nil_append, List.cons_append, Option.map_some, Option.bind_some, ng, wipeD, List.length_cons, List.length_nil, Nat.reduceAdd, Nat.reduceSub, List.replicate_succ, List.replicate_zero]; try simp only [decide_eq_true_eq, Bool.not_eq_true', decide_eq_false_iff_not, Bool.false_eq_true, if_false, if_true, reduceIte, String.reduceBEq, Bool.true_or, Bool.false_or, Bool.or_false, Bool.and_false, Bool.false_and, Bool.and_true, Bool.true_and, Bool.not_true, Bool.not_false, ne_eq, not_true_eq_false, reduceCtorEq, Bool.true_eq_false, decide_true, decide_false])
  refine ⟨8, rfl, by decide, by decide, fun k k0 k1 => ?_⟩
  (try dsimp only [gN, gN2, sNil, sSeq, sExp, sRet, sIf, sPass, sCont, sBrk, sSet, sSetO, sApp, sAppF, sApPop, flatD, sFrz, sAug, sRaise, sAsg, sPut, eV, eC, e1, e2, t2, tBl, tTru, tN, tAn, tOo, tCh, eNot, eAn, eOo, eIf, eTup, eLst, eF, eFld, eIs, eIxO, eLenO, eSl, eRev, eB, eCall, eCallG, eMeth, aN, aC, aV, oNo, oPt, eIsO, oSrtI, oSrtT, oLt, oLe, oReprB, oInI, gN3, eCh, oGt, oGe, oI, oIC, oI1, oAdd, oMul, oEq, oIsN, oIx, oLen, oList, oTuple, oAbs, oMin2, oInt1, fLst, fListRg1, fList, fRep, fCat, tYs, tru, isS, dats, seqD, seqO, tyS, List.set, List.getElem?_cons_zero, List.getElem?_cons_succ, List.append_eq, List.nil_append, List.cons_append, Option.map_some, Option.bind_some, ng, wipeD, List.length_cons, List.length_nil, Nat.reduceAdd, Nat.reduceSub, List.replicate_succ, List.replicate_zero]; try simp only [decide_eq_true_eq, Bool.not_eq_true', decide_eq_false_iff_not, Bool.false_eq_true, if_false, if_true, reduceIte, String.reduceBEq, Bool.true_or, Bool.false_or, Bool.or_false, Bool.and_false, Bool.false_and, Bool.and_true, Bool.true_and, Bool.not_true, Bool.not_false, ne_eq, not_true_eq_false, reduceCtorEq, Bool.true_eq_false, decide_true, decide_false])
  refine ⟨1024, rfl, by decide, by decide, fun f f0 f1 => ?_⟩
  obtain ⟨f, rfl⟩ := Int.eq_ofNat_of_zero_le f0
  (try dsimp only [gN, gN2, sNil, sSeq, sExp, sRet, sIf, sPass, sCont, sBrk, sSet, sSetO, sApp, sAppF, sApPop, flatD, sFrz, sAug, sRaise, sAsg, sPut, eV, eC, e1, e2, t2, tBl, tTru, tN, tAn, tOo, tCh, eNot, eAn, eOo, eIf, eTup, eLst, eF, eFld, eIs, eIxO, eLenO, eSl, eRev, eB, eCall, eCallG, eMeth, aN, aC, aV, oNo, oPt, eIsO, oSrtI, oSrtT, oLt, oLe, oReprB, oInI, gN3, eCh, oGt, oGe, oI, oIC, oI1, oAdd, oMul, oEq, oIsN, oIx, oLen, oList, oTuple, oAbs, oMin2, oInt1, fLst, fListRg1, fList, fRep, fCat, tYs, tru, isS, dats, seqD, seqO, tyS, List.set, List.getElem?_cons_zero, List.getElem?_cons_succ, List.append_eq, List.nil_append, List.cons_append, Option.map_some, Option.bind_some, ng, wipeD, List.length_cons, List.length_nil, Nat.reduceAdd, Nat.reduceSub, List.replicate_succ, List.replicate_zero]; try simp only [decide_eq_true_eq, Bool.not_eq_true', decide_eq_false_iff_not, Bool.false_eq_true, if_false, if_true, reduceIte, String.reduceBEq, Bool.true_or, Bool.false_or, Bool.or_false, Bool.and_false, Bool.false_and, Bool.and_true, Bool.true_and, Bool.not_true, Bool.not_false, ne_eq, not_true_eq_false, reduceCtorEq, Bool.true_eq_false, decide_true, decide_false])
  refine ⟨1024, rfl, by decide, by decide, fun t t0 t1 => ?_⟩
  obtain ⟨t, rfl⟩ := Int.eq_ofNat_of_zero_le t0
  (try dsimp only [gN, gN2, sNil, sSeq, sExp, sRet, sIf, sPass, sCont, sBrk, sSet, sSetO, sApp, sAppF, sApPop, flatD, sFrz, sAug, sRaise, sAsg, sPut, eV, eC, e1, e2, t2, tBl, tTru, tN, tAn, tOo, tCh, eNot, eAn, eOo, eIf, eTup, eLst, eF, eFld, eIs, eIxO, eLenO, eSl, eRev, eB, eCall, eCallG, eMeth, aN, aC, aV, oNo, oPt, eIsO, oSrtI, oSrtT, oLt, oLe, oReprB, oInI, gN3, eCh, oGt, oGe, oI, oIC, oI1, oAdd, oMul, oEq, oIsN, oIx, oLen, oList, oTuple, oAbs, oMin2, oInt1, fLst, fListRg1, fList, fRep, fCat, tYs, tru, isS, dats, seqD, seqO, tyS, List.set, List.getElem?_cons_zero, List.getElem?_cons_succ, List.append_eq, List.nil_append, List.cons_append, Option.map_some, Option.bind_some, ng, wipeD, List.length_cons, List.length_nil, Nat.reduceAdd, Nat.reduceSub, List.replicate_succ, List.replicate_zero]; try simp only [decide_eq_true_eq, Bool.not_eq_true', decide_eq_false_iff_not, Bool.false_eq_true, if_false, if_true, reduceIte, String.reduceBEq, Bool.true_or, Bool.false_or, Bool.or_false, Bool.and_false, Bool.false_and, Bool.and_true, Bool.true_and, Bool.not_true, Bool.not_false, ne_eq, not_true_eq_false, reduceCtorEq, Bool.true_eq_false, decide_true, decide_false])
  have hf : f < 2 ^ 10 := by omega
  have ht : t < 2 ^ 10 := by omega
  have up : ∀ {x : Nat}, x < 2 ^ 10 → x < 2 ^ 20 := fun h => Nat.lt_of_lt_of_le h (pow_le (by decide))
  have c10 : ∀ {x : Nat}, x < 2 ^ 10 → CPow (x : Int) 10 := fun {x} h => ⟨by decide, by decide, by omega⟩
  have shl : ∀ x : Nat, (x : Int) * (2 : Int) ^ ((10 : Int).toNat) = ((x <<< 10 : Nat) : Int) := fun x => by
    show (x : Int) * 1024 = _
    rw [Nat.shiftLeft_eq]; omega
  have lt20 : ∀ {x : Nat}, x < 2 ^ 10 → x <<< 10 < 2 ^ 20 := fun {x} h => by rw [Nat.shiftLeft_eq]; omega
  have last : CPow (t : Int) 10 ∧ Qd (D.int (Builtin.bitOr (f : Int) ((t : Int) * (2 : Int) ^ Int.toNat 10))) := by
    rw [shl, bitOr_nat]
    exact ⟨c10 ht, q _ (Nat.or_lt_two_pow (up hf) (lt20 ht))⟩
  by_cases e0 : k = 0
  · rw [if_pos e0]; exact q f (up hf)
  rw [if_neg e0]
  by_cases e1 : k = 1
  · rw [if_pos e1, shl]; exact ⟨c10 ht, q _ (lt20 ht)⟩
  rw [if_neg e1]
  by_cases e2 : k = 2
  · have h2 : f &&& t < 2 ^ 10 := Nat.lt_of_le_of_lt Nat.and_le_left hf
    rw [if_pos e2, bitAnd_nat, shl, bitOr_nat]
    exact ⟨c10 h2, q _ (Nat.or_lt_two_pow (up h2) (lt20 h2))⟩
  rw [if_neg e2]
  have tail : if k = 5 then d_law_draw [Sl.src, Sl.dat (D.int 10)]
                  (fun y =>
                    match D.int 1, y, fun x =>
                      d_law_draw [Sl.src, Sl.dat (D.int 10)]
                        (fun y =>
                          match D.int 10, y, fun y =>
                            match D.int 1, y, fun y =>
                              match x, y, Qd with
                              | D.int i, D.int j, Q => Q (D.int (Builtin.bitOr i j))
                              | x, x_1, x_2 => False with
                            | D.int i, D.int j, Q => CPow i j ∧ Q (D.int (i * 2 ^ j.toNat))
                            | x, x_1, x_2 => False with
                          | D.int i, D.int j, Q => Q (D.int (i + j))
                          | D.lst xs, D.lst ys, Q => xs.length + ys.length ≤ 1000000 ∧ Q (D.lst (xs ++ ys))
                          | D.tup xs, D.tup ys, Q => xs.length + ys.length ≤ 1000000 ∧ Q (D.tup (xs ++ ys))
                          | D.str x, D.str y, Q => x.length + y.length ≤ 1000000 ∧ Q (D.str (x ++ y))
                          | x, x_1, x_2 => False)
                        Xd with
                    | D.int i, D.int j, Q => CPow i j ∧ Q (D.int (i * 2 ^ j.toNat))
                    | x, x_1, x_2 => False)
                  Xd else CPow (t : Int) 10 ∧ Qd (D.int (Builtin.bitOr (f : Int) ((t : Int) * (2 : Int) ^ Int.toNat 10))) := by
    by_cases e5 : k = 5
    · rw [if_pos e5]
      refine ⟨10, rfl, by decide, by decide, fun u u0 u1 => ?_⟩
      obtain ⟨u, rfl⟩ := Int.eq_ofNat_of_zero_le u0
      refine ⟨cpow1 (by omega), ?_⟩
      refine ⟨10, rfl, by decide, by decide, fun v v0 v1 => ?_⟩
      obtain ⟨v, rfl⟩ := Int.eq_ofNat_of_zero_le v0
      have e10 : (10 : Int) + (v : Int) = ((10 + v : Nat) : Int) := by omega
      dsimp only
      rw [e10]
      refine ⟨cpow1 (by omega), ?_⟩
      rw [shl1_nat, shl1_nat, bitOr_nat]
      exact q _ (Nat.or_lt_two_pow (Nat.pow_lt_pow_right (by decide) (by omega)) (Nat.pow_lt_pow_right (by decide) (by omega)))
    · rw [if_neg e5]; exact last
  have get : ∀ i : Nat, i < es.length → ∃ e : Nat, atI (natX es) (i : Int) = some (.int (e : Int)) ∧ e < 2 ^ 20 := fun i h => ⟨es[i], natX_at (List.getElem?_eq_getElem h), hb _ (List.getElem_mem h)⟩
  have four : ∀ T : Prop, T → (if k = 4 then
              if 1 < ((natX es).length : Int) then
                match atI (natX es) 0 with
                | some d =>
                  match atI (natX es) 1 with
                  | some d_1 =>
                    match d, d_1, Qd with
                    | D.int i, D.int j, Q => Q (D.int (Builtin.bitXor i j))
                    | x, x_1, x_2 => False
                  | none => False
                | none => False
              else T
            else T) := fun T tail => by
    by_cases e4 : k = 4
    · rw [if_pos e4]
      by_cases l : 1 < ((natX es).length : Int)
      · rw [if_pos l]
        rw [natX_len] at l
        obtain ⟨x, ex, hx⟩ := get 0 (by omega)
        obtain ⟨y, ey, hy⟩ := get 1 (by omega)
        rw [show atI (natX es) 0 = some (.int (x : Int)) from ex, show atI (natX es) 1 = some (.int (y : Int)) from ey]
        dsimp only
        rw [bitXor_nat]
        exact q _ (Nat.xor_lt_two_pow hx hy)
      · rw [if_neg l]; exact tail
    · rw [if_neg e4]; exact tail
  by_cases e3 : k = 3
  · rw [if_pos e3]
    by_cases l : 0 < ((natX es).length : Int)
    · rw [if_pos l]
      rw [natX_len] at l ⊢
      refine ⟨es.length, rfl, by omega, by omega, fun v v0 v1 => ?_⟩
      obtain ⟨v, rfl⟩ := Int.eq_ofNat_of_zero_le v0
      obtain ⟨x, ex, hx⟩ := get v (by omega)
      dsimp only
      rw [ex]
      exact q _ hx
    · rw [if_neg l]; exact four _ tail
  · rw [if_neg e3]; exact four _ tail
end DL

set_option Elab.async false
set_option linter.all false
set_option maxRecDepth 100000
set_option maxHeartbeats 1000000
set_option exponentiation.threshold 2000
namespace DL
open PySem PySem.Spec PyProof.Rows L2 BT
/-! ### codes that go with the earlier ones -/
theorem lcBl {fi : DI} {vs : List Nat} {i : Nat} {te : DE} {ρ : List Sl} {Q : List D → Prop} {Ed : DXt} (rs : List Nat) (p : Nat → Bool) (hf : ∀ R : List D → Prop, R (natX rs) → fi ρ R Ed) (hl : rs.length ≤ 1000000)
    (hs : ∀ r ∈ rs, ∀ Q' : D → Prop, Q' (.bl (p r)) → te ((wipeD ρ vs).set i (.dat (.int (r : Int)))) Q' X0) (q : Q ((rs.map p).map D.bl)) : fLc fi vs i tYs te ρ Q Ed :=
  lcMapG rs (fun r : Nat => .int (r : Int)) (fun r => .bl (p r)) hf hl hs (by rw [List.map_map] at q; exact q)
theorem all_map (rs : List Nat) (p : Nat → Bool) : (rs.map p).all id = rs.all p := by rw [List.all_map]; rfl
theorem sem_law_suits : ∀ as Qd Xd, d_law_suits as Qd Xd → as.length = ["_law_code", "_law_earlier"].length ∧ r_law_suits { nx := fun _ => Qd .non, rt := Qd } (as ++ List.replicate (["_law_code", "_law_earlier", "_law_other"].length - as.length) .un) (fun _ => Xd) := by
  rintro as Qd Xd ⟨c, es, rfl, hc, hl, hb, q⟩
  refine ⟨rfl, ?_⟩
  unfold r_law_suits
  (try dsimp only [gN, gN2, sNil, sSeq, sExp, sRet, sIf, sPass, sCont, sBrk, sSet, sSetO, sApp, sAppF, sApPop, flatD, sFrz, sAug, sRaise, sAsg, sPut, eV, eC, e1, e2, t2, tBl, tTru, tN, tAn, tOo, tCh, eNot, eAn, eOo, eIf, eTup, eLst, eF, eFld, eIs, eIxO, eLenO, eSl, eRev, eB, eCall, eCallG, eMeth, aN, aC, aV, oNo, oPt, eIsO, oSrtI, oSrtT, oLt, oLe, oReprB, oInI, gN3, eCh, oGt, oGe, oI, oIC, oI1, oAdd, oMul, oEq, oIsN, oIx, oLen, oList, oTuple, oAbs, oMin2, oInt1, fLst, fListRg1, fList, fRep, fCat, tYs, tru, isS, dats, seqD, seqO, tyS, List.set, List.getElem?_cons_zero, List.getElem?_cons_succ, List.append_eq, List.nil_append, List.cons_append, Option.map_some, Option.bind_some, ng, wipeD, List.length_cons, List.length_nil, Nat.reduceAdd, Nat.reduceSub, List.replicate_succ, List.replicate_zero]; try simp only [decide_eq_true_eq, Bool.not_eq_true', decide_eq_false_iff_not, Bool.false_eq_true, if_false, if_true, reduceIte, String.reduceBEq, Bool.true_or, Bool.false_or, Bool.or_false, Bool.and_false, Bool.false_and, Bool.and_true, Bool.true_and, Bool.not_true, Bool.not_false, ne_eq, not_true_eq_false, reduceCtorEq, Bool.true_eq_false, decide_true, decide_false])
  refine lcBl es (goC c) (fun R h => h) (by omega) (fun r hr Q' q => ⟨c, r, rfl, hc, hb r hr, q⟩) ?_
  unfold oAll
  dsimp only
  rw [bools_of]
  dsimp only
  rw [all_map]
  exact q
theorem goC_zero (e : Nat) : goC 0 e = true := by
  unfold goC goF cF cT
  simp [pop_zero]
theorem sem_law_fitted : ∀ as Qd Xd, d_law_fitted as Qd Xd → as.length = ["_law_code", "_law_earlier"].length ∧ r_law_fitted { nx := fun _ => Qd .non, rt := Qd } (as ++ List.replicate (["_law_code", "_law_earlier", "_law_place", "_law_second"].length - as.length) .un) (fun _ => Xd) := by
  rintro as Qd Xd ⟨c, es, rfl, hc, hl, hb, q⟩
  refine ⟨rfl, ?_⟩
  have bit : ∀ {p : Nat}, p < 20 → 2 ^ p < 2 ^ 20 := fun h => Nat.pow_lt_pow_right (by decide) h
  unfold r_law_fitted
  (try dsimp only [gN, gN2, sNil, sSeq, sExp, sRet, sIf, sPass, sCont, sBrk, sSet, sSetO, sApp, sAppF, sApPop, flatD, sFrz, sAug, sRaise, sAsg, sPut, eV, eC, e1, e2, t2, tBl, tTru, tN, tAn, tOo, tCh, eNot, eAn, eOo, eIf, eTup, eLst, eF, eFld, eIs, eIxO, eLenO, eSl, eRev, eB, eCall, eCallG, eMeth, aN, aC, aV, oNo, oPt, eIsO, oSrtI, oSrtT, oLt, oLe, oReprB, oInI, gN3, eCh, oGt, oGe, oI, oIC, oI1, oAdd, oMul, oEq, oIsN, oIx, oLen, oList, oTuple, oAbs, oMin2, oInt1, fLst, fListRg1, fList, fRep, fCat, tYs, tru, isS, dats, seqD, seqO, tyS, List.set, List.getElem?_cons_zero, List.getElem?_cons_succ, List.append_eq, List.nil_append, List.cons_append, Option.map_some, Option.bind_some, ng, wipeD, List.length_cons, List.length_nil, Nat.reduceAdd, Nat.reduceSub, List.replicate_succ, List.replicate_zero]; try simp only [decide_eq_true_eq, Bool.not_eq_true', decide_eq_false_iff_not, Bool.false_eq_true, if_false, if_true, reduceIte, String.reduceBEq, Bool.true_or, Bool.false_or, Bool.or_false, Bool.and_false, Bool.false_and, Bool.and_true, Bool.true_and, Bool.not_true, Bool.not_false, ne_eq, not_true_eq_false, reduceCtorEq, Bool.true_eq_false, decide_true, decide_false])
  refine ⟨c, es, rfl, hc, hl, hb, ?_⟩
  cases h : es.all (goC c) with
  | true => (try dsimp only [gN, gN2, sNil, sSeq, sExp, sRet, sIf, sPass, sCont, sBrk, sSet, sSetO, sApp, sAppF, sApPop, flatD, sFrz, sAug, sRaise, sAsg, sPut, eV, eC, e1, e2, t2, tBl, tTru, tN, tAn, tOo, tCh, eNot, eAn, eOo, eIf, eTup, eLst, eF, eFld, eIs, eIxO, eLenO, eSl, eRev, eB, eCall, eCallG, eMeth, aN, aC, aV, oNo, oPt, eIsO, oSrtI, oSrtT, oLt, oLe, oReprB, oInI, gN3, eCh, oGt, oGe, oI, oIC, oI1, oAdd, oMul, oEq, oIsN, oIx, oLen, oList, oTuple, oAbs, oMin2, oInt1, fLst, fListRg1, fList, fRep, fCat, tYs, tru, isS, dats, seqD, seqO, tyS, List.set, List.getElem?_cons_zero, List.getElem?_cons_succ, List.append_eq, List.nil_append, List.cons_append, Option.map_some, Option.bind_some, ng, wipeD, List.length_cons, List.length_nil, Nat.reduceAdd, Nat.reduceSub, List.replicate_succ, List.replicate_zero]; try simp only [decide_eq_true_eq, Bool.not_eq_true', decide_eq_false_iff_not, Bool.false_eq_true, if_false, if_true, reduceIte, String.reduceBEq, Bool.true_or, Bool.false_or, Bool.or_false, Bool.and_false, Bool.false_and, Bool.and_true, Bool.true_and, Bool.not_true, Bool.not_false, ne_eq, not_true_eq_false, reduceCtorEq, Bool.true_eq_false, decide_true, decide_false]); exact q c hc h
  | false =>
    (try dsimp only [gN, gN2, sNil, sSeq, sExp, sRet, sIf, sPass, sCont, sBrk, sSet, sSetO, sApp, sAppF, sApPop, flatD, sFrz, sAug, sRaise, sAsg, sPut, eV, eC, e1, e2, t2, tBl, tTru, tN, tAn, tOo, tCh, eNot, eAn, eOo, eIf, eTup, eLst, eF, eFld, eIs, eIxO, eLenO, eSl, eRev, eB, eCall, eCallG, eMeth, aN, aC, aV, oNo, oPt, eIsO, oSrtI, oSrtT, oLt, oLe, oReprB, oInI, gN3, eCh, oGt, oGe, oI, oIC, oI1, oAdd, oMul, oEq, oIsN, oIx, oLen, oList, oTuple, oAbs, oMin2, oInt1, fLst, fListRg1, fList, fRep, fCat, tYs, tru, isS, dats, seqD, seqO, tyS, List.set, List.getElem?_cons_zero, List.getElem?_cons_succ, List.append_eq, List.nil_append, List.cons_append, Option.map_some, Option.bind_some, ng, wipeD, List.length_cons, List.length_nil, Nat.reduceAdd, Nat.reduceSub, List.replicate_succ, List.replicate_zero, sFor, iRg1, iRg2, iSq, iEn, fLc]; try simp only [decide_eq_true_eq, Bool.not_eq_true', decide_eq_false_iff_not, Bool.false_eq_true, if_false, if_true, reduceIte, String.reduceBEq, Bool.true_or, Bool.false_or, Bool.or_false, Bool.and_false, Bool.false_and, Bool.and_true, Bool.true_and, Bool.not_true, Bool.not_false, ne_eq, not_true_eq_false, reduceCtorEq, Bool.true_eq_false, decide_true, decide_false])
    refine ⟨by decide, by decide, fun i ρ => ∃ y z, ρ = [.dat (.int (c : Int)), .dat (.lst (natX es)), y, z], ⟨_, _, rfl⟩, ?_, ?_⟩
    · rintro p x ρ hx ⟨y, z, rfl⟩
      obtain ⟨hp, rfl⟩ := rgD_get hx
      have hp : p < 20 := hp
      rw [Int.zero_add]
      (try dsimp only [gN, gN2, sNil, sSeq, sExp, sRet, sIf, sPass, sCont, sBrk, sSet, sSetO, sApp, sAppF, sApPop, flatD, sFrz, sAug, sRaise, sAsg, sPut, eV, eC, e1, e2, t2, tBl, tTru, tN, tAn, tOo, tCh, eNot, eAn, eOo, eIf, eTup, eLst, eF, eFld, eIs, eIxO, eLenO, eSl, eRev, eB, eCall, eCallG, eMeth, aN, aC, aV, oNo, oPt, eIsO, oSrtI, oSrtT, oLt, oLe, oReprB, oInI, gN3, eCh, oGt, oGe, oI, oIC, oI1, oAdd, oMul, oEq, oIsN, oIx, oLen, oList, oTuple, oAbs, oMin2, oInt1, fLst, fListRg1, fList, fRep, fCat, tYs, tru, isS, dats, seqD, seqO, tyS, List.set, List.getElem?_cons_zero, List.getElem?_cons_succ, List.append_eq, List.nil_append, List.cons_append, Option.map_some, Option.bind_some, ng, wipeD, List.length_cons, List.length_nil, Nat.reduceAdd, Nat.reduceSub, List.replicate_succ, List.replicate_zero]; try simp only [decide_eq_true_eq, Bool.not_eq_true', decide_eq_false_iff_not, Bool.false_eq_true, if_false, if_true, reduceIte, String.reduceBEq, Bool.true_or, Bool.false_or, Bool.or_false, Bool.and_false, Bool.false_and, Bool.and_true, Bool.true_and, Bool.not_true, Bool.not_false, ne_eq, not_true_eq_false, reduceCtorEq, Bool.true_eq_false, decide_true, decide_false])
      rw [shl1_nat, bitXor_nat]
      have h1 : c ^^^ 2 ^ p < 2 ^ 20 := Nat.xor_lt_two_pow hc (bit hp)
      refine ⟨cpow1 (by omega), _, es, rfl, h1, hl, hb, ?_⟩
      cases h : es.all (goC (c ^^^ 2 ^ p)) with
      | true => (try dsimp only [gN, gN2, sNil, sSeq, sExp, sRet, sIf, sPass, sCont, sBrk, sSet, sSetO, sApp, sAppF, sApPop, flatD, sFrz, sAug, sRaise, sAsg, sPut, eV, eC, e1, e2, t2, tBl, tTru, tN, tAn, tOo, tCh, eNot, eAn, eOo, eIf, eTup, eLst, eF, eFld, eIs, eIxO, eLenO, eSl, eRev, eB, eCall, eCallG, eMeth, aN, aC, aV, oNo, oPt, eIsO, oSrtI, oSrtT, oLt, oLe, oReprB, oInI, gN3, eCh, oGt, oGe, oI, oIC, oI1, oAdd, oMul, oEq, oIsN, oIx, oLen, oList, oTuple, oAbs, oMin2, oInt1, fLst, fListRg1, fList, fRep, fCat, tYs, tru, isS, dats, seqD, seqO, tyS, List.set, List.getElem?_cons_zero, List.getElem?_cons_succ, List.append_eq, List.nil_append, List.cons_append, Option.map_some, Option.bind_some, ng, wipeD, List.length_cons, List.length_nil, Nat.reduceAdd, Nat.reduceSub, List.replicate_succ, List.replicate_zero]; try simp only [decide_eq_true_eq, Bool.not_eq_true', decide_eq_false_iff_not, Bool.false_eq_true, if_false, if_true, reduceIte, String.reduceBEq, Bool.true_or, Bool.false_or, Bool.or_false, Bool.and_false, Bool.false_and, Bool.and_true, Bool.true_and, Bool.not_true, Bool.not_false, ne_eq, not_true_eq_false, reduceCtorEq, Bool.true_eq_false, decide_true, decide_false]); exact ⟨cpow1 (by omega), q _ h1 h⟩
      | false => (try dsimp only [gN, gN2, sNil, sSeq, sExp, sRet, sIf, sPass, sCont, sBrk, sSet, sSetO, sApp, sAppF, sApPop, flatD, sFrz, sAug, sRaise, sAsg, sPut, eV, eC, e1, e2, t2, tBl, tTru, tN, tAn, tOo, tCh, eNot, eAn, eOo, eIf, eTup, eLst, eF, eFld, eIs, eIxO, eLenO, eSl, eRev, eB, eCall, eCallG, eMeth, aN, aC, aV, oNo, oPt, eIsO, oSrtI, oSrtT, oLt, oLe, oReprB, oInI, gN3, eCh, oGt, oGe, oI, oIC, oI1, oAdd, oMul, oEq, oIsN, oIx, oLen, oList, oTuple, oAbs, oMin2, oInt1, fLst, fListRg1, fList, fRep, fCat, tYs, tru, isS, dats, seqD, seqO, tyS, List.set, List.getElem?_cons_zero, List.getElem?_cons_succ, List.append_eq, List.nil_append, List.cons_append, Option.map_some, Option.bind_some, ng, wipeD, List.length_cons, List.length_nil, Nat.reduceAdd, Nat.reduceSub, List.replicate_succ, List.replicate_zero]; try simp only [decide_eq_true_eq, Bool.not_eq_true', decide_eq_false_iff_not, Bool.false_eq_true, if_false, if_true, reduceIte, String.reduceBEq, Bool.true_or, Bool.false_or, Bool.or_false, Bool.and_false, Bool.false_and, Bool.and_true, Bool.true_and, Bool.not_true, Bool.not_false, ne_eq, not_true_eq_false, reduceCtorEq, Bool.true_eq_false, decide_true, decide_false]); exact ⟨_, _, rfl⟩
    · rintro ρ ⟨y, z, rfl⟩
      (try dsimp only [gN, gN2, sNil, sSeq, sExp, sRet, sIf, sPass, sCont, sBrk, sSet, sSetO, sApp, sAppF, sApPop, flatD, sFrz, sAug, sRaise, sAsg, sPut, eV, eC, e1, e2, t2, tBl, tTru, tN, tAn, tOo, tCh, eNot, eAn, eOo, eIf, eTup, eLst, eF, eFld, eIs, eIxO, eLenO, eSl, eRev, eB, eCall, eCallG, eMeth, aN, aC, aV, oNo, oPt, eIsO, oSrtI, oSrtT, oLt, oLe, oReprB, oInI, gN3, eCh, oGt, oGe, oI, oIC, oI1, oAdd, oMul, oEq, oIsN, oIx, oLen, oList, oTuple, oAbs, oMin2, oInt1, fLst, fListRg1, fList, fRep, fCat, tYs, tru, isS, dats, seqD, seqO, tyS, List.set, List.getElem?_cons_zero, List.getElem?_cons_succ, List.append_eq, List.nil_append, List.cons_append, Option.map_some, Option.bind_some, ng, wipeD, List.length_cons, List.length_nil, Nat.reduceAdd, Nat.reduceSub, List.replicate_succ, List.replicate_zero, sFor, iRg1, iRg2, iSq, iEn, fLc]; try simp only [decide_eq_true_eq, Bool.not_eq_true', decide_eq_false_iff_not, Bool.false_eq_true, if_false, if_true, reduceIte, String.reduceBEq, Bool.true_or, Bool.false_or, Bool.or_false, Bool.and_false, Bool.false_and, Bool.and_true, Bool.true_and, Bool.not_true, Bool.not_false, ne_eq, not_true_eq_false, reduceCtorEq, Bool.true_eq_false, decide_true, decide_false])
      refine ⟨by decide, by decide, fun i ρ => ∃ y z, ρ = [.dat (.int (c : Int)), .dat (.lst (natX es)), y, z], ⟨_, _, rfl⟩, ?_, ?_⟩
      · rintro p x ρ hx ⟨y, z, rfl⟩
        obtain ⟨hp, rfl⟩ := rgD_get hx
        have hp : p < 20 := hp
        rw [Int.zero_add]
        (try dsimp only [gN, gN2, sNil, sSeq, sExp, sRet, sIf, sPass, sCont, sBrk, sSet, sSetO, sApp, sAppF, sApPop, flatD, sFrz, sAug, sRaise, sAsg, sPut, eV, eC, e1, e2, t2, tBl, tTru, tN, tAn, tOo, tCh, eNot, eAn, eOo, eIf, eTup, eLst, eF, eFld, eIs, eIxO, eLenO, eSl, eRev, eB, eCall, eCallG, eMeth, aN, aC, aV, oNo, oPt, eIsO, oSrtI, oSrtT, oLt, oLe, oReprB, oInI, gN3, eCh, oGt, oGe, oI, oIC, oI1, oAdd, oMul, oEq, oIsN, oIx, oLen, oList, oTuple, oAbs, oMin2, oInt1, fLst, fListRg1, fList, fRep, fCat, tYs, tru, isS, dats, seqD, seqO, tyS, List.set, List.getElem?_cons_zero, List.getElem?_cons_succ, List.append_eq, List.nil_append, List.cons_append, Option.map_some, Option.bind_some, ng, wipeD, List.length_cons, List.length_nil, Nat.reduceAdd, Nat.reduceSub, List.replicate_succ, List.replicate_zero, sFor, iRg1, iRg2, iSq, iEn, fLc]; try simp only [decide_eq_true_eq, Bool.not_eq_true', decide_eq_false_iff_not, Bool.false_eq_true, if_false, if_true, reduceIte, String.reduceBEq, Bool.true_or, Bool.false_or, Bool.or_false, Bool.and_false, Bool.false_and, Bool.and_true, Bool.true_and, Bool.not_true, Bool.not_false, ne_eq, not_true_eq_false, reduceCtorEq, Bool.true_eq_false, decide_true, decide_false])
        refine ⟨by omega, by omega, fun i ρ => ∃ z, ρ = [.dat (.int (c : Int)), .dat (.lst (natX es)), .dat (.int (p : Int)), z], ⟨_, rfl⟩, ?_, ?_⟩
        · rintro p2 x ρ hx ⟨z, rfl⟩
          obtain ⟨hp2, rfl⟩ := rgD_get hx
          rw [Int.toNat_natCast] at hp2
          rw [Int.zero_add]
          (try dsimp only [gN, gN2, sNil, sSeq, sExp, sRet, sIf, sPass, sCont, sBrk, sSet, sSetO, sApp, sAppF, sApPop, flatD, sFrz, sAug, sRaise, sAsg, sPut, eV, eC, e1, e2, t2, tBl, tTru, tN, tAn, tOo, tCh, eNot, eAn, eOo, eIf, eTup, eLst, eF, eFld, eIs, eIxO, eLenO, eSl, eRev, eB, eCall, eCallG, eMeth, aN, aC, aV, oNo, oPt, eIsO, oSrtI, oSrtT, oLt, oLe, oReprB, oInI, gN3, eCh, oGt, oGe, oI, oIC, oI1, oAdd, oMul, oEq, oIsN, oIx, oLen, oList, oTuple, oAbs, oMin2, oInt1, fLst, fListRg1, fList, fRep, fCat, tYs, tru, isS, dats, seqD, seqO, tyS, List.set, List.getElem?_cons_zero, List.getElem?_cons_succ, List.append_eq, List.nil_append, List.cons_append, Option.map_some, Option.bind_some, ng, wipeD, List.length_cons, List.length_nil, Nat.reduceAdd, Nat.reduceSub, List.replicate_succ, List.replicate_zero]; try simp only [decide_eq_true_eq, Bool.not_eq_true', decide_eq_false_iff_not, Bool.false_eq_true, if_false, if_true, reduceIte, String.reduceBEq, Bool.true_or, Bool.false_or, Bool.or_false, Bool.and_false, Bool.false_and, Bool.and_true, Bool.true_and, Bool.not_true, Bool.not_false, ne_eq, not_true_eq_false, reduceCtorEq, Bool.true_eq_false, decide_true, decide_false])
          rw [shl1_nat, shl1_nat, bitXor_nat, bitXor_nat]
          have h1 : c ^^^ 2 ^ p ^^^ 2 ^ p2 < 2 ^ 20 := Nat.xor_lt_two_pow (Nat.xor_lt_two_pow hc (bit hp)) (bit (by omega))
          refine ⟨cpow1 (by omega), cpow1 (by omega), _, es, rfl, h1, hl, hb, ?_⟩
          cases h : es.all (goC (c ^^^ 2 ^ p ^^^ 2 ^ p2)) with
          | true => (try dsimp only [gN, gN2, sNil, sSeq, sExp, sRet, sIf, sPass, sCont, sBrk, sSet, sSetO, sApp, sAppF, sApPop, flatD, sFrz, sAug, sRaise, sAsg, sPut, eV, eC, e1, e2, t2, tBl, tTru, tN, tAn, tOo, tCh, eNot, eAn, eOo, eIf, eTup, eLst, eF, eFld, eIs, eIxO, eLenO, eSl, eRev, eB, eCall, eCallG, eMeth, aN, aC, aV, oNo, oPt, eIsO, oSrtI, oSrtT, oLt, oLe, oReprB, oInI, gN3, eCh, oGt, oGe, oI, oIC, oI1, oAdd, oMul, oEq, oIsN, oIx, oLen, oList, oTuple, oAbs, oMin2, oInt1, fLst, fListRg1, fList, fRep, fCat, tYs, tru, isS, dats, seqD, seqO, tyS, List.set, List.getElem?_cons_zero, List.getElem?_cons_succ, List.append_eq, List.nil_append, List.cons_append, Option.map_some, Option.bind_some, ng, wipeD, List.length_cons, List.length_nil, Nat.reduceAdd, Nat.reduceSub, List.replicate_succ, List.replicate_zero]; try simp only [decide_eq_true_eq, Bool.not_eq_true', decide_eq_false_iff_not, Bool.false_eq_true, if_false, if_true, reduceIte, String.reduceBEq, Bool.true_or, Bool.false_or, Bool.or_false, Bool.and_false, Bool.false_and, Bool.and_true, Bool.true_and, Bool.not_true, Bool.not_false, ne_eq, not_true_eq_false, reduceCtorEq, Bool.true_eq_false, decide_true, decide_false]); exact ⟨cpow1 (by omega), cpow1 (by omega), q _ h1 h⟩
          | false => (try dsimp only [gN, gN2, sNil, sSeq, sExp, sRet, sIf, sPass, sCont, sBrk, sSet, sSetO, sApp, sAppF, sApPop, flatD, sFrz, sAug, sRaise, sAsg, sPut, eV, eC, e1, e2, t2, tBl, tTru, tN, tAn, tOo, tCh, eNot, eAn, eOo, eIf, eTup, eLst, eF, eFld, eIs, eIxO, eLenO, eSl, eRev, eB, eCall, eCallG, eMeth, aN, aC, aV, oNo, oPt, eIsO, oSrtI, oSrtT, oLt, oLe, oReprB, oInI, gN3, eCh, oGt, oGe, oI, oIC, oI1, oAdd, oMul, oEq, oIsN, oIx, oLen, oList, oTuple, oAbs, oMin2, oInt1, fLst, fListRg1, fList, fRep, fCat, tYs, tru, isS, dats, seqD, seqO, tyS, List.set, List.getElem?_cons_zero, List.getElem?_cons_succ, List.append_eq, List.nil_append, List.cons_append, Option.map_some, Option.bind_some, ng, wipeD, List.length_cons, List.length_nil, Nat.reduceAdd, Nat.reduceSub, List.replicate_succ, List.replicate_zero]; try simp only [decide_eq_true_eq, Bool.not_eq_true', decide_eq_false_iff_not, Bool.false_eq_true, if_false, if_true, reduceIte, String.reduceBEq, Bool.true_or, Bool.false_or, Bool.or_false, Bool.and_false, Bool.false_and, Bool.and_true, Bool.true_and, Bool.not_true, Bool.not_false, ne_eq, not_true_eq_false, reduceCtorEq, Bool.true_eq_false, decide_true, decide_false]); exact ⟨_, rfl⟩
        · rintro ρ ⟨z, rfl⟩
          exact ⟨_, _, rfl⟩
      · rintro ρ ⟨y, z, rfl⟩
        (try dsimp only [gN, gN2, sNil, sSeq, sExp, sRet, sIf, sPass, sCont, sBrk, sSet, sSetO, sApp, sAppF, sApPop, flatD, sFrz, sAug, sRaise, sAsg, sPut, eV, eC, e1, e2, t2, tBl, tTru, tN, tAn, tOo, tCh, eNot, eAn, eOo, eIf, eTup, eLst, eF, eFld, eIs, eIxO, eLenO, eSl, eRev, eB, eCall, eCallG, eMeth, aN, aC, aV, oNo, oPt, eIsO, oSrtI, oSrtT, oLt, oLe, oReprB, oInI, gN3, eCh, oGt, oGe, oI, oIC, oI1, oAdd, oMul, oEq, oIsN, oIx, oLen, oList, oTuple, oAbs, oMin2, oInt1, fLst, fListRg1, fList, fRep, fCat, tYs, tru, isS, dats, seqD, seqO, tyS, List.set, List.getElem?_cons_zero, List.getElem?_cons_succ, List.append_eq, List.nil_append, List.cons_append, Option.map_some, Option.bind_some, ng, wipeD, List.length_cons, List.length_nil, Nat.reduceAdd, Nat.reduceSub, List.replicate_succ, List.replicate_zero]; try simp only [decide_eq_true_eq, Bool.not_eq_true', decide_eq_false_iff_not, Bool.false_eq_true, if_false, if_true, reduceIte, String.reduceBEq, Bool.true_or, Bool.false_or, Bool.or_false, Bool.and_false, Bool.false_and, Bool.and_true, Bool.true_and, Bool.not_true, Bool.not_false, ne_eq, not_true_eq_false, reduceCtorEq, Bool.true_eq_false, decide_true, decide_false])
        exact q 0 (by decide) (List.all_eq_true.mpr fun e _ => goC_zero e)
/-- [.. for x in xs], each item is some right one -/
theorem lcEach {fi : DI} {vs : List Nat} {i : Nat} {te : DE} {ρ : List Sl} {Q : List D → Prop} {Ed : DXt} {T : Nat → D → Prop} (xs : List D) (hf : ∀ R : List D → Prop, R xs → fi ρ R Ed) (hl : xs.length ≤ 1000000)
    (hs : ∀ j x, xs[j]? = some x → ∀ Q' : D → Prop, (∀ y, T j y → Q' y) → te ((wipeD ρ vs).set i (.dat x)) Q' X0) (q : ∀ ys : List D, ys.length = xs.length → (∀ j y, ys[j]? = some y → T j y) → Q ys) : fLc fi vs i tYs te ρ Q Ed := by
  refine hf _ ⟨hl, fun j acc => acc.length = j ∧ ∀ k y, acc[k]? = some y → T k y, ⟨rfl, fun k y h => (by simp at h)⟩, ?_, fun acc h => q acc h.1 h.2⟩
  rintro j x acc hj ⟨h1, h2⟩
  dsimp only [tYs]
  rw [if_pos rfl]
  refine hs j x hj _ fun y hy => ⟨by rw [List.length_append, h1]; rfl, fun k z hz => ?_⟩
  by_cases hk : k < acc.length
  · rw [List.getElem?_append_left hk] at hz; exact h2 k z hz
  · rw [List.getElem?_append_right (by omega)] at hz
    cases e : k - acc.length with
    | zero =>
      rw [e] at hz
      have : y = z := Option.some.inj hz
      rw [← this, show k = j by omega]; exact hy
    | succ n => rw [e] at hz; cases hz
theorem go_codes {s s' c e : Nat} (h : goC c e = true) : Go ⟨s, cF c, cT c⟩ ⟨s', cF e, cT e⟩ := (go_iff ⟨s, cF c, cT c⟩ ⟨s', cF e, cT e⟩).mp h
theorem sem_law_drawn_looks : ∀ as Qd Xd, d_law_drawn_looks as Qd Xd → as.length = ["_law_source_here"].length ∧ r_law_drawn_looks { nx := fun _ => Qd .non, rt := Qd } (as ++ List.replicate (["_law_source_here", "_law_codes", "_law_k", "_law_code"].length - as.length) .un) (fun _ => Xd) := by
  rintro as Qd Xd ⟨rfl, q⟩
  refine ⟨rfl, ?_⟩
  unfold r_law_drawn_looks
  (try dsimp only [gN, gN2, sNil, sSeq, sExp, sRet, sIf, sPass, sCont, sBrk, sSet, sSetO, sApp, sAppF, sApPop, flatD, sFrz, sAug, sRaise, sAsg, sPut, eV, eC, e1, e2, t2, tBl, tTru, tN, tAn, tOo, tCh, eNot, eAn, eOo, eIf, eTup, eLst, eF, eFld, eIs, eIxO, eLenO, eSl, eRev, eB, eCall, eCallG, eMeth, aN, aC, aV, oNo, oPt, eIsO, oSrtI, oSrtT, oLt, oLe, oReprB, oInI, gN3, eCh, oGt, oGe, oI, oIC, oI1, oAdd, oMul, oEq, oIsN, oIx, oLen, oList, oTuple, oAbs, oMin2, oInt1, fLst, fListRg1, fList, fRep, fCat, tYs, tru, isS, dats, seqD, seqO, tyS, List.set, List.getElem?_cons_zero, List.getElem?_cons_succ, List.append_eq, List.nil_append, List.cons_append, Option.map_some, Option.bind_some, ng, wipeD, List.length_cons, List.length_nil, Nat.reduceAdd, Nat.reduceSub, List.replicate_succ, List.replicate_zero]; try simp only [decide_eq_true_eq, Bool.not_eq_true', decide_eq_false_iff_not, Bool.false_eq_true, if_false, if_true, reduceIte, String.reduceBEq, Bool.true_or, Bool.false_or, Bool.or_false, Bool.and_false, Bool.false_and, Bool.and_true, Bool.true_and, Bool.not_true, Bool.not_false, ne_eq, not_true_eq_false, reduceCtorEq, Bool.true_eq_false, decide_true, decide_false])
  refine ⟨by decide, by decide, fun i ρ => ∃ (cs : List Nat) (y z : Sl), ρ = [.src, .own (natX cs), y, z] ∧ cs.length = i ∧ (∀ c ∈ cs, c < 2 ^ 20) ∧ cs.Pairwise (fun a b => goC b a = true), ⟨[], _, _, rfl, rfl, (fun _ h => nomatch h), List.Pairwise.nil⟩, ?_, ?_⟩
  · rintro i x ρ hx ⟨cs, y, z, rfl, hl, hb, hp⟩
    obtain ⟨hi, rfl⟩ := rgD_get hx
    have hi : i < 3 := hi
    (try dsimp only [gN, gN2, sNil, sSeq, sExp, sRet, sIf, sPass, sCont, sBrk, sSet, sSetO, sApp, sAppF, sApPop, flatD, sFrz, sAug, sRaise, sAsg, sPut, eV, eC, e1, e2, t2, tBl, tTru, tN, tAn, tOo, tCh, eNot, eAn, eOo, eIf, eTup, eLst, eF, eFld, eIs, eIxO, eLenO, eSl, eRev, eB, eCall, eCallG, eMeth, aN, aC, aV, oNo, oPt, eIsO, oSrtI, oSrtT, oLt, oLe, oReprB, oInI, gN3, eCh, oGt, oGe, oI, oIC, oI1, oAdd, oMul, oEq, oIsN, oIx, oLen, oList, oTuple, oAbs, oMin2, oInt1, fLst, fListRg1, fList, fRep, fCat, tYs, tru, isS, dats, seqD, seqO, tyS, List.set, List.getElem?_cons_zero, List.getElem?_cons_succ, List.append_eq, List.nil_append, List.cons_append, Option.map_some, Option.bind_some, ng, wipeD, List.length_cons, List.length_nil, Nat.reduceAdd, Nat.reduceSub, List.replicate_succ, List.replicate_zero]; try simp only [decide_eq_true_eq, Bool.not_eq_true', decide_eq_false_iff_not, Bool.false_eq_true, if_false, if_true, reduceIte, String.reduceBEq, Bool.true_or, Bool.false_or, Bool.or_false, Bool.and_false, Bool.false_and, Bool.and_true, Bool.true_and, Bool.not_true, Bool.not_false, ne_eq, not_true_eq_false, reduceCtorEq, Bool.true_eq_false, decide_true, decide_false])
    refine ⟨cs, rfl, by omega, hb, fun c hc => ?_⟩
    refine ⟨c, cs, rfl, hc, by omega, hb, fun r hr hg => ?_⟩
    refine ⟨trivial, by rw [natX_len]; omega, cs ++ [r], _, _, by rw [natX_snoc], by rw [List.length_append, hl]; rfl, fun e he => ?_, ?_⟩
    · rcases List.mem_append.mp he with h | h
      · exact hb e h
      · rw [List.mem_singleton.mp h]; exact hr
    · refine List.pairwise_append.mpr ⟨hp, List.pairwise_singleton _ _, fun a ha b hb' => ?_⟩
      rw [List.mem_singleton.mp hb']
      exact List.all_eq_true.mp hg a ha
  · rintro ρ ⟨cs, y, z, rfl, hl, hb, hp⟩
    have hl : cs.length = 3 := hl
    match cs, hl with
    | [c1, c2, c3], _ =>
      have h1 := hb c1 (by simp)
      have h2 := hb c2 (by simp)
      have h3 := hb c3 (by simp)
      have g12 : goC c2 c1 = true := by simp only [List.pairwise_cons] at hp; exact hp.1 c2 (by simp)
      have g13 : goC c3 c1 = true := by simp only [List.pairwise_cons] at hp; exact hp.1 c3 (by simp)
      have g23 : goC c3 c2 = true := by simp only [List.pairwise_cons] at hp; exact hp.2.1 c3 (by simp)
      (try dsimp only [gN, gN2, sNil, sSeq, sExp, sRet, sIf, sPass, sCont, sBrk, sSet, sSetO, sApp, sAppF, sApPop, flatD, sFrz, sAug, sRaise, sAsg, sPut, eV, eC, e1, e2, t2, tBl, tTru, tN, tAn, tOo, tCh, eNot, eAn, eOo, eIf, eTup, eLst, eF, eFld, eIs, eIxO, eLenO, eSl, eRev, eB, eCall, eCallG, eMeth, aN, aC, aV, oNo, oPt, eIsO, oSrtI, oSrtT, oLt, oLe, oReprB, oInI, gN3, eCh, oGt, oGe, oI, oIC, oI1, oAdd, oMul, oEq, oIsN, oIx, oLen, oList, oTuple, oAbs, oMin2, oInt1, fLst, fListRg1, fList, fRep, fCat, tYs, tru, isS, dats, seqD, seqO, tyS, List.set, List.getElem?_cons_zero, List.getElem?_cons_succ, List.append_eq, List.nil_append, List.cons_append, Option.map_some, Option.bind_some, ng, wipeD, List.length_cons, List.length_nil, Nat.reduceAdd, Nat.reduceSub, List.replicate_succ, List.replicate_zero]; try simp only [decide_eq_true_eq, Bool.not_eq_true', decide_eq_false_iff_not, Bool.false_eq_true, if_false, if_true, reduceIte, String.reduceBEq, Bool.true_or, Bool.false_or, Bool.or_false, Bool.and_false, Bool.false_and, Bool.and_true, Bool.true_and, Bool.not_true, Bool.not_false, ne_eq, not_true_eq_false, reduceCtorEq, Bool.true_eq_false, decide_true, decide_false])
      have one : ∀ (c : Nat) (Q' : D → Prop), c < 2 ^ 20 → (∀ s : Nat, s < 2 → Q' (lkD ⟨s, cF c, cT c⟩)) → d_law_draw [Sl.src, Sl.dat (D.int 2)] (fun d => d_law_lot [Sl.dat (D.int (Builtin.bitAnd (c : Int) 1023))] (fun d_1 => (0 : Int) ≤ 10 ∧ d_law_lot [Sl.dat (D.int ((c : Int) / (2 : Int) ^ (10 : Int).toNat))] (fun d_2 => Q' (.tup [d, d_1, d_2])) (fun _ _ => False)) (fun _ _ => False)) (fun _ _ => False) := fun c Q' hc k => by
        refine ⟨2, rfl, by decide, by decide, fun v v0 v1 => ?_⟩
        obtain ⟨s, rfl⟩ := Int.eq_ofNat_of_zero_le v0
        rw [and_cF, shr_cT]
        exact ⟨_, rfl, cF_lt c, by decide, _, rfl, cT_lt hc, k s (by omega)⟩
      refine lcEach (T := fun j d => ∃ s : Nat, s < 2 ∧ ∃ c : Nat, [c1, c2, c3][j]? = some c ∧ d = lkD ⟨s, cF c, cT c⟩) (natX [c1, c2, c3]) (fun R h => h) (by show 3 ≤ 1000000; decide) (fun j x hj Q' k => ?_) (fun ys hl hy => ?_)
      · obtain ⟨c, hc, rfl⟩ := natX_get hj
        (try dsimp only [gN, gN2, sNil, sSeq, sExp, sRet, sIf, sPass, sCont, sBrk, sSet, sSetO, sApp, sAppF, sApPop, flatD, sFrz, sAug, sRaise, sAsg, sPut, eV, eC, e1, e2, t2, tBl, tTru, tN, tAn, tOo, tCh, eNot, eAn, eOo, eIf, eTup, eLst, eF, eFld, eIs, eIxO, eLenO, eSl, eRev, eB, eCall, eCallG, eMeth, aN, aC, aV, oNo, oPt, eIsO, oSrtI, oSrtT, oLt, oLe, oReprB, oInI, gN3, eCh, oGt, oGe, oI, oIC, oI1, oAdd, oMul, oEq, oIsN, oIx, oLen, oList, oTuple, oAbs, oMin2, oInt1, fLst, fListRg1, fList, fRep, fCat, tYs, tru, isS, dats, seqD, seqO, tyS, List.set, List.getElem?_cons_zero, List.getElem?_cons_succ, List.append_eq, List.nil_append, List.cons_append, Option.map_some, Option.bind_some, ng, wipeD, List.length_cons, List.length_nil, Nat.reduceAdd, Nat.reduceSub, List.replicate_succ, List.replicate_zero]; try simp only [decide_eq_true_eq, Bool.not_eq_true', decide_eq_false_iff_not, Bool.false_eq_true, if_false, if_true, reduceIte, String.reduceBEq, Bool.true_or, Bool.false_or, Bool.or_false, Bool.and_false, Bool.false_and, Bool.and_true, Bool.true_and, Bool.not_true, Bool.not_false, ne_eq, not_true_eq_false, reduceCtorEq, Bool.true_eq_false, decide_true, decide_false])
        exact one c Q' (hb c (List.mem_of_getElem? hc)) fun s hs => k _ ⟨s, hs, c, hc, rfl⟩
      · match ys, hl with
        | [y1, y2, y3], _ =>
          obtain ⟨s1, e1, a1, b1, rfl⟩ := hy 0 y1 rfl
          obtain ⟨s2, e2, a2, b2, rfl⟩ := hy 1 y2 rfl
          obtain ⟨s3, e3, a3, b3, rfl⟩ := hy 2 y3 rfl
          cases Option.some.inj b1
          cases Option.some.inj b2
          cases Option.some.inj b3
          exact q _ _ _ ⟨⟨e1, cF_lt _, cT_lt h1⟩, ⟨e2, cF_lt _, cT_lt h2⟩, ⟨e3, cF_lt _, cT_lt h3⟩, (go_codes g12).symm, (go_codes g13).symm, (go_codes g23).symm⟩
/-! ### looks that move -/
theorem sem_law_moved : ∀ as Qd Xd, d_law_moved as Qd Xd → as.length = ["_law_look", "_law_start"].length ∧ r_law_moved { nx := fun _ => Qd .non, rt := Qd } (as ++ List.replicate (["_law_look", "_law_start", "_law_flips", "_law_turns", "_law_quarters"].length - as.length) .un) (fun _ => Xd) := by
  rintro as Qd Xd ⟨a, x, rfl, ⟨hs, hf, ht⟩, hx, q⟩
  refine ⟨rfl, ?_⟩
  obtain ⟨s, f, t⟩ := a
  obtain ⟨i, u⟩ := x
  dsimp only at hs hf ht hx
  unfold r_law_moved lkD lookX pairX
  (try dsimp only [gN, gN2, sNil, sSeq, sExp, sRet, sIf, sPass, sCont, sBrk, sSet, sSetO, sApp, sAppF, sApPop, flatD, sFrz, sAug, sRaise, sAsg, sPut, eV, eC, e1, e2, t2, tBl, tTru, tN, tAn, tOo, tCh, eNot, eAn, eOo, eIf, eTup, eLst, eF, eFld, eIs, eIxO, eLenO, eSl, eRev, eB, eCall, eCallG, eMeth, aN, aC, aV, oNo, oPt, eIsO, oSrtI, oSrtT, oLt, oLe, oReprB, oInI, gN3, eCh, oGt, oGe, oI, oIC, oI1, oAdd, oMul, oEq, oIsN, oIx, oLen, oList, oTuple, oAbs, oMin2, oInt1, fLst, fListRg1, fList, fRep, fCat, tYs, tru, isS, dats, seqD, seqO, tyS, List.set, List.getElem?_cons_zero, List.getElem?_cons_succ, List.append_eq, List.nil_append, List.cons_append, Option.map_some, Option.bind_some, ng, wipeD, List.length_cons, List.length_nil, Nat.reduceAdd, Nat.reduceSub, List.replicate_succ, List.replicate_zero]; try simp only [decide_eq_true_eq, Bool.not_eq_true', decide_eq_false_iff_not, Bool.false_eq_true, if_false, if_true, reduceIte, String.reduceBEq, Bool.true_or, Bool.false_or, Bool.or_false, Bool.and_false, Bool.false_and, Bool.and_true, Bool.true_and, Bool.not_true, Bool.not_false, ne_eq, not_true_eq_false, reduceCtorEq, Bool.true_eq_false, decide_true, decide_false])
  rw [at3_1]
  dsimp only
  refine ⟨f, rfl, hf, ?_⟩
  (try dsimp only [gN, gN2, sNil, sSeq, sExp, sRet, sIf, sPass, sCont, sBrk, sSet, sSetO, sApp, sAppF, sApPop, flatD, sFrz, sAug, sRaise, sAsg, sPut, eV, eC, e1, e2, t2, tBl, tTru, tN, tAn, tOo, tCh, eNot, eAn, eOo, eIf, eTup, eLst, eF, eFld, eIs, eIxO, eLenO, eSl, eRev, eB, eCall, eCallG, eMeth, aN, aC, aV, oNo, oPt, eIsO, oSrtI, oSrtT, oLt, oLe, oReprB, oInI, gN3, eCh, oGt, oGe, oI, oIC, oI1, oAdd, oMul, oEq, oIsN, oIx, oLen, oList, oTuple, oAbs, oMin2, oInt1, fLst, fListRg1, fList, fRep, fCat, tYs, tru, isS, dats, seqD, seqO, tyS, List.set, List.getElem?_cons_zero, List.getElem?_cons_succ, List.append_eq, List.nil_append, List.cons_append, Option.map_some, Option.bind_some, ng, wipeD, List.length_cons, List.length_nil, Nat.reduceAdd, Nat.reduceSub, List.replicate_succ, List.replicate_zero]; try simp only [decide_eq_true_eq, Bool.not_eq_true', decide_eq_false_iff_not, Bool.false_eq_true, if_false, if_true, reduceIte, String.reduceBEq, Bool.true_or, Bool.false_or, Bool.or_false, Bool.and_false, Bool.false_and, Bool.and_true, Bool.true_and, Bool.not_true, Bool.not_false, ne_eq, not_true_eq_false, reduceCtorEq, Bool.true_eq_false, decide_true, decide_false])
  rw [at3_2]
  dsimp only
  refine ⟨t, rfl, ht, ?_⟩
  (try dsimp only [gN, gN2, sNil, sSeq, sExp, sRet, sIf, sPass, sCont, sBrk, sSet, sSetO, sApp, sAppF, sApPop, flatD, sFrz, sAug, sRaise, sAsg, sPut, eV, eC, e1, e2, t2, tBl, tTru, tN, tAn, tOo, tCh, eNot, eAn, eOo, eIf, eTup, eLst, eF, eFld, eIs, eIxO, eLenO, eSl, eRev, eB, eCall, eCallG, eMeth, aN, aC, aV, oNo, oPt, eIsO, oSrtI, oSrtT, oLt, oLe, oReprB, oInI, gN3, eCh, oGt, oGe, oI, oIC, oI1, oAdd, oMul, oEq, oIsN, oIx, oLen, oList, oTuple, oAbs, oMin2, oInt1, fLst, fListRg1, fList, fRep, fCat, tYs, tru, isS, dats, seqD, seqO, tyS, List.set, List.getElem?_cons_zero, List.getElem?_cons_succ, List.append_eq, List.nil_append, List.cons_append, Option.map_some, Option.bind_some, ng, wipeD, List.length_cons, List.length_nil, Nat.reduceAdd, Nat.reduceSub, List.replicate_succ, List.replicate_zero]; try simp only [decide_eq_true_eq, Bool.not_eq_true', decide_eq_false_iff_not, Bool.false_eq_true, if_false, if_true, reduceIte, String.reduceBEq, Bool.true_or, Bool.false_or, Bool.or_false, Bool.and_false, Bool.false_and, Bool.and_true, Bool.true_and, Bool.not_true, Bool.not_false, ne_eq, not_true_eq_false, reduceCtorEq, Bool.true_eq_false, decide_true, decide_false])
  rw [at3_0, at2_0]
  dsimp only
  refine ⟨.inl (by decide), ?_⟩
  (try dsimp only [gN, gN2, sNil, sSeq, sExp, sRet, sIf, sPass, sCont, sBrk, sSet, sSetO, sApp, sAppF, sApPop, flatD, sFrz, sAug, sRaise, sAsg, sPut, eV, eC, e1, e2, t2, tBl, tTru, tN, tAn, tOo, tCh, eNot, eAn, eOo, eIf, eTup, eLst, eF, eFld, eIs, eIxO, eLenO, eSl, eRev, eB, eCall, eCallG, eMeth, aN, aC, aV, oNo, oPt, eIsO, oSrtI, oSrtT, oLt, oLe, oReprB, oInI, gN3, eCh, oGt, oGe, oI, oIC, oI1, oAdd, oMul, oEq, oIsN, oIx, oLen, oList, oTuple, oAbs, oMin2, oInt1, fLst, fListRg1, fList, fRep, fCat, tYs, tru, isS, dats, seqD, seqO, tyS, List.set, List.getElem?_cons_zero, List.getElem?_cons_succ, List.append_eq, List.nil_append, List.cons_append, Option.map_some, Option.bind_some, ng, wipeD, List.length_cons, List.length_nil, Nat.reduceAdd, Nat.reduceSub, List.replicate_succ, List.replicate_zero]; try simp only [decide_eq_true_eq, Bool.not_eq_true', decide_eq_false_iff_not, Bool.false_eq_true, if_false, if_true, reduceIte, String.reduceBEq, Bool.true_or, Bool.false_or, Bool.or_false, Bool.and_false, Bool.false_and, Bool.and_true, Bool.true_and, Bool.not_true, Bool.not_false, ne_eq, not_true_eq_false, reduceCtorEq, Bool.true_eq_false, decide_true, decide_false])
  rw [bitAnd_nat]
  refine ⟨_, rfl, Nat.lt_of_le_of_lt Nat.and_le_left ht, .inl (by decide), ?_⟩
  (try dsimp only [gN, gN2, sNil, sSeq, sExp, sRet, sIf, sPass, sCont, sBrk, sSet, sSetO, sApp, sAppF, sApPop, flatD, sFrz, sAug, sRaise, sAsg, sPut, eV, eC, e1, e2, t2, tBl, tTru, tN, tAn, tOo, tCh, eNot, eAn, eOo, eIf, eTup, eLst, eF, eFld, eIs, eIxO, eLenO, eSl, eRev, eB, eCall, eCallG, eMeth, aN, aC, aV, oNo, oPt, eIsO, oSrtI, oSrtT, oLt, oLe, oReprB, oInI, gN3, eCh, oGt, oGe, oI, oIC, oI1, oAdd, oMul, oEq, oIsN, oIx, oLen, oList, oTuple, oAbs, oMin2, oInt1, fLst, fListRg1, fList, fRep, fCat, tYs, tru, isS, dats, seqD, seqO, tyS, List.set, List.getElem?_cons_zero, List.getElem?_cons_succ, List.append_eq, List.nil_append, List.cons_append, Option.map_some, Option.bind_some, ng, wipeD, List.length_cons, List.length_nil, Nat.reduceAdd, Nat.reduceSub, List.replicate_succ, List.replicate_zero]; try simp only [decide_eq_true_eq, Bool.not_eq_true', decide_eq_false_iff_not, Bool.false_eq_true, if_false, if_true, reduceIte, String.reduceBEq, Bool.true_or, Bool.false_or, Bool.or_false, Bool.and_false, Bool.false_and, Bool.and_true, Bool.true_and, Bool.not_true, Bool.not_false, ne_eq, not_true_eq_false, reduceCtorEq, Bool.true_eq_false, decide_true, decide_false])
  rw [bitAnd_nat]
  refine ⟨_, rfl, Nat.lt_of_le_of_lt Nat.and_le_left hf, ?_⟩
  (try dsimp only [gN, gN2, sNil, sSeq, sExp, sRet, sIf, sPass, sCont, sBrk, sSet, sSetO, sApp, sAppF, sApPop, flatD, sFrz, sAug, sRaise, sAsg, sPut, eV, eC, e1, e2, t2, tBl, tTru, tN, tAn, tOo, tCh, eNot, eAn, eOo, eIf, eTup, eLst, eF, eFld, eIs, eIxO, eLenO, eSl, eRev, eB, eCall, eCallG, eMeth, aN, aC, aV, oNo, oPt, eIsO, oSrtI, oSrtT, oLt, oLe, oReprB, oInI, gN3, eCh, oGt, oGe, oI, oIC, oI1, oAdd, oMul, oEq, oIsN, oIx, oLen, oList, oTuple, oAbs, oMin2, oInt1, fLst, fListRg1, fList, fRep, fCat, tYs, tru, isS, dats, seqD, seqO, tyS, List.set, List.getElem?_cons_zero, List.getElem?_cons_succ, List.append_eq, List.nil_append, List.cons_append, Option.map_some, Option.bind_some, ng, wipeD, List.length_cons, List.length_nil, Nat.reduceAdd, Nat.reduceSub, List.replicate_succ, List.replicate_zero]; try simp only [decide_eq_true_eq, Bool.not_eq_true', decide_eq_false_iff_not, Bool.false_eq_true, if_false, if_true, reduceIte, String.reduceBEq, Bool.true_or, Bool.false_or, Bool.or_false, Bool.and_false, Bool.false_and, Bool.and_true, Bool.true_and, Bool.not_true, Bool.not_false, ne_eq, not_true_eq_false, reduceCtorEq, Bool.true_eq_false, decide_true, decide_false])
  rw [at2_1]
  dsimp only
  rw [bitXor_nat, show (u : Int) + (2 * (s : Int) + 2 * ((pop (t &&& i) : Nat) : Int) + ((pop (f &&& t) : Nat) : Int)) = ((u + (2 * s + 2 * pop (t &&& i) + pop (f &&& t)) : Nat) : Int) by omega, mod4]
  exact q
theorem mv_lt {a : Lk} {x : Nat × Nat} (ha : LkOk a) (h : x.1 < 2 ^ 10) : (mv a x).1 < 2 ^ 10 := Nat.xor_lt_two_pow h ha.f
theorem sem_law_moved_by_all : ∀ as Qd Xd, d_law_moved_by_all as Qd Xd → as.length = ["_law_looks", "_law_index"].length ∧ r_law_moved_by_all { nx := fun _ => Qd .non, rt := Qd } (as ++ List.replicate (["_law_looks", "_law_index", "_law_found", "_law_k"].length - as.length) .un) (fun _ => Xd) := by
  rintro as Qd Xd ⟨a, b, c, i, rfl, ha, hb, hc, hi, q⟩
  refine ⟨rfl, ?_⟩
  unfold r_law_moved_by_all lk3X
  (try dsimp only [gN, gN2, sNil, sSeq, sExp, sRet, sIf, sPass, sCont, sBrk, sSet, sSetO, sApp, sAppF, sApPop, flatD, sFrz, sAug, sRaise, sAsg, sPut, eV, eC, e1, e2, t2, tBl, tTru, tN, tAn, tOo, tCh, eNot, eAn, eOo, eIf, eTup, eLst, eF, eFld, eIs, eIxO, eLenO, eSl, eRev, eB, eCall, eCallG, eMeth, aN, aC, aV, oNo, oPt, eIsO, oSrtI, oSrtT, oLt, oLe, oReprB, oInI, gN3, eCh, oGt, oGe, oI, oIC, oI1, oAdd, oMul, oEq, oIsN, oIx, oLen, oList, oTuple, oAbs, oMin2, oInt1, fLst, fListRg1, fList, fRep, fCat, tYs, tru, isS, dats, seqD, seqO, tyS, List.set, List.getElem?_cons_zero, List.getElem?_cons_succ, List.append_eq, List.nil_append, List.cons_append, Option.map_some, Option.bind_some, ng, wipeD, List.length_cons, List.length_nil, Nat.reduceAdd, Nat.reduceSub, List.replicate_succ, List.replicate_zero]; try simp only [decide_eq_true_eq, Bool.not_eq_true', decide_eq_false_iff_not, Bool.false_eq_true, if_false, if_true, reduceIte, String.reduceBEq, Bool.true_or, Bool.false_or, Bool.or_false, Bool.and_false, Bool.false_and, Bool.and_true, Bool.true_and, Bool.not_true, Bool.not_false, ne_eq, not_true_eq_false, reduceCtorEq, Bool.true_eq_false, decide_true, decide_false])
  refine ⟨by dsimp only [List.length_cons, List.length_nil]; decide, by dsimp only [List.length_cons, List.length_nil]; decide, fun j ρ => ∃ y, ρ = [.dat (lk3X a b c), .dat (.int (i : Int)), .dat (pairX (match j with | 0 => (i, 0) | 1 => mv c (i, 0) | 2 => mv b (mv c (i, 0)) | _ => mv a (mv b (mv c (i, 0))))), y], ⟨_, rfl⟩, ?_, ?_⟩
  · rintro j x ρ hx ⟨y, rfl⟩
    obtain ⟨hj, rfl⟩ := rgD_get hx
    have hj : j < 3 := hj
    unfold lk3X
    (try dsimp only [gN, gN2, sNil, sSeq, sExp, sRet, sIf, sPass, sCont, sBrk, sSet, sSetO, sApp, sAppF, sApPop, flatD, sFrz, sAug, sRaise, sAsg, sPut, eV, eC, e1, e2, t2, tBl, tTru, tN, tAn, tOo, tCh, eNot, eAn, eOo, eIf, eTup, eLst, eF, eFld, eIs, eIxO, eLenO, eSl, eRev, eB, eCall, eCallG, eMeth, aN, aC, aV, oNo, oPt, eIsO, oSrtI, oSrtT, oLt, oLe, oReprB, oInI, gN3, eCh, oGt, oGe, oI, oIC, oI1, oAdd, oMul, oEq, oIsN, oIx, oLen, oList, oTuple, oAbs, oMin2, oInt1, fLst, fListRg1, fList, fRep, fCat, tYs, tru, isS, dats, seqD, seqO, tyS, List.set, List.getElem?_cons_zero, List.getElem?_cons_succ, List.append_eq, List.nil_append, List.cons_append, Option.map_some, Option.bind_some, ng, wipeD, List.length_cons, List.length_nil, Nat.reduceAdd, Nat.reduceSub, List.replicate_succ, List.replicate_zero]; try simp only [decide_eq_true_eq, Bool.not_eq_true', decide_eq_false_iff_not, Bool.false_eq_true, if_false, if_true, reduceIte, String.reduceBEq, Bool.true_or, Bool.false_or, Bool.or_false, Bool.and_false, Bool.false_and, Bool.and_true, Bool.true_and, Bool.not_true, Bool.not_false, ne_eq, not_true_eq_false, reduceCtorEq, Bool.true_eq_false, decide_true, decide_false])
    match j, hj with
    | 0, _ => exact ⟨c, (i, 0), rfl, hc, hi, _, rfl⟩
    | 1, _ => exact ⟨b, _, rfl, hb, mv_lt hc hi, _, rfl⟩
    | 2, _ => exact ⟨a, _, rfl, ha, mv_lt hb (mv_lt hc hi), _, rfl⟩
  · rintro ρ ⟨y, rfl⟩
    (try dsimp only [gN, gN2, sNil, sSeq, sExp, sRet, sIf, sPass, sCont, sBrk, sSet, sSetO, sApp, sAppF, sApPop, flatD, sFrz, sAug, sRaise, sAsg, sPut, eV, eC, e1, e2, t2, tBl, tTru, tN, tAn, tOo, tCh, eNot, eAn, eOo, eIf, eTup, eLst, eF, eFld, eIs, eIxO, eLenO, eSl, eRev, eB, eCall, eCallG, eMeth, aN, aC, aV, oNo, oPt, eIsO, oSrtI, oSrtT, oLt, oLe, oReprB, oInI, gN3, eCh, oGt, oGe, oI, oIC, oI1, oAdd, oMul, oEq, oIsN, oIx, oLen, oList, oTuple, oAbs, oMin2, oInt1, fLst, fListRg1, fList, fRep, fCat, tYs, tru, isS, dats, seqD, seqO, tyS, List.set, List.getElem?_cons_zero, List.getElem?_cons_succ, List.append_eq, List.nil_append, List.cons_append, Option.map_some, Option.bind_some, ng, wipeD, List.length_cons, List.length_nil, Nat.reduceAdd, Nat.reduceSub, List.replicate_succ, List.replicate_zero]; try simp only [decide_eq_true_eq, Bool.not_eq_true', decide_eq_false_iff_not, Bool.false_eq_true, if_false, if_true, reduceIte, String.reduceBEq, Bool.true_or, Bool.false_or, Bool.or_false, Bool.and_false, Bool.false_and, Bool.and_true, Bool.true_and, Bool.not_true, Bool.not_false, ne_eq, not_true_eq_false, reduceCtorEq, Bool.true_eq_false, decide_true, decide_false])
    exact q
end DL

set_option Elab.async false
set_option linter.all false
set_option maxRecDepth 100000
set_option maxHeartbeats 1000000
set_option exponentiation.threshold 2000
namespace DL
open PySem PySem.Spec PyProof.Rows L2 BT
/-! ### the product, the orders, the facts -/
theorem pyN_pair (x : Nat × Nat) : pyN (pairX x) = some (.tuple [.int (x.1 : Int), .int (x.2 : Int)]) := rfl
theorem eqv_pair (x y : Nat × Nat) : PyData.eqv (.tuple [.int (x.1 : Int), .int (x.2 : Int)]) (.tuple [.int (y.1 : Int), .int (y.2 : Int)]) = decide (x = y) := by
  simp only [PyData.eqv, PyData.eqvAll, Bool.and_true]
  by_cases h : x = y
  · subst h; simp
  · rw [decide_eq_false h]
    by_cases h1 : x.1 = y.1
    · have h2 : x.2 ≠ y.2 := fun e => h (Prod.ext h1 e)
      have : ((x.2 : Int) == (y.2 : Int)) = false := by simp; omega
      rw [this, Bool.and_false]
    · have : ((x.1 : Int) == (y.1 : Int)) = false := by simp; omega
      rw [this, Bool.false_and]
theorem lk_look (a : Lk) : lkD a = .tup [.int (a.s : Int), lotX (lotN a.f), lotX (lotN a.t)] := rfl
theorem sem_law_expected : ∀ as Qd Xd, d_law_expected as Qd Xd → as.length = ["_law_looks"].length ∧ r_law_expected { nx := fun _ => Qd .non, rt := Qd } (as ++ List.replicate (["_law_looks", "_law_flips", "_law_turns", "_law_look", "_law_sign"].length - as.length) .un) (fun _ => Xd) := by
  rintro as Qd Xd ⟨a, b, c, rfl, T, q⟩
  refine ⟨rfl, ?_⟩
  have ok := mul_ok (mul_ok T.oa T.ob) T.oc
  have two := mv_mul (go_mul T.ac T.bc) (0, 0)
  rw [mv_mul T.ab] at two
  generalize hm : mulL (mulL a b) c = m at *
  have ef : a.f ^^^ b.f ^^^ c.f = m.f := by rw [← hm]; rfl
  have et : a.t ^^^ b.t ^^^ c.t = m.t := by rw [← hm]; rfl
  unfold r_law_expected lk3X
  (try dsimp only [gN, gN2, sNil, sSeq, sExp, sRet, sIf, sPass, sCont, sBrk, sSet, sSetO, sApp, sAppF, sApPop, flatD, sFrz, sAug, sRaise, sAsg, sPut, eV, eC, e1, e2, t2, tBl, tTru, tN, tAn, tOo, tCh, eNot, eAn, eOo, eIf, eTup, eLst, eF, eFld, eIs, eIxO, eLenO, eSl, eRev, eB, eCall, eCallG, eMeth, aN, aC, aV, oNo, oPt, eIsO, oSrtI, oSrtT, oLt, oLe, oReprB, oInI, gN3, eCh, oGt, oGe, oI, oIC, oI1, oAdd, oMul, oEq, oIsN, oIx, oLen, oList, oTuple, oAbs, oMin2, oInt1, fLst, fListRg1, fList, fRep, fCat, tYs, tru, isS, dats, seqD, seqO, tyS, List.set, List.getElem?_cons_zero, List.getElem?_cons_succ, List.append_eq, List.nil_append, List.cons_append, Option.map_some, Option.bind_some, ng, wipeD, List.length_cons, List.length_nil, Nat.reduceAdd, Nat.reduceSub, List.replicate_succ, List.replicate_zero, sFor, iRg1, iRg2, iSq, iEn, fLc]; try simp only [decide_eq_true_eq, Bool.not_eq_true', decide_eq_false_iff_not, Bool.false_eq_true, if_false, if_true, reduceIte, String.reduceBEq, Bool.true_or, Bool.false_or, Bool.or_false, Bool.and_false, Bool.false_and, Bool.and_true, Bool.true_and, Bool.not_true, Bool.not_false, ne_eq, not_true_eq_false, reduceCtorEq, Bool.true_eq_false, decide_true, decide_false])
  refine ⟨fun j ρ => ∃ y z, ρ = [.dat (.lst [lkD a, lkD b, lkD c]), .dat (.int ((match j with | 0 => 0 | 1 => a.f | 2 => a.f ^^^ b.f | _ => a.f ^^^ b.f ^^^ c.f : Nat) : Int)), .dat (.int ((match j with | 0 => 0 | 1 => a.t | 2 => a.t ^^^ b.t | _ => a.t ^^^ b.t ^^^ c.t : Nat) : Int)), y, z], ⟨_, _, rfl⟩, ?_, ?_⟩
  · rintro j x ρ hx ⟨y, z, rfl⟩
    match j, hx with
    | 0, hx =>
      cases Option.some.inj hx
      rw [lk_look a]
      (try dsimp only [gN, gN2, sNil, sSeq, sExp, sRet, sIf, sPass, sCont, sBrk, sSet, sSetO, sApp, sAppF, sApPop, flatD, sFrz, sAug, sRaise, sAsg, sPut, eV, eC, e1, e2, t2, tBl, tTru, tN, tAn, tOo, tCh, eNot, eAn, eOo, eIf, eTup, eLst, eF, eFld, eIs, eIxO, eLenO, eSl, eRev, eB, eCall, eCallG, eMeth, aN, aC, aV, oNo, oPt, eIsO, oSrtI, oSrtT, oLt, oLe, oReprB, oInI, gN3, eCh, oGt, oGe, oI, oIC, oI1, oAdd, oMul, oEq, oIsN, oIx, oLen, oList, oTuple, oAbs, oMin2, oInt1, fLst, fListRg1, fList, fRep, fCat, tYs, tru, isS, dats, seqD, seqO, tyS, List.set, List.getElem?_cons_zero, List.getElem?_cons_succ, List.append_eq, List.nil_append, List.cons_append, Option.map_some, Option.bind_some, ng, wipeD, List.length_cons, List.length_nil, Nat.reduceAdd, Nat.reduceSub, List.replicate_succ, List.replicate_zero]; try simp only [decide_eq_true_eq, Bool.not_eq_true', decide_eq_false_iff_not, Bool.false_eq_true, if_false, if_true, reduceIte, String.reduceBEq, Bool.true_or, Bool.false_or, Bool.or_false, Bool.and_false, Bool.false_and, Bool.and_true, Bool.true_and, Bool.not_true, Bool.not_false, ne_eq, not_true_eq_false, reduceCtorEq, Bool.true_eq_false, decide_true, decide_false])
      rw [at3_1]
      dsimp only
      refine ⟨_, rfl, T.oa.f, ?_⟩
      dsimp only
      rw [at3_2]
      dsimp only
      refine ⟨_, rfl, T.oa.t, ?_⟩
      dsimp only
      rw [bitXor_nat, bitXor_nat, Nat.zero_xor, Nat.zero_xor]
      exact ⟨_, _, rfl⟩
    | 1, hx =>
      cases Option.some.inj hx
      rw [lk_look b]
      (try dsimp only [gN, gN2, sNil, sSeq, sExp, sRet, sIf, sPass, sCont, sBrk, sSet, sSetO, sApp, sAppF, sApPop, flatD, sFrz, sAug, sRaise, sAsg, sPut, eV, eC, e1, e2, t2, tBl, tTru, tN, tAn, tOo, tCh, eNot, eAn, eOo, eIf, eTup, eLst, eF, eFld, eIs, eIxO, eLenO, eSl, eRev, eB, eCall, eCallG, eMeth, aN, aC, aV, oNo, oPt, eIsO, oSrtI, oSrtT, oLt, oLe, oReprB, oInI, gN3, eCh, oGt, oGe, oI, oIC, oI1, oAdd, oMul, oEq, oIsN, oIx, oLen, oList, oTuple, oAbs, oMin2, oInt1, fLst, fListRg1, fList, fRep, fCat, tYs, tru, isS, dats, seqD, seqO, tyS, List.set, List.getElem?_cons_zero, List.getElem?_cons_succ, List.append_eq, List.nil_append, List.cons_append, Option.map_some, Option.bind_some, ng, wipeD, List.length_cons, List.length_nil, Nat.reduceAdd, Nat.reduceSub, List.replicate_succ, List.replicate_zero]; try simp only [decide_eq_true_eq, Bool.not_eq_true', decide_eq_false_iff_not, Bool.false_eq_true, if_false, if_true, reduceIte, String.reduceBEq, Bool.true_or, Bool.false_or, Bool.or_false, Bool.and_false, Bool.false_and, Bool.and_true, Bool.true_and, Bool.not_true, Bool.not_false, ne_eq, not_true_eq_false, reduceCtorEq, Bool.true_eq_false, decide_true, decide_false])
      rw [at3_1]
      dsimp only
      refine ⟨_, rfl, T.ob.f, ?_⟩
      dsimp only
      rw [at3_2]
      dsimp only
      refine ⟨_, rfl, T.ob.t, ?_⟩
      dsimp only
      rw [bitXor_nat, bitXor_nat]
      exact ⟨_, _, rfl⟩
    | 2, hx =>
      cases Option.some.inj hx
      rw [lk_look c]
      (try dsimp only [gN, gN2, sNil, sSeq, sExp, sRet, sIf, sPass, sCont, sBrk, sSet, sSetO, sApp, sAppF, sApPop, flatD, sFrz, sAug, sRaise, sAsg, sPut, eV, eC, e1, e2, t2, tBl, tTru, tN, tAn, tOo, tCh, eNot, eAn, eOo, eIf, eTup, eLst, eF, eFld, eIs, eIxO, eLenO, eSl, eRev, eB, eCall, eCallG, eMeth, aN, aC, aV, oNo, oPt, eIsO, oSrtI, oSrtT, oLt, oLe, oReprB, oInI, gN3, eCh, oGt, oGe, oI, oIC, oI1, oAdd, oMul, oEq, oIsN, oIx, oLen, oList, oTuple, oAbs, oMin2, oInt1, fLst, fListRg1, fList, fRep, fCat, tYs, tru, isS, dats, seqD, seqO, tyS, List.set, List.getElem?_cons_zero, List.getElem?_cons_succ, List.append_eq, List.nil_append, List.cons_append, Option.map_some, Option.bind_some, ng, wipeD, List.length_cons, List.length_nil, Nat.reduceAdd, Nat.reduceSub, List.replicate_succ, List.replicate_zero]; try simp only [decide_eq_true_eq, Bool.not_eq_true', decide_eq_false_iff_not, Bool.false_eq_true, if_false, if_true, reduceIte, String.reduceBEq, Bool.true_or, Bool.false_or, Bool.or_false, Bool.and_false, Bool.false_and, Bool.and_true, Bool.true_and, Bool.not_true, Bool.not_false, ne_eq, not_true_eq_false, reduceCtorEq, Bool.true_eq_false, decide_true, decide_false])
      rw [at3_1]
      dsimp only
      refine ⟨_, rfl, T.oc.f, ?_⟩
      dsimp only
      rw [at3_2]
      dsimp only
      refine ⟨_, rfl, T.oc.t, ?_⟩
      dsimp only
      rw [bitXor_nat, bitXor_nat]
      exact ⟨_, _, rfl⟩
    | j + 3, hx => cases hx
  · rintro ρ ⟨y, z, rfl⟩
    (try dsimp only [gN, gN2, sNil, sSeq, sExp, sRet, sIf, sPass, sCont, sBrk, sSet, sSetO, sApp, sAppF, sApPop, flatD, sFrz, sAug, sRaise, sAsg, sPut, eV, eC, e1, e2, t2, tBl, tTru, tN, tAn, tOo, tCh, eNot, eAn, eOo, eIf, eTup, eLst, eF, eFld, eIs, eIxO, eLenO, eSl, eRev, eB, eCall, eCallG, eMeth, aN, aC, aV, oNo, oPt, eIsO, oSrtI, oSrtT, oLt, oLe, oReprB, oInI, gN3, eCh, oGt, oGe, oI, oIC, oI1, oAdd, oMul, oEq, oIsN, oIx, oLen, oList, oTuple, oAbs, oMin2, oInt1, fLst, fListRg1, fList, fRep, fCat, tYs, tru, isS, dats, seqD, seqO, tyS, List.set, List.getElem?_cons_zero, List.getElem?_cons_succ, List.append_eq, List.nil_append, List.cons_append, Option.map_some, Option.bind_some, ng, wipeD, List.length_cons, List.length_nil, Nat.reduceAdd, Nat.reduceSub, List.replicate_succ, List.replicate_zero]; try simp only [decide_eq_true_eq, Bool.not_eq_true', decide_eq_false_iff_not, Bool.false_eq_true, if_false, if_true, reduceIte, String.reduceBEq, Bool.true_or, Bool.false_or, Bool.or_false, Bool.and_false, Bool.false_and, Bool.and_true, Bool.true_and, Bool.not_true, Bool.not_false, ne_eq, not_true_eq_false, reduceCtorEq, Bool.true_eq_false, decide_true, decide_false])
    rw [ef, et]
    refine ⟨by decide, by decide, fun j ρ => (j = 1 → m.s ≠ 0) ∧ (j = 2 → False) ∧ ∃ y z, ρ = [.dat (.lst [lkD a, lkD b, lkD c]), .dat (.int (m.f : Int)), .dat (.int (m.t : Int)), y, z], ⟨fun h => (by cases h), fun h => (by cases h), _, _, rfl⟩, ?_, ?_⟩
    · rintro j x ρ hx ⟨h1, h2, y, z, rfl⟩
      obtain ⟨hj, rfl⟩ := rgD_get hx
      have hj : j < 2 := hj
      rw [Int.zero_add]
      (try dsimp only [gN, gN2, sNil, sSeq, sExp, sRet, sIf, sPass, sCont, sBrk, sSet, sSetO, sApp, sAppF, sApPop, flatD, sFrz, sAug, sRaise, sAsg, sPut, eV, eC, e1, e2, t2, tBl, tTru, tN, tAn, tOo, tCh, eNot, eAn, eOo, eIf, eTup, eLst, eF, eFld, eIs, eIxO, eLenO, eSl, eRev, eB, eCall, eCallG, eMeth, aN, aC, aV, oNo, oPt, eIsO, oSrtI, oSrtT, oLt, oLe, oReprB, oInI, gN3, eCh, oGt, oGe, oI, oIC, oI1, oAdd, oMul, oEq, oIsN, oIx, oLen, oList, oTuple, oAbs, oMin2, oInt1, fLst, fListRg1, fList, fRep, fCat, tYs, tru, isS, dats, seqD, seqO, tyS, List.set, List.getElem?_cons_zero, List.getElem?_cons_succ, List.append_eq, List.nil_append, List.cons_append, Option.map_some, Option.bind_some, ng, wipeD, List.length_cons, List.length_nil, Nat.reduceAdd, Nat.reduceSub, List.replicate_succ, List.replicate_zero]; try simp only [decide_eq_true_eq, Bool.not_eq_true', decide_eq_false_iff_not, Bool.false_eq_true, if_false, if_true, reduceIte, String.reduceBEq, Bool.true_or, Bool.false_or, Bool.or_false, Bool.and_false, Bool.false_and, Bool.and_true, Bool.true_and, Bool.not_true, Bool.not_false, ne_eq, not_true_eq_false, reduceCtorEq, Bool.true_eq_false, decide_true, decide_false])
      refine ⟨_, rfl, ok.f, ?_⟩
      (try dsimp only [gN, gN2, sNil, sSeq, sExp, sRet, sIf, sPass, sCont, sBrk, sSet, sSetO, sApp, sAppF, sApPop, flatD, sFrz, sAug, sRaise, sAsg, sPut, eV, eC, e1, e2, t2, tBl, tTru, tN, tAn, tOo, tCh, eNot, eAn, eOo, eIf, eTup, eLst, eF, eFld, eIs, eIxO, eLenO, eSl, eRev, eB, eCall, eCallG, eMeth, aN, aC, aV, oNo, oPt, eIsO, oSrtI, oSrtT, oLt, oLe, oReprB, oInI, gN3, eCh, oGt, oGe, oI, oIC, oI1, oAdd, oMul, oEq, oIsN, oIx, oLen, oList, oTuple, oAbs, oMin2, oInt1, fLst, fListRg1, fList, fRep, fCat, tYs, tru, isS, dats, seqD, seqO, tyS, List.set, List.getElem?_cons_zero, List.getElem?_cons_succ, List.append_eq, List.nil_append, List.cons_append, Option.map_some, Option.bind_some, ng, wipeD, List.length_cons, List.length_nil, Nat.reduceAdd, Nat.reduceSub, List.replicate_succ, List.replicate_zero]; try simp only [decide_eq_true_eq, Bool.not_eq_true', decide_eq_false_iff_not, Bool.false_eq_true, if_false, if_true, reduceIte, String.reduceBEq, Bool.true_or, Bool.false_or, Bool.or_false, Bool.and_false, Bool.false_and, Bool.and_true, Bool.true_and, Bool.not_true, Bool.not_false, ne_eq, not_true_eq_false, reduceCtorEq, Bool.true_eq_false, decide_true, decide_false])
      refine ⟨_, rfl, ok.t, ?_⟩
      (try dsimp only [gN, gN2, sNil, sSeq, sExp, sRet, sIf, sPass, sCont, sBrk, sSet, sSetO, sApp, sAppF, sApPop, flatD, sFrz, sAug, sRaise, sAsg, sPut, eV, eC, e1, e2, t2, tBl, tTru, tN, tAn, tOo, tCh, eNot, eAn, eOo, eIf, eTup, eLst, eF, eFld, eIs, eIxO, eLenO, eSl, eRev, eB, eCall, eCallG, eMeth, aN, aC, aV, oNo, oPt, eIsO, oSrtI, oSrtT, oLt, oLe, oReprB, oInI, gN3, eCh, oGt, oGe, oI, oIC, oI1, oAdd, oMul, oEq, oIsN, oIx, oLen, oList, oTuple, oAbs, oMin2, oInt1, fLst, fListRg1, fList, fRep, fCat, tYs, tru, isS, dats, seqD, seqO, tyS, List.set, List.getElem?_cons_zero, List.getElem?_cons_succ, List.append_eq, List.nil_append, List.cons_append, Option.map_some, Option.bind_some, ng, wipeD, List.length_cons, List.length_nil, Nat.reduceAdd, Nat.reduceSub, List.replicate_succ, List.replicate_zero]; try simp only [decide_eq_true_eq, Bool.not_eq_true', decide_eq_false_iff_not, Bool.false_eq_true, if_false, if_true, reduceIte, String.reduceBEq, Bool.true_or, Bool.false_or, Bool.or_false, Bool.and_false, Bool.false_and, Bool.and_true, Bool.true_and, Bool.not_true, Bool.not_false, ne_eq, not_true_eq_false, reduceCtorEq, Bool.true_eq_false, decide_true, decide_false])
      have okj : LkOk ⟨j, m.f, m.t⟩ := ⟨hj, ok.f, ok.t⟩
      refine ⟨⟨j, m.f, m.t⟩, (0, 0), rfl, okj, by decide, ?_⟩
      (try dsimp only [gN, gN2, sNil, sSeq, sExp, sRet, sIf, sPass, sCont, sBrk, sSet, sSetO, sApp, sAppF, sApPop, flatD, sFrz, sAug, sRaise, sAsg, sPut, eV, eC, e1, e2, t2, tBl, tTru, tN, tAn, tOo, tCh, eNot, eAn, eOo, eIf, eTup, eLst, eF, eFld, eIs, eIxO, eLenO, eSl, eRev, eB, eCall, eCallG, eMeth, aN, aC, aV, oNo, oPt, eIsO, oSrtI, oSrtT, oLt, oLe, oReprB, oInI, gN3, eCh, oGt, oGe, oI, oIC, oI1, oAdd, oMul, oEq, oIsN, oIx, oLen, oList, oTuple, oAbs, oMin2, oInt1, fLst, fListRg1, fList, fRep, fCat, tYs, tru, isS, dats, seqD, seqO, tyS, List.set, List.getElem?_cons_zero, List.getElem?_cons_succ, List.append_eq, List.nil_append, List.cons_append, Option.map_some, Option.bind_some, ng, wipeD, List.length_cons, List.length_nil, Nat.reduceAdd, Nat.reduceSub, List.replicate_succ, List.replicate_zero]; try simp only [decide_eq_true_eq, Bool.not_eq_true', decide_eq_false_iff_not, Bool.false_eq_true, if_false, if_true, reduceIte, String.reduceBEq, Bool.true_or, Bool.false_or, Bool.or_false, Bool.and_false, Bool.false_and, Bool.and_true, Bool.true_and, Bool.not_true, Bool.not_false, ne_eq, not_true_eq_false, reduceCtorEq, Bool.true_eq_false, decide_true, decide_false])
      refine ⟨a, b, c, 0, rfl, T.oa, T.ob, T.oc, by decide, ?_⟩
      refine ⟨_, _, pyN_pair _, pyN_pair _, rfl, rfl, ?_⟩
      rw [eqv_pair, ← two]
      by_cases e : j = m.s
      · have e2 : (⟨j, m.f, m.t⟩ : Lk) = m := by rw [e]
        rw [e2, decide_eq_true rfl]
        (try dsimp only [gN, gN2, sNil, sSeq, sExp, sRet, sIf, sPass, sCont, sBrk, sSet, sSetO, sApp, sAppF, sApPop, flatD, sFrz, sAug, sRaise, sAsg, sPut, eV, eC, e1, e2, t2, tBl, tTru, tN, tAn, tOo, tCh, eNot, eAn, eOo, eIf, eTup, eLst, eF, eFld, eIs, eIxO, eLenO, eSl, eRev, eB, eCall, eCallG, eMeth, aN, aC, aV, oNo, oPt, eIsO, oSrtI, oSrtT, oLt, oLe, oReprB, oInI, gN3, eCh, oGt, oGe, oI, oIC, oI1, oAdd, oMul, oEq, oIsN, oIx, oLen, oList, oTuple, oAbs, oMin2, oInt1, fLst, fListRg1, fList, fRep, fCat, tYs, tru, isS, dats, seqD, seqO, tyS, List.set, List.getElem?_cons_zero, List.getElem?_cons_succ, List.append_eq, List.nil_append, List.cons_append, Option.map_some, Option.bind_some, ng, wipeD, List.length_cons, List.length_nil, Nat.reduceAdd, Nat.reduceSub, List.replicate_succ, List.replicate_zero]; try simp only [decide_eq_true_eq, Bool.not_eq_true', decide_eq_false_iff_not, Bool.false_eq_true, if_false, if_true, reduceIte, String.reduceBEq, Bool.true_or, Bool.false_or, Bool.or_false, Bool.and_false, Bool.false_and, Bool.and_true, Bool.true_and, Bool.not_true, Bool.not_false, ne_eq, not_true_eq_false, reduceCtorEq, Bool.true_eq_false, decide_true, decide_false])
        rw [e]
        exact q
      · rw [decide_eq_false fun h => e (congrArg Lk.s (mv_sign okj ok rfl rfl (0, 0) h))]
        (try dsimp only [gN, gN2, sNil, sSeq, sExp, sRet, sIf, sPass, sCont, sBrk, sSet, sSetO, sApp, sAppF, sApPop, flatD, sFrz, sAug, sRaise, sAsg, sPut, eV, eC, e1, e2, t2, tBl, tTru, tN, tAn, tOo, tCh, eNot, eAn, eOo, eIf, eTup, eLst, eF, eFld, eIs, eIxO, eLenO, eSl, eRev, eB, eCall, eCallG, eMeth, aN, aC, aV, oNo, oPt, eIsO, oSrtI, oSrtT, oLt, oLe, oReprB, oInI, gN3, eCh, oGt, oGe, oI, oIC, oI1, oAdd, oMul, oEq, oIsN, oIx, oLen, oList, oTuple, oAbs, oMin2, oInt1, fLst, fListRg1, fList, fRep, fCat, tYs, tru, isS, dats, seqD, seqO, tyS, List.set, List.getElem?_cons_zero, List.getElem?_cons_succ, List.append_eq, List.nil_append, List.cons_append, Option.map_some, Option.bind_some, ng, wipeD, List.length_cons, List.length_nil, Nat.reduceAdd, Nat.reduceSub, List.replicate_succ, List.replicate_zero]; try simp only [decide_eq_true_eq, Bool.not_eq_true', decide_eq_false_iff_not, Bool.false_eq_true, if_false, if_true, reduceIte, String.reduceBEq, Bool.true_or, Bool.false_or, Bool.or_false, Bool.and_false, Bool.false_and, Bool.and_true, Bool.true_and, Bool.not_true, Bool.not_false, ne_eq, not_true_eq_false, reduceCtorEq, Bool.true_eq_false, decide_true, decide_false])
        have hs := ok.s
        refine ⟨fun h => ?_, fun h => ?_, _, _, rfl⟩
        · omega
        · have : j = 1 := by omega
          have := h1 this
          omega
    · rintro ρ ⟨h1, h2, y, z, rfl⟩
      exact (h2 rfl).elim
end DL

set_option Elab.async false
set_option linter.all false
set_option maxRecDepth 100000
set_option maxHeartbeats 1000000
set_option exponentiation.threshold 2000
namespace BT
open PySem PySem.Spec PyProof.Rows L2
/-! ### short data -/
theorem dWA_le {n : Nat} : ∀ {ds : List PyData}, (∀ d ∈ ds, dW d + 2 ≤ n) → dWA ds ≤ n * ds.length
  | [], _ => Nat.le_refl _
  | d :: ds, h => by
    have h1 := h d (List.mem_cons_self ..)
    have h2 := dWA_le (n := n) (ds := ds) fun e he => h e (List.mem_cons_of_mem _ he)
    simp only [dWA, List.length_cons]
    rw [Nat.mul_succ]
    omega
theorem okIA_of : ∀ {ds : List PyData}, (∀ d ∈ ds, okI d = true) → okIA ds = true
  | [], _ => rfl
  | d :: ds, h => by
    simp only [okIA, Bool.and_eq_true]
    exact ⟨h d (List.mem_cons_self ..), okIA_of fun e he => h e (List.mem_cons_of_mem _ he)⟩
theorem depthA_le {n : Nat} : ∀ {ds : List PyData}, (∀ d ∈ ds, d.depth ≤ n) → PyData.depthAll ds ≤ n
  | [], _ => by simp [PyData.depthAll]
  | d :: ds, h => by
    simp only [PyData.depthAll]
    exact Nat.max_le.mpr ⟨h d (List.mem_cons_self ..), depthA_le fun e he => h e (List.mem_cons_of_mem _ he)⟩
theorem hasDictA_no : ∀ {ds : List PyData}, (∀ d ∈ ds, d.hasDict = false) → PyData.hasDictAll ds = false
  | [], _ => by simp [PyData.hasDictAll]
  | d :: ds, h => by
    simp only [PyData.hasDictAll, Bool.or_eq_false_iff]
    exact ⟨h d (List.mem_cons_self ..), hasDictA_no fun e he => h e (List.mem_cons_of_mem _ he)⟩
/-- one item of a short tuple -/
structure It1 (d : PyData) : Prop where
  ok : okI d = true
  w : dW d ≤ 41
  dp : d.depth = 0
  nd : d.hasDict = false
theorem it_int {z : Int} (h : z.natAbs < 10 ^ 40) : It1 (.int z) := ⟨by simp only [okI]; exact decide_eq_true h, by simp [dW], by simp [PyData.depth], by simp [PyData.hasDict]⟩
theorem it_none : It1 .none := ⟨rfl, by decide, by simp [PyData.depth], by simp [PyData.hasDict]⟩
theorem it_bool (b : Bool) : It1 (.bool b) := ⟨by simp [okI], by simp [dW], by simp [PyData.depth], by simp [PyData.hasDict]⟩
theorem it_str {x : Str} (h : strOk x = true) (hl : x.length ≤ 3) : It1 (.str x) := ⟨by simpa only [okI] using h, by simp only [dW]; omega, by simp [PyData.depth], by simp [PyData.hasDict]⟩
theorem It1.sm {d : PyData} (h : It1 d) : Sm 41 d := ⟨h.ok, h.w, by rw [h.dp]; omega, fun e => by rw [h.nd] at e; cases e⟩
theorem sm_items {ds : List PyData} {n : Nat} (hl : ds.length ≤ n) (h : ∀ d ∈ ds, It1 d) : Sm (43 * n + 3) (.tuple ds) ∧ Sm (43 * n + 3) (.list ds) := by
  have h1 := okIA_of fun d hd => (h d hd).ok
  have h2 := dWA_le (n := 43) fun d hd => by have := (h d hd).w; omega
  have h3 : 43 * ds.length ≤ 43 * n := Nat.mul_le_mul_left _ hl
  have h4 := depthA_le (n := 0) fun d hd => by rw [(h d hd).dp]; omega
  have h5 := hasDictA_no fun d hd => (h d hd).nd
  refine ⟨⟨by simpa only [okI] using h1, by simp only [dW]; omega, by simp only [PyData.depth]; omega, fun e => ?_⟩, ⟨by simpa only [okI] using h1, by simp only [dW]; omega, by simp only [PyData.depth]; omega, fun e => ?_⟩⟩
  · simp only [PyData.hasDict] at e; rw [h5] at e; cases e
  · simp only [PyData.hasDict] at e; rw [h5] at e; cases e
theorem nat_small {p : Nat} (h : p < 1000) : ((p : Int)).natAbs < 10 ^ 40 := Nat.lt_trans (show p < 1000 from h) (by decide)
end BT
namespace DL
open PySem PySem.Spec PyProof.Rows L2 BT
/-! ### orders, facts -/
def lkP (a : Lk) : PyData := .tuple [.int (a.s : Int), lotD (lotN a.f), lotD (lotN a.t)]
theorem pyR_lk (a : Lk) : pyR (lkD a) = some (lkP a) := by
  unfold lkD lookX lkP
  simp only [pyR, pyRs, pyR_lot, Option.bind_some, Option.map_some]
theorem sm_lotN {m : Nat} (h : m < 2 ^ 10) : Sm 433 (lotD (lotN m)) := by
  refine (sm_items (n := 10) (by rw [List.length_map]; exact lotN_len h) fun d hd => ?_).1
  obtain ⟨p, hp, rfl⟩ := List.mem_map.mp hd
  have := lotN_lt h p hp
  exact it_int (nat_small (by omega))
theorem sr_lk {a : Lk} (h : LkOk a) : Sr (lkP a) := by
  have h1 := sm_lotN h.f
  have h2 := sm_lotN h.t
  have hs := h.s
  have nd : ∀ l : List Nat, (lotD l).hasDict = false := fun l => by
    unfold lotD
    simp only [PyData.hasDict]
    refine hasDictA_no fun d hd => ?_
    obtain ⟨p, hp, rfl⟩ := List.mem_map.mp hd
    simp only [PyData.hasDict]
  refine ⟨?_, ?_, ?_, fun e => ?_⟩
  · unfold lkP
    simp only [okI, okIA, Bool.and_eq_true]
    exact ⟨decide_eq_true (nat_small (by omega)), h1.ok, h2.ok, trivial⟩
  · unfold lkP
    simp only [dW, dWA]
    have := h1.w
    have := h2.w
    omega
  · unfold lkP
    simp only [PyData.depth, PyData.depthAll]
    have := h1.dp
    have := h2.dp
    omega
  · unfold lkP at e
    simp only [PyData.hasDict, PyData.hasDictAll, nd, Bool.or_false] at e
    cases e
theorem times_lk {x y : Lk} {Q : D → Prop} {X : Str → D → Prop} (hx : LkOk x) (hy : LkOk y) (g : Go x y) (q : Q (lkD (mulL x y))) : d_times [.dat (lkD x), .dat (lkD y)] Q X :=
  times_ok hx.s hx.f hx.t hy.s hy.f hy.t ((go_iff x y).mpr g) q
/-- repr(a) != repr(b), both the same look -/
theorem rep_lk {a : Lk} {R : Bool → Prop} (h : LkOk a) (r : R false) : (True ∧ ∃ p, pyR (lkD a) = some p ∧ Sr p ∧ True ∧ ∃ p', pyR (lkD a) = some p' ∧ Sr p' ∧ R (!decide (p.shown = p'.shown))) :=
  ⟨trivial, _, pyR_lk a, sr_lk h, trivial, _, pyR_lk a, sr_lk h, by rw [decide_eq_true rfl]; exact r⟩
theorem Tri.p213 {a b c : Lk} (T : Tri a b c) : Tri b a c := ⟨T.ob, T.oa, T.oc, T.ab.symm, T.bc, T.ac⟩
theorem Tri.p132 {a b c : Lk} (T : Tri a b c) : Tri a c b := ⟨T.oa, T.oc, T.ob, T.ac, T.ab, T.bc.symm⟩
theorem Tri.e213 {a b c : Lk} (T : Tri a b c) : mulL (mulL b a) c = mulL (mulL a b) c := by rw [mul_comm T.ob T.oa T.ab.symm]
theorem Tri.asc {a b c : Lk} (T : Tri a b c) : mulL (mulL a b) c = mulL a (mulL b c) := mul_assoc T.oa T.ob T.oc T.ab T.ac T.bc
theorem Tri.e132 {a b c : Lk} (T : Tri a b c) : mulL (mulL a c) b = mulL (mulL a b) c := by rw [T.p132.asc, T.asc, mul_comm T.oc T.ob T.bc.symm]
theorem sem_law_orders_hold : ∀ as Qd Xd, d_law_orders_hold as Qd Xd → as.length = ["_law_looks", "_law_expected_here"].length ∧ r_law_orders_hold { nx := fun _ => Qd .non, rt := Qd } (as ++ List.replicate (["_law_looks", "_law_expected_here", "_law_order", "_law_first", "_law_second", "_law_third"].length - as.length) .un) (fun _ => Xd) := by
  rintro as Qd Xd ⟨a, b, c, rfl, T, q⟩
  refine ⟨rfl, ?_⟩
  have om := mul_ok (mul_ok T.oa T.ob) T.oc
  generalize hm : mulL (mulL a b) c = m at *
  unfold r_law_orders_hold
  (try dsimp only [gN, gN2, sNil, sSeq, sExp, sRet, sIf, sPass, sCont, sBrk, sSet, sSetO, sApp, sAppF, sApPop, flatD, sFrz, sAug, sRaise, sAsg, sPut, eV, eC, e1, e2, t2, tBl, tTru, tN, tAn, tOo, tCh, eNot, eAn, eOo, eIf, eTup, eLst, eF, eFld, eIs, eIxO, eLenO, eSl, eRev, eB, eCall, eCallG, eMeth, aN, aC, aV, oNo, oPt, eIsO, oSrtI, oSrtT, oLt, oLe, oReprB, oInI, gN3, eCh, oGt, oGe, oI, oIC, oI1, oAdd, oMul, oEq, oIsN, oIx, oLen, oList, oTuple, oAbs, oMin2, oInt1, fLst, fListRg1, fList, fRep, fCat, tYs, tru, isS, dats, seqD, seqO, tyS, List.set, List.getElem?_cons_zero, List.getElem?_cons_succ, List.append_eq, List.nil_append, List.cons_append, Option.map_some, Option.bind_some, ng, wipeD, List.length_cons, List.length_nil, Nat.reduceAdd, Nat.reduceSub, List.replicate_succ, List.replicate_zero, sFor, iRg1, iRg2, iSq, iEn, fLc]; try simp only [decide_eq_true_eq, Bool.not_eq_true', decide_eq_false_iff_not, Bool.false_eq_true, if_false, if_true, reduceIte, String.reduceBEq, Bool.true_or, Bool.false_or, Bool.or_false, Bool.and_false, Bool.false_and, Bool.and_true, Bool.true_and, Bool.not_true, Bool.not_false, ne_eq, not_true_eq_false, reduceCtorEq, Bool.true_eq_false, decide_true, decide_false])
  refine ⟨fun j ρ => ∃ y1 y2 y3 y4, ρ = [.dat (lk3X a b c), .dat (lkD m), y1, y2, y3, y4], ⟨_, _, _, _, rfl⟩, ?_, ?_⟩
  · rintro j x ρ hx ⟨y1, y2, y3, y4, rfl⟩
    match j, hx with
    | 0, hx =>
      cases Option.some.inj hx
      have U := T
      have ex := hm
      unfold lk3X
      (try dsimp only [gN, gN2, sNil, sSeq, sExp, sRet, sIf, sPass, sCont, sBrk, sSet, sSetO, sApp, sAppF, sApPop, flatD, sFrz, sAug, sRaise, sAsg, sPut, eV, eC, e1, e2, t2, tBl, tTru, tN, tAn, tOo, tCh, eNot, eAn, eOo, eIf, eTup, eLst, eF, eFld, eIs, eIxO, eLenO, eSl, eRev, eB, eCall, eCallG, eMeth, aN, aC, aV, oNo, oPt, eIsO, oSrtI, oSrtT, oLt, oLe, oReprB, oInI, gN3, eCh, oGt, oGe, oI, oIC, oI1, oAdd, oMul, oEq, oIsN, oIx, oLen, oList, oTuple, oAbs, oMin2, oInt1, fLst, fListRg1, fList, fRep, fCat, tYs, tru, isS, dats, seqD, seqO, tyS, List.set, List.getElem?_cons_zero, List.getElem?_cons_succ, List.append_eq, List.nil_append, List.cons_append, Option.map_some, Option.bind_some, ng, wipeD, List.length_cons, List.length_nil, Nat.reduceAdd, Nat.reduceSub, List.replicate_succ, List.replicate_zero]; try simp only [decide_eq_true_eq, Bool.not_eq_true', decide_eq_false_iff_not, Bool.false_eq_true, if_false, if_true, reduceIte, String.reduceBEq, Bool.true_or, Bool.false_or, Bool.or_false, Bool.and_false, Bool.false_and, Bool.and_true, Bool.true_and, Bool.not_true, Bool.not_false, ne_eq, not_true_eq_false, reduceCtorEq, Bool.true_eq_false, decide_true, decide_false])
      simp only [at3_0, at3_1, at3_2]
      refine times_lk U.oa U.ob U.ab ?_
      refine times_lk (mul_ok U.oa U.ob) U.oc (go_mul U.ac U.bc) ?_
      rw [ex]
      refine ⟨trivial, _, pyR_lk m, sr_lk om, trivial, _, pyR_lk m, sr_lk om, ?_⟩
      (try dsimp only [gN, gN2, sNil, sSeq, sExp, sRet, sIf, sPass, sCont, sBrk, sSet, sSetO, sApp, sAppF, sApPop, flatD, sFrz, sAug, sRaise, sAsg, sPut, eV, eC, e1, e2, t2, tBl, tTru, tN, tAn, tOo, tCh, eNot, eAn, eOo, eIf, eTup, eLst, eF, eFld, eIs, eIxO, eLenO, eSl, eRev, eB, eCall, eCallG, eMeth, aN, aC, aV, oNo, oPt, eIsO, oSrtI, oSrtT, oLt, oLe, oReprB, oInI, gN3, eCh, oGt, oGe, oI, oIC, oI1, oAdd, oMul, oEq, oIsN, oIx, oLen, oList, oTuple, oAbs, oMin2, oInt1, fLst, fListRg1, fList, fRep, fCat, tYs, tru, isS, dats, seqD, seqO, tyS, List.set, List.getElem?_cons_zero, List.getElem?_cons_succ, List.append_eq, List.nil_append, List.cons_append, Option.map_some, Option.bind_some, ng, wipeD, List.length_cons, List.length_nil, Nat.reduceAdd, Nat.reduceSub, List.replicate_succ, List.replicate_zero]; try simp only [decide_eq_true_eq, Bool.not_eq_true', decide_eq_false_iff_not, Bool.false_eq_true, if_false, if_true, reduceIte, String.reduceBEq, Bool.true_or, Bool.false_or, Bool.or_false, Bool.and_false, Bool.false_and, Bool.and_true, Bool.true_and, Bool.not_true, Bool.not_false, ne_eq, not_true_eq_false, reduceCtorEq, Bool.true_eq_false, decide_true, decide_false])
      try rw [if_neg (fun q => q rfl)]
      refine times_lk U.ob U.oc U.bc ?_
      refine times_lk U.oa (mul_ok U.ob U.oc) (go_mul U.ab.symm U.ac.symm).symm ?_
      rw [← U.asc, ex]
      refine ⟨trivial, _, pyR_lk m, sr_lk om, trivial, _, pyR_lk m, sr_lk om, ?_⟩
      (try dsimp only [gN, gN2, sNil, sSeq, sExp, sRet, sIf, sPass, sCont, sBrk, sSet, sSetO, sApp, sAppF, sApPop, flatD, sFrz, sAug, sRaise, sAsg, sPut, eV, eC, e1, e2, t2, tBl, tTru, tN, tAn, tOo, tCh, eNot, eAn, eOo, eIf, eTup, eLst, eF, eFld, eIs, eIxO, eLenO, eSl, eRev, eB, eCall, eCallG, eMeth, aN, aC, aV, oNo, oPt, eIsO, oSrtI, oSrtT, oLt, oLe, oReprB, oInI, gN3, eCh, oGt, oGe, oI, oIC, oI1, oAdd, oMul, oEq, oIsN, oIx, oLen, oList, oTuple, oAbs, oMin2, oInt1, fLst, fListRg1, fList, fRep, fCat, tYs, tru, isS, dats, seqD, seqO, tyS, List.set, List.getElem?_cons_zero, List.getElem?_cons_succ, List.append_eq, List.nil_append, List.cons_append, Option.map_some, Option.bind_some, ng, wipeD, List.length_cons, List.length_nil, Nat.reduceAdd, Nat.reduceSub, List.replicate_succ, List.replicate_zero]; try simp only [decide_eq_true_eq, Bool.not_eq_true', decide_eq_false_iff_not, Bool.false_eq_true, if_false, if_true, reduceIte, String.reduceBEq, Bool.true_or, Bool.false_or, Bool.or_false, Bool.and_false, Bool.false_and, Bool.and_true, Bool.true_and, Bool.not_true, Bool.not_false, ne_eq, not_true_eq_false, reduceCtorEq, Bool.true_eq_false, decide_true, decide_false])
      try rw [if_neg (fun q => q rfl)]
      exact ⟨_, _, _, _, rfl⟩
    | 1, hx =>
      cases Option.some.inj hx
      have U := T.p132
      have ex := (T.e132.trans hm)
      unfold lk3X
      (try dsimp only [gN, gN2, sNil, sSeq, sExp, sRet, sIf, sPass, sCont, sBrk, sSet, sSetO, sApp, sAppF, sApPop, flatD, sFrz, sAug, sRaise, sAsg, sPut, eV, eC, e1, e2, t2, tBl, tTru, tN, tAn, tOo, tCh, eNot, eAn, eOo, eIf, eTup, eLst, eF, eFld, eIs, eIxO, eLenO, eSl, eRev, eB, eCall, eCallG, eMeth, aN, aC, aV, oNo, oPt, eIsO, oSrtI, oSrtT, oLt, oLe, oReprB, oInI, gN3, eCh, oGt, oGe, oI, oIC, oI1, oAdd, oMul, oEq, oIsN, oIx, oLen, oList, oTuple, oAbs, oMin2, oInt1, fLst, fListRg1, fList, fRep, fCat, tYs, tru, isS, dats, seqD, seqO, tyS, List.set, List.getElem?_cons_zero, List.getElem?_cons_succ, List.append_eq, List.nil_append, List.cons_append, Option.map_some, Option.bind_some, ng, wipeD, List.length_cons, List.length_nil, Nat.reduceAdd, Nat.reduceSub, List.replicate_succ, List.replicate_zero]; try simp only [decide_eq_true_eq, Bool.not_eq_true', decide_eq_false_iff_not, Bool.false_eq_true, if_false, if_true, reduceIte, String.reduceBEq, Bool.true_or, Bool.false_or, Bool.or_false, Bool.and_false, Bool.false_and, Bool.and_true, Bool.true_and, Bool.not_true, Bool.not_false, ne_eq, not_true_eq_false, reduceCtorEq, Bool.true_eq_false, decide_true, decide_false])
      simp only [at3_0, at3_1, at3_2]
      refine times_lk U.oa U.ob U.ab ?_
      refine times_lk (mul_ok U.oa U.ob) U.oc (go_mul U.ac U.bc) ?_
      rw [ex]
      refine ⟨trivial, _, pyR_lk m, sr_lk om, trivial, _, pyR_lk m, sr_lk om, ?_⟩
      (try dsimp only [gN, gN2, sNil, sSeq, sExp, sRet, sIf, sPass, sCont, sBrk, sSet, sSetO, sApp, sAppF, sApPop, flatD, sFrz, sAug, sRaise, sAsg, sPut, eV, eC, e1, e2, t2, tBl, tTru, tN, tAn, tOo, tCh, eNot, eAn, eOo, eIf, eTup, eLst, eF, eFld, eIs, eIxO, eLenO, eSl, eRev, eB, eCall, eCallG, eMeth, aN, aC, aV, oNo, oPt, eIsO, oSrtI, oSrtT, oLt, oLe, oReprB, oInI, gN3, eCh, oGt, oGe, oI, oIC, oI1, oAdd, oMul, oEq, oIsN, oIx, oLen, oList, oTuple, oAbs, oMin2, oInt1, fLst, fListRg1, fList, fRep, fCat, tYs, tru, isS, dats, seqD, seqO, tyS, List.set, List.getElem?_cons_zero, List.getElem?_cons_succ, List.append_eq, List.nil_append, List.cons_append, Option.map_some, Option.bind_some, ng, wipeD, List.length_cons, List.length_nil, Nat.reduceAdd, Nat.reduceSub, List.replicate_succ, List.replicate_zero]; try simp only [decide_eq_true_eq, Bool.not_eq_true', decide_eq_false_iff_not, Bool.false_eq_true, if_false, if_true, reduceIte, String.reduceBEq, Bool.true_or, Bool.false_or, Bool.or_false, Bool.and_false, Bool.false_and, Bool.and_true, Bool.true_and, Bool.not_true, Bool.not_false, ne_eq, not_true_eq_false, reduceCtorEq, Bool.true_eq_false, decide_true, decide_false])
      try rw [if_neg (fun q => q rfl)]
      refine times_lk U.ob U.oc U.bc ?_
      refine times_lk U.oa (mul_ok U.ob U.oc) (go_mul U.ab.symm U.ac.symm).symm ?_
      rw [← U.asc, ex]
      refine ⟨trivial, _, pyR_lk m, sr_lk om, trivial, _, pyR_lk m, sr_lk om, ?_⟩
      (try dsimp only [gN, gN2, sNil, sSeq, sExp, sRet, sIf, sPass, sCont, sBrk, sSet, sSetO, sApp, sAppF, sApPop, flatD, sFrz, sAug, sRaise, sAsg, sPut, eV, eC, e1, e2, t2, tBl, tTru, tN, tAn, tOo, tCh, eNot, eAn, eOo, eIf, eTup, eLst, eF, eFld, eIs, eIxO, eLenO, eSl, eRev, eB, eCall, eCallG, eMeth, aN, aC, aV, oNo, oPt, eIsO, oSrtI, oSrtT, oLt, oLe, oReprB, oInI, gN3, eCh, oGt, oGe, oI, oIC, oI1, oAdd, oMul, oEq, oIsN, oIx, oLen, oList, oTuple, oAbs, oMin2, oInt1, fLst, fListRg1, fList, fRep, fCat, tYs, tru, isS, dats, seqD, seqO, tyS, List.set, List.getElem?_cons_zero, List.getElem?_cons_succ, List.append_eq, List.nil_append, List.cons_append, Option.map_some, Option.bind_some, ng, wipeD, List.length_cons, List.length_nil, Nat.reduceAdd, Nat.reduceSub, List.replicate_succ, List.replicate_zero]; try simp only [decide_eq_true_eq, Bool.not_eq_true', decide_eq_false_iff_not, Bool.false_eq_true, if_false, if_true, reduceIte, String.reduceBEq, Bool.true_or, Bool.false_or, Bool.or_false, Bool.and_false, Bool.false_and, Bool.and_true, Bool.true_and, Bool.not_true, Bool.not_false, ne_eq, not_true_eq_false, reduceCtorEq, Bool.true_eq_false, decide_true, decide_false])
      try rw [if_neg (fun q => q rfl)]
      exact ⟨_, _, _, _, rfl⟩
    | 2, hx =>
      cases Option.some.inj hx
      have U := T.p213
      have ex := (T.e213.trans hm)
      unfold lk3X
      (try dsimp only [gN, gN2, sNil, sSeq, sExp, sRet, sIf, sPass, sCont, sBrk, sSet, sSetO, sApp, sAppF, sApPop, flatD, sFrz, sAug, sRaise, sAsg, sPut, eV, eC, e1, e2, t2, tBl, tTru, tN, tAn, tOo, tCh, eNot, eAn, eOo, eIf, eTup, eLst, eF, eFld, eIs, eIxO, eLenO, eSl, eRev, eB, eCall, eCallG, eMeth, aN, aC, aV, oNo, oPt, eIsO, oSrtI, oSrtT, oLt, oLe, oReprB, oInI, gN3, eCh, oGt, oGe, oI, oIC, oI1, oAdd, oMul, oEq, oIsN, oIx, oLen, oList, oTuple, oAbs, oMin2, oInt1, fLst, fListRg1, fList, fRep, fCat, tYs, tru, isS, dats, seqD, seqO, tyS, List.set, List.getElem?_cons_zero, List.getElem?_cons_succ, List.append_eq, List.nil_append, List.cons_append, Option.map_some, Option.bind_some, ng, wipeD, List.length_cons, List.length_nil, Nat.reduceAdd, Nat.reduceSub, List.replicate_succ, List.replicate_zero]; try simp only [decide_eq_true_eq, Bool.not_eq_true', decide_eq_false_iff_not, Bool.false_eq_true, if_false, if_true, reduceIte, String.reduceBEq, Bool.true_or, Bool.false_or, Bool.or_false, Bool.and_false, Bool.false_and, Bool.and_true, Bool.true_and, Bool.not_true, Bool.not_false, ne_eq, not_true_eq_false, reduceCtorEq, Bool.true_eq_false, decide_true, decide_false])
      simp only [at3_0, at3_1, at3_2]
      refine times_lk U.oa U.ob U.ab ?_
      refine times_lk (mul_ok U.oa U.ob) U.oc (go_mul U.ac U.bc) ?_
      rw [ex]
      refine ⟨trivial, _, pyR_lk m, sr_lk om, trivial, _, pyR_lk m, sr_lk om, ?_⟩
      (try dsimp only [gN, gN2, sNil, sSeq, sExp, sRet, sIf, sPass, sCont, sBrk, sSet, sSetO, sApp, sAppF, sApPop, flatD, sFrz, sAug, sRaise, sAsg, sPut, eV, eC, e1, e2, t2, tBl, tTru, tN, tAn, tOo, tCh, eNot, eAn, eOo, eIf, eTup, eLst, eF, eFld, eIs, eIxO, eLenO, eSl, eRev, eB, eCall, eCallG, eMeth, aN, aC, aV, oNo, oPt, eIsO, oSrtI, oSrtT, oLt, oLe, oReprB, oInI, gN3, eCh, oGt, oGe, oI, oIC, oI1, oAdd, oMul, oEq, oIsN, oIx, oLen, oList, oTuple, oAbs, oMin2, oInt1, fLst, fListRg1, fList, fRep, fCat, tYs, tru, isS, dats, seqD, seqO, tyS, List.set, List.getElem?_cons_zero, List.getElem?_cons_succ, List.append_eq, List.nil_append, List.cons_append, Option.map_some, Option.bind_some, ng, wipeD, List.length_cons, List.length_nil, Nat.reduceAdd, Nat.reduceSub, List.replicate_succ, List.replicate_zero]; try simp only [decide_eq_true_eq, Bool.not_eq_true', decide_eq_false_iff_not, Bool.false_eq_true, if_false, if_true, reduceIte, String.reduceBEq, Bool.true_or, Bool.false_or, Bool.or_false, Bool.and_false, Bool.false_and, Bool.and_true, Bool.true_and, Bool.not_true, Bool.not_false, ne_eq, not_true_eq_false, reduceCtorEq, Bool.true_eq_false, decide_true, decide_false])
      try rw [if_neg (fun q => q rfl)]
      refine times_lk U.ob U.oc U.bc ?_
      refine times_lk U.oa (mul_ok U.ob U.oc) (go_mul U.ab.symm U.ac.symm).symm ?_
      rw [← U.asc, ex]
      refine ⟨trivial, _, pyR_lk m, sr_lk om, trivial, _, pyR_lk m, sr_lk om, ?_⟩
      (try dsimp only [gN, gN2, sNil, sSeq, sExp, sRet, sIf, sPass, sCont, sBrk, sSet, sSetO, sApp, sAppF, sApPop, flatD, sFrz, sAug, sRaise, sAsg, sPut, eV, eC, e1, e2, t2, tBl, tTru, tN, tAn, tOo, tCh, eNot, eAn, eOo, eIf, eTup, eLst, eF, eFld, eIs, eIxO, eLenO, eSl, eRev, eB, eCall, eCallG, eMeth, aN, aC, aV, oNo, oPt, eIsO, oSrtI, oSrtT, oLt, oLe, oReprB, oInI, gN3, eCh, oGt, oGe, oI, oIC, oI1, oAdd, oMul, oEq, oIsN, oIx, oLen, oList, oTuple, oAbs, oMin2, oInt1, fLst, fListRg1, fList, fRep, fCat, tYs, tru, isS, dats, seqD, seqO, tyS, List.set, List.getElem?_cons_zero, List.getElem?_cons_succ, List.append_eq, List.nil_append, List.cons_append, Option.map_some, Option.bind_some, ng, wipeD, List.length_cons, List.length_nil, Nat.reduceAdd, Nat.reduceSub, List.replicate_succ, List.replicate_zero]; try simp only [decide_eq_true_eq, Bool.not_eq_true', decide_eq_false_iff_not, Bool.false_eq_true, if_false, if_true, reduceIte, String.reduceBEq, Bool.true_or, Bool.false_or, Bool.or_false, Bool.and_false, Bool.false_and, Bool.and_true, Bool.true_and, Bool.not_true, Bool.not_false, ne_eq, not_true_eq_false, reduceCtorEq, Bool.true_eq_false, decide_true, decide_false])
      try rw [if_neg (fun q => q rfl)]
      exact ⟨_, _, _, _, rfl⟩
    | 3, hx =>
      cases Option.some.inj hx
      have U := T.p213.p132
      have ex := (T.p213.e132.trans (T.e213.trans hm))
      unfold lk3X
      (try dsimp only [gN, gN2, sNil, sSeq, sExp, sRet, sIf, sPass, sCont, sBrk, sSet, sSetO, sApp, sAppF, sApPop, flatD, sFrz, sAug, sRaise, sAsg, sPut, eV, eC, e1, e2, t2, tBl, tTru, tN, tAn, tOo, tCh, eNot, eAn, eOo, eIf, eTup, eLst, eF, eFld, eIs, eIxO, eLenO, eSl, eRev, eB, eCall, eCallG, eMeth, aN, aC, aV, oNo, oPt, eIsO, oSrtI, oSrtT, oLt, oLe, oReprB, oInI, gN3, eCh, oGt, oGe, oI, oIC, oI1, oAdd, oMul, oEq, oIsN, oIx, oLen, oList, oTuple, oAbs, oMin2, oInt1, fLst, fListRg1, fList, fRep, fCat, tYs, tru, isS, dats, seqD, seqO, tyS, List.set, List.getElem?_cons_zero, List.getElem?_cons_succ, List.append_eq, List.nil_append, List.cons_append, Option.map_some, Option.bind_some, ng, wipeD, List.length_cons, List.length_nil, Nat.reduceAdd, Nat.reduceSub, List.replicate_succ, List.replicate_zero]; try simp only [decide_eq_true_eq, Bool.not_eq_true', decide_eq_false_iff_not, Bool.false_eq_true, if_false, if_true, reduceIte, String.reduceBEq, Bool.true_or, Bool.false_or, Bool.or_false, Bool.and_false, Bool.false_and, Bool.and_true, Bool.true_and, Bool.not_true, Bool.not_false, ne_eq, not_true_eq_false, reduceCtorEq, Bool.true_eq_false, decide_true, decide_false])
      simp only [at3_0, at3_1, at3_2]
      refine times_lk U.oa U.ob U.ab ?_
      refine times_lk (mul_ok U.oa U.ob) U.oc (go_mul U.ac U.bc) ?_
      rw [ex]
      refine ⟨trivial, _, pyR_lk m, sr_lk om, trivial, _, pyR_lk m, sr_lk om, ?_⟩
      (try dsimp only [gN, gN2, sNil, sSeq, sExp, sRet, sIf, sPass, sCont, sBrk, sSet, sSetO, sApp, sAppF, sApPop, flatD, sFrz, sAug, sRaise, sAsg, sPut, eV, eC, e1, e2, t2, tBl, tTru, tN, tAn, tOo, tCh, eNot, eAn, eOo, eIf, eTup, eLst, eF, eFld, eIs, eIxO, eLenO, eSl, eRev, eB, eCall, eCallG, eMeth, aN, aC, aV, oNo, oPt, eIsO, oSrtI, oSrtT, oLt, oLe, oReprB, oInI, gN3, eCh, oGt, oGe, oI, oIC, oI1, oAdd, oMul, oEq, oIsN, oIx, oLen, oList, oTuple, oAbs, oMin2, oInt1, fLst, fListRg1, fList, fRep, fCat, tYs, tru, isS, dats, seqD, seqO, tyS, List.set, List.getElem?_cons_zero, List.getElem?_cons_succ, List.append_eq, List.nil_append, List.cons_append, Option.map_some, Option.bind_some, ng, wipeD, List.length_cons, List.length_nil, Nat.reduceAdd, Nat.reduceSub, List.replicate_succ, List.replicate_zero]; try simp only [decide_eq_true_eq, Bool.not_eq_true', decide_eq_false_iff_not, Bool.false_eq_true, if_false, if_true, reduceIte, String.reduceBEq, Bool.true_or, Bool.false_or, Bool.or_false, Bool.and_false, Bool.false_and, Bool.and_true, Bool.true_and, Bool.not_true, Bool.not_false, ne_eq, not_true_eq_false, reduceCtorEq, Bool.true_eq_false, decide_true, decide_false])
      try rw [if_neg (fun q => q rfl)]
      refine times_lk U.ob U.oc U.bc ?_
      refine times_lk U.oa (mul_ok U.ob U.oc) (go_mul U.ab.symm U.ac.symm).symm ?_
      rw [← U.asc, ex]
      refine ⟨trivial, _, pyR_lk m, sr_lk om, trivial, _, pyR_lk m, sr_lk om, ?_⟩
      (try dsimp only [gN, gN2, sNil, sSeq, sExp, sRet, sIf, sPass, sCont, sBrk, sSet, sSetO, sApp, sAppF, sApPop, flatD, sFrz, sAug, sRaise, sAsg, sPut, eV, eC, e1, e2, t2, tBl, tTru, tN, tAn, tOo, tCh, eNot, eAn, eOo, eIf, eTup, eLst, eF, eFld, eIs, eIxO, eLenO, eSl, eRev, eB, eCall, eCallG, eMeth, aN, aC, aV, oNo, oPt, eIsO, oSrtI, oSrtT, oLt, oLe, oReprB, oInI, gN3, eCh, oGt, oGe, oI, oIC, oI1, oAdd, oMul, oEq, oIsN, oIx, oLen, oList, oTuple, oAbs, oMin2, oInt1, fLst, fListRg1, fList, fRep, fCat, tYs, tru, isS, dats, seqD, seqO, tyS, List.set, List.getElem?_cons_zero, List.getElem?_cons_succ, List.append_eq, List.nil_append, List.cons_append, Option.map_some, Option.bind_some, ng, wipeD, List.length_cons, List.length_nil, Nat.reduceAdd, Nat.reduceSub, List.replicate_succ, List.replicate_zero]; try simp only [decide_eq_true_eq, Bool.not_eq_true', decide_eq_false_iff_not, Bool.false_eq_true, if_false, if_true, reduceIte, String.reduceBEq, Bool.true_or, Bool.false_or, Bool.or_false, Bool.and_false, Bool.false_and, Bool.and_true, Bool.true_and, Bool.not_true, Bool.not_false, ne_eq, not_true_eq_false, reduceCtorEq, Bool.true_eq_false, decide_true, decide_false])
      try rw [if_neg (fun q => q rfl)]
      exact ⟨_, _, _, _, rfl⟩
    | 4, hx =>
      cases Option.some.inj hx
      have U := T.p132.p213
      have ex := (T.p132.e213.trans (T.e132.trans hm))
      unfold lk3X
      (try dsimp only [gN, gN2, sNil, sSeq, sExp, sRet, sIf, sPass, sCont, sBrk, sSet, sSetO, sApp, sAppF, sApPop, flatD, sFrz, sAug, sRaise, sAsg, sPut, eV, eC, e1, e2, t2, tBl, tTru, tN, tAn, tOo, tCh, eNot, eAn, eOo, eIf, eTup, eLst, eF, eFld, eIs, eIxO, eLenO, eSl, eRev, eB, eCall, eCallG, eMeth, aN, aC, aV, oNo, oPt, eIsO, oSrtI, oSrtT, oLt, oLe, oReprB, oInI, gN3, eCh, oGt, oGe, oI, oIC, oI1, oAdd, oMul, oEq, oIsN, oIx, oLen, oList, oTuple, oAbs, oMin2, oInt1, fLst, fListRg1, fList, fRep, fCat, tYs, tru, isS, dats, seqD, seqO, tyS, List.set, List.getElem?_cons_zero, List.getElem?_cons_succ, List.append_eq, List.nil_append, List.cons_append, Option.map_some, Option.bind_some, ng, wipeD, List.length_cons, List.length_nil, Nat.reduceAdd, Nat.reduceSub, List.replicate_succ, List.replicate_zero]; try simp only [decide_eq_true_eq, Bool.not_eq_true', decide_eq_false_iff_not, Bool.false_eq_true, if_false, if_true, reduceIte, String.reduceBEq, Bool.true_or, Bool.false_or, Bool.or_false, Bool.and_false, Bool.false_and, Bool.and_true, Bool.true_and, Bool.not_true, Bool.not_false, ne_eq, not_true_eq_false, reduceCtorEq, Bool.true_eq_false, decide_true, decide_false])
      simp only [at3_0, at3_1, at3_2]
      refine times_lk U.oa U.ob U.ab ?_
      refine times_lk (mul_ok U.oa U.ob) U.oc (go_mul U.ac U.bc) ?_
      rw [ex]
      refine ⟨trivial, _, pyR_lk m, sr_lk om, trivial, _, pyR_lk m, sr_lk om, ?_⟩
      (try dsimp only [gN, gN2, sNil, sSeq, sExp, sRet, sIf, sPass, sCont, sBrk, sSet, sSetO, sApp, sAppF, sApPop, flatD, sFrz, sAug, sRaise, sAsg, sPut, eV, eC, e1, e2, t2, tBl, tTru, tN, tAn, tOo, tCh, eNot, eAn, eOo, eIf, eTup, eLst, eF, eFld, eIs, eIxO, eLenO, eSl, eRev, eB, eCall, eCallG, eMeth, aN, aC, aV, oNo, oPt, eIsO, oSrtI, oSrtT, oLt, oLe, oReprB, oInI, gN3, eCh, oGt, oGe, oI, oIC, oI1, oAdd, oMul, oEq, oIsN, oIx, oLen, oList, oTuple, oAbs, oMin2, oInt1, fLst, fListRg1, fList, fRep, fCat, tYs, tru, isS, dats, seqD, seqO, tyS, List.set, List.getElem?_cons_zero, List.getElem?_cons_succ, List.append_eq, List.nil_append, List.cons_append, Option.map_some, Option.bind_some, ng, wipeD, List.length_cons, List.length_nil, Nat.reduceAdd, Nat.reduceSub, List.replicate_succ, List.replicate_zero]; try simp only [decide_eq_true_eq, Bool.not_eq_true', decide_eq_false_iff_not, Bool.false_eq_true, if_false, if_true, reduceIte, String.reduceBEq, Bool.true_or, Bool.false_or, Bool.or_false, Bool.and_false, Bool.false_and, Bool.and_true, Bool.true_and, Bool.not_true, Bool.not_false, ne_eq, not_true_eq_false, reduceCtorEq, Bool.true_eq_false, decide_true, decide_false])
      try rw [if_neg (fun q => q rfl)]
      refine times_lk U.ob U.oc U.bc ?_
      refine times_lk U.oa (mul_ok U.ob U.oc) (go_mul U.ab.symm U.ac.symm).symm ?_
      rw [← U.asc, ex]
      refine ⟨trivial, _, pyR_lk m, sr_lk om, trivial, _, pyR_lk m, sr_lk om, ?_⟩
      (try dsimp only [gN, gN2, sNil, sSeq, sExp, sRet, sIf, sPass, sCont, sBrk, sSet, sSetO, sApp, sAppF, sApPop, flatD, sFrz, sAug, sRaise, sAsg, sPut, eV, eC, e1, e2, t2, tBl, tTru, tN, tAn, tOo, tCh, eNot, eAn, eOo, eIf, eTup, eLst, eF, eFld, eIs, eIxO, eLenO, eSl, eRev, eB, eCall, eCallG, eMeth, aN, aC, aV, oNo, oPt, eIsO, oSrtI, oSrtT, oLt, oLe, oReprB, oInI, gN3, eCh, oGt, oGe, oI, oIC, oI1, oAdd, oMul, oEq, oIsN, oIx, oLen, oList, oTuple, oAbs, oMin2, oInt1, fLst, fListRg1, fList, fRep, fCat, tYs, tru, isS, dats, seqD, seqO, tyS, List.set, List.getElem?_cons_zero, List.getElem?_cons_succ, List.append_eq, List.nil_append, List.cons_append, Option.map_some, Option.bind_some, ng, wipeD, List.length_cons, List.length_nil, Nat.reduceAdd, Nat.reduceSub, List.replicate_succ, List.replicate_zero]; try simp only [decide_eq_true_eq, Bool.not_eq_true', decide_eq_false_iff_not, Bool.false_eq_true, if_false, if_true, reduceIte, String.reduceBEq, Bool.true_or, Bool.false_or, Bool.or_false, Bool.and_false, Bool.false_and, Bool.and_true, Bool.true_and, Bool.not_true, Bool.not_false, ne_eq, not_true_eq_false, reduceCtorEq, Bool.true_eq_false, decide_true, decide_false])
      try rw [if_neg (fun q => q rfl)]
      exact ⟨_, _, _, _, rfl⟩
    | 5, hx =>
      cases Option.some.inj hx
      have U := T.p213.p132.p213
      have ex := (T.p213.p132.e213.trans (T.p213.e132.trans (T.e213.trans hm)))
      unfold lk3X
      (try dsimp only [gN, gN2, sNil, sSeq, sExp, sRet, sIf, sPass, sCont, sBrk, sSet, sSetO, sApp, sAppF, sApPop, flatD, sFrz, sAug, sRaise, sAsg, sPut, eV, eC, e1, e2, t2, tBl, tTru, tN, tAn, tOo, tCh, eNot, eAn, eOo, eIf, eTup, eLst, eF, eFld, eIs, eIxO, eLenO, eSl, eRev, eB, eCall, eCallG, eMeth, aN, aC, aV, oNo, oPt, eIsO, oSrtI, oSrtT, oLt, oLe, oReprB, oInI, gN3, eCh, oGt, oGe, oI, oIC, oI1, oAdd, oMul, oEq, oIsN, oIx, oLen, oList, oTuple, oAbs, oMin2, oInt1, fLst, fListRg1, fList, fRep, fCat, tYs, tru, isS, dats, seqD, seqO, tyS, List.set, List.getElem?_cons_zero, List.getElem?_cons_succ, List.append_eq, List.nil_append, List.cons_append, Option.map_some, Option.bind_some, ng, wipeD, List.length_cons, List.length_nil, Nat.reduceAdd, Nat.reduceSub, List.replicate_succ, List.replicate_zero]; try simp only [decide_eq_true_eq, Bool.not_eq_true', decide_eq_false_iff_not, Bool.false_eq_true, if_false, if_true, reduceIte, String.reduceBEq, Bool.true_or, Bool.false_or, Bool.or_false, Bool.and_false, Bool.false_and, Bool.and_true, Bool.true_and, Bool.not_true, Bool.not_false, ne_eq, not_true_eq_false, reduceCtorEq, Bool.true_eq_false, decide_true, decide_false])
      simp only [at3_0, at3_1, at3_2]
      refine times_lk U.oa U.ob U.ab ?_
      refine times_lk (mul_ok U.oa U.ob) U.oc (go_mul U.ac U.bc) ?_
      rw [ex]
      refine ⟨trivial, _, pyR_lk m, sr_lk om, trivial, _, pyR_lk m, sr_lk om, ?_⟩
      (try dsimp only [gN, gN2, sNil, sSeq, sExp, sRet, sIf, sPass, sCont, sBrk, sSet, sSetO, sApp, sAppF, sApPop, flatD, sFrz, sAug, sRaise, sAsg, sPut, eV, eC, e1, e2, t2, tBl, tTru, tN, tAn, tOo, tCh, eNot, eAn, eOo, eIf, eTup, eLst, eF, eFld, eIs, eIxO, eLenO, eSl, eRev, eB, eCall, eCallG, eMeth, aN, aC, aV, oNo, oPt, eIsO, oSrtI, oSrtT, oLt, oLe, oReprB, oInI, gN3, eCh, oGt, oGe, oI, oIC, oI1, oAdd, oMul, oEq, oIsN, oIx, oLen, oList, oTuple, oAbs, oMin2, oInt1, fLst, fListRg1, fList, fRep, fCat, tYs, tru, isS, dats, seqD, seqO, tyS, List.set, List.getElem?_cons_zero, List.getElem?_cons_succ, List.append_eq, List.nil_append, List.cons_append, Option.map_some, Option.bind_some, ng, wipeD, List.length_cons, List.length_nil, Nat.reduceAdd, Nat.reduceSub, List.replicate_succ, List.replicate_zero]; try simp only [decide_eq_true_eq, Bool.not_eq_true', decide_eq_false_iff_not, Bool.false_eq_true, if_false, if_true, reduceIte, String.reduceBEq, Bool.true_or, Bool.false_or, Bool.or_false, Bool.and_false, Bool.false_and, Bool.and_true, Bool.true_and, Bool.not_true, Bool.not_false, ne_eq, not_true_eq_false, reduceCtorEq, Bool.true_eq_false, decide_true, decide_false])
      try rw [if_neg (fun q => q rfl)]
      refine times_lk U.ob U.oc U.bc ?_
      refine times_lk U.oa (mul_ok U.ob U.oc) (go_mul U.ab.symm U.ac.symm).symm ?_
      rw [← U.asc, ex]
      refine ⟨trivial, _, pyR_lk m, sr_lk om, trivial, _, pyR_lk m, sr_lk om, ?_⟩
      (try dsimp only [gN, gN2, sNil, sSeq, sExp, sRet, sIf, sPass, sCont, sBrk, sSet, sSetO, sApp, sAppF, sApPop, flatD, sFrz, sAug, sRaise, sAsg, sPut, eV, eC, e1, e2, t2, tBl, tTru, tN, tAn, tOo, tCh, eNot, eAn, eOo, eIf, eTup, eLst, eF, eFld, eIs, eIxO, eLenO, eSl, eRev, eB, eCall, eCallG, eMeth, aN, aC, aV, oNo, oPt, eIsO, oSrtI, oSrtT, oLt, oLe, oReprB, oInI, gN3, eCh, oGt, oGe, oI, oIC, oI1, oAdd, oMul, oEq, oIsN, oIx, oLen, oList, oTuple, oAbs, oMin2, oInt1, fLst, fListRg1, fList, fRep, fCat, tYs, tru, isS, dats, seqD, seqO, tyS, List.set, List.getElem?_cons_zero, List.getElem?_cons_succ, List.append_eq, List.nil_append, List.cons_append, Option.map_some, Option.bind_some, ng, wipeD, List.length_cons, List.length_nil, Nat.reduceAdd, Nat.reduceSub, List.replicate_succ, List.replicate_zero]; try simp only [decide_eq_true_eq, Bool.not_eq_true', decide_eq_false_iff_not, Bool.false_eq_true, if_false, if_true, reduceIte, String.reduceBEq, Bool.true_or, Bool.false_or, Bool.or_false, Bool.and_false, Bool.false_and, Bool.and_true, Bool.true_and, Bool.not_true, Bool.not_false, ne_eq, not_true_eq_false, reduceCtorEq, Bool.true_eq_false, decide_true, decide_false])
      try rw [if_neg (fun q => q rfl)]
      exact ⟨_, _, _, _, rfl⟩
    | j + 6, hx => cases hx
  · rintro ρ ⟨y1, y2, y3, y4, rfl⟩
    (try dsimp only [gN, gN2, sNil, sSeq, sExp, sRet, sIf, sPass, sCont, sBrk, sSet, sSetO, sApp, sAppF, sApPop, flatD, sFrz, sAug, sRaise, sAsg, sPut, eV, eC, e1, e2, t2, tBl, tTru, tN, tAn, tOo, tCh, eNot, eAn, eOo, eIf, eTup, eLst, eF, eFld, eIs, eIxO, eLenO, eSl, eRev, eB, eCall, eCallG, eMeth, aN, aC, aV, oNo, oPt, eIsO, oSrtI, oSrtT, oLt, oLe, oReprB, oInI, gN3, eCh, oGt, oGe, oI, oIC, oI1, oAdd, oMul, oEq, oIsN, oIx, oLen, oList, oTuple, oAbs, oMin2, oInt1, fLst, fListRg1, fList, fRep, fCat, tYs, tru, isS, dats, seqD, seqO, tyS, List.set, List.getElem?_cons_zero, List.getElem?_cons_succ, List.append_eq, List.nil_append, List.cons_append, Option.map_some, Option.bind_some, ng, wipeD, List.length_cons, List.length_nil, Nat.reduceAdd, Nat.reduceSub, List.replicate_succ, List.replicate_zero]; try simp only [decide_eq_true_eq, Bool.not_eq_true', decide_eq_false_iff_not, Bool.false_eq_true, if_false, if_true, reduceIte, String.reduceBEq, Bool.true_or, Bool.false_or, Bool.or_false, Bool.and_false, Bool.false_and, Bool.and_true, Bool.true_and, Bool.not_true, Bool.not_false, ne_eq, not_true_eq_false, reduceCtorEq, Bool.true_eq_false, decide_true, decide_false])
    exact q
end DL

set_option Elab.async false
set_option linter.all false
set_option maxRecDepth 100000
set_option maxHeartbeats 1000000
set_option exponentiation.threshold 2000
namespace DL
open PySem PySem.Spec PyProof.Rows L2 BT
/-! ### facts -/
theorem one_lk : (D.tup [.int 0, .tup [], .tup []]) = lkD one := rfl
theorem none_lk : (D.tup [.int 1, .tup [], .tup []]) = lkD (neg one) := rfl
theorem neg_lk {a : Lk} (h : a.s < 2) : (D.tup [.int (1 - (a.s : Int)), lotX (lotN a.f), lotX (lotN a.t)]) = lkD (neg a) := by
  unfold lkD lookX neg
  dsimp only
  rw [show (1 : Int) - (a.s : Int) = ((1 - a.s : Nat) : Int) by omega]
structure Fa (x y z m : Lk) : Prop where
  t : Tri x y z
  m : mulL (mulL x y) z = m
theorem Fa.xx {x y z m : Lk} (F : Fa x y z m) : mulL x (neg x) = neg one := by
  have g : Go x (neg x) := (go_neg (go_self x)).symm
  rw [mul_comm F.t.oa (neg_ok F.t.oa) g, mul_neg F.t.oa F.t.oa (go_self x), mul_self F.t.oa]
theorem Fa.xyy {x y z m : Lk} (F : Fa x y z m) : mulL (mulL x y) y = x := by
  rw [mul_assoc F.t.oa F.t.ob F.t.ob F.t.ab F.t.ab (go_self y), mul_self F.t.ob, mul_one F.t.oa]
theorem Fa.gr {x y z m : Lk} (F : Fa x y z m) : Go x (mulL y z) := (go_mul F.t.ab.symm F.t.ac.symm).symm
theorem Fa.xr {x y z m : Lk} (F : Fa x y z m) : mulL x (mulL y z) = m := by rw [← F.t.asc, F.m]
theorem Fa.nr {x y z m : Lk} (F : Fa x y z m) : mulL (neg x) (mulL y z) = neg m := by rw [mul_neg F.t.oa (mul_ok F.t.ob F.t.oc) F.gr, F.xr]
theorem Fa.gmr {x y z m : Lk} (F : Fa x y z m) : Go m (mulL y z) := by
  rw [← F.xr]
  exact go_mul F.gr (go_self _)
theorem Fa.mr {x y z m : Lk} (F : Fa x y z m) : mulL m (mulL y z) = x := by
  have ok := mul_ok F.t.ob F.t.oc
  rw [← F.xr, mul_assoc F.t.oa ok ok F.gr F.gr (go_self _), mul_self ok, mul_one F.t.oa]
theorem sem_law_facts_hold : ∀ as Qd Xd, d_law_facts_hold as Qd Xd → as.length = ["_law_looks", "_law_expected_here"].length ∧ r_law_facts_hold { nx := fun _ => Qd .non, rt := Qd } (as ++ List.replicate (["_law_looks", "_law_expected_here", "_law_k", "_law_look", "_law_other", "_law_negative", "_law_rest"].length - as.length) .un) (fun _ => Xd) := by
  rintro as Qd Xd ⟨a, b, c, rfl, T, q⟩
  refine ⟨rfl, ?_⟩
  have om := mul_ok (mul_ok T.oa T.ob) T.oc
  generalize hm : mulL (mulL a b) c = m at *
  unfold r_law_facts_hold
  (try dsimp only [gN, gN2, sNil, sSeq, sExp, sRet, sIf, sPass, sCont, sBrk, sSet, sSetO, sApp, sAppF, sApPop, flatD, sFrz, sAug, sRaise, sAsg, sPut, eV, eC, e1, e2, t2, tBl, tTru, tN, tAn, tOo, tCh, eNot, eAn, eOo, eIf, eTup, eLst, eF, eFld, eIs, eIxO, eLenO, eSl, eRev, eB, eCall, eCallG, eMeth, aN, aC, aV, oNo, oPt, eIsO, oSrtI, oSrtT, oLt, oLe, oReprB, oInI, gN3, eCh, oGt, oGe, oI, oIC, oI1, oAdd, oMul, oEq, oIsN, oIx, oLen, oList, oTuple, oAbs, oMin2, oInt1, fLst, fListRg1, fList, fRep, fCat, tYs, tru, isS, dats, seqD, seqO, tyS, List.set, List.getElem?_cons_zero, List.getElem?_cons_succ, List.append_eq, List.nil_append, List.cons_append, Option.map_some, Option.bind_some, ng, wipeD, List.length_cons, List.length_nil, Nat.reduceAdd, Nat.reduceSub, List.replicate_succ, List.replicate_zero, sFor, iRg1, iRg2, iSq, iEn, fLc]; try simp only [decide_eq_true_eq, Bool.not_eq_true', decide_eq_false_iff_not, Bool.false_eq_true, if_false, if_true, reduceIte, String.reduceBEq, Bool.true_or, Bool.false_or, Bool.or_false, Bool.and_false, Bool.false_and, Bool.and_true, Bool.true_and, Bool.not_true, Bool.not_false, ne_eq, not_true_eq_false, reduceCtorEq, Bool.true_eq_false, decide_true, decide_false])
  refine ⟨by decide, by decide, fun j ρ => ∃ y1 y2 y3 y4 y5, ρ = [.dat (lk3X a b c), .dat (lkD m), y1, y2, y3, y4, y5], ⟨_, _, _, _, _, rfl⟩, ?_, ?_⟩
  · rintro j x ρ hx ⟨y1, y2, y3, y4, y5, rfl⟩
    obtain ⟨hj, rfl⟩ := rgD_get hx
    have hj : j < 3 := hj
    match j, hj with
    | 0, _ =>
      have F : Fa a b c m := ⟨T, hm⟩
      have U := F.t
      unfold lk3X
      (try dsimp only [gN, gN2, sNil, sSeq, sExp, sRet, sIf, sPass, sCont, sBrk, sSet, sSetO, sApp, sAppF, sApPop, flatD, sFrz, sAug, sRaise, sAsg, sPut, eV, eC, e1, e2, t2, tBl, tTru, tN, tAn, tOo, tCh, eNot, eAn, eOo, eIf, eTup, eLst, eF, eFld, eIs, eIxO, eLenO, eSl, eRev, eB, eCall, eCallG, eMeth, aN, aC, aV, oNo, oPt, eIsO, oSrtI, oSrtT, oLt, oLe, oReprB, oInI, gN3, eCh, oGt, oGe, oI, oIC, oI1, oAdd, oMul, oEq, oIsN, oIx, oLen, oList, oTuple, oAbs, oMin2, oInt1, fLst, fListRg1, fList, fRep, fCat, tYs, tru, isS, dats, seqD, seqO, tyS, List.set, List.getElem?_cons_zero, List.getElem?_cons_succ, List.append_eq, List.nil_append, List.cons_append, Option.map_some, Option.bind_some, ng, wipeD, List.length_cons, List.length_nil, Nat.reduceAdd, Nat.reduceSub, List.replicate_succ, List.replicate_zero]; try simp only [decide_eq_true_eq, Bool.not_eq_true', decide_eq_false_iff_not, Bool.false_eq_true, if_false, if_true, reduceIte, String.reduceBEq, Bool.true_or, Bool.false_or, Bool.or_false, Bool.and_false, Bool.false_and, Bool.and_true, Bool.true_and, Bool.not_true, Bool.not_false, ne_eq, not_true_eq_false, reduceCtorEq, Bool.true_eq_false, decide_true, decide_false])
      rw [show atI [lkD a, lkD b, lkD c] ((0 : Int) + ((0 : Nat) : Int)) = some (lkD a) from rfl]
      dsimp only
      rw [show atI [lkD a, lkD b, lkD c] (((0 : Int) + ((0 : Nat) : Int) + 1) % 3) = some (lkD b) from rfl]
      dsimp only
      refine ⟨by decide, ?_⟩
      rw [lk_look a]
      dsimp only
      rw [at3_0, at3_1, at3_2]
      dsimp only
      rw [neg_lk U.oa.s, ← lk_look a, one_lk, none_lk]
      refine times_lk U.oa U.oa (go_self _) ?_
      rw [mul_self U.oa]
      refine ⟨trivial, _, pyR_lk one, sr_lk one_ok, trivial, _, pyR_lk one, sr_lk one_ok, ?_⟩
      (try dsimp only [gN, gN2, sNil, sSeq, sExp, sRet, sIf, sPass, sCont, sBrk, sSet, sSetO, sApp, sAppF, sApPop, flatD, sFrz, sAug, sRaise, sAsg, sPut, eV, eC, e1, e2, t2, tBl, tTru, tN, tAn, tOo, tCh, eNot, eAn, eOo, eIf, eTup, eLst, eF, eFld, eIs, eIxO, eLenO, eSl, eRev, eB, eCall, eCallG, eMeth, aN, aC, aV, oNo, oPt, eIsO, oSrtI, oSrtT, oLt, oLe, oReprB, oInI, gN3, eCh, oGt, oGe, oI, oIC, oI1, oAdd, oMul, oEq, oIsN, oIx, oLen, oList, oTuple, oAbs, oMin2, oInt1, fLst, fListRg1, fList, fRep, fCat, tYs, tru, isS, dats, seqD, seqO, tyS, List.set, List.getElem?_cons_zero, List.getElem?_cons_succ, List.append_eq, List.nil_append, List.cons_append, Option.map_some, Option.bind_some, ng, wipeD, List.length_cons, List.length_nil, Nat.reduceAdd, Nat.reduceSub, List.replicate_succ, List.replicate_zero]; try simp only [decide_eq_true_eq, Bool.not_eq_true', decide_eq_false_iff_not, Bool.false_eq_true, if_false, if_true, reduceIte, String.reduceBEq, Bool.true_or, Bool.false_or, Bool.or_false, Bool.and_false, Bool.false_and, Bool.and_true, Bool.true_and, Bool.not_true, Bool.not_false, ne_eq, not_true_eq_false, reduceCtorEq, Bool.true_eq_false, decide_true, decide_false])
      try rw [if_neg (fun q => q rfl)]
      refine times_lk U.oa (neg_ok U.oa) (go_neg (go_self _)).symm ?_
      rw [F.xx]
      refine ⟨trivial, _, pyR_lk (neg one), sr_lk (neg_ok one_ok), trivial, _, pyR_lk (neg one), sr_lk (neg_ok one_ok), ?_⟩
      (try dsimp only [gN, gN2, sNil, sSeq, sExp, sRet, sIf, sPass, sCont, sBrk, sSet, sSetO, sApp, sAppF, sApPop, flatD, sFrz, sAug, sRaise, sAsg, sPut, eV, eC, e1, e2, t2, tBl, tTru, tN, tAn, tOo, tCh, eNot, eAn, eOo, eIf, eTup, eLst, eF, eFld, eIs, eIxO, eLenO, eSl, eRev, eB, eCall, eCallG, eMeth, aN, aC, aV, oNo, oPt, eIsO, oSrtI, oSrtT, oLt, oLe, oReprB, oInI, gN3, eCh, oGt, oGe, oI, oIC, oI1, oAdd, oMul, oEq, oIsN, oIx, oLen, oList, oTuple, oAbs, oMin2, oInt1, fLst, fListRg1, fList, fRep, fCat, tYs, tru, isS, dats, seqD, seqO, tyS, List.set, List.getElem?_cons_zero, List.getElem?_cons_succ, List.append_eq, List.nil_append, List.cons_append, Option.map_some, Option.bind_some, ng, wipeD, List.length_cons, List.length_nil, Nat.reduceAdd, Nat.reduceSub, List.replicate_succ, List.replicate_zero]; try simp only [decide_eq_true_eq, Bool.not_eq_true', decide_eq_false_iff_not, Bool.false_eq_true, if_false, if_true, reduceIte, String.reduceBEq, Bool.true_or, Bool.false_or, Bool.or_false, Bool.and_false, Bool.false_and, Bool.and_true, Bool.true_and, Bool.not_true, Bool.not_false, ne_eq, not_true_eq_false, reduceCtorEq, Bool.true_eq_false, decide_true, decide_false])
      try rw [if_neg (fun q => q rfl)]
      refine times_lk U.oa U.ob U.ab ?_
      refine times_lk (mul_ok U.oa U.ob) U.ob (go_mul U.ab (go_self _)) ?_
      rw [F.xyy]
      refine ⟨trivial, _, pyR_lk a, sr_lk U.oa, trivial, _, pyR_lk a, sr_lk U.oa, ?_⟩
      (try dsimp only [gN, gN2, sNil, sSeq, sExp, sRet, sIf, sPass, sCont, sBrk, sSet, sSetO, sApp, sAppF, sApPop, flatD, sFrz, sAug, sRaise, sAsg, sPut, eV, eC, e1, e2, t2, tBl, tTru, tN, tAn, tOo, tCh, eNot, eAn, eOo, eIf, eTup, eLst, eF, eFld, eIs, eIxO, eLenO, eSl, eRev, eB, eCall, eCallG, eMeth, aN, aC, aV, oNo, oPt, eIsO, oSrtI, oSrtT, oLt, oLe, oReprB, oInI, gN3, eCh, oGt, oGe, oI, oIC, oI1, oAdd, oMul, oEq, oIsN, oIx, oLen, oList, oTuple, oAbs, oMin2, oInt1, fLst, fListRg1, fList, fRep, fCat, tYs, tru, isS, dats, seqD, seqO, tyS, List.set, List.getElem?_cons_zero, List.getElem?_cons_succ, List.append_eq, List.nil_append, List.cons_append, Option.map_some, Option.bind_some, ng, wipeD, List.length_cons, List.length_nil, Nat.reduceAdd, Nat.reduceSub, List.replicate_succ, List.replicate_zero]; try simp only [decide_eq_true_eq, Bool.not_eq_true', decide_eq_false_iff_not, Bool.false_eq_true, if_false, if_true, reduceIte, String.reduceBEq, Bool.true_or, Bool.false_or, Bool.or_false, Bool.and_false, Bool.false_and, Bool.and_true, Bool.true_and, Bool.not_true, Bool.not_false, ne_eq, not_true_eq_false, reduceCtorEq, Bool.true_eq_false, decide_true, decide_false])
      try rw [if_neg (fun q => q rfl)]
      refine ⟨by decide, ?_⟩
      rw [show atI [lkD a, lkD b, lkD c] (((0 : Int) + ((0 : Nat) : Int) + 2) % 3) = some (lkD c) from rfl]
      dsimp only
      refine times_lk U.ob U.oc U.bc ?_
      refine times_lk (neg_ok U.oa) (mul_ok U.ob U.oc) (go_neg F.gr) ?_
      rw [F.nr]
      refine ⟨trivial, _, pyR_lk (neg m), sr_lk (neg_ok om), ?_⟩
      rw [lk_look m]
      dsimp only
      rw [at3_0, at3_1, at3_2]
      dsimp only
      rw [neg_lk om.s, ← lk_look m]
      refine ⟨trivial, _, pyR_lk (neg m), sr_lk (neg_ok om), ?_⟩
      (try dsimp only [gN, gN2, sNil, sSeq, sExp, sRet, sIf, sPass, sCont, sBrk, sSet, sSetO, sApp, sAppF, sApPop, flatD, sFrz, sAug, sRaise, sAsg, sPut, eV, eC, e1, e2, t2, tBl, tTru, tN, tAn, tOo, tCh, eNot, eAn, eOo, eIf, eTup, eLst, eF, eFld, eIs, eIxO, eLenO, eSl, eRev, eB, eCall, eCallG, eMeth, aN, aC, aV, oNo, oPt, eIsO, oSrtI, oSrtT, oLt, oLe, oReprB, oInI, gN3, eCh, oGt, oGe, oI, oIC, oI1, oAdd, oMul, oEq, oIsN, oIx, oLen, oList, oTuple, oAbs, oMin2, oInt1, fLst, fListRg1, fList, fRep, fCat, tYs, tru, isS, dats, seqD, seqO, tyS, List.set, List.getElem?_cons_zero, List.getElem?_cons_succ, List.append_eq, List.nil_append, List.cons_append, Option.map_some, Option.bind_some, ng, wipeD, List.length_cons, List.length_nil, Nat.reduceAdd, Nat.reduceSub, List.replicate_succ, List.replicate_zero]; try simp only [decide_eq_true_eq, Bool.not_eq_true', decide_eq_false_iff_not, Bool.false_eq_true, if_false, if_true, reduceIte, String.reduceBEq, Bool.true_or, Bool.false_or, Bool.or_false, Bool.and_false, Bool.false_and, Bool.and_true, Bool.true_and, Bool.not_true, Bool.not_false, ne_eq, not_true_eq_false, reduceCtorEq, Bool.true_eq_false, decide_true, decide_false])
      first | rw [decide_eq_true rfl, Bool.not_true, if_neg (by decide)] | rw [if_neg (fun q => q rfl)]
      refine times_lk U.oa one_ok (go_one _) ?_
      rw [mul_one U.oa]
      refine ⟨trivial, _, pyR_lk a, sr_lk U.oa, trivial, _, pyR_lk a, sr_lk U.oa, ?_⟩
      (try dsimp only [gN, gN2, sNil, sSeq, sExp, sRet, sIf, sPass, sCont, sBrk, sSet, sSetO, sApp, sAppF, sApPop, flatD, sFrz, sAug, sRaise, sAsg, sPut, eV, eC, e1, e2, t2, tBl, tTru, tN, tAn, tOo, tCh, eNot, eAn, eOo, eIf, eTup, eLst, eF, eFld, eIs, eIxO, eLenO, eSl, eRev, eB, eCall, eCallG, eMeth, aN, aC, aV, oNo, oPt, eIsO, oSrtI, oSrtT, oLt, oLe, oReprB, oInI, gN3, eCh, oGt, oGe, oI, oIC, oI1, oAdd, oMul, oEq, oIsN, oIx, oLen, oList, oTuple, oAbs, oMin2, oInt1, fLst, fListRg1, fList, fRep, fCat, tYs, tru, isS, dats, seqD, seqO, tyS, List.set, List.getElem?_cons_zero, List.getElem?_cons_succ, List.append_eq, List.nil_append, List.cons_append, Option.map_some, Option.bind_some, ng, wipeD, List.length_cons, List.length_nil, Nat.reduceAdd, Nat.reduceSub, List.replicate_succ, List.replicate_zero]; try simp only [decide_eq_true_eq, Bool.not_eq_true', decide_eq_false_iff_not, Bool.false_eq_true, if_false, if_true, reduceIte, String.reduceBEq, Bool.true_or, Bool.false_or, Bool.or_false, Bool.and_false, Bool.false_and, Bool.and_true, Bool.true_and, Bool.not_true, Bool.not_false, ne_eq, not_true_eq_false, reduceCtorEq, Bool.true_eq_false, decide_true, decide_false])
      try rw [if_neg (fun q => q rfl)]
      refine times_lk om (mul_ok U.ob U.oc) F.gmr ?_
      rw [F.mr]
      refine ⟨trivial, _, pyR_lk a, sr_lk U.oa, trivial, _, pyR_lk a, sr_lk U.oa, ?_⟩
      (try dsimp only [gN, gN2, sNil, sSeq, sExp, sRet, sIf, sPass, sCont, sBrk, sSet, sSetO, sApp, sAppF, sApPop, flatD, sFrz, sAug, sRaise, sAsg, sPut, eV, eC, e1, e2, t2, tBl, tTru, tN, tAn, tOo, tCh, eNot, eAn, eOo, eIf, eTup, eLst, eF, eFld, eIs, eIxO, eLenO, eSl, eRev, eB, eCall, eCallG, eMeth, aN, aC, aV, oNo, oPt, eIsO, oSrtI, oSrtT, oLt, oLe, oReprB, oInI, gN3, eCh, oGt, oGe, oI, oIC, oI1, oAdd, oMul, oEq, oIsN, oIx, oLen, oList, oTuple, oAbs, oMin2, oInt1, fLst, fListRg1, fList, fRep, fCat, tYs, tru, isS, dats, seqD, seqO, tyS, List.set, List.getElem?_cons_zero, List.getElem?_cons_succ, List.append_eq, List.nil_append, List.cons_append, Option.map_some, Option.bind_some, ng, wipeD, List.length_cons, List.length_nil, Nat.reduceAdd, Nat.reduceSub, List.replicate_succ, List.replicate_zero]; try simp only [decide_eq_true_eq, Bool.not_eq_true', decide_eq_false_iff_not, Bool.false_eq_true, if_false, if_true, reduceIte, String.reduceBEq, Bool.true_or, Bool.false_or, Bool.or_false, Bool.and_false, Bool.false_and, Bool.and_true, Bool.true_and, Bool.not_true, Bool.not_false, ne_eq, not_true_eq_false, reduceCtorEq, Bool.true_eq_false, decide_true, decide_false])
      try rw [if_neg (fun q => q rfl)]
      exact ⟨_, _, _, _, _, rfl⟩
    | 1, _ =>
      have F : Fa b c a m := ⟨T.p213.p132, T.p213.e132.trans (T.e213.trans hm)⟩
      have U := F.t
      unfold lk3X
      (try dsimp only [gN, gN2, sNil, sSeq, sExp, sRet, sIf, sPass, sCont, sBrk, sSet, sSetO, sApp, sAppF, sApPop, flatD, sFrz, sAug, sRaise, sAsg, sPut, eV, eC, e1, e2, t2, tBl, tTru, tN, tAn, tOo, tCh, eNot, eAn, eOo, eIf, eTup, eLst, eF, eFld, eIs, eIxO, eLenO, eSl, eRev, eB, eCall, eCallG, eMeth, aN, aC, aV, oNo, oPt, eIsO, oSrtI, oSrtT, oLt, oLe, oReprB, oInI, gN3, eCh, oGt, oGe, oI, oIC, oI1, oAdd, oMul, oEq, oIsN, oIx, oLen, oList, oTuple, oAbs, oMin2, oInt1, fLst, fListRg1, fList, fRep, fCat, tYs, tru, isS, dats, seqD, seqO, tyS, List.set, List.getElem?_cons_zero, List.getElem?_cons_succ, List.append_eq, List.nil_append, List.cons_append, Option.map_some, Option.bind_some, ng, wipeD, List.length_cons, List.length_nil, Nat.reduceAdd, Nat.reduceSub, List.replicate_succ, List.replicate_zero]; try simp only [decide_eq_true_eq, Bool.not_eq_true', decide_eq_false_iff_not, Bool.false_eq_true, if_false, if_true, reduceIte, String.reduceBEq, Bool.true_or, Bool.false_or, Bool.or_false, Bool.and_false, Bool.false_and, Bool.and_true, Bool.true_and, Bool.not_true, Bool.not_false, ne_eq, not_true_eq_false, reduceCtorEq, Bool.true_eq_false, decide_true, decide_false])
      rw [show atI [lkD a, lkD b, lkD c] ((0 : Int) + ((1 : Nat) : Int)) = some (lkD b) from rfl]
      dsimp only
      rw [show atI [lkD a, lkD b, lkD c] (((0 : Int) + ((1 : Nat) : Int) + 1) % 3) = some (lkD c) from rfl]
      dsimp only
      refine ⟨by decide, ?_⟩
      rw [lk_look b]
      dsimp only
      rw [at3_0, at3_1, at3_2]
      dsimp only
      rw [neg_lk U.oa.s, ← lk_look b, one_lk, none_lk]
      refine times_lk U.oa U.oa (go_self _) ?_
      rw [mul_self U.oa]
      refine ⟨trivial, _, pyR_lk one, sr_lk one_ok, trivial, _, pyR_lk one, sr_lk one_ok, ?_⟩
      (try dsimp only [gN, gN2, sNil, sSeq, sExp, sRet, sIf, sPass, sCont, sBrk, sSet, sSetO, sApp, sAppF, sApPop, flatD, sFrz, sAug, sRaise, sAsg, sPut, eV, eC, e1, e2, t2, tBl, tTru, tN, tAn, tOo, tCh, eNot, eAn, eOo, eIf, eTup, eLst, eF, eFld, eIs, eIxO, eLenO, eSl, eRev, eB, eCall, eCallG, eMeth, aN, aC, aV, oNo, oPt, eIsO, oSrtI, oSrtT, oLt, oLe, oReprB, oInI, gN3, eCh, oGt, oGe, oI, oIC, oI1, oAdd, oMul, oEq, oIsN, oIx, oLen, oList, oTuple, oAbs, oMin2, oInt1, fLst, fListRg1, fList, fRep, fCat, tYs, tru, isS, dats, seqD, seqO, tyS, List.set, List.getElem?_cons_zero, List.getElem?_cons_succ, List.append_eq, List.nil_append, List.cons_append, Option.map_some, Option.bind_some, ng, wipeD, List.length_cons, List.length_nil, Nat.reduceAdd, Nat.reduceSub, List.replicate_succ, List.replicate_zero]; try simp only [decide_eq_true_eq, Bool.not_eq_true', decide_eq_false_iff_not, Bool.false_eq_true, if_false, if_true, reduceIte, String.reduceBEq, Bool.true_or, Bool.false_or, Bool.or_false, Bool.and_false, Bool.false_and, Bool.and_true, Bool.true_and, Bool.not_true, Bool.not_false, ne_eq, not_true_eq_false, reduceCtorEq, Bool.true_eq_false, decide_true, decide_false])
      try rw [if_neg (fun q => q rfl)]
      refine times_lk U.oa (neg_ok U.oa) (go_neg (go_self _)).symm ?_
      rw [F.xx]
      refine ⟨trivial, _, pyR_lk (neg one), sr_lk (neg_ok one_ok), trivial, _, pyR_lk (neg one), sr_lk (neg_ok one_ok), ?_⟩
      (try dsimp only [gN, gN2, sNil, sSeq, sExp, sRet, sIf, sPass, sCont, sBrk, sSet, sSetO, sApp, sAppF, sApPop, flatD, sFrz, sAug, sRaise, sAsg, sPut, eV, eC, e1, e2, t2, tBl, tTru, tN, tAn, tOo, tCh, eNot, eAn, eOo, eIf, eTup, eLst, eF, eFld, eIs, eIxO, eLenO, eSl, eRev, eB, eCall, eCallG, eMeth, aN, aC, aV, oNo, oPt, eIsO, oSrtI, oSrtT, oLt, oLe, oReprB, oInI, gN3, eCh, oGt, oGe, oI, oIC, oI1, oAdd, oMul, oEq, oIsN, oIx, oLen, oList, oTuple, oAbs, oMin2, oInt1, fLst, fListRg1, fList, fRep, fCat, tYs, tru, isS, dats, seqD, seqO, tyS, List.set, List.getElem?_cons_zero, List.getElem?_cons_succ, List.append_eq, List.nil_append, List.cons_append, Option.map_some, Option.bind_some, ng, wipeD, List.length_cons, List.length_nil, Nat.reduceAdd, Nat.reduceSub, List.replicate_succ, List.replicate_zero]; try simp only [decide_eq_true_eq, Bool.not_eq_true', decide_eq_false_iff_not, Bool.false_eq_true, if_false, if_true, reduceIte, String.reduceBEq, Bool.true_or, Bool.false_or, Bool.or_false, Bool.and_false, Bool.false_and, Bool.and_true, Bool.true_and, Bool.not_true, Bool.not_false, ne_eq, not_true_eq_false, reduceCtorEq, Bool.true_eq_false, decide_true, decide_false])
      try rw [if_neg (fun q => q rfl)]
      refine times_lk U.oa U.ob U.ab ?_
      refine times_lk (mul_ok U.oa U.ob) U.ob (go_mul U.ab (go_self _)) ?_
      rw [F.xyy]
      refine ⟨trivial, _, pyR_lk b, sr_lk U.oa, trivial, _, pyR_lk b, sr_lk U.oa, ?_⟩
      (try dsimp only [gN, gN2, sNil, sSeq, sExp, sRet, sIf, sPass, sCont, sBrk, sSet, sSetO, sApp, sAppF, sApPop, flatD, sFrz, sAug, sRaise, sAsg, sPut, eV, eC, e1, e2, t2, tBl, tTru, tN, tAn, tOo, tCh, eNot, eAn, eOo, eIf, eTup, eLst, eF, eFld, eIs, eIxO, eLenO, eSl, eRev, eB, eCall, eCallG, eMeth, aN, aC, aV, oNo, oPt, eIsO, oSrtI, oSrtT, oLt, oLe, oReprB, oInI, gN3, eCh, oGt, oGe, oI, oIC, oI1, oAdd, oMul, oEq, oIsN, oIx, oLen, oList, oTuple, oAbs, oMin2, oInt1, fLst, fListRg1, fList, fRep, fCat, tYs, tru, isS, dats, seqD, seqO, tyS, List.set, List.getElem?_cons_zero, List.getElem?_cons_succ, List.append_eq, List.nil_append, List.cons_append, Option.map_some, Option.bind_some, ng, wipeD, List.length_cons, List.length_nil, Nat.reduceAdd, Nat.reduceSub, List.replicate_succ, List.replicate_zero]; try simp only [decide_eq_true_eq, Bool.not_eq_true', decide_eq_false_iff_not, Bool.false_eq_true, if_false, if_true, reduceIte, String.reduceBEq, Bool.true_or, Bool.false_or, Bool.or_false, Bool.and_false, Bool.false_and, Bool.and_true, Bool.true_and, Bool.not_true, Bool.not_false, ne_eq, not_true_eq_false, reduceCtorEq, Bool.true_eq_false, decide_true, decide_false])
      try rw [if_neg (fun q => q rfl)]
      refine ⟨by decide, ?_⟩
      rw [show atI [lkD a, lkD b, lkD c] (((0 : Int) + ((1 : Nat) : Int) + 2) % 3) = some (lkD a) from rfl]
      dsimp only
      refine times_lk U.ob U.oc U.bc ?_
      refine times_lk (neg_ok U.oa) (mul_ok U.ob U.oc) (go_neg F.gr) ?_
      rw [F.nr]
      refine ⟨trivial, _, pyR_lk (neg m), sr_lk (neg_ok om), ?_⟩
      rw [lk_look m]
      dsimp only
      rw [at3_0, at3_1, at3_2]
      dsimp only
      rw [neg_lk om.s, ← lk_look m]
      refine ⟨trivial, _, pyR_lk (neg m), sr_lk (neg_ok om), ?_⟩
      (try dsimp only [gN, gN2, sNil, sSeq, sExp, sRet, sIf, sPass, sCont, sBrk, sSet, sSetO, sApp, sAppF, sApPop, flatD, sFrz, sAug, sRaise, sAsg, sPut, eV, eC, e1, e2, t2, tBl, tTru, tN, tAn, tOo, tCh, eNot, eAn, eOo, eIf, eTup, eLst, eF, eFld, eIs, eIxO, eLenO, eSl, eRev, eB, eCall, eCallG, eMeth, aN, aC, aV, oNo, oPt, eIsO, oSrtI, oSrtT, oLt, oLe, oReprB, oInI, gN3, eCh, oGt, oGe, oI, oIC, oI1, oAdd, oMul, oEq, oIsN, oIx, oLen, oList, oTuple, oAbs, oMin2, oInt1, fLst, fListRg1, fList, fRep, fCat, tYs, tru, isS, dats, seqD, seqO, tyS, List.set, List.getElem?_cons_zero, List.getElem?_cons_succ, List.append_eq, List.nil_append, List.cons_append, Option.map_some, Option.bind_some, ng, wipeD, List.length_cons, List.length_nil, Nat.reduceAdd, Nat.reduceSub, List.replicate_succ, List.replicate_zero]; try simp only [decide_eq_true_eq, Bool.not_eq_true', decide_eq_false_iff_not, Bool.false_eq_true, if_false, if_true, reduceIte, String.reduceBEq, Bool.true_or, Bool.false_or, Bool.or_false, Bool.and_false, Bool.false_and, Bool.and_true, Bool.true_and, Bool.not_true, Bool.not_false, ne_eq, not_true_eq_false, reduceCtorEq, Bool.true_eq_false, decide_true, decide_false])
      first | rw [decide_eq_true rfl, Bool.not_true, if_neg (by decide)] | rw [if_neg (fun q => q rfl)]
      refine times_lk U.oa one_ok (go_one _) ?_
      rw [mul_one U.oa]
      refine ⟨trivial, _, pyR_lk b, sr_lk U.oa, trivial, _, pyR_lk b, sr_lk U.oa, ?_⟩
      (try dsimp only [gN, gN2, sNil, sSeq, sExp, sRet, sIf, sPass, sCont, sBrk, sSet, sSetO, sApp, sAppF, sApPop, flatD, sFrz, sAug, sRaise, sAsg, sPut, eV, eC, e1, e2, t2, tBl, tTru, tN, tAn, tOo, tCh, eNot, eAn, eOo, eIf, eTup, eLst, eF, eFld, eIs, eIxO, eLenO, eSl, eRev, eB, eCall, eCallG, eMeth, aN, aC, aV, oNo, oPt, eIsO, oSrtI, oSrtT, oLt, oLe, oReprB, oInI, gN3, eCh, oGt, oGe, oI, oIC, oI1, oAdd, oMul, oEq, oIsN, oIx, oLen, oList, oTuple, oAbs, oMin2, oInt1, fLst, fListRg1, fList, fRep, fCat, tYs, tru, isS, dats, seqD, seqO, tyS, List.set, List.getElem?_cons_zero, List.getElem?_cons_succ, List.append_eq, List.nil_append, List.cons_append, Option.map_some, Option.bind_some, ng, wipeD, List.length_cons, List.length_nil, Nat.reduceAdd, Nat.reduceSub, List.replicate_succ, List.replicate_zero]; try simp only [decide_eq_true_eq, Bool.not_eq_true', decide_eq_false_iff_not, Bool.false_eq_true, if_false, if_true, reduceIte, String.reduceBEq, Bool.true_or, Bool.false_or, Bool.or_false, Bool.and_false, Bool.false_and, Bool.and_true, Bool.true_and, Bool.not_true, Bool.not_false, ne_eq, not_true_eq_false, reduceCtorEq, Bool.true_eq_false, decide_true, decide_false])
      try rw [if_neg (fun q => q rfl)]
      refine times_lk om (mul_ok U.ob U.oc) F.gmr ?_
      rw [F.mr]
      refine ⟨trivial, _, pyR_lk b, sr_lk U.oa, trivial, _, pyR_lk b, sr_lk U.oa, ?_⟩
      (try dsimp only [gN, gN2, sNil, sSeq, sExp, sRet, sIf, sPass, sCont, sBrk, sSet, sSetO, sApp, sAppF, sApPop, flatD, sFrz, sAug, sRaise, sAsg, sPut, eV, eC, e1, e2, t2, tBl, tTru, tN, tAn, tOo, tCh, eNot, eAn, eOo, eIf, eTup, eLst, eF, eFld, eIs, eIxO, eLenO, eSl, eRev, eB, eCall, eCallG, eMeth, aN, aC, aV, oNo, oPt, eIsO, oSrtI, oSrtT, oLt, oLe, oReprB, oInI, gN3, eCh, oGt, oGe, oI, oIC, oI1, oAdd, oMul, oEq, oIsN, oIx, oLen, oList, oTuple, oAbs, oMin2, oInt1, fLst, fListRg1, fList, fRep, fCat, tYs, tru, isS, dats, seqD, seqO, tyS, List.set, List.getElem?_cons_zero, List.getElem?_cons_succ, List.append_eq, List.nil_append, List.cons_append, Option.map_some, Option.bind_some, ng, wipeD, List.length_cons, List.length_nil, Nat.reduceAdd, Nat.reduceSub, List.replicate_succ, List.replicate_zero]; try simp only [decide_eq_true_eq, Bool.not_eq_true', decide_eq_false_iff_not, Bool.false_eq_true, if_false, if_true, reduceIte, String.reduceBEq, Bool.true_or, Bool.false_or, Bool.or_false, Bool.and_false, Bool.false_and, Bool.and_true, Bool.true_and, Bool.not_true, Bool.not_false, ne_eq, not_true_eq_false, reduceCtorEq, Bool.true_eq_false, decide_true, decide_false])
      try rw [if_neg (fun q => q rfl)]
      exact ⟨_, _, _, _, _, rfl⟩
    | 2, _ =>
      have F : Fa c a b m := ⟨T.p132.p213, T.p132.e213.trans (T.e132.trans hm)⟩
      have U := F.t
      unfold lk3X
      (try dsimp only [gN, gN2, sNil, sSeq, sExp, sRet, sIf, sPass, sCont, sBrk, sSet, sSetO, sApp, sAppF, sApPop, flatD, sFrz, sAug, sRaise, sAsg, sPut, eV, eC, e1, e2, t2, tBl, tTru, tN, tAn, tOo, tCh, eNot, eAn, eOo, eIf, eTup, eLst, eF, eFld, eIs, eIxO, eLenO, eSl, eRev, eB, eCall, eCallG, eMeth, aN, aC, aV, oNo, oPt, eIsO, oSrtI, oSrtT, oLt, oLe, oReprB, oInI, gN3, eCh, oGt, oGe, oI, oIC, oI1, oAdd, oMul, oEq, oIsN, oIx, oLen, oList, oTuple, oAbs, oMin2, oInt1, fLst, fListRg1, fList, fRep, fCat, tYs, tru, isS, dats, seqD, seqO, tyS, List.set, List.getElem?_cons_zero, List.getElem?_cons_succ, List.append_eq, List.nil_append, List.cons_append, Option.map_some, Option.bind_some, ng, wipeD, List.length_cons, List.length_nil, Nat.reduceAdd, Nat.reduceSub, List.replicate_succ, List.replicate_zero]; try simp only [decide_eq_true_eq, Bool.not_eq_true', decide_eq_false_iff_not, Bool.false_eq_true, if_false, if_true, reduceIte, String.reduceBEq, Bool.true_or, Bool.false_or, Bool.or_false, Bool.and_false, Bool.false_and, Bool.and_true, Bool.true_and, Bool.not_true, Bool.not_false, ne_eq, not_true_eq_false, reduceCtorEq, Bool.true_eq_false, decide_true, decide_false])
      rw [show atI [lkD a, lkD b, lkD c] ((0 : Int) + ((2 : Nat) : Int)) = some (lkD c) from rfl]
      dsimp only
      rw [show atI [lkD a, lkD b, lkD c] (((0 : Int) + ((2 : Nat) : Int) + 1) % 3) = some (lkD a) from rfl]
      dsimp only
      refine ⟨by decide, ?_⟩
      rw [lk_look c]
      dsimp only
      rw [at3_0, at3_1, at3_2]
      dsimp only
      rw [neg_lk U.oa.s, ← lk_look c, one_lk, none_lk]
      refine times_lk U.oa U.oa (go_self _) ?_
      rw [mul_self U.oa]
      refine ⟨trivial, _, pyR_lk one, sr_lk one_ok, trivial, _, pyR_lk one, sr_lk one_ok, ?_⟩
      (try dsimp only [gN, gN2, sNil, sSeq, sExp, sRet, sIf, sPass, sCont, sBrk, sSet, sSetO, sApp, sAppF, sApPop, flatD, sFrz, sAug, sRaise, sAsg, sPut, eV, eC, e1, e2, t2, tBl, tTru, tN, tAn, tOo, tCh, eNot, eAn, eOo, eIf, eTup, eLst, eF, eFld, eIs, eIxO, eLenO, eSl, eRev, eB, eCall, eCallG, eMeth, aN, aC, aV, oNo, oPt, eIsO, oSrtI, oSrtT, oLt, oLe, oReprB, oInI, gN3, eCh, oGt, oGe, oI, oIC, oI1, oAdd, oMul, oEq, oIsN, oIx, oLen, oList, oTuple, oAbs, oMin2, oInt1, fLst, fListRg1, fList, fRep, fCat, tYs, tru, isS, dats, seqD, seqO, tyS, List.set, List.getElem?_cons_zero, List.getElem?_cons_succ, List.append_eq, List.nil_append, List.cons_append, Option.map_some, Option.bind_some, ng, wipeD, List.length_cons, List.length_nil, Nat.reduceAdd, Nat.reduceSub, List.replicate_succ, List.replicate_zero]; try simp only [decide_eq_true_eq, Bool.not_eq_true', decide_eq_false_iff_not, Bool.false_eq_true, if_false, if_true, reduceIte, String.reduceBEq, Bool.true_or, Bool.false_or, Bool.or_false, Bool.and_false, Bool.false_and, Bool.and_true, Bool.true_and, Bool.not_true, Bool.not_false, ne_eq, not_true_eq_false, reduceCtorEq, Bool.true_eq_false, decide_true, decide_false])
      try rw [if_neg (fun q => q rfl)]
      refine times_lk U.oa (neg_ok U.oa) (go_neg (go_self _)).symm ?_
      rw [F.xx]
      refine ⟨trivial, _, pyR_lk (neg one), sr_lk (neg_ok one_ok), trivial, _, pyR_lk (neg one), sr_lk (neg_ok one_ok), ?_⟩
      (try dsimp only [gN, gN2, sNil, sSeq, sExp, sRet, sIf, sPass, sCont, sBrk, sSet, sSetO, sApp, sAppF, sApPop, flatD, sFrz, sAug, sRaise, sAsg, sPut, eV, eC, e1, e2, t2, tBl, tTru, tN, tAn, tOo, tCh, eNot, eAn, eOo, eIf, eTup, eLst, eF, eFld, eIs, eIxO, eLenO, eSl, eRev, eB, eCall, eCallG, eMeth, aN, aC, aV, oNo, oPt, eIsO, oSrtI, oSrtT, oLt, oLe, oReprB, oInI, gN3, eCh, oGt, oGe, oI, oIC, oI1, oAdd, oMul, oEq, oIsN, oIx, oLen, oList, oTuple, oAbs, oMin2, oInt1, fLst, fListRg1, fList, fRep, fCat, tYs, tru, isS, dats, seqD, seqO, tyS, List.set, List.getElem?_cons_zero, List.getElem?_cons_succ, List.append_eq, List.nil_append, List.cons_append, Option.map_some, Option.bind_some, ng, wipeD, List.length_cons, List.length_nil, Nat.reduceAdd, Nat.reduceSub, List.replicate_succ, List.replicate_zero]; try simp only [decide_eq_true_eq, Bool.not_eq_true', decide_eq_false_iff_not, Bool.false_eq_true, if_false, if_true, reduceIte, String.reduceBEq, Bool.true_or, Bool.false_or, Bool.or_false, Bool.and_false, Bool.false_and, Bool.and_true, Bool.true_and, Bool.not_true, Bool.not_false, ne_eq, not_true_eq_false, reduceCtorEq, Bool.true_eq_false, decide_true, decide_false])
      try rw [if_neg (fun q => q rfl)]
      refine times_lk U.oa U.ob U.ab ?_
      refine times_lk (mul_ok U.oa U.ob) U.ob (go_mul U.ab (go_self _)) ?_
      rw [F.xyy]
      refine ⟨trivial, _, pyR_lk c, sr_lk U.oa, trivial, _, pyR_lk c, sr_lk U.oa, ?_⟩
      (try dsimp only [gN, gN2, sNil, sSeq, sExp, sRet, sIf, sPass, sCont, sBrk, sSet, sSetO, sApp, sAppF, sApPop, flatD, sFrz, sAug, sRaise, sAsg, sPut, eV, eC, e1, e2, t2, tBl, tTru, tN, tAn, tOo, tCh, eNot, eAn, eOo, eIf, eTup, eLst, eF, eFld, eIs, eIxO, eLenO, eSl, eRev, eB, eCall, eCallG, eMeth, aN, aC, aV, oNo, oPt, eIsO, oSrtI, oSrtT, oLt, oLe, oReprB, oInI, gN3, eCh, oGt, oGe, oI, oIC, oI1, oAdd, oMul, oEq, oIsN, oIx, oLen, oList, oTuple, oAbs, oMin2, oInt1, fLst, fListRg1, fList, fRep, fCat, tYs, tru, isS, dats, seqD, seqO, tyS, List.set, List.getElem?_cons_zero, List.getElem?_cons_succ, List.append_eq, List.nil_append, List.cons_append, Option.map_some, Option.bind_some, ng, wipeD, List.length_cons, List.length_nil, Nat.reduceAdd, Nat.reduceSub, List.replicate_succ, List.replicate_zero]; try simp only [decide_eq_true_eq, Bool.not_eq_true', decide_eq_false_iff_not, Bool.false_eq_true, if_false, if_true, reduceIte, String.reduceBEq, Bool.true_or, Bool.false_or, Bool.or_false, Bool.and_false, Bool.false_and, Bool.and_true, Bool.true_and, Bool.not_true, Bool.not_false, ne_eq, not_true_eq_false, reduceCtorEq, Bool.true_eq_false, decide_true, decide_false])
      try rw [if_neg (fun q => q rfl)]
      refine ⟨by decide, ?_⟩
      rw [show atI [lkD a, lkD b, lkD c] (((0 : Int) + ((2 : Nat) : Int) + 2) % 3) = some (lkD b) from rfl]
      dsimp only
      refine times_lk U.ob U.oc U.bc ?_
      refine times_lk (neg_ok U.oa) (mul_ok U.ob U.oc) (go_neg F.gr) ?_
      rw [F.nr]
      refine ⟨trivial, _, pyR_lk (neg m), sr_lk (neg_ok om), ?_⟩
      rw [lk_look m]
      dsimp only
      rw [at3_0, at3_1, at3_2]
      dsimp only
      rw [neg_lk om.s, ← lk_look m]
      refine ⟨trivial, _, pyR_lk (neg m), sr_lk (neg_ok om), ?_⟩
      (try dsimp only [gN, gN2, sNil, sSeq, sExp, sRet, sIf, sPass, sCont, sBrk, sSet, sSetO, sApp, sAppF, sApPop, flatD, sFrz, sAug, sRaise, sAsg, sPut, eV, eC, e1, e2, t2, tBl, tTru, tN, tAn, tOo, tCh, eNot, eAn, eOo, eIf, eTup, eLst, eF, eFld, eIs, eIxO, eLenO, eSl, eRev, eB, eCall, eCallG, eMeth, aN, aC, aV, oNo, oPt, eIsO, oSrtI, oSrtT, oLt, oLe, oReprB, oInI, gN3, eCh, oGt, oGe, oI, oIC, oI1, oAdd, oMul, oEq, oIsN, oIx, oLen, oList, oTuple, oAbs, oMin2, oInt1, fLst, fListRg1, fList, fRep, fCat, tYs, tru, isS, dats, seqD, seqO, tyS, List.set, List.getElem?_cons_zero, List.getElem?_cons_succ, List.append_eq, List.nil_append, List.cons_append, Option.map_some, Option.bind_some, ng, wipeD, List.length_cons, List.length_nil, Nat.reduceAdd, Nat.reduceSub, List.replicate_succ, List.replicate_zero]; try simp only [decide_eq_true_eq, Bool.not_eq_true', decide_eq_false_iff_not, Bool.false_eq_true, if_false, if_true, reduceIte, String.reduceBEq, Bool.true_or, Bool.false_or, Bool.or_false, Bool.and_false, Bool.false_and, Bool.and_true, Bool.true_and, Bool.not_true, Bool.not_false, ne_eq, not_true_eq_false, reduceCtorEq, Bool.true_eq_false, decide_true, decide_false])
      first | rw [decide_eq_true rfl, Bool.not_true, if_neg (by decide)] | rw [if_neg (fun q => q rfl)]
      refine times_lk U.oa one_ok (go_one _) ?_
      rw [mul_one U.oa]
      refine ⟨trivial, _, pyR_lk c, sr_lk U.oa, trivial, _, pyR_lk c, sr_lk U.oa, ?_⟩
      (try dsimp only [gN, gN2, sNil, sSeq, sExp, sRet, sIf, sPass, sCont, sBrk, sSet, sSetO, sApp, sAppF, sApPop, flatD, sFrz, sAug, sRaise, sAsg, sPut, eV, eC, e1, e2, t2, tBl, tTru, tN, tAn, tOo, tCh, eNot, eAn, eOo, eIf, eTup, eLst, eF, eFld, eIs, eIxO, eLenO, eSl, eRev, eB, eCall, eCallG, eMeth, aN, aC, aV, oNo, oPt, eIsO, oSrtI, oSrtT, oLt, oLe, oReprB, oInI, gN3, eCh, oGt, oGe, oI, oIC, oI1, oAdd, oMul, oEq, oIsN, oIx, oLen, oList, oTuple, oAbs, oMin2, oInt1, fLst, fListRg1, fList, fRep, fCat, tYs, tru, isS, dats, seqD, seqO, tyS, List.set, List.getElem?_cons_zero, List.getElem?_cons_succ, List.append_eq, List.nil_append, List.cons_append, Option.map_some, Option.bind_some, ng, wipeD, List.length_cons, List.length_nil, Nat.reduceAdd, Nat.reduceSub, List.replicate_succ, List.replicate_zero]; try simp only [decide_eq_true_eq, Bool.not_eq_true', decide_eq_false_iff_not, Bool.false_eq_true, if_false, if_true, reduceIte, String.reduceBEq, Bool.true_or, Bool.false_or, Bool.or_false, Bool.and_false, Bool.false_and, Bool.and_true, Bool.true_and, Bool.not_true, Bool.not_false, ne_eq, not_true_eq_false, reduceCtorEq, Bool.true_eq_false, decide_true, decide_false])
      try rw [if_neg (fun q => q rfl)]
      refine times_lk om (mul_ok U.ob U.oc) F.gmr ?_
      rw [F.mr]
      refine ⟨trivial, _, pyR_lk c, sr_lk U.oa, trivial, _, pyR_lk c, sr_lk U.oa, ?_⟩
      (try dsimp only [gN, gN2, sNil, sSeq, sExp, sRet, sIf, sPass, sCont, sBrk, sSet, sSetO, sApp, sAppF, sApPop, flatD, sFrz, sAug, sRaise, sAsg, sPut, eV, eC, e1, e2, t2, tBl, tTru, tN, tAn, tOo, tCh, eNot, eAn, eOo, eIf, eTup, eLst, eF, eFld, eIs, eIxO, eLenO, eSl, eRev, eB, eCall, eCallG, eMeth, aN, aC, aV, oNo, oPt, eIsO, oSrtI, oSrtT, oLt, oLe, oReprB, oInI, gN3, eCh, oGt, oGe, oI, oIC, oI1, oAdd, oMul, oEq, oIsN, oIx, oLen, oList, oTuple, oAbs, oMin2, oInt1, fLst, fListRg1, fList, fRep, fCat, tYs, tru, isS, dats, seqD, seqO, tyS, List.set, List.getElem?_cons_zero, List.getElem?_cons_succ, List.append_eq, List.nil_append, List.cons_append, Option.map_some, Option.bind_some, ng, wipeD, List.length_cons, List.length_nil, Nat.reduceAdd, Nat.reduceSub, List.replicate_succ, List.replicate_zero]; try simp only [decide_eq_true_eq, Bool.not_eq_true', decide_eq_false_iff_not, Bool.false_eq_true, if_false, if_true, reduceIte, String.reduceBEq, Bool.true_or, Bool.false_or, Bool.or_false, Bool.and_false, Bool.false_and, Bool.and_true, Bool.true_and, Bool.not_true, Bool.not_false, ne_eq, not_true_eq_false, reduceCtorEq, Bool.true_eq_false, decide_true, decide_false])
      try rw [if_neg (fun q => q rfl)]
      exact ⟨_, _, _, _, _, rfl⟩
  · rintro ρ ⟨y1, y2, y3, y4, y5, rfl⟩
    (try dsimp only [gN, gN2, sNil, sSeq, sExp, sRet, sIf, sPass, sCont, sBrk, sSet, sSetO, sApp, sAppF, sApPop, flatD, sFrz, sAug, sRaise, sAsg, sPut, eV, eC, e1, e2, t2, tBl, tTru, tN, tAn, tOo, tCh, eNot, eAn, eOo, eIf, eTup, eLst, eF, eFld, eIs, eIxO, eLenO, eSl, eRev, eB, eCall, eCallG, eMeth, aN, aC, aV, oNo, oPt, eIsO, oSrtI, oSrtT, oLt, oLe, oReprB, oInI, gN3, eCh, oGt, oGe, oI, oIC, oI1, oAdd, oMul, oEq, oIsN, oIx, oLen, oList, oTuple, oAbs, oMin2, oInt1, fLst, fListRg1, fList, fRep, fCat, tYs, tru, isS, dats, seqD, seqO, tyS, List.set, List.getElem?_cons_zero, List.getElem?_cons_succ, List.append_eq, List.nil_append, List.cons_append, Option.map_some, Option.bind_some, ng, wipeD, List.length_cons, List.length_nil, Nat.reduceAdd, Nat.reduceSub, List.replicate_succ, List.replicate_zero]; try simp only [decide_eq_true_eq, Bool.not_eq_true', decide_eq_false_iff_not, Bool.false_eq_true, if_false, if_true, reduceIte, String.reduceBEq, Bool.true_or, Bool.false_or, Bool.or_false, Bool.and_false, Bool.false_and, Bool.and_true, Bool.true_and, Bool.not_true, Bool.not_false, ne_eq, not_true_eq_false, reduceCtorEq, Bool.true_eq_false, decide_true, decide_false])
    exact q
end DL

set_option Elab.async false
set_option linter.all false
set_option maxRecDepth 100000
set_option maxHeartbeats 1000000
set_option exponentiation.threshold 2000
namespace DL
open PySem PySem.Spec PyProof.Rows L2 BT
/-! ### the law -/
theorem sem_law : r_law { nx := fun _ => False, rt := fun d => d = .bl true } (.un :: .src :: List.replicate 4 .un) (fun _ _ _ => False) := by
  unfold r_law
  (try dsimp only [gN, gN2, sNil, sSeq, sExp, sRet, sIf, sPass, sCont, sBrk, sSet, sSetO, sApp, sAppF, sApPop, flatD, sFrz, sAug, sRaise, sAsg, sPut, eV, eC, e1, e2, t2, tBl, tTru, tN, tAn, tOo, tCh, eNot, eAn, eOo, eIf, eTup, eLst, eF, eFld, eIs, eIxO, eLenO, eSl, eRev, eB, eCall, eCallG, eMeth, aN, aC, aV, oNo, oPt, eIsO, oSrtI, oSrtT, oLt, oLe, oReprB, oInI, gN3, eCh, oGt, oGe, oI, oIC, oI1, oAdd, oMul, oEq, oIsN, oIx, oLen, oList, oTuple, oAbs, oMin2, oInt1, fLst, fListRg1, fList, fRep, fCat, tYs, tru, isS, dats, seqD, seqO, tyS, List.set, List.getElem?_cons_zero, List.getElem?_cons_succ, List.append_eq, List.nil_append, List.cons_append, Option.map_some, Option.bind_some, ng, wipeD, List.length_cons, List.length_nil, Nat.reduceAdd, Nat.reduceSub, List.replicate_succ, List.replicate_zero]; try simp only [decide_eq_true_eq, Bool.not_eq_true', decide_eq_false_iff_not, Bool.false_eq_true, if_false, if_true, reduceIte, String.reduceBEq, Bool.true_or, Bool.false_or, Bool.or_false, Bool.and_false, Bool.false_and, Bool.and_true, Bool.true_and, Bool.not_true, Bool.not_false, ne_eq, not_true_eq_false, reduceCtorEq, Bool.true_eq_false, decide_true, decide_false])
  refine ⟨rfl, fun a b c T => ?_⟩
  refine ⟨a, b, c, rfl, T, ?_⟩
  have om := mul_ok (mul_ok T.oa T.ob) T.oc
  have two := fun i : Nat => mv_mul (go_mul T.ac T.bc) (i, 0)
  have two : ∀ i : Nat, mv (mulL (mulL a b) c) (i, 0) = mv a (mv b (mv c (i, 0))) := fun i => by rw [two i, mv_mul T.ab]
  rw [lk_look (mulL (mulL a b) c)]
  (try dsimp only [gN, gN2, sNil, sSeq, sExp, sRet, sIf, sPass, sCont, sBrk, sSet, sSetO, sApp, sAppF, sApPop, flatD, sFrz, sAug, sRaise, sAsg, sPut, eV, eC, e1, e2, t2, tBl, tTru, tN, tAn, tOo, tCh, eNot, eAn, eOo, eIf, eTup, eLst, eF, eFld, eIs, eIxO, eLenO, eSl, eRev, eB, eCall, eCallG, eMeth, aN, aC, aV, oNo, oPt, eIsO, oSrtI, oSrtT, oLt, oLe, oReprB, oInI, gN3, eCh, oGt, oGe, oI, oIC, oI1, oAdd, oMul, oEq, oIsN, oIx, oLen, oList, oTuple, oAbs, oMin2, oInt1, fLst, fListRg1, fList, fRep, fCat, tYs, tru, isS, dats, seqD, seqO, tyS, List.set, List.getElem?_cons_zero, List.getElem?_cons_succ, List.append_eq, List.nil_append, List.cons_append, Option.map_some, Option.bind_some, ng, wipeD, List.length_cons, List.length_nil, Nat.reduceAdd, Nat.reduceSub, List.replicate_succ, List.replicate_zero]; try simp only [decide_eq_true_eq, Bool.not_eq_true', decide_eq_false_iff_not, Bool.false_eq_true, if_false, if_true, reduceIte, String.reduceBEq, Bool.true_or, Bool.false_or, Bool.or_false, Bool.and_false, Bool.false_and, Bool.and_true, Bool.true_and, Bool.not_true, Bool.not_false, ne_eq, not_true_eq_false, reduceCtorEq, Bool.true_eq_false, decide_true, decide_false])
  rw [← lk_look (mulL (mulL a b) c)]
  refine ⟨by decide, by decide, fun j ρ => ∃ y1 y2, ρ = [.un, .src, .dat (lk3X a b c), .dat (lkD (mulL (mulL a b) c)), y1, y2], ⟨_, _, rfl⟩, ?_, ?_⟩
  · rintro j x ρ hx ⟨y1, y2, rfl⟩
    (try dsimp only [gN, gN2, sNil, sSeq, sExp, sRet, sIf, sPass, sCont, sBrk, sSet, sSetO, sApp, sAppF, sApPop, flatD, sFrz, sAug, sRaise, sAsg, sPut, eV, eC, e1, e2, t2, tBl, tTru, tN, tAn, tOo, tCh, eNot, eAn, eOo, eIf, eTup, eLst, eF, eFld, eIs, eIxO, eLenO, eSl, eRev, eB, eCall, eCallG, eMeth, aN, aC, aV, oNo, oPt, eIsO, oSrtI, oSrtT, oLt, oLe, oReprB, oInI, gN3, eCh, oGt, oGe, oI, oIC, oI1, oAdd, oMul, oEq, oIsN, oIx, oLen, oList, oTuple, oAbs, oMin2, oInt1, fLst, fListRg1, fList, fRep, fCat, tYs, tru, isS, dats, seqD, seqO, tyS, List.set, List.getElem?_cons_zero, List.getElem?_cons_succ, List.append_eq, List.nil_append, List.cons_append, Option.map_some, Option.bind_some, ng, wipeD, List.length_cons, List.length_nil, Nat.reduceAdd, Nat.reduceSub, List.replicate_succ, List.replicate_zero]; try simp only [decide_eq_true_eq, Bool.not_eq_true', decide_eq_false_iff_not, Bool.false_eq_true, if_false, if_true, reduceIte, String.reduceBEq, Bool.true_or, Bool.false_or, Bool.or_false, Bool.and_false, Bool.false_and, Bool.and_true, Bool.true_and, Bool.not_true, Bool.not_false, ne_eq, not_true_eq_false, reduceCtorEq, Bool.true_eq_false, decide_true, decide_false])
    refine ⟨1024, rfl, by decide, by decide, fun v v0 v1 => ?_⟩
    obtain ⟨i, rfl⟩ := Int.eq_ofNat_of_zero_le v0
    have hi : i < 2 ^ 10 := by omega
    (try dsimp only [gN, gN2, sNil, sSeq, sExp, sRet, sIf, sPass, sCont, sBrk, sSet, sSetO, sApp, sAppF, sApPop, flatD, sFrz, sAug, sRaise, sAsg, sPut, eV, eC, e1, e2, t2, tBl, tTru, tN, tAn, tOo, tCh, eNot, eAn, eOo, eIf, eTup, eLst, eF, eFld, eIs, eIxO, eLenO, eSl, eRev, eB, eCall, eCallG, eMeth, aN, aC, aV, oNo, oPt, eIsO, oSrtI, oSrtT, oLt, oLe, oReprB, oInI, gN3, eCh, oGt, oGe, oI, oIC, oI1, oAdd, oMul, oEq, oIsN, oIx, oLen, oList, oTuple, oAbs, oMin2, oInt1, fLst, fListRg1, fList, fRep, fCat, tYs, tru, isS, dats, seqD, seqO, tyS, List.set, List.getElem?_cons_zero, List.getElem?_cons_succ, List.append_eq, List.nil_append, List.cons_append, Option.map_some, Option.bind_some, ng, wipeD, List.length_cons, List.length_nil, Nat.reduceAdd, Nat.reduceSub, List.replicate_succ, List.replicate_zero]; try simp only [decide_eq_true_eq, Bool.not_eq_true', decide_eq_false_iff_not, Bool.false_eq_true, if_false, if_true, reduceIte, String.reduceBEq, Bool.true_or, Bool.false_or, Bool.or_false, Bool.and_false, Bool.false_and, Bool.and_true, Bool.true_and, Bool.not_true, Bool.not_false, ne_eq, not_true_eq_false, reduceCtorEq, Bool.true_eq_false, decide_true, decide_false])
    refine ⟨_, (i, 0), rfl, om, hi, ?_⟩
    (try dsimp only [gN, gN2, sNil, sSeq, sExp, sRet, sIf, sPass, sCont, sBrk, sSet, sSetO, sApp, sAppF, sApPop, flatD, sFrz, sAug, sRaise, sAsg, sPut, eV, eC, e1, e2, t2, tBl, tTru, tN, tAn, tOo, tCh, eNot, eAn, eOo, eIf, eTup, eLst, eF, eFld, eIs, eIxO, eLenO, eSl, eRev, eB, eCall, eCallG, eMeth, aN, aC, aV, oNo, oPt, eIsO, oSrtI, oSrtT, oLt, oLe, oReprB, oInI, gN3, eCh, oGt, oGe, oI, oIC, oI1, oAdd, oMul, oEq, oIsN, oIx, oLen, oList, oTuple, oAbs, oMin2, oInt1, fLst, fListRg1, fList, fRep, fCat, tYs, tru, isS, dats, seqD, seqO, tyS, List.set, List.getElem?_cons_zero, List.getElem?_cons_succ, List.append_eq, List.nil_append, List.cons_append, Option.map_some, Option.bind_some, ng, wipeD, List.length_cons, List.length_nil, Nat.reduceAdd, Nat.reduceSub, List.replicate_succ, List.replicate_zero]; try simp only [decide_eq_true_eq, Bool.not_eq_true', decide_eq_false_iff_not, Bool.false_eq_true, if_false, if_true, reduceIte, String.reduceBEq, Bool.true_or, Bool.false_or, Bool.or_false, Bool.and_false, Bool.false_and, Bool.and_true, Bool.true_and, Bool.not_true, Bool.not_false, ne_eq, not_true_eq_false, reduceCtorEq, Bool.true_eq_false, decide_true, decide_false])
    refine ⟨a, b, c, i, rfl, T.oa, T.ob, T.oc, hi, ?_⟩
    refine ⟨_, _, pyN_pair _, pyN_pair _, rfl, rfl, ?_⟩
    rw [eqv_pair, two, decide_eq_true rfl]
    (try dsimp only [gN, gN2, sNil, sSeq, sExp, sRet, sIf, sPass, sCont, sBrk, sSet, sSetO, sApp, sAppF, sApPop, flatD, sFrz, sAug, sRaise, sAsg, sPut, eV, eC, e1, e2, t2, tBl, tTru, tN, tAn, tOo, tCh, eNot, eAn, eOo, eIf, eTup, eLst, eF, eFld, eIs, eIxO, eLenO, eSl, eRev, eB, eCall, eCallG, eMeth, aN, aC, aV, oNo, oPt, eIsO, oSrtI, oSrtT, oLt, oLe, oReprB, oInI, gN3, eCh, oGt, oGe, oI, oIC, oI1, oAdd, oMul, oEq, oIsN, oIx, oLen, oList, oTuple, oAbs, oMin2, oInt1, fLst, fListRg1, fList, fRep, fCat, tYs, tru, isS, dats, seqD, seqO, tyS, List.set, List.getElem?_cons_zero, List.getElem?_cons_succ, List.append_eq, List.nil_append, List.cons_append, Option.map_some, Option.bind_some, ng, wipeD, List.length_cons, List.length_nil, Nat.reduceAdd, Nat.reduceSub, List.replicate_succ, List.replicate_zero]; try simp only [decide_eq_true_eq, Bool.not_eq_true', decide_eq_false_iff_not, Bool.false_eq_true, if_false, if_true, reduceIte, String.reduceBEq, Bool.true_or, Bool.false_or, Bool.or_false, Bool.and_false, Bool.false_and, Bool.and_true, Bool.true_and, Bool.not_true, Bool.not_false, ne_eq, not_true_eq_false, reduceCtorEq, Bool.true_eq_false, decide_true, decide_false])
    exact ⟨_, _, rfl⟩
  · rintro ρ ⟨y1, y2, rfl⟩
    (try dsimp only [gN, gN2, sNil, sSeq, sExp, sRet, sIf, sPass, sCont, sBrk, sSet, sSetO, sApp, sAppF, sApPop, flatD, sFrz, sAug, sRaise, sAsg, sPut, eV, eC, e1, e2, t2, tBl, tTru, tN, tAn, tOo, tCh, eNot, eAn, eOo, eIf, eTup, eLst, eF, eFld, eIs, eIxO, eLenO, eSl, eRev, eB, eCall, eCallG, eMeth, aN, aC, aV, oNo, oPt, eIsO, oSrtI, oSrtT, oLt, oLe, oReprB, oInI, gN3, eCh, oGt, oGe, oI, oIC, oI1, oAdd, oMul, oEq, oIsN, oIx, oLen, oList, oTuple, oAbs, oMin2, oInt1, fLst, fListRg1, fList, fRep, fCat, tYs, tru, isS, dats, seqD, seqO, tyS, List.set, List.getElem?_cons_zero, List.getElem?_cons_succ, List.append_eq, List.nil_append, List.cons_append, Option.map_some, Option.bind_some, ng, wipeD, List.length_cons, List.length_nil, Nat.reduceAdd, Nat.reduceSub, List.replicate_succ, List.replicate_zero]; try simp only [decide_eq_true_eq, Bool.not_eq_true', decide_eq_false_iff_not, Bool.false_eq_true, if_false, if_true, reduceIte, String.reduceBEq, Bool.true_or, Bool.false_or, Bool.or_false, Bool.and_false, Bool.false_and, Bool.and_true, Bool.true_and, Bool.not_true, Bool.not_false, ne_eq, not_true_eq_false, reduceCtorEq, Bool.true_eq_false, decide_true, decide_false])
    refine ⟨a, b, c, rfl, T, ?_⟩
    (try dsimp only [gN, gN2, sNil, sSeq, sExp, sRet, sIf, sPass, sCont, sBrk, sSet, sSetO, sApp, sAppF, sApPop, flatD, sFrz, sAug, sRaise, sAsg, sPut, eV, eC, e1, e2, t2, tBl, tTru, tN, tAn, tOo, tCh, eNot, eAn, eOo, eIf, eTup, eLst, eF, eFld, eIs, eIxO, eLenO, eSl, eRev, eB, eCall, eCallG, eMeth, aN, aC, aV, oNo, oPt, eIsO, oSrtI, oSrtT, oLt, oLe, oReprB, oInI, gN3, eCh, oGt, oGe, oI, oIC, oI1, oAdd, oMul, oEq, oIsN, oIx, oLen, oList, oTuple, oAbs, oMin2, oInt1, fLst, fListRg1, fList, fRep, fCat, tYs, tru, isS, dats, seqD, seqO, tyS, List.set, List.getElem?_cons_zero, List.getElem?_cons_succ, List.append_eq, List.nil_append, List.cons_append, Option.map_some, Option.bind_some, ng, wipeD, List.length_cons, List.length_nil, Nat.reduceAdd, Nat.reduceSub, List.replicate_succ, List.replicate_zero]; try simp only [decide_eq_true_eq, Bool.not_eq_true', decide_eq_false_iff_not, Bool.false_eq_true, if_false, if_true, reduceIte, String.reduceBEq, Bool.true_or, Bool.false_or, Bool.or_false, Bool.and_false, Bool.false_and, Bool.and_true, Bool.true_and, Bool.not_true, Bool.not_false, ne_eq, not_true_eq_false, reduceCtorEq, Bool.true_eq_false, decide_true, decide_false])
    exact ⟨a, b, c, rfl, T, rfl⟩
end DL

set_option Elab.async false
set_option linter.all false
set_option maxRecDepth 100000
set_option maxHeartbeats 4000000
namespace DL
open PySem PySem.Spec PyProof.Rows L2 BT
section
variable {P : Program} {w : World} {K : PySem.W.Frag} {mg : Str → Option Value} {base : Heap} {ad : Str → Addr}
theorem ok_mask_of {f : Addr} {fd : FuncData} (F : FnP K "mask_of" s_mask_of f fd) : FnOk P w K mg base (L2.CX P w) 1 f fd ["lot"] (spD ad d_mask_of) := fnX F sc_mask_of (rd_mask_of) sem_mask_of
theorem ok_lot_of {f : Addr} {fd : FuncData} (T : Bi mg) (F : FnP K "lot_of" s_lot_of f fd) : FnOk P w K mg base (L2.CX P w) 1 f fd ["mask"] (spD ad d_lot_of) := fnX F sc_lot_of (rd_lot_of T) sem_lot_of
theorem ok_is_number {f : Addr} {fd : FuncData} (T : Bi mg) (F : FnP K "is_number" s_is_number f fd) : FnOk P w K mg base (L2.CX P w) 1 f fd ["value"] (spD ad d_is_number) := fnX F sc_is_number (rd_is_number T) sem_is_number
theorem ok_is_between {f : Addr} {fd : FuncData} (D_is_number : DefX P w K mg base ad 1 "is_number" ["value"] d_is_number) (F : FnP K "is_between" s_is_between f fd) : FnOk P w K mg base (L2.CX P w) 2 f fd ["value", "least", "most"] (spD ad d_is_between) := fnX F sc_is_between (rd_is_between D_is_number) sem_is_between
theorem ok_is_bit {f : Addr} {fd : FuncData} (D_is_between : DefX P w K mg base ad 2 "is_between" ["value", "least", "most"] d_is_between) (F : FnP K "is_bit" s_is_bit f fd) : FnOk P w K mg base (L2.CX P w) 3 f fd ["value"] (spD ad d_is_bit) := fnX F sc_is_bit (rd_is_bit D_is_between) sem_is_bit
theorem ok_need_size {f : Addr} {fd : FuncData} {tMOST_PLACES : Tok} (D_is_between : DefX P w K mg base ad 2 "is_between" ["value", "least", "most"] d_is_between) (E_BadSize : ErrC P w K mg base "BadSize" (ad "BadSize")) (h_MOST_PLACES : mg "MOST_PLACES" = some (.int 60 tMOST_PLACES)) (F : FnP K "need_size" s_need_size f fd) : FnOk P w K mg base (L2.CX P w) 3 f fd ["size"] (spD ad d_need_size) := fnX F sc_need_size (rd_need_size D_is_between E_BadSize h_MOST_PLACES) sem_need_size
theorem ok_is_lot {f : Addr} {fd : FuncData} (T : Bi mg) (D_is_number : DefX P w K mg base ad 1 "is_number" ["value"] d_is_number) (D_need_size : DefX P w K mg base ad 3 "need_size" ["size"] d_need_size) (F : FnP K "is_lot" s_is_lot f fd) : FnOk P w K mg base (L2.CX P w) 4 f fd ["value", "size"] (spD ad d_is_lot) := fnX F sc_is_lot (rd_is_lot T D_is_number D_need_size) sem_is_lot
theorem ok_need_lot {f : Addr} {fd : FuncData} (D_is_lot : DefX P w K mg base ad 4 "is_lot" ["value", "size"] d_is_lot) (E_BadLot : ErrC P w K mg base "BadLot" (ad "BadLot")) (F : FnP K "need_lot" s_need_lot f fd) : FnOk P w K mg base (L2.CX P w) 5 f fd ["value", "size"] (spD ad d_need_lot) := fnX F sc_need_lot (rd_need_lot D_is_lot E_BadLot) sem_need_lot
theorem ok_plus {f : Addr} {fd : FuncData} {tMOST_PLACES : Tok} (D_lot_of : DefX P w K mg base ad 1 "lot_of" ["mask"] d_lot_of) (D_mask_of : DefX P w K mg base ad 1 "mask_of" ["lot"] d_mask_of) (D_need_lot : DefX P w K mg base ad 5 "need_lot" ["value", "size"] d_need_lot) (h_MOST_PLACES : mg "MOST_PLACES" = some (.int 60 tMOST_PLACES)) (F : FnP K "plus" s_plus f fd) : FnOk P w K mg base (L2.CX P w) 6 f fd ["one", "other"] (spD ad d_plus) := fnX F sc_plus (rd_plus D_lot_of D_mask_of D_need_lot h_MOST_PLACES) sem_plus
theorem ok_common {f : Addr} {fd : FuncData} (T : Bi mg) (F : FnP K "_common" s_common f fd) : FnOk P w K mg base (L2.CX P w) 1 f fd ["one", "other"] (spD ad d_common) := fnX F sc_common (rd_common T) sem_common
theorem ok_need_wires {f : Addr} {fd : FuncData} {tMOST_WIRES : Tok} (D_is_between : DefX P w K mg base ad 2 "is_between" ["value", "least", "most"] d_is_between) (E_BadSize : ErrC P w K mg base "BadSize" (ad "BadSize")) (h_MOST_WIRES : mg "MOST_WIRES" = some (.int 10 tMOST_WIRES)) (F : FnP K "need_wires" s_need_wires f fd) : FnOk P w K mg base (L2.CX P w) 3 f fd ["wires"] (spD ad d_need_wires) := fnX F sc_need_wires (rd_need_wires D_is_between E_BadSize h_MOST_WIRES) sem_need_wires
theorem ok_is_pair {f : Addr} {fd : FuncData} (T : Bi mg) (D_is_lot : DefX P w K mg base ad 4 "is_lot" ["value", "size"] d_is_lot) (F : FnP K "is_pair" s_is_pair f fd) : FnOk P w K mg base (L2.CX P w) 5 f fd ["value", "wires"] (spD ad d_is_pair) := fnX F sc_is_pair (rd_is_pair T D_is_lot) sem_is_pair
theorem ok_is_look {f : Addr} {fd : FuncData} (T : Bi mg) (D_is_bit : DefX P w K mg base ad 3 "is_bit" ["value"] d_is_bit) (D_is_pair : DefX P w K mg base ad 5 "is_pair" ["value", "wires"] d_is_pair) (D_need_wires : DefX P w K mg base ad 3 "need_wires" ["wires"] d_need_wires) (F : FnP K "is_look" s_is_look f fd) : FnOk P w K mg base (L2.CX P w) 6 f fd ["value", "wires"] (spD ad d_is_look) := fnX F sc_is_look (rd_is_look T D_is_bit D_is_pair D_need_wires) sem_is_look
theorem ok_need_look {f : Addr} {fd : FuncData} (D_is_look : DefX P w K mg base ad 6 "is_look" ["value", "wires"] d_is_look) (E_BadLook : ErrC P w K mg base "BadLook" (ad "BadLook")) (F : FnP K "need_look" s_need_look f fd) : FnOk P w K mg base (L2.CX P w) 7 f fd ["value", "wires"] (spD ad d_need_look) := fnX F sc_need_look (rd_need_look D_is_look E_BadLook) sem_need_look
theorem ok_together {f : Addr} {fd : FuncData} {tMOST_WIRES : Tok} (D_common : DefX P w K mg base ad 1 "_common" ["one", "other"] d_common) (D_need_look : DefX P w K mg base ad 7 "need_look" ["value", "wires"] d_need_look) (h_MOST_WIRES : mg "MOST_WIRES" = some (.int 10 tMOST_WIRES)) (F : FnP K "together" s_together f fd) : FnOk P w K mg base (L2.CX P w) 8 f fd ["one", "other"] (spD ad d_together) := fnX F sc_together (rd_together D_common D_need_look h_MOST_WIRES) sem_together
theorem ok_times {f : Addr} {fd : FuncData} (D_common : DefX P w K mg base ad 1 "_common" ["one", "other"] d_common) (D_plus : DefX P w K mg base ad 6 "plus" ["one", "other"] d_plus) (D_together : DefX P w K mg base ad 8 "together" ["one", "other"] d_together) (E_BadLooks : ErrC P w K mg base "BadLooks" (ad "BadLooks")) (F : FnP K "times" s_times f fd) : FnOk P w K mg base (L2.CX P w) 9 f fd ["one", "other"] (spD ad d_times) := fnX F sc_times (rd_times D_common D_plus D_together E_BadLooks) sem_times
theorem ok_law_lot {f : Addr} {fd : FuncData} (T : Bi mg) (F : FnP K "_law_lot" s_law_lot f fd) : FnOk P w K mg base (L2.CX P w) 1 f fd ["_law_mask_here"] (spD ad d_law_lot) := fnX F sc_law_lot (rd_law_lot T) sem_law_lot
theorem ok_law_mask {f : Addr} {fd : FuncData} (T2 : Bi2 mg) (F : FnP K "_law_mask" s_law_mask f fd) : FnOk P w K mg base (L2.CX P w) 1 f fd ["_law_lot_here"] (spD ad d_law_mask) := fnX F sc_law_mask (rd_law_mask T2) sem_law_mask
theorem ok_law_ones {f : Addr} {fd : FuncData} (T : Bi mg) (T2 : Bi2 mg) (F : FnP K "_law_ones" s_law_ones f fd) : FnOk P w K mg base (L2.CX P w) 1 f fd ["_law_mask_here"] (spD ad d_law_ones) := fnX F sc_law_ones (rd_law_ones T T2) sem_law_ones
theorem ok_law_goes {f : Addr} {fd : FuncData} (D_law_ones : DefX P w K mg base ad 1 "_law_ones" ["_law_mask_here"] d_law_ones) (F : FnP K "_law_goes" s_law_goes f fd) : FnOk P w K mg base (L2.CX P w) 2 f fd ["_law_first", "_law_second"] (spD ad d_law_goes) := fnX F sc_law_goes (rd_law_goes D_law_ones) sem_law_goes
theorem ok_law_shaped {f : Addr} {fd : FuncData} (T : Bi mg) (D_law_draw : DefX P w K mg base ad 1 "_law_draw" ["_law_source_here", "_law_many"] d_law_draw) (F : FnP K "_law_shaped" s_law_shaped f fd) : FnOk P w K mg base (L2.CX P w) 2 f fd ["_law_source_here", "_law_earlier"] (spD ad d_law_shaped) := fnX F sc_law_shaped (rd_law_shaped T D_law_draw) sem_law_shaped
theorem ok_law_suits {f : Addr} {fd : FuncData} (T2 : Bi2 mg) (D_law_goes : DefX P w K mg base ad 2 "_law_goes" ["_law_first", "_law_second"] d_law_goes) (F : FnP K "_law_suits" s_law_suits f fd) : FnOk P w K mg base (L2.CX P w) 3 f fd ["_law_code", "_law_earlier"] (spD ad d_law_suits) := fnX F sc_law_suits (rd_law_suits T2 D_law_goes) sem_law_suits
theorem ok_law_fitted {f : Addr} {fd : FuncData} (T : Bi mg) (D_law_suits : DefX P w K mg base ad 3 "_law_suits" ["_law_code", "_law_earlier"] d_law_suits) (F : FnP K "_law_fitted" s_law_fitted f fd) : FnOk P w K mg base (L2.CX P w) 4 f fd ["_law_code", "_law_earlier"] (spD ad d_law_fitted) := fnX F sc_law_fitted (rd_law_fitted T D_law_suits) sem_law_fitted
theorem ok_law_drawn_looks {f : Addr} {fd : FuncData} (T : Bi mg) (D_law_draw : DefX P w K mg base ad 1 "_law_draw" ["_law_source_here", "_law_many"] d_law_draw) (D_law_fitted : DefX P w K mg base ad 4 "_law_fitted" ["_law_code", "_law_earlier"] d_law_fitted) (D_law_lot : DefX P w K mg base ad 1 "_law_lot" ["_law_mask_here"] d_law_lot) (D_law_shaped : DefX P w K mg base ad 2 "_law_shaped" ["_law_source_here", "_law_earlier"] d_law_shaped) (F : FnP K "_law_drawn_looks" s_law_drawn_looks f fd) : FnOk P w K mg base (L2.CX P w) 5 f fd ["_law_source_here"] (spD ad d_law_drawn_looks) := fnX F sc_law_drawn_looks (rd_law_drawn_looks T D_law_draw D_law_fitted D_law_lot D_law_shaped) sem_law_drawn_looks
theorem ok_law_moved {f : Addr} {fd : FuncData} (D_law_mask : DefX P w K mg base ad 1 "_law_mask" ["_law_lot_here"] d_law_mask) (D_law_ones : DefX P w K mg base ad 1 "_law_ones" ["_law_mask_here"] d_law_ones) (F : FnP K "_law_moved" s_law_moved f fd) : FnOk P w K mg base (L2.CX P w) 2 f fd ["_law_look", "_law_start"] (spD ad d_law_moved) := fnX F sc_law_moved (rd_law_moved D_law_mask D_law_ones) sem_law_moved
theorem ok_law_moved_by_all {f : Addr} {fd : FuncData} (T : Bi mg) (D_law_moved : DefX P w K mg base ad 2 "_law_moved" ["_law_look", "_law_start"] d_law_moved) (F : FnP K "_law_moved_by_all" s_law_moved_by_all f fd) : FnOk P w K mg base (L2.CX P w) 3 f fd ["_law_looks", "_law_index"] (spD ad d_law_moved_by_all) := fnX F sc_law_moved_by_all (rd_law_moved_by_all T D_law_moved) sem_law_moved_by_all
theorem ok_law_expected {f : Addr} {fd : FuncData} (T : Bi mg) (D_law_lot : DefX P w K mg base ad 1 "_law_lot" ["_law_mask_here"] d_law_lot) (D_law_mask : DefX P w K mg base ad 1 "_law_mask" ["_law_lot_here"] d_law_mask) (D_law_moved : DefX P w K mg base ad 2 "_law_moved" ["_law_look", "_law_start"] d_law_moved) (D_law_moved_by_all : DefX P w K mg base ad 3 "_law_moved_by_all" ["_law_looks", "_law_index"] d_law_moved_by_all) (F : FnP K "_law_expected" s_law_expected f fd) : FnOk P w K mg base (L2.CX P w) 4 f fd ["_law_looks"] (spD ad d_law_expected) := fnX F sc_law_expected (rd_law_expected T D_law_lot D_law_mask D_law_moved D_law_moved_by_all) sem_law_expected
theorem ok_law_orders_hold {f : Addr} {fd : FuncData} (T : Bi mg) (D_times : DefX P w K mg base ad 9 "times" ["one", "other"] d_times) (F : FnP K "_law_orders_hold" s_law_orders_hold f fd) : FnG P w K mg base 10 f fd ["_law_looks", "_law_expected_here"] (spD ad d_law_orders_hold) := fnY F sc_law_orders_hold (rd_law_orders_hold T D_times) sem_law_orders_hold
theorem ok_law_facts_hold {f : Addr} {fd : FuncData} (T : Bi mg) (D_times : DefX P w K mg base ad 9 "times" ["one", "other"] d_times) (F : FnP K "_law_facts_hold" s_law_facts_hold f fd) : FnG P w K mg base 10 f fd ["_law_looks", "_law_expected_here"] (spD ad d_law_facts_hold) := fnY F sc_law_facts_hold (rd_law_facts_hold T D_times) sem_law_facts_hold
theorem ok_law {f : Addr} {fd : FuncData} (T : Bi mg) (D_law_draw : DefX P w K mg base ad 1 "_law_draw" ["_law_source_here", "_law_many"] d_law_draw) (D_law_drawn_looks : DefX P w K mg base ad 5 "_law_drawn_looks" ["_law_source_here"] d_law_drawn_looks) (D_law_expected : DefX P w K mg base ad 4 "_law_expected" ["_law_looks"] d_law_expected) (D_law_facts_hold : DefY P w K mg base ad 10 "_law_facts_hold" ["_law_looks", "_law_expected_here"] d_law_facts_hold) (D_law_moved : DefX P w K mg base ad 2 "_law_moved" ["_law_look", "_law_start"] d_law_moved) (D_law_moved_by_all : DefX P w K mg base ad 3 "_law_moved_by_all" ["_law_looks", "_law_index"] d_law_moved_by_all) (D_law_orders_hold : DefY P w K mg base ad 10 "_law_orders_hold" ["_law_looks", "_law_expected_here"] d_law_orders_hold) (DSrc : DefOk P w K mg base CX0 2 "_law_source" ["_law_script", "_law_k"] (spSource2 K)) (F : FnP K "law" s_law f fd) : FnG P w K mg base 11 f fd ["_law_script"] (spLaw K) := by
  refine okG_of F sc_law (fun vs H Q E h => ?_) (fun cdv A outer s H vs Q hr gd h => ?_)
  · obtain ⟨a, ns, rfl, _⟩ := h
    rfl
  · obtain ⟨a, ns, rfl, hS, k⟩ := h
    refine ⟨_, pss_cons (ps_set (i := 1) sc_law.nd rfl (Or.inl rfl) (pe_d DSrc hr rfl (pa_cons (pv 0) (pa_cons pe_int pa_nil)))) (rd_law T D_law_draw D_law_drawn_looks D_law_expected D_law_facts_hold D_law_moved D_law_moved_by_all D_law_orders_hold cdv A outer s H (fun _ _ _ => False) hr gd).ps, ?_⟩
    exact ⟨_, rfl, a, ns, _, rfl, by decide, hS, fun p l G1 hp s1 src => law_go (n := 4) src rfl rfl k sem_law⟩
end
end DL

set_option Elab.async false
set_option linter.all false
set_option maxRecDepth 100000
set_option maxHeartbeats 0
namespace BT
open PySem PySem.Spec PyProof.Rows L2 DL
/-! ### the head: what stands behind the top -/
def dI : He.DefD := ⟨("BlindError", some "__init__"), "__init__", "BlindError.__init__", defArgs s_BlindError_init, defBody s_BlindError_init, defScope s_BlindError_init, [.non], []⟩
def plainD (x : Str) (st : Stmt) : He.DefD := ⟨(x, none), x, x, defArgs st, defBody st, defScope st, [], []⟩
def methD (c x q : Str) (st : Stmt) : He.DefD := ⟨(c, some x), x, q, defArgs st, defBody st, defScope st, [], []⟩
def fnK : List He.DefD := dI :: [plainD "_law_cell" s_law_cell, plainD "_law_source" s_law_source, plainD "_law_draw" s_law_draw, plainD "mask_of" s_mask_of, plainD "lot_of" s_lot_of, plainD "is_number" s_is_number, plainD "is_between" s_is_between, plainD "is_bit" s_is_bit, plainD "need_size" s_need_size, plainD "is_lot" s_is_lot, plainD "need_lot" s_need_lot, plainD "plus" s_plus, plainD "_common" s_common, plainD "need_wires" s_need_wires, plainD "is_pair" s_is_pair, plainD "is_look" s_is_look, plainD "need_look" s_need_look, plainD "together" s_together, plainD "times" s_times, plainD "_law_lot" s_law_lot] ++ [plainD "_law_mask" s_law_mask, plainD "_law_ones" s_law_ones, plainD "_law_goes" s_law_goes, plainD "_law_shaped" s_law_shaped, plainD "_law_suits" s_law_suits, plainD "_law_fitted" s_law_fitted, plainD "_law_drawn_looks" s_law_drawn_looks, plainD "_law_moved" s_law_moved, plainD "_law_moved_by_all" s_law_moved_by_all, plainD "_law_expected" s_law_expected, plainD "_law_orders_hold" s_law_orders_hold, plainD "_law_facts_hold" s_law_facts_hold, plainD "law" s_law]
def faK : List He.Fa := [.free "int", .free "bool", .free "tuple", .free "list", .free "range", .free "len", .free "isinstance", .free "enumerate", .free "abs", .free "min", .free "repr", .free "sorted", .free "any", .free "all", .free "sum", .int "MOST_PLACES" 60, .int "MOST_WIRES" 10, .glo "_law_cell", .glo "_law_source", .glo "_law_draw"] ++ [.glo "mask_of", .glo "lot_of", .glo "is_number", .glo "is_between", .glo "is_bit", .glo "need_size", .glo "is_lot", .glo "need_lot", .glo "plus", .glo "_common", .glo "need_wires", .glo "is_pair", .glo "is_look", .glo "need_look", .glo "together", .glo "times", .glo "_law_lot", .glo "_law_mask", .glo "_law_ones", .glo "_law_goes"] ++ [.glo "_law_shaped", .glo "_law_suits", .glo "_law_fitted", .glo "_law_drawn_looks", .glo "_law_moved", .glo "_law_moved_by_all", .glo "_law_expected", .glo "_law_orders_hold", .glo "_law_facts_hold", .glo "law"]
def xsK : List Str := ["BadSize", "BadLot", "BadLook", "BadLooks"]
abbrev R : PySem.W.OpenRow := PySem.W.OpenLaw.row PySem.Challenge.rw_blindtwins_k63_whole_three_factors
def owK : List Str := []
abbrev hkK : PySem.W.Hook := hookZ 5 faK fnK xsK owK
def obK (s : PySem.W.SharedT) : AlX := obsZG 5 faK fnK xsK owK (HandSHeadRun.getT s)
theorem obK_eq (s : PySem.W.SharedT) : obK s = hkK.obs s.abs := obsZG_eq (HandSHeadRun.getT_eq s)
def looseK : List Str := (R.prog.main.scope.names.filter fun p => p.2 == .local && p.1 != ("law" : Str) && p.1 != ("__name__" : Str)).map (·.1)
theorem runK (w : World) : HandSHeadRun.RunEq R (PySem.W.view R.prog [44]) hkK obK 4000 looseK w := by
  intro os
  kernel_rfl
theorem factsK {P : Program} {w : World} {K : PySem.W.Frag} {h : Heap} {mg : Str → Option Value} {f : Addr} (X : K.In h) (G : h.Ns mainGlobals mg) (hfa : mg ("law" : Str) = some (.ref f)) (ce : (xsK.all (errB K) && owK.all (owB K)) = true) (c : He.SaysD faK fnK K) :
    ∃ fd : FuncData, (∀ (s : Shared) (v : Value), BindsTo s fd ⟨[v], []⟩ [("_law_script", v)]) ∧ ∀ base : Heap, K.In base → base.Ns mainGlobals mg → FnG P w K mg base 11 f fd ["_law_script"] (spLaw K) := by
  obtain ⟨ce, co⟩ := Bool.and_eq_true_iff.mp ce
  have T : Bi mg := ⟨He.free_ok X G (c.fact 0 rfl), He.free_ok X G (c.fact 1 rfl), He.free_ok X G (c.fact 2 rfl), He.free_ok X G (c.fact 3 rfl), He.free_ok X G (c.fact 4 rfl), He.free_ok X G (c.fact 5 rfl), He.free_ok X G (c.fact 6 rfl), He.free_ok X G (c.fact 7 rfl), He.free_ok X G (c.fact 8 rfl), He.free_ok X G (c.fact 9 rfl), He.free_ok X G (c.fact 10 rfl)⟩
  have T2 : Bi2 mg := ⟨He.free_ok X G (c.fact 11 rfl), He.free_ok X G (c.fact 12 rfl), He.free_ok X G (c.fact 13 rfl), He.free_ok X G (c.fact 14 rfl)⟩
  obtain ⟨tMOST_PLACES, hMOST_PLACES⟩ := He.int_ok X G (c.fact 15 rfl)
  obtain ⟨tMOST_WIRES, hMOST_WIRES⟩ := He.int_ok X G (c.fact 16 rfl)
  obtain ⟨fdI, FI⟩ := c.def_ 0 (d := dI) rfl
  have FI : FunD K "__init__" "BlindError.__init__" (defArgs s_BlindError_init) (defBody s_BlindError_init) (defScope s_BlindError_init) [.non] [] (He.fAd K ("BlindError", some "__init__")) fdI := FI
  have bI : Binds K fdI ["self", "what"] [] := by
    obtain ⟨ds, r, b⟩ := FI.binds1 (ps := ["self", "what"]) 2 1 (by simp) rfl fun _ _ _ _ _ _ _ us its hu hi => match us, its, hu, hi with | [_, _], [_], _, _ => ⟨_, rfl, rfl⟩
    cases r
    exact b
  obtain ⟨fd0, F0⟩ := c.def_ 1 (d := plainD "_law_cell" s_law_cell) rfl
  have b0 : Binds K fd0 ["_law_script", "_law_k"] [] := FunD.bindsN F0 fun _ _ _ _ _ _ us hl => match us, hl with | [_, _], _ => rfl
  have g0 := He.glo_ok X G (c.fact 17 rfl)
  obtain ⟨fd1, F1⟩ := c.def_ 2 (d := plainD "_law_source" s_law_source) rfl
  have b1 : Binds K fd1 ["_law_script", "_law_k"] [] := FunD.bindsN F1 fun _ _ _ _ _ _ us hl => match us, hl with | [_, _], _ => rfl
  have g1 := He.glo_ok X G (c.fact 18 rfl)
  obtain ⟨fd2, F2⟩ := c.def_ 3 (d := plainD "_law_draw" s_law_draw) rfl
  have b2 : Binds K fd2 ["_law_source_here", "_law_many"] [] := FunD.bindsN F2 fun _ _ _ _ _ _ us hl => match us, hl with | [_, _], _ => rfl
  have g2 := He.glo_ok X G (c.fact 19 rfl)
  obtain ⟨fd3, F3⟩ := c.def_ 4 (d := plainD "mask_of" s_mask_of) rfl
  have b3 : Binds K fd3 ["lot"] [] := FunD.bindsN F3 fun _ _ _ _ _ _ us hl => match us, hl with | [_], _ => rfl
  have g3 := He.glo_ok X G (c.fact 20 rfl)
  obtain ⟨fd4, F4⟩ := c.def_ 5 (d := plainD "lot_of" s_lot_of) rfl
  have b4 : Binds K fd4 ["mask"] [] := FunD.bindsN F4 fun _ _ _ _ _ _ us hl => match us, hl with | [_], _ => rfl
  have g4 := He.glo_ok X G (c.fact 21 rfl)
  obtain ⟨fd5, F5⟩ := c.def_ 6 (d := plainD "is_number" s_is_number) rfl
  have b5 : Binds K fd5 ["value"] [] := FunD.bindsN F5 fun _ _ _ _ _ _ us hl => match us, hl with | [_], _ => rfl
  have g5 := He.glo_ok X G (c.fact 22 rfl)
  obtain ⟨fd6, F6⟩ := c.def_ 7 (d := plainD "is_between" s_is_between) rfl
  have b6 : Binds K fd6 ["value", "least", "most"] [] := FunD.bindsN F6 fun _ _ _ _ _ _ us hl => match us, hl with | [_, _, _], _ => rfl
  have g6 := He.glo_ok X G (c.fact 23 rfl)
  obtain ⟨fd7, F7⟩ := c.def_ 8 (d := plainD "is_bit" s_is_bit) rfl
  have b7 : Binds K fd7 ["value"] [] := FunD.bindsN F7 fun _ _ _ _ _ _ us hl => match us, hl with | [_], _ => rfl
  have g7 := He.glo_ok X G (c.fact 24 rfl)
  obtain ⟨fd8, F8⟩ := c.def_ 9 (d := plainD "need_size" s_need_size) rfl
  have b8 : Binds K fd8 ["size"] [] := FunD.bindsN F8 fun _ _ _ _ _ _ us hl => match us, hl with | [_], _ => rfl
  have g8 := He.glo_ok X G (c.fact 25 rfl)
  obtain ⟨fd9, F9⟩ := c.def_ 10 (d := plainD "is_lot" s_is_lot) rfl
  have b9 : Binds K fd9 ["value", "size"] [] := FunD.bindsN F9 fun _ _ _ _ _ _ us hl => match us, hl with | [_, _], _ => rfl
  have g9 := He.glo_ok X G (c.fact 26 rfl)
  obtain ⟨fd10, F10⟩ := c.def_ 11 (d := plainD "need_lot" s_need_lot) rfl
  have b10 : Binds K fd10 ["value", "size"] [] := FunD.bindsN F10 fun _ _ _ _ _ _ us hl => match us, hl with | [_, _], _ => rfl
  have g10 := He.glo_ok X G (c.fact 27 rfl)
  obtain ⟨fd11, F11⟩ := c.def_ 12 (d := plainD "plus" s_plus) rfl
  have b11 : Binds K fd11 ["one", "other"] [] := FunD.bindsN F11 fun _ _ _ _ _ _ us hl => match us, hl with | [_, _], _ => rfl
  have g11 := He.glo_ok X G (c.fact 28 rfl)
  obtain ⟨fd12, F12⟩ := c.def_ 13 (d := plainD "_common" s_common) rfl
  have b12 : Binds K fd12 ["one", "other"] [] := FunD.bindsN F12 fun _ _ _ _ _ _ us hl => match us, hl with | [_, _], _ => rfl
  have g12 := He.glo_ok X G (c.fact 29 rfl)
  obtain ⟨fd13, F13⟩ := c.def_ 14 (d := plainD "need_wires" s_need_wires) rfl
  have b13 : Binds K fd13 ["wires"] [] := FunD.bindsN F13 fun _ _ _ _ _ _ us hl => match us, hl with | [_], _ => rfl
  have g13 := He.glo_ok X G (c.fact 30 rfl)
  obtain ⟨fd14, F14⟩ := c.def_ 15 (d := plainD "is_pair" s_is_pair) rfl
  have b14 : Binds K fd14 ["value", "wires"] [] := FunD.bindsN F14 fun _ _ _ _ _ _ us hl => match us, hl with | [_, _], _ => rfl
  have g14 := He.glo_ok X G (c.fact 31 rfl)
  obtain ⟨fd15, F15⟩ := c.def_ 16 (d := plainD "is_look" s_is_look) rfl
  have b15 : Binds K fd15 ["value", "wires"] [] := FunD.bindsN F15 fun _ _ _ _ _ _ us hl => match us, hl with | [_, _], _ => rfl
  have g15 := He.glo_ok X G (c.fact 32 rfl)
  obtain ⟨fd16, F16⟩ := c.def_ 17 (d := plainD "need_look" s_need_look) rfl
  have b16 : Binds K fd16 ["value", "wires"] [] := FunD.bindsN F16 fun _ _ _ _ _ _ us hl => match us, hl with | [_, _], _ => rfl
  have g16 := He.glo_ok X G (c.fact 33 rfl)
  obtain ⟨fd17, F17⟩ := c.def_ 18 (d := plainD "together" s_together) rfl
  have b17 : Binds K fd17 ["one", "other"] [] := FunD.bindsN F17 fun _ _ _ _ _ _ us hl => match us, hl with | [_, _], _ => rfl
  have g17 := He.glo_ok X G (c.fact 34 rfl)
  obtain ⟨fd18, F18⟩ := c.def_ 19 (d := plainD "times" s_times) rfl
  have b18 : Binds K fd18 ["one", "other"] [] := FunD.bindsN F18 fun _ _ _ _ _ _ us hl => match us, hl with | [_, _], _ => rfl
  have g18 := He.glo_ok X G (c.fact 35 rfl)
  obtain ⟨fd19, F19⟩ := c.def_ 20 (d := plainD "_law_lot" s_law_lot) rfl
  have b19 : Binds K fd19 ["_law_mask_here"] [] := FunD.bindsN F19 fun _ _ _ _ _ _ us hl => match us, hl with | [_], _ => rfl
  have g19 := He.glo_ok X G (c.fact 36 rfl)
  obtain ⟨fd20, F20⟩ := c.def_ 21 (d := plainD "_law_mask" s_law_mask) rfl
  have b20 : Binds K fd20 ["_law_lot_here"] [] := FunD.bindsN F20 fun _ _ _ _ _ _ us hl => match us, hl with | [_], _ => rfl
  have g20 := He.glo_ok X G (c.fact 37 rfl)
  obtain ⟨fd21, F21⟩ := c.def_ 22 (d := plainD "_law_ones" s_law_ones) rfl
  have b21 : Binds K fd21 ["_law_mask_here"] [] := FunD.bindsN F21 fun _ _ _ _ _ _ us hl => match us, hl with | [_], _ => rfl
  have g21 := He.glo_ok X G (c.fact 38 rfl)
  obtain ⟨fd22, F22⟩ := c.def_ 23 (d := plainD "_law_goes" s_law_goes) rfl
  have b22 : Binds K fd22 ["_law_first", "_law_second"] [] := FunD.bindsN F22 fun _ _ _ _ _ _ us hl => match us, hl with | [_, _], _ => rfl
  have g22 := He.glo_ok X G (c.fact 39 rfl)
  obtain ⟨fd23, F23⟩ := c.def_ 24 (d := plainD "_law_shaped" s_law_shaped) rfl
  have b23 : Binds K fd23 ["_law_source_here", "_law_earlier"] [] := FunD.bindsN F23 fun _ _ _ _ _ _ us hl => match us, hl with | [_, _], _ => rfl
  have g23 := He.glo_ok X G (c.fact 40 rfl)
  obtain ⟨fd24, F24⟩ := c.def_ 25 (d := plainD "_law_suits" s_law_suits) rfl
  have b24 : Binds K fd24 ["_law_code", "_law_earlier"] [] := FunD.bindsN F24 fun _ _ _ _ _ _ us hl => match us, hl with | [_, _], _ => rfl
  have g24 := He.glo_ok X G (c.fact 41 rfl)
  obtain ⟨fd25, F25⟩ := c.def_ 26 (d := plainD "_law_fitted" s_law_fitted) rfl
  have b25 : Binds K fd25 ["_law_code", "_law_earlier"] [] := FunD.bindsN F25 fun _ _ _ _ _ _ us hl => match us, hl with | [_, _], _ => rfl
  have g25 := He.glo_ok X G (c.fact 42 rfl)
  obtain ⟨fd26, F26⟩ := c.def_ 27 (d := plainD "_law_drawn_looks" s_law_drawn_looks) rfl
  have b26 : Binds K fd26 ["_law_source_here"] [] := FunD.bindsN F26 fun _ _ _ _ _ _ us hl => match us, hl with | [_], _ => rfl
  have g26 := He.glo_ok X G (c.fact 43 rfl)
  obtain ⟨fd27, F27⟩ := c.def_ 28 (d := plainD "_law_moved" s_law_moved) rfl
  have b27 : Binds K fd27 ["_law_look", "_law_start"] [] := FunD.bindsN F27 fun _ _ _ _ _ _ us hl => match us, hl with | [_, _], _ => rfl
  have g27 := He.glo_ok X G (c.fact 44 rfl)
  obtain ⟨fd28, F28⟩ := c.def_ 29 (d := plainD "_law_moved_by_all" s_law_moved_by_all) rfl
  have b28 : Binds K fd28 ["_law_looks", "_law_index"] [] := FunD.bindsN F28 fun _ _ _ _ _ _ us hl => match us, hl with | [_, _], _ => rfl
  have g28 := He.glo_ok X G (c.fact 45 rfl)
  obtain ⟨fd29, F29⟩ := c.def_ 30 (d := plainD "_law_expected" s_law_expected) rfl
  have b29 : Binds K fd29 ["_law_looks"] [] := FunD.bindsN F29 fun _ _ _ _ _ _ us hl => match us, hl with | [_], _ => rfl
  have g29 := He.glo_ok X G (c.fact 46 rfl)
  obtain ⟨fd30, F30⟩ := c.def_ 31 (d := plainD "_law_orders_hold" s_law_orders_hold) rfl
  have b30 : Binds K fd30 ["_law_looks", "_law_expected_here"] [] := FunD.bindsN F30 fun _ _ _ _ _ _ us hl => match us, hl with | [_, _], _ => rfl
  have g30 := He.glo_ok X G (c.fact 47 rfl)
  obtain ⟨fd31, F31⟩ := c.def_ 32 (d := plainD "_law_facts_hold" s_law_facts_hold) rfl
  have b31 : Binds K fd31 ["_law_looks", "_law_expected_here"] [] := FunD.bindsN F31 fun _ _ _ _ _ _ us hl => match us, hl with | [_, _], _ => rfl
  have g31 := He.glo_ok X G (c.fact 48 rfl)
  obtain ⟨fd32, F32⟩ := c.def_ 33 (d := plainD "law" s_law) rfl
  have eL := hfa.symm.trans (He.glo_ok X G (c.fact 49 rfl))
  cases eL
  have bL := FunD.bindsA (ps := ["_law_script"]) F32 fun _ _ _ _ _ _ us hl => match us, hl with | [_], _ => rfl
  refine ⟨fd32, fun s v => bL s [v] rfl, fun base hK hN => ?_⟩
  have EBadSize : ErrC P w K mg base "BadSize" (He.ga K "BadSize") := errB_ok X G (err_of ce 0) (ok_init FI) bI
  have EBadLot : ErrC P w K mg base "BadLot" (He.ga K "BadLot") := errB_ok X G (err_of ce 1) (ok_init FI) bI
  have EBadLook : ErrC P w K mg base "BadLook" (He.ga K "BadLook") := errB_ok X G (err_of ce 2) (ok_init FI) bI
  have EBadLooks : ErrC P w K mg base "BadLooks" (He.ga K "BadLooks") := errB_ok X G (err_of ce 3) (ok_init FI) bI
  have D__law_cell := DefOk.mk (x := "_law_cell") ⟨_, fd0, ok_law_cell (P := P) (w := w) (base := base) T T2 F0, g0, F0.kp, b0⟩
  have D__law_source := DefOk.mk (x := "_law_source") ⟨_, fd1, ok_law_source (P := P) (w := w) (base := base) T D__law_cell F1, g1, F1.kp, b1⟩
  have D__law_draw := DefOk.mk (x := "_law_draw") ⟨_, fd2, ok_law_draw (P := P) (w := w) (base := base) T F2, g2, F2.kp, b2⟩
  have X__law_draw := cv_law_draw (ad := He.ga K) D__law_draw
  have X_mask_of := DefOk.mk (x := "mask_of") ⟨_, fd3, DL.ok_mask_of (P := P) (w := w) (base := base) (ad := He.ga K) F3, g3, F3.kp, b3⟩
  have X_lot_of := DefOk.mk (x := "lot_of") ⟨_, fd4, DL.ok_lot_of (P := P) (w := w) (base := base) (ad := He.ga K) T F4, g4, F4.kp, b4⟩
  have X_is_number := DefOk.mk (x := "is_number") ⟨_, fd5, DL.ok_is_number (P := P) (w := w) (base := base) (ad := He.ga K) T F5, g5, F5.kp, b5⟩
  have X_is_between := DefOk.mk (x := "is_between") ⟨_, fd6, DL.ok_is_between (P := P) (w := w) (base := base) (ad := He.ga K) X_is_number F6, g6, F6.kp, b6⟩
  have X_is_bit := DefOk.mk (x := "is_bit") ⟨_, fd7, DL.ok_is_bit (P := P) (w := w) (base := base) (ad := He.ga K) X_is_between F7, g7, F7.kp, b7⟩
  have X_need_size := DefOk.mk (x := "need_size") ⟨_, fd8, DL.ok_need_size (P := P) (w := w) (base := base) (ad := He.ga K) X_is_between EBadSize hMOST_PLACES F8, g8, F8.kp, b8⟩
  have X_is_lot := DefOk.mk (x := "is_lot") ⟨_, fd9, DL.ok_is_lot (P := P) (w := w) (base := base) (ad := He.ga K) T X_is_number X_need_size F9, g9, F9.kp, b9⟩
  have X_need_lot := DefOk.mk (x := "need_lot") ⟨_, fd10, DL.ok_need_lot (P := P) (w := w) (base := base) (ad := He.ga K) X_is_lot EBadLot F10, g10, F10.kp, b10⟩
  have X_plus := DefOk.mk (x := "plus") ⟨_, fd11, DL.ok_plus (P := P) (w := w) (base := base) (ad := He.ga K) X_lot_of X_mask_of X_need_lot hMOST_PLACES F11, g11, F11.kp, b11⟩
  have X__common := DefOk.mk (x := "_common") ⟨_, fd12, DL.ok_common (P := P) (w := w) (base := base) (ad := He.ga K) T F12, g12, F12.kp, b12⟩
  have X_need_wires := DefOk.mk (x := "need_wires") ⟨_, fd13, DL.ok_need_wires (P := P) (w := w) (base := base) (ad := He.ga K) X_is_between EBadSize hMOST_WIRES F13, g13, F13.kp, b13⟩
  have X_is_pair := DefOk.mk (x := "is_pair") ⟨_, fd14, DL.ok_is_pair (P := P) (w := w) (base := base) (ad := He.ga K) T X_is_lot F14, g14, F14.kp, b14⟩
  have X_is_look := DefOk.mk (x := "is_look") ⟨_, fd15, DL.ok_is_look (P := P) (w := w) (base := base) (ad := He.ga K) T X_is_bit X_is_pair X_need_wires F15, g15, F15.kp, b15⟩
  have X_need_look := DefOk.mk (x := "need_look") ⟨_, fd16, DL.ok_need_look (P := P) (w := w) (base := base) (ad := He.ga K) X_is_look EBadLook F16, g16, F16.kp, b16⟩
  have X_together := DefOk.mk (x := "together") ⟨_, fd17, DL.ok_together (P := P) (w := w) (base := base) (ad := He.ga K) X__common X_need_look hMOST_WIRES F17, g17, F17.kp, b17⟩
  have X_times := DefOk.mk (x := "times") ⟨_, fd18, DL.ok_times (P := P) (w := w) (base := base) (ad := He.ga K) X__common X_plus X_together EBadLooks F18, g18, F18.kp, b18⟩
  have X__law_lot := DefOk.mk (x := "_law_lot") ⟨_, fd19, DL.ok_law_lot (P := P) (w := w) (base := base) (ad := He.ga K) T F19, g19, F19.kp, b19⟩
  have X__law_mask := DefOk.mk (x := "_law_mask") ⟨_, fd20, DL.ok_law_mask (P := P) (w := w) (base := base) (ad := He.ga K) T2 F20, g20, F20.kp, b20⟩
  have X__law_ones := DefOk.mk (x := "_law_ones") ⟨_, fd21, DL.ok_law_ones (P := P) (w := w) (base := base) (ad := He.ga K) T T2 F21, g21, F21.kp, b21⟩
  have X__law_goes := DefOk.mk (x := "_law_goes") ⟨_, fd22, DL.ok_law_goes (P := P) (w := w) (base := base) (ad := He.ga K) X__law_ones F22, g22, F22.kp, b22⟩
  have X__law_shaped := DefOk.mk (x := "_law_shaped") ⟨_, fd23, DL.ok_law_shaped (P := P) (w := w) (base := base) (ad := He.ga K) T X__law_draw F23, g23, F23.kp, b23⟩
  have X__law_suits := DefOk.mk (x := "_law_suits") ⟨_, fd24, DL.ok_law_suits (P := P) (w := w) (base := base) (ad := He.ga K) T2 X__law_goes F24, g24, F24.kp, b24⟩
  have X__law_fitted := DefOk.mk (x := "_law_fitted") ⟨_, fd25, DL.ok_law_fitted (P := P) (w := w) (base := base) (ad := He.ga K) T X__law_suits F25, g25, F25.kp, b25⟩
  have X__law_drawn_looks := DefOk.mk (x := "_law_drawn_looks") ⟨_, fd26, DL.ok_law_drawn_looks (P := P) (w := w) (base := base) (ad := He.ga K) T X__law_draw X__law_fitted X__law_lot X__law_shaped F26, g26, F26.kp, b26⟩
  have X__law_moved := DefOk.mk (x := "_law_moved") ⟨_, fd27, DL.ok_law_moved (P := P) (w := w) (base := base) (ad := He.ga K) X__law_mask X__law_ones F27, g27, F27.kp, b27⟩
  have X__law_moved_by_all := DefOk.mk (x := "_law_moved_by_all") ⟨_, fd28, DL.ok_law_moved_by_all (P := P) (w := w) (base := base) (ad := He.ga K) T X__law_moved F28, g28, F28.kp, b28⟩
  have X__law_expected := DefOk.mk (x := "_law_expected") ⟨_, fd29, DL.ok_law_expected (P := P) (w := w) (base := base) (ad := He.ga K) T X__law_lot X__law_mask X__law_moved X__law_moved_by_all F29, g29, F29.kp, b29⟩
  have X__law_orders_hold := DefG.mk (x := "_law_orders_hold") ⟨_, fd30, DL.ok_law_orders_hold (P := P) (w := w) (base := base) (ad := He.ga K) T X_times F30, g30, F30.kp, b30⟩
  have X__law_facts_hold := DefG.mk (x := "_law_facts_hold") ⟨_, fd31, DL.ok_law_facts_hold (P := P) (w := w) (base := base) (ad := He.ga K) T X_times F31, g31, F31.kp, b31⟩
  exact DL.ok_law (ad := He.ga K) T X__law_draw X__law_drawn_looks X__law_expected X__law_facts_hold X__law_moved X__law_moved_by_all X__law_orders_hold D__law_source F32
end BT
open PySem PySem.W PySem.Calls PyProof.Rows
theorem PySem.Challenge.cw_blindtwins_k63_whole_three_factors_holds : PySem.Challenge.rw_blindtwins_k63_whole_three_factors.Holds := by
  w_on; o_law
  refine HandSHeadRun.head_any (r := OpenLaw.row PySem.Challenge.rw_blindtwins_k63_whole_three_factors) (q := view (OpenLaw.row PySem.Challenge.rw_blindtwins_k63_whole_three_factors).prog [44]) (H := BT.hkK) (ob := BT.obK) (M := 4000) (loose := BT.looseK) (d := HandSHeadRun.topDef (OpenLaw.row PySem.Challenge.rw_blindtwins_k63_whole_three_factors).prog 44) (kwd := []) BT.obK_eq
    (by kernel_rfl) (fun s => by kernel_rfl) BT.runK (by kernel_rfl) (by kernel_rfl) (by kernel_rfl) (by rfl) (by first | assumption | decide +kernel) (by decide +kernel) ⟨rfl, rfl, rfl, rfl, rfl, by decide +kernel⟩ ?hw ?hc
  case hw => w_witness2
  case hc =>
    refine BT.walk_G (l := PySem.Challenge.rw_blindtwins_k63_whole_three_factors) (n := 63) (k := 11) (x := "_law_script") rfl (by decide) (by kernel_rfl) ⟨rfl, by decide, by decide⟩ ?F
    intro w mg fa h Y G hmg0
    obtain ⟨K, KX, ce, c⟩ := Y
    have hmg : mg ("law" : PySem.Str) = some (.ref fa) := by
      have e : (HandSHeadRun.topDef (OpenLaw.row PySem.Challenge.rw_blindtwins_k63_whole_three_factors).prog 44).name = ("law" : PySem.Str) := by kernel_rfl
      rw [← e]
      exact hmg0
    obtain ⟨fd, hb, hF⟩ := BT.factsK (P := (PySem.Challenge.rw_blindtwins_k63_whole_three_factors).prog) (w := w) KX G hmg ce c
    exact ⟨K, fd, DL.spLaw K, KX, hb, fun H a ns hl hS => ⟨a, ns, rfl, hS, fun _ => rfl⟩, hF⟩

