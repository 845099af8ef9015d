import PyProof.Rows.All
import Wide.All
import OpenK.AllK
import Wide.FinOn
import PyProof.FString3
import PyProof.Rows.StrIntSpec
import PyProof.EqAt
import PyProof.EqKinds
import PyProof.TupleCall
import HandS.ForExc
import HandS.Comp
import HandS.Iter
import HandS.Dict
import HandS.Walk
import HandS.IsInst
import HandS.ExcInit
import HandS.ExcField
import HandS.WideBits
import HandS.TupAny
import HandS.Deep
import HandS.Conv
import HandS.FStr
import HandS.Text
import HandS.Defaults
import HandS.ExcOwn
import KE.BitLaws
import KE.OsArith
import KE.KStateDown
import HandS.Ends
import HandS.Head0
import HandS.Head1
import HandS.Head2
import HandS.HeadHook1
import HandS.HeadHook2
import PyProof.Rows.BitMore
import KE.KSortKey
import HandS.SortKw
import HandS.Keys
import PyProof.Draws
import PyProof.EnumMake
import KE.GoesMore
import HandS.CallSlots
import KE.SortCalls
import HandS.SortInts
import PyProof.TupleOfSeq
import HandS.Exc
import HandS.WordsDict
import HandS.Style
import HandS.SlotsOwn
import KE.SortData
import HandS.Codes
import PySem.Challenge.RW_blindtwins_k03_whole_words
set_option linter.all false
namespace BT
/-! ### masks and lots -/
theorem or_and_add : ∀ (a b : Nat), (a ||| b) + (a &&& b) = a + b := by
  intro a
  induction a using Nat.strongRecOn with
  | _ a ih =>
    intro b
    by_cases h : a = 0
    · subst h; simp
    · have ih' := ih (a / 2) (by omega) (b / 2)
      have e1 : (a ||| b) = 2 * (a / 2 ||| b / 2) + ((a % 2) ||| (b % 2)) := by
        apply Nat.eq_of_testBit_eq
        intro i
        cases i with
        | zero =>
          simp [Nat.testBit_zero, Nat.or_mod_two_eq_one, Nat.add_mod, Nat.mul_mod]
        | succ i =>
          rw [Nat.testBit_succ, Nat.testBit_succ]
          have : (2 * (a / 2 ||| b / 2) + (a % 2 ||| b % 2)) / 2 = (a / 2 ||| b / 2) := by
            rcases Nat.mod_two_eq_zero_or_one a with h1 | h1 <;> rcases Nat.mod_two_eq_zero_or_one b with h2 | h2 <;> simp [h1, h2] <;> omega
          rw [this, Nat.or_div_two]
      have e2 : (a &&& b) = 2 * (a / 2 &&& b / 2) + ((a % 2) &&& (b % 2)) := by
        apply Nat.eq_of_testBit_eq
        intro i
        cases i with
        | zero =>
          simp [Nat.testBit_zero, Nat.and_mod_two_eq_one, Nat.add_mod, Nat.mul_mod]
        | succ i =>
          rw [Nat.testBit_succ, Nat.testBit_succ]
          have : (2 * (a / 2 &&& b / 2) + (a % 2 &&& b % 2)) / 2 = (a / 2 &&& b / 2) := by
            rcases Nat.mod_two_eq_zero_or_one a with h1 | h1 <;> rcases Nat.mod_two_eq_zero_or_one b with h2 | h2 <;> simp [h1, h2] <;> omega
          rw [this, Nat.and_div_two]
      rw [e1, e2]
      rcases Nat.mod_two_eq_zero_or_one a with h1 | h1 <;> rcases Nat.mod_two_eq_zero_or_one b with h2 | h2 <;> simp [h1, h2] <;> omega
theorem xor_and_add : ∀ (a b : Nat), (a ^^^ b) + 2 * (a &&& b) = a + b := by
  intro a b
  have h := or_and_add a b
  have e : (a ||| b) = (a ^^^ b) ||| (a &&& b) := by
    apply Nat.eq_of_testBit_eq
    intro i
    simp only [Nat.testBit_or, Nat.testBit_xor, Nat.testBit_and]
    cases a.testBit i <;> cases b.testBit i <;> rfl
  have d : (a ^^^ b) &&& (a &&& b) = 0 := by
    apply Nat.eq_of_testBit_eq
    intro i
    simp only [Nat.testBit_and, Nat.testBit_xor, Nat.zero_testBit]
    cases a.testBit i <;> cases b.testBit i <;> rfl
  have h2 := or_and_add (a ^^^ b) (a &&& b)
  rw [d] at h2
  omega
/-- the mask of a lot -/
def maskN (l : List Nat) : Nat := l.foldl (fun m p => m ||| 2 ^ p) 0
theorem maskN_nil : maskN [] = 0 := rfl
theorem maskN_snoc (l : List Nat) (p : Nat) : maskN (l ++ [p]) = maskN l ||| 2 ^ p := by
  unfold maskN; rw [List.foldl_append]; rfl
theorem testBit_foldl : ∀ (l : List Nat) (m i : Nat), (l.foldl (fun m p => m ||| 2 ^ p) m).testBit i = (m.testBit i || decide (i ∈ l))
  | [], m, i => by simp
  | p :: l, m, i => by
    rw [List.foldl_cons, testBit_foldl l, Nat.testBit_or, Nat.testBit_two_pow]
    by_cases h : p = i
    · subst h; simp
    · have h' : ¬ i = p := fun e => h e.symm
      simp [h, h']
theorem testBit_maskN (l : List Nat) (i : Nat) : (maskN l).testBit i = decide (i ∈ l) := by
  unfold maskN; rw [testBit_foldl]; simp
theorem maskN_lt {l : List Nat} {n : Nat} (h : ∀ p ∈ l, p < n) : maskN l < 2 ^ n := by
  apply Nat.lt_pow_two_of_testBit
  intro i hi
  rw [testBit_maskN]
  exact decide_eq_false fun hm => by have := h i hm; omega
/-- the lot of a mask, looked for below n -/
def lotB (n m : Nat) : List Nat := (List.range n).filter m.testBit
theorem lotB_mem {n m p : Nat} : p ∈ lotB n m ↔ p < n ∧ m.testBit p = true := by unfold lotB; simp
theorem lotB_asc (n m : Nat) : (lotB n m).Pairwise (· < ·) := List.Pairwise.filter _ List.pairwise_lt_range
theorem asc_ext : ∀ {a b : List Nat}, a.Pairwise (· < ·) → b.Pairwise (· < ·) → (∀ p, p ∈ a ↔ p ∈ b) → a = b
  | [], [], _, _, _ => rfl
  | [], y :: b, _, _, h => absurd ((h y).mpr (List.mem_cons_self ..)) (by simp)
  | x :: a, [], _, _, h => absurd ((h x).mp (List.mem_cons_self ..)) (by simp)
  | x :: a, y :: b, ha, hb, h => by
    have ha' := List.pairwise_cons.mp ha
    have hb' := List.pairwise_cons.mp hb
    have e : x = y := by
      have h1 := (h x).mp (List.mem_cons_self ..)
      have h2 := (h y).mpr (List.mem_cons_self ..)
      rcases List.mem_cons.mp h1 with e | e
      · exact e
      · rcases List.mem_cons.mp h2 with e2 | e2
        · exact e2.symm
        · have := hb'.1 x e
          have := ha'.1 y e2
          omega
    subst e
    rw [asc_ext ha'.2 hb'.2 fun p => ?_]
    constructor
    · intro hp
      rcases List.mem_cons.mp ((h p).mp (List.mem_cons_of_mem _ hp)) with e | e
      · have := ha'.1 p hp; omega
      · exact e
    · intro hp
      rcases List.mem_cons.mp ((h p).mpr (List.mem_cons_of_mem _ hp)) with e | e
      · have := hb'.1 p hp; omega
      · exact e
theorem lotB_more {n k m : Nat} (hm : m < 2 ^ n) (h : n ≤ k) : lotB k m = lotB n m := by
  refine asc_ext (lotB_asc _ _) (lotB_asc _ _) fun p => ?_
  rw [lotB_mem, lotB_mem]
  constructor
  · rintro ⟨h1, h2⟩
    refine ⟨?_, h2⟩
    refine Nat.lt_of_not_le fun hp => ?_
    rw [Nat.testBit_lt_two_pow (Nat.lt_of_lt_of_le hm (Nat.pow_le_pow_right (by omega) hp))] at h2
    cases h2
  · rintro ⟨h1, h2⟩
    exact ⟨by omega, h2⟩
theorem lotB_same {n k m : Nat} (hn : m < 2 ^ n) (hk : m < 2 ^ k) : lotB n m = lotB k m := by
  rcases Nat.le_total n k with h | h
  · exact (lotB_more hn h).symm
  · exact lotB_more hk h
theorem lotB_maskN {l : List Nat} {n : Nat} (ha : l.Pairwise (· < ·)) (h : ∀ p ∈ l, p < n) : lotB n (maskN l) = l := by
  refine asc_ext (lotB_asc _ _) ha fun p => ?_
  rw [lotB_mem, testBit_maskN]
  simp
  exact fun hp => h p hp
/-- the number of bits -/
def bitsN (m : Nat) : Nat := if m = 0 then 0 else m.log2 + 1
theorem lt_bitsN (m : Nat) : m < 2 ^ bitsN m := by
  unfold bitsN
  by_cases h : m = 0
  · subst h; simp
  · rw [if_neg h]; exact Nat.lt_log2_self
theorem bitsN_le {m n : Nat} (h : m < 2 ^ n) : bitsN m ≤ n := by
  unfold bitsN
  by_cases h0 : m = 0
  · simp [h0]
  · rw [if_neg h0]; exact (Nat.log2_lt h0).mpr h
/-- the lot of a mask -/
def lotN (m : Nat) : List Nat := lotB (bitsN m) m
theorem lotN_eq {n m : Nat} (h : m < 2 ^ n) : lotN m = lotB n m := lotB_same (lt_bitsN m) h
theorem lotN_asc (m : Nat) : (lotN m).Pairwise (· < ·) := lotB_asc _ _
theorem lotN_lt {n m : Nat} (h : m < 2 ^ n) : ∀ p ∈ lotN m, p < n := fun p hp => by
  rw [lotN_eq h] at hp; exact (lotB_mem.mp hp).1
theorem mem_lotN {m p : Nat} : p ∈ lotN m ↔ m.testBit p = true := by
  unfold lotN
  rw [lotB_mem]
  constructor
  · exact fun h => h.2
  · intro h
    refine ⟨Nat.lt_of_not_le fun hp => ?_, h⟩
    rw [Nat.testBit_lt_two_pow (Nat.lt_of_lt_of_le (lt_bitsN m) (Nat.pow_le_pow_right (by omega) hp))] at h
    cases h
theorem lotN_maskN {l : List Nat} (ha : l.Pairwise (· < ·)) : lotN (maskN l) = l := by
  refine asc_ext (lotN_asc _) ha fun p => ?_
  rw [mem_lotN, testBit_maskN]; simp
theorem maskN_lotN (m : Nat) : maskN (lotN m) = m := by
  apply Nat.eq_of_testBit_eq
  intro i
  rw [testBit_maskN]
  by_cases h : m.testBit i = true
  · rw [h]; exact decide_eq_true (mem_lotN.mpr h)
  · have h' : m.testBit i = false := by simpa using h
    rw [h']; exact decide_eq_false fun q => h (mem_lotN.mp q)
/-! ### the number of ones -/
def pop (m : Nat) : Nat := (lotN m).length
theorem range_succ_map (n : Nat) : List.range (n + 1) = 0 :: (List.range n).map Nat.succ := List.range_succ_eq_map
theorem lotB_succ (n m : Nat) : lotB (n + 1) m = (if m % 2 = 1 then [0] else []) ++ (lotB n (m / 2)).map Nat.succ := by
  unfold lotB
  rw [range_succ_map, List.filter_cons]
  have e : (List.map Nat.succ (List.range n)).filter m.testBit = ((List.range n).filter (m / 2).testBit).map Nat.succ := by
    rw [List.filter_map]
    congr 1
    apply List.filter_congr
    intro x _
    simp [Function.comp, Nat.testBit_succ]
  rw [e]
  have e0 : m.testBit 0 = decide (m % 2 = 1) := Nat.testBit_zero m
  rw [e0]
  by_cases h : m % 2 = 1 <;> simp [h]
theorem pop_zero : pop 0 = 0 := rfl
theorem pop_step (m : Nat) : pop m = m % 2 + pop (m / 2) := by
  have h1 : m < 2 ^ (bitsN (m / 2) + 1) := by
    have := lt_bitsN (m / 2)
    rw [Nat.pow_succ]; omega
  unfold pop
  rw [lotN_eq h1, lotB_succ, List.length_append, List.length_map, lotN_eq (lt_bitsN (m / 2))]
  rcases Nat.mod_two_eq_zero_or_one m with h | h <;> simp [h]
/-- the ones among the binary digits -/
theorem count_digits (m : Nat) : (Nat.toDigits 2 m).count '1' = pop m := by
  induction m using Nat.strongRecOn with
  | _ m ih =>
    by_cases h : m < 2
    · rcases (by omega : m = 0 ∨ m = 1) with rfl | rfl
      · rfl
      · decide
    · have e : Nat.toDigits 2 m = Nat.toDigits 2 (m / 2) ++ Nat.toDigits 2 (m % 2) := by
        rw [Nat.toDigits_append_toDigits (by omega) (by omega) (by omega)]
        congr 1
        omega
      rw [e, List.count_append, ih (m / 2) (by omega), ih (m % 2) (by omega), pop_step m]
      rcases Nat.mod_two_eq_zero_or_one m with h2 | h2
      · rw [h2]; show pop (m / 2) + 0 = 0 + pop (m / 2); omega
      · rw [h2]; have : pop 1 = 1 := by decide
        rw [this]; omega
/-- the common places of two lots, counted -/
theorem pop_and {a b : List Nat} (ha : a.Pairwise (· < ·)) : pop (maskN a &&& maskN b) = (a.filter fun p => decide (p ∈ b)).length := by
  unfold pop
  congr 1
  refine asc_ext (lotN_asc _) (ha.filter _) fun p => ?_
  rw [mem_lotN, Nat.testBit_and, testBit_maskN, testBit_maskN]
  simp
/-! ### sums -/
/-- in how many of the lots the place is -/
def oftenL (lots : List (List Nat)) (p : Nat) : Nat := (lots.map fun l => l.count p).sum
def xorL (lots : List (List Nat)) : Nat := lots.foldl (fun m l => m ^^^ maskN l) 0
theorem xorL_snoc (ls : List (List Nat)) (l : List Nat) : xorL (ls ++ [l]) = xorL ls ^^^ maskN l := by
  unfold xorL; rw [List.foldl_append]; rfl
theorem asc_nodup {l : List Nat} (h : l.Pairwise (· < ·)) : l.Nodup := h.imp fun hab => by omega
theorem asc_count {l : List Nat} (h : l.Pairwise (· < ·)) (p : Nat) : l.count p = if p ∈ l then 1 else 0 := by
  by_cases hm : p ∈ l
  · rw [if_pos hm]
    have h1 : l.count p ≤ 1 := List.nodup_iff_count.mp (asc_nodup h) p
    have h2 := List.count_pos_iff.mpr hm
    omega
  · rw [if_neg hm]; exact List.count_eq_zero.mpr hm
theorem testBit_xorF : ∀ (ls : List (List Nat)) (m i : Nat), (∀ l ∈ ls, l.Pairwise (· < ·)) →
    (ls.foldl (fun m l => m ^^^ maskN l) m).testBit i = decide (((if m.testBit i then 1 else 0) + oftenL ls i) % 2 = 1)
  | [], m, i, _ => by
    cases h : m.testBit i <;> simp [h, oftenL]
  | l :: ls, m, i, h => by
    rw [List.foldl_cons, testBit_xorF ls _ i fun l' hl => h l' (List.mem_cons_of_mem _ hl), Nat.testBit_xor, testBit_maskN]
    have e : oftenL (l :: ls) i = (if i ∈ l then 1 else 0) + oftenL ls i := by
      unfold oftenL
      rw [List.map_cons, List.sum_cons, asc_count (h l (List.mem_cons_self ..))]
    rw [e]
    by_cases hi : i ∈ l <;> cases hm : m.testBit i <;> simp [hi, hm] <;> omega
theorem testBit_xorL {ls : List (List Nat)} (h : ∀ l ∈ ls, l.Pairwise (· < ·)) (i : Nat) : (xorL ls).testBit i = decide (oftenL ls i % 2 = 1) := by
  unfold xorL; rw [testBit_xorF ls 0 i h]; simp
theorem xorF_lt {n : Nat} : ∀ (ls : List (List Nat)) (m : Nat), m < 2 ^ n → (∀ l ∈ ls, ∀ p ∈ l, p < n) → ls.foldl (fun m l => m ^^^ maskN l) m < 2 ^ n
  | [], m, hm, _ => hm
  | l :: ls, m, hm, h => xorF_lt ls _ (Nat.xor_lt_two_pow hm (maskN_lt (h l (List.mem_cons_self ..)))) fun l' hl => h l' (List.mem_cons_of_mem _ hl)
theorem xorL_lt {n : Nat} {ls : List (List Nat)} (h : ∀ l ∈ ls, ∀ p ∈ l, p < n) : xorL ls < 2 ^ n := xorF_lt ls 0 (Nat.two_pow_pos n) h
/-- the sum as the law counts it -/
theorem lotN_xorL {n : Nat} {ls : List (List Nat)} (ha : ∀ l ∈ ls, l.Pairwise (· < ·)) (h : ∀ l ∈ ls, ∀ p ∈ l, p < n) :
    lotN (xorL ls) = (List.range n).filter fun p => decide (oftenL ls p % 2 = 1) := by
  rw [lotN_eq (xorL_lt h)]
  unfold lotB
  apply List.filter_congr
  intro p _
  exact testBit_xorL ha p
end BT

set_option Elab.async false
set_option linter.all false
set_option maxRecDepth 100000
set_option maxHeartbeats 2000000
namespace BT
open PySem PySem.Spec PyProof.Rows Builtin Builtin.Float
/-- the binary digits of a number as a text -/
def binText (n : Nat) : Str := ⟨((Nat.toDigits 2 n).map Char.toNat).toArray⟩
section
variable {prog : Program} {w : World} {A : Around} {E : Value → Shared → Prop} {s : Shared}
def fB : FormatSpec := { align := 62, type := some 98 }
theorem fB_eq : parseFormatSpec (Str.ofString "b").cps.toList "int" 62 = .ok fB := by rfl
theorem binText_len {n k : Nat} (h : n < 2 ^ k) (hk : 1 ≤ k) : (binText n).length ≤ k := by
  show ((Nat.toDigits 2 n).map Char.toNat).toArray.size ≤ k
  rw [List.size_toArray, List.length_map]
  induction k generalizing n with
  | zero => omega
  | succ k ih =>
    by_cases h2 : n < 2
    · rw [Nat.toDigits_of_lt_base h2]; show 1 ≤ k + 1; omega
    · have e : Nat.toDigits 2 n = Nat.toDigits 2 (n / 2) ++ Nat.toDigits 2 (n % 2) := by
        rw [Nat.toDigits_append_toDigits (by omega) (by omega) (by omega)]
        congr 1
        omega
      have hk1 : 1 ≤ k := by
        rcases Nat.eq_zero_or_pos k with e0 | e0
        · subst e0; exact absurd h h2
        · exact e0
      have q := ih (n := n / 2) (by rw [Nat.pow_succ] at h; omega) hk1
      rw [e, List.length_append, Nat.toDigits_of_lt_base (show n % 2 < 2 by omega)]
      show _ + 1 ≤ _
      omega
theorem ret_as {x y : Str} {Q : Fin → Shared → Prop} (e : x = y) (h : wpAny (model prog w) A (retStr y) Q E s) : wpAny (model prog w) A (retStr x) Q E s := e ▸ h
theorem fmt_b {n k : Nat} {t : Tok} {Q : Value → Shared → Prop} (hk : n < 2 ^ k) (h1 : 1 ≤ k) (hk2 : k ≤ 1000)
    (h : Q (.str (binText n) (s.toks + 1)) { s with toks := s.toks + 1 + 1 }) : wpAny (model prog w) A (formatField (.int (n : Int) t) (Str.ofString "b")) Q E s := by
  have hlen : (binText n).length ≤ sizeLine := Nat.le_trans (binText_len hk h1) (Nat.le_trans hk2 (by decide))
  have hb : (Str.ofString "b").length ≤ sizeLine := by decide
  show wpAny _ _ (holding [.int (n : Int) t] (pyFormat (.int (n : Int) t) (Str.ofString "b"))) Q E s
  apply wpAny_holding
  unfold pyFormat
  refine (wpAny_bind (wpAny_mkStr ?_ hb) :)
  refine (wpAny_bind (m := callSpecial? (.int (n : Int) t) (Str.ofString "__format__") [.str (Str.ofString "b") s.toks]) (wpAny_callSpecial?_slot (name := Str.ofString "__format__") (typeIs_int _ _ t) slot_int_format ?_) :)
  refine (wpAny_call (codeAny_call_builtin slot_int_format.plain entry_int_format (slot_int_format.check _ _ _ _ _ _ _ _ (typeIs_int _ _ t) (args_int_format _ _) ?_)) :)
  unfold Builtin.«int.__format__»
  have hne : ((Str.ofString "b").length == 0) = false := by decide
  have hasc : (((Str.ofString "b").cps.toList.drop 1).any (· ≥ 128) || ((Str.ofString "b").cps.getD 0 0 ≥ 128 && !([60, 62, 61, 94] : List Nat).contains ((Str.ofString "b").cps.getD 1 0))) = false := by decide
  simp only [selfAndOne, noKeywords, Int.intOfSelf, asInt?, asStr?, List.isEmpty_nil, if_true, pure_bind, bind_pure, bind_assoc, hne, hasc, Bool.false_eq_true, if_false,
    show (Value.str (Str.ofString "b") s.toks == Value.none) = false from rfl]
  refine (wpAny_bind (wpAny_typeNameOf (T := "str") (typeIs_str _ _ _) (by decide) fun _ => ?_) :)
  refine (wpAny_bind (wpAny_typeNameOfCut_int ?_) :)
  obtain ⟨f, hf⟩ : ∃ f : FormatSpec, f = fB := ⟨_, rfl⟩
  have hp : parseFormatSpec (Str.ofString "b").cps.toList "int" 62 = .ok f := by rw [hf]; exact fB_eq
  have f1 : f.type = some 98 := by rw [hf]; rfl
  have f2 : f.precision = none := by rw [hf]; rfl
  have f3 : f.noNeg0 = false := by rw [hf]; rfl
  have f4 : f.width = none := by rw [hf]; rfl
  simp only [hp, f1]
  rw [if_pos (by decide)]
  show wpAny _ _ (if _ then _ else _) _ _ _
  rw [if_neg (by simp [f2])]
  show wpAny _ _ (if _ then _ else _) _ _ _
  rw [if_neg (by simp [f3])]
  show wpAny _ _ (if _ then _ else _) _ _ _
  rw [if_neg (by decide)]
  show wpAny _ _ (if _ then _ else _) _ _ _
  rw [if_neg (by decide)]
  show wpAny _ _ (if _ then _ else _) _ _ _
  rw [if_neg (by simp [f4])]
  show wpAny _ _ (retStr _) _ _ _
  have hdig : (Nat.toDigits 2 n).isEmpty = false := by
    have q := tDigits_len_ge 2 n
    cases e : Nat.toDigits 2 n with
    | nil => rw [e] at q; simp at q
    | cons _ _ => rfl
  have hneg : decide ((n : Int) < 0) = false := decide_eq_false (by omega)
  refine ret_as (y := binText n) ?_ ?_
  · rw [hneg, hf]
    conv => lhs; whnf
    apply congrArg Str.mk
    apply congrArg List.toArray
    have hemp : Nat.toDigits 2 n ≠ [] := fun e => by rw [e] at hdig; cases hdig
    have e88 : (((some 98).getD (if ((Str.ofString "b").cps.back? == some 0) = true then 0 else 100) == 88) = true) ↔ False := by decide
    have e2 : ((n : Int).natAbs) = n := rfl
    simp [fB, hemp, e88, e2]
  unfold retStr
  refine wpAny_bind (wpAny_mkStr (wpAny_pure ?_) hlen)
  show wpAny _ _ (isInstance _ _ >>= _) _ _ _
  exact wpAny_bind (wpAny_isInstance (typeIs_str _ _ _) isSubtype_str_str (wpAny_pure h))
end
end BT

set_option Elab.async false
set_option linter.all false
set_option maxRecDepth 100000
set_option maxHeartbeats 2000000
namespace BT
open PySem PySem.Spec PyProof.Rows L2
/-! ### data that lies in the tracked heap -/
def kD : Key → PyData
  | .inl i => .int i
  | .inr x => .str x
mutual
inductive Dv (H : Hp) : V → PyData → Prop
  | non : Dv H .non .none
  | bl (b : Bool) : Dv H (.bl b) (.bool b)
  | int (i : Int) : Dv H (.int i) (.int i)
  | str (x : Str) : Dv H (.str x) (.str x)
  | lst {a : Addr} {xs : List V} {ds : List PyData} : H a = some (.lst xs) → DvA H xs ds → Dv H (.ref a) (.list ds)
  | tup {a : Addr} {xs : List V} {ds : List PyData} : H a = some (.tup xs) → DvA H xs ds → Dv H (.ref a) (.tuple ds)
  | dct {a : Addr} {kvs : List (Key × V)} {es : List (PyData × PyData)} : H a = some (.dK kvs) → DvK H kvs es → Dv H (.ref a) (.dict es)
inductive DvA (H : Hp) : List V → List PyData → Prop
  | nil : DvA H [] []
  | cons {v : V} {vs : List V} {d : PyData} {ds : List PyData} : Dv H v d → DvA H vs ds → DvA H (v :: vs) (d :: ds)
inductive DvK (H : Hp) : List (Key × V) → List (PyData × PyData) → Prop
  | nil : DvK H [] []
  | cons {k : Key} {v : V} {r : List (Key × V)} {d : PyData} {es : List (PyData × PyData)} : Dv H v d → DvK H r es → DvK H ((k, v) :: r) ((kD k, d) :: es)
end
mutual
theorem Dv.mono {H H' : Hp} (S : Same H H') : ∀ (d : PyData) (v : V), Dv H v d → Dv H' v d
  | .none, _, h => by cases h; exact .non
  | .bool b, _, h => by cases h; exact .bl b
  | .int i, _, h => by cases h; exact .int i
  | .str x, _, h => by cases h; exact .str x
  | .list ds, _, h => by
    cases h with
    | lst e a => exact .lst (S _ _ e) (DvA.mono S ds _ a)
  | .tuple ds, _, h => by
    cases h with
    | tup e a => exact .tup (S _ _ e) (DvA.mono S ds _ a)
  | .dict es, _, h => by
    cases h with
    | dct e a => exact .dct (S _ _ e) (DvK.mono S es _ a)
theorem DvA.mono {H H' : Hp} (S : Same H H') : ∀ (ds : List PyData) (vs : List V), DvA H vs ds → DvA H' vs ds
  | [], _, h => by cases h; exact .nil
  | d :: ds, _, h => by
    cases h with
    | cons h1 h2 => exact .cons (Dv.mono S d _ h1) (DvA.mono S ds _ h2)
theorem DvK.mono {H H' : Hp} (S : Same H H') : ∀ (es : List (PyData × PyData)) (vs : List (Key × V)), DvK H vs es → DvK H' vs es
  | [], _, h => by cases h; exact .nil
  | (_, d) :: es, _, h => by
    cases h with
    | cons h1 h2 => exact .cons (Dv.mono S d _ h1) (DvK.mono S es _ h2)
end
theorem DvA.append {H : Hp} : ∀ {xs : List V} {ds : List PyData} {ys : List V} {es : List PyData}, DvA H xs ds → DvA H ys es → DvA H (xs ++ ys) (ds ++ es)
  | _, _, _, _, .nil, h => h
  | _, _, _, _, .cons a r, h => .cons a (DvA.append r h)
theorem DvA.length {H : Hp} : ∀ {xs : List V} {ds : List PyData}, DvA H xs ds → xs.length = ds.length
  | _, _, .nil => rfl
  | _, _, .cons _ r => congrArg Nat.succ (DvA.length r)
theorem DvA.get {H : Hp} : ∀ {xs : List V} {ds : List PyData} {i : Nat} {v : V}, DvA H xs ds → xs[i]? = some v → ∃ d, ds[i]? = some d ∧ Dv H v d
  | _, _, _, _, .nil, h => by simp at h
  | _, _, 0, v, .cons (d := d) a r, h => ⟨d, rfl, by have e : _ = v := Option.some.inj h; rw [← e]; exact a⟩
  | _, _, i + 1, v, .cons a r, h => by
    obtain ⟨d, h1, h2⟩ := DvA.get (i := i) r h
    exact ⟨d, h1, h2⟩
/-! ### lots -/
/-- a lot as values, as data -/
def lotV (l : List Nat) : List V := l.map fun p : Nat => .int (p : Int)
def lotD (l : List Nat) : PyData := .tuple (l.map fun p : Nat => .int (p : Int))
theorem lotA (H : Hp) : ∀ l : List Nat, DvA H (lotV l) (l.map fun p : Nat => PyData.int (p : Int))
  | [] => .nil
  | p :: l => .cons (.int _) (lotA H l)
theorem Dv.lot {H : Hp} {a : Addr} {l : List Nat} (h : H a = some (.tup (lotV l))) : Dv H (.ref a) (lotD l) := .tup h (lotA H l)
/-! ### what holds no lists, what no dicts -/
mutual
def hasList : PyData → Bool
  | .none | .bool _ | .int _ | .str _ => false
  | .list _ => true
  | .tuple xs => hasListA xs
  | .dict kvs => hasListK kvs
def hasListA : List PyData → Bool
  | [] => false
  | x :: xs => hasList x || hasListA xs
def hasListK : List (PyData × PyData) → Bool
  | [] => false
  | (_, v) :: r => hasList v || hasListK r
end
section
variable {X : Cx} {pins : List (Addr × Obj)} {σ : L2.St} {H : Hp} {s : Shared}
theorem pairs_reads {h : Heap} {w : World} {P : Program} : ∀ (ds : List (PyData × PyData)) {es : List DictEntry} {vs : List (Key × Value)} {kvs : List (Key × V)}, Pairs (mixKind P w) es vs → KV kvs vs → DvK H kvs ds →
    ReadsAll h (es.map (·.key)) (ds.map (·.1)) [] ∧ es.map (·.val) = vs.map (·.2)
  | [], es, vs, kvs, hp, r, a => by
    cases a
    cases r
    cases hp
    exact ⟨.nil, rfl⟩
  | (kd, d) :: ds, es, vs, kvs, hp, r, a => by
    cases a with
    | cons a1 a2 =>
      cases r with
      | cons r1 r2 =>
        cases hp with
        | cons hk hv hp2 =>
          rename_i k v kvr q vr e er
          obtain ⟨h1, h2⟩ := pairs_reads ds hp2 r2 a2
          obtain ⟨qk, qv⟩ := q
          obtain ⟨rk, _⟩ := r1
          have rk' : k = qk := rk
          subst rk'
          refine ⟨?_, ?_⟩
          · have hk' : keyIs k e.key = true := hk
            rcases keyIs_shape hk' with ⟨i, t, e1, e2⟩ | ⟨x, t, e1, e2⟩
            · subst e1
              show ReadsAll h (e.key :: _) (PyData.int i :: _) ([] ++ [])
              rw [e2]
              exact .cons (.int i t) h1
            · subst e1
              show ReadsAll h (e.key :: _) (PyData.str x :: _) ([] ++ [])
              rw [e2]
              exact .cons (.str x t) h1
          · show e.val :: _ = qv :: _
            rw [h2, hv]
mutual
theorem Dv.reads (I : Inv X pins σ H s) : ∀ (d : PyData) (v : V) (u : Value), Dv H v d → RelV v u → ∃ as, Reads s.heap u d as ∧ (hasList d = false → sysModules ∉ as)
  | .none, _, _, h, r => by cases h; cases r; exact ⟨_, .none, fun _ => by simp⟩
  | .bool b, _, _, h, r => by cases h; cases r; exact ⟨_, .bool b, fun _ => by simp⟩
  | .int i, _, _, h, r => by cases h; obtain ⟨t, rfl⟩ := r; exact ⟨_, .int i t, fun _ => by simp⟩
  | .str x, _, _, h, r => by cases h; obtain ⟨t, rfl⟩ := r; exact ⟨_, .str x t, fun _ => by simp⟩
  | .list ds, _, _, h, r => by
    cases h with
    | lst hs ha =>
      cases r
      obtain ⟨its, rv, ⟨o, n, ho, hc, _, hd⟩, _⟩ := I.list (.inl (.inl hs))
      obtain ⟨as, hr, _⟩ := Dv.readsAll I ds _ its ha rv
      exact ⟨_, .list ho hc hd hr, fun z => by simp [hasList] at z⟩
  | .tuple ds, _, _, h, r => by
    cases h with
    | tup hs ha =>
      cases r
      obtain ⟨its, rv, ⟨o, ho, hc, n, hd⟩, _⟩ := I.tuple (.inl (.inl hs))
      obtain ⟨as, hr, hn⟩ := Dv.readsAll I ds _ its ha rv
      exact ⟨_, .tuple ho hc hd hr, fun z => hn (by simpa [hasList] using z)⟩
  | .dict es, _, _, h, r => by
    cases h with
    | dct hs ha =>
      cases r
      obtain ⟨_, hm, vs, kv, o, ens, ep, ho, hx, hd, _, hp, _⟩ := (show ObjOk X.prog X.w H s.heap _ (.dK _) from I.hok _ _ hs)
      obtain ⟨h1, h2⟩ := pairs_reads (h := s.heap) _ hp kv ha
      obtain ⟨bs, h3, h4⟩ := Dv.readsK I es _ vs ha kv
      refine ⟨_, .dict ho hx.1 hd h1 (by rw [h2]; exact h3), fun z hb => ?_⟩
      have hne := beq_eq_false_iff_ne.mp hm
      rcases List.mem_append.mp hb with hb | hb
      · rcases List.mem_cons.mp hb with e | e
        · exact hne e.symm
        · simp at e
      · exact h4 (by simpa [hasList] using z) hb
theorem Dv.readsAll (I : Inv X pins σ H s) : ∀ (ds : List PyData) (vs : List V) (us : List Value), DvA H vs ds → Vals vs us → ∃ as, ReadsAll s.heap us ds as ∧ (hasListA ds = false → sysModules ∉ as)
  | [], _, _, h, r => by cases h; cases r; exact ⟨_, .nil, fun _ => by simp⟩
  | d :: ds, _, _, h, r => by
    cases h with
    | cons h1 h2 =>
      cases r with
      | cons r1 r2 =>
        obtain ⟨as, q1, n1⟩ := Dv.reads I d _ _ h1 r1
        obtain ⟨bs, q2, n2⟩ := Dv.readsAll I ds _ _ h2 r2
        refine ⟨_, .cons q1 q2, fun z hb => ?_⟩
        simp only [hasListA, Bool.or_eq_false_iff] at z
        rcases List.mem_append.mp hb with hb | hb
        · exact n1 z.1 hb
        · exact n2 z.2 hb
theorem Dv.readsK (I : Inv X pins σ H s) : ∀ (es : List (PyData × PyData)) (kvs : List (Key × V)) (vs : List (Key × Value)), DvK H kvs es → KV kvs vs → ∃ as, ReadsAll s.heap (vs.map (·.2)) (es.map (·.2)) as ∧ (hasListK es = false → sysModules ∉ as)
  | [], _, _, h, r => by cases h; cases r; exact ⟨_, .nil, fun _ => by simp⟩
  | (_, d) :: es, _, _, h, r => by
    cases h with
    | cons h1 h2 =>
      cases r with
      | cons r1 r2 =>
        obtain ⟨as, q1, n1⟩ := Dv.reads I d _ _ h1 r1.2
        obtain ⟨bs, q2, n2⟩ := Dv.readsK I es _ _ h2 r2
        refine ⟨_, .cons q1 q2, fun z hb => ?_⟩
        simp only [hasListK, Bool.or_eq_false_iff] at z
        rcases List.mem_append.mp hb with hb | hb
        · exact n1 z.1 hb
        · exact n2 z.2 hb
end
end
/-! ### the size of the text of data -/
def strOk (x : Str) : Bool := x.cps.toList.all fun c => decide (c < 16 ^ 8)
mutual
def okI : PyData → Bool
  | .none | .bool _ => true
  | .int i => decide (i.natAbs < 10 ^ 40)
  | .str x => strOk x
  | .list xs | .tuple xs => okIA xs
  | .dict kvs => okIK kvs
def okIA : List PyData → Bool
  | [] => true
  | x :: xs => okI x && okIA xs
def okIK : List (PyData × PyData) → Bool
  | [] => true
  | (k, v) :: r => okI k && okI v && okIK r
end
mutual
def dW : PyData → Nat
  | .none => 4
  | .bool _ => 5
  | .int _ => 41
  | .str x => 10 * x.length + 2
  | .list xs | .tuple xs => dWA xs + 3
  | .dict kvs => dWK kvs + 2
def dWA : List PyData → Nat
  | [] => 0
  | x :: xs => dW x + 2 + dWA xs
def dWK : List (PyData × PyData) → Nat
  | [] => 0
  | (k, v) :: r => dW k + dW v + 4 + dWK r
end
theorem join_le : ∀ ts : List Str, (Str.join ", " ts).length ≤ piled ts
  | [] => Nat.zero_le _
  | t :: ts => by have := join_length_add (t :: ts) (by simp); omega
theorem len1 : (("(" : String) : Str).length = 1 := rfl
theorem len2 : (("{" : String) : Str).length = 1 := rfl
theorem len3 : (("}" : String) : Str).length = 1 := rfl
theorem len4 : ((": " : String) : Str).length = 2 := rfl
theorem len5 : (("[" : String) : Str).length = 1 := rfl
theorem len6 : (("]" : String) : Str).length = 1 := rfl
theorem tupleText_le (ts : List Str) : (tupleText ts).length ≤ piled ts + 3 := by
  have e3 : (((if ts.length == 1 then ",)" else ")" : String) : Str)).length ≤ 2 := by split <;> decide
  have := join_le ts
  unfold tupleText
  rw [strLen_append, strLen_append, len1]
  omega
theorem dictText_le (ts : List Str) : (dictText ts).length ≤ piled ts + 2 := by
  have := join_le ts
  unfold dictText
  rw [strLen_append, strLen_append, len2, len3]
  omega
theorem listText_le (ts : List Str) : (listText ts).length ≤ piled ts + 2 := by
  unfold listText
  rw [strLen_append, len6]
  cases ts with
  | nil => decide
  | cons t ts =>
    show (textFrom (0 + 1) _ ts).length + 1 ≤ _
    rw [textFrom_length_pos ts (0 + 1) _ (by omega), strLen_append, strLen_append, len5]
    show 1 + 0 + t.length + piled ts + 1 ≤ (t.length + 2) + piled ts + 2
    omega
theorem piled_cons' (t : Str) (ts : List Str) : piled (t :: ts) = t.length + 2 + piled ts := by simp [piled]
theorem strOk_of {x : Str} (h : strOk x = true) : ∀ c ∈ x.cps.toList, c < 16 ^ 8 := fun c hc => of_decide_eq_true (List.all_eq_true.mp h c hc)
theorem int_shown {i : Int} (h : i.natAbs < 10 ^ 40) : (Str.ofString (toString i)).length ≤ 41 := by
  rw [PySem.ofString_length]
  exact int_text_length_le10 (by decide) h
mutual
theorem shown_le : ∀ d : PyData, okI d = true → d.shown.length ≤ dW d
  | .none, _ => by decide
  | .bool b, _ => by cases b <;> decide
  | .int i, h => int_shown (of_decide_eq_true (by simpa only [okI] using h))
  | .str x, h => by
    simp only [PyData.shown, dW]
    exact StrLaws.reprText_len x (strOk_of (by simpa only [okI] using h))
  | .list xs, h => by
    have q := shownA_le xs (by simpa only [okI] using h)
    have := listText_le (PyData.shownAll xs)
    simp only [PyData.shown, dW]
    omega
  | .tuple xs, h => by
    have q := shownA_le xs (by simpa only [okI] using h)
    have := tupleText_le (PyData.shownAll xs)
    simp only [PyData.shown, dW]
    omega
  | .dict es, h => by
    have q := shownK_le es (by simpa only [okI] using h)
    have := dictText_le (PyData.shownKv es)
    simp only [PyData.shown, dW]
    omega
theorem shownA_le : ∀ ds : List PyData, okIA ds = true → piled (PyData.shownAll ds) ≤ dWA ds
  | [], _ => Nat.le_refl _
  | d :: ds, h => by
    simp only [okIA, Bool.and_eq_true] at h
    have h1 := shown_le d h.1
    have h2 := shownA_le ds h.2
    simp only [PyData.shownAll, dWA]
    rw [piled_cons']
    omega
theorem shownK_le : ∀ es : List (PyData × PyData), okIK es = true → piled (PyData.shownKv es) ≤ dWK es
  | [], _ => Nat.le_refl _
  | (k, v) :: es, h => by
    simp only [okIK, Bool.and_eq_true] at h
    have h1 := shown_le k h.1.1
    have h2 := shown_le v h.1.2
    have h3 := shownK_le es h.2
    simp only [PyData.shownKv, dWK]
    rw [piled_cons', strLen_append, strLen_append, len4]
    omega
end
theorem log40 {i : Int} (h : i.natAbs < 10 ^ 40) : i.natAbs.log2 < 1920 := by
  by_cases h0 : i.natAbs = 0
  · rw [h0]; decide
  · exact (Nat.log2_lt h0).mpr (Nat.lt_trans h (by decide +kernel))
mutual
theorem showable_of : ∀ d : PyData, okI d = true → d.showable = true
  | .none, _ => rfl
  | .bool _, _ => rfl
  | .int i, h => by
    simp only [okI] at h
    simp only [PyData.showable]
    exact decide_eq_true (log40 (of_decide_eq_true h))
  | .str _, _ => rfl
  | .list xs, h => by
    simp only [PyData.showable]
    exact showableA_of xs (by simpa only [okI] using h)
  | .tuple xs, h => by
    simp only [PyData.showable]
    exact showableA_of xs (by simpa only [okI] using h)
  | .dict es, h => by
    simp only [PyData.showable]
    exact showableK_of es (by simpa only [okI] using h)
theorem showableA_of : ∀ ds : List PyData, okIA ds = true → PyData.showableAll ds = true
  | [], _ => rfl
  | d :: ds, h => by
    simp only [okIA, Bool.and_eq_true] at h
    simp only [PyData.showableAll, Bool.and_eq_true]
    exact ⟨showable_of d h.1, showableA_of ds h.2⟩
theorem showableK_of : ∀ es : List (PyData × PyData), okIK es = true → PyData.showableKv es = true
  | [], _ => rfl
  | (k, v) :: es, h => by
    simp only [okIK, Bool.and_eq_true] at h
    simp only [PyData.showableKv, Bool.and_eq_true]
    exact ⟨⟨showable_of k h.1.1, showable_of v h.1.2⟩, showableK_of es h.2⟩
end
/-- data whose text is short: n, a bound of it -/
structure Sm (n : Nat) (d : PyData) : Prop where
  ok : okI d = true
  w : dW d ≤ n
  dp : d.depth ≤ 40
  dl : d.hasDict = true → hasList d = false
/-- data that repr can take -/
structure Sr (d : PyData) : Prop where
  ok : okI d = true
  w : dW d ≤ 1000000
  dp : d.depth ≤ 60
  dl : d.hasDict = true → hasList d = false
theorem Sm.mono {n m : Nat} {d : PyData} (h : Sm n d) (l : n ≤ m) : Sm m d := ⟨h.ok, Nat.le_trans h.w l, h.dp, h.dl⟩
theorem Sm.sr {n : Nat} {d : PyData} (h : Sm n d) (l : n ≤ 1000000) : Sr d := ⟨h.ok, Nat.le_trans h.w l, by have := h.dp; omega, h.dl⟩
section
variable {X : Cx}
/-- repr(x), x a tuple (or another object) of short data -/
def rRepr : List V → Hp → VK → Prop := fun xs H Q => ∃ (a : Addr) (d : PyData), xs = [.ref a] ∧ Dv H (.ref a) d ∧ Sr d ∧ Q (.str d.shown) H
theorem call_repr (hg : X.A.guards = some []) (hu : X.A.units + 64 < cLine) : CallR X (.builtin "repr") rRepr := by
  intro pins s σ H xs us Q I r h
  obtain ⟨a, d, rfl, hd, sm, q⟩ := h
  obtain ⟨u, rfl, r1⟩ := vals1 r
  cases (show u = Value.ref a from r1)
  obtain ⟨as, rd, hn⟩ := Dv.reads I d (.ref a) (.ref a) hd rfl
  have hz : d.shown.length ≤ sizeLine := by
    have h1 := shown_le d sm.ok
    have h2 := sm.w
    rw [sizeLine_eq]
    omega
  refine repr_of_reads' rd (showable_of d sm.ok) (fun z => hn (sm.dl z)) hg (by have := sm.dp; omega) (fun _ _ e => e) (fun h' u tk k => ?_) hz
  exact ⟨.str d.shown, H, I.kept (h' := h') (t' := tk) k, ⟨u, rfl⟩, q⟩
/-- f'{n:b}' -/
def tFmtB (te : TE) : TE := fun σ H Q => te σ H fun x H1 => ∃ (n k : Nat), x = .int (n : Int) ∧ n < 2 ^ k ∧ 1 ≤ k ∧ k ≤ 1000 ∧ Q (.str (binText n)) H1
theorem pe_fmtB {e : Expr} {te : TE} {j : Nat} {p1 p2 p3 : Pos} (he : PE X e te) : PE X (.JoinedStr [.FormattedValue e (-1) (some (.JoinedStr [.Constant (.str (Str.ofString "b")) j p1] p2)) p3] pos) (tFmtB te) := by
  refine pe_joined1 ⟨fun pins s σ H Q I h => ?_⟩
  refine wpAny_FormattedValue_spec (thn (he.run pins s σ H _ I h) fun v s1 hv => ?_)
  obtain ⟨x, H1, I1, r1, n, k, rfl, hk, h1, h2, q⟩ := hv
  obtain ⟨t, rfl⟩ := r1
  refine thn ((pe_joined1 (pe_str (x := Str.ofString "b"))).run pins s1 σ H1 (fun v H' => v = .str (Str.ofString "b") ∧ Q (.str (binText n)) H') I1 ⟨rfl, q⟩) fun u s2 hu => ?_
  obtain ⟨y, H2, I2, r2, rfl, q2⟩ := hu
  obtain ⟨t2, rfl⟩ := r2
  exact ⟨_, _, rfl, fmt_b hk h1 h2 ⟨.str (binText n), H2, I2.tok _, ⟨_, rfl⟩, q2⟩⟩
end
end BT

set_option Elab.async false
set_option linter.all false
set_option maxRecDepth 100000
set_option maxHeartbeats 2000000
namespace BT
open PySem PySem.Spec PyProof.Rows L2
/-! ### defs that want to know that no repr is under way: as FnOk, with that one premise more -/
structure FnG (P : Program) (w : World) (K : PySem.W.Frag) (mg : Str → Option Value) (base : Heap) (k : Nat) (f : Addr) (fd : FuncData) (ps : List Str) (sp : Sp) : Prop where
  many : ∀ vs H Q E, sp vs H Q E → vs.length = ps.length
  goes : ∀ (A : Around) (outer : List Env) (s : Shared) (H : Hp) (args : Args) (us : List Value) (vs : List V) (Q : VK), Room k A → A.guards = some [] → Env0 P w K mg base A outer s H → BindsTo s fd args (ps.zip us) → Vals vs us → sp vs H Q E0 →
    codeAny (model P w) A (.call (.ref f) args) (CR CX0 outer P w H s Q E0) s
section
variable {P : Program} {w : World} {K : PySem.W.Frag} {mg : Str → Option Value} {base : Heap}
theorem fn_ofG {k : Nat} {f : Addr} {nm qual : Str} {pr : Arguments} {bd : List Stmt} {sc : Scope} {dV kV dc pm cdv ct oc : Value} {an od : Option Addr}
    {sl : Array (Option Value)} {N ps : List Str} {sp : Sp} (lk : K.lookup f = some ⟨oc, od, .func (PySem.W.fnOf nm qual pr bd sc dV kV dc pm an cdv ct), sl⟩) (hcd : PySem.W.codeIn K cdv qual = true) (S : FnScope N ps sc)
    (many : ∀ vs H Q E, sp vs H Q E → vs.length = ps.length)
    (hbody : ∀ (A : Around) (outer : List Env) (s : Shared) (H : Hp) (vs : List V) (Q : VK), Room k (A.deeper (envOfC qual sc s.heap.objs.size f cdv)) → A.guards = some [] → sp vs H Q E0 →
      ∃ t, PSs (cxOf CX0 P w K mg base N qual sc f cdv A outer s H E0) bd t ∧ t { nx := fun _ H' => Q .non H', rt := Q } (start N vs) H) :
    FnG P w K mg base (k + 1) f (PySem.W.fnOf nm qual pr bd sc dV kV dc pm an cdv ct) ps sp := by
  refine ⟨many, fun A outer s H args us vs Q room gd e0 bind rel hsp => ?_⟩
  have hlen := many _ _ _ _ hsp
  have keepB : ∀ b o, base.get? b = some o → s.heap.get? b = some o := fun b o e => (e0.bs b o e).1
  have KX : K.In s.heap := e0.mod.kin.keeps keepB
  have noLim : s.heap.NoLimit := e0.mod.nolimit.keeps keepB
  have kinds : ∀ y ∈ ps.zip us, sc.names.lookup y.1 = some .local ∨ (sc.names.lookup y.1 = some .cell ∧ ((cellsFrom (s.heap.objs.size + 1) sc.names []).lookup y.1).isSome = true) := by
    rintro ⟨n, v⟩ hy
    have hn := (List.of_mem_zip hy).1
    rcases S.par n hn with q | q
    · left; exact q
    · right; exact ⟨q, PySem.W.cellsFrom_some _ _ _ (.inl q)⟩
  refine codeAny_call_function room.depth (KX _ _ lk) rfl S.co S.gen rfl (PySem.W.codeRec_of KX hcd) (bind _ _ _ _ ?g1)
  refine wpAny_newFunctionEnv_cells S.kind kinds (fun env he s1 x => ?g2)
  subst he
  refine And.intro (noLim.keeps x.toInCall.keep) (codeAny_func ?g3)
  obtain ⟨t, run, hq⟩ := hbody A outer s H vs Q (room.deeper _) gd hsp
  have I := inv_start (CX := CX0) (E := E0) S room.hd e0 hlen rel x
  refine wpAny_mono (run.run [] s1 (start N vs) H _ I hq) (fun fl s' out => ?g4) (fun _ _ out => out)
  have done : ∀ {τ : L2.St} {H' : Hp} {v : V} {u : Value}, Inv (cxOf CX0 P w K mg base N qual sc f cdv A outer s H E0) [] τ H' s' → RelV v u → Q v H' → CE outer P w H s Q u s' := by
    intro τ H' v u J rv q
    exact ⟨v, H', J.os, J.bare, J.base, J.hok, rv, q⟩
  cases fl with
  | brk => obtain ⟨_, _, _, q⟩ := out; exact q.elim
  | cont => obtain ⟨_, _, _, q⟩ := out; exact q.elim
  | next => obtain ⟨τ, H', J, q⟩ := out; exact done (v := V.non) (u := Value.none) J rfl q
  | ret u => obtain ⟨v, τ, H', J, rv, q⟩ := out; exact done J rv q
theorem Fun.okG {x qual : Str} {st : Stmt} {f : Addr} {fd : FuncData} {N ps : List Str} {k : Nat} {sp : Sp} (F : Fun K x qual st f fd) (S : FnScope N ps (defScope st)) (many : ∀ vs H Q E, sp vs H Q E → vs.length = ps.length)
    (hbody : ∀ (cdv : Value) (A : Around) (outer : List Env) (s : Shared) (H : Hp) (vs : List V) (Q : VK), Room k (A.deeper (envOfC qual (defScope st) s.heap.objs.size f cdv)) → A.guards = some [] → sp vs H Q E0 →
      ∃ t, PSs (cxOf CX0 P w K mg base N qual (defScope st) f cdv A outer s H E0).nox (defBody st) t ∧ t { nx := fun _ H' => Q .non H', rt := Q } (start N vs) H) : FnG P w K mg base (k + 1) f fd ps sp := by
  obtain ⟨oc, od, kV, dc, pm, an, cdv, ct, sl, e, lk, hcd⟩ := F.ex
  subst e
  refine fn_ofG lk hcd S many fun A outer s H vs Q room gd hsp => ?_
  obtain ⟨t, h, q⟩ := hbody cdv A outer s H vs Q room gd hsp
  exact ⟨t, h.nox, q⟩
end
section
variable {X : Cx} {k : Nat} {f : Addr} {fd : FuncData} {ps : List Str} {sp : Sp} {x : Str} {p pos : Pos} {e : Expr} {es : List Expr} {t : TA}
theorem run_fnG {pins : List (Addr × Obj)} {σ : L2.St} {H : Hp} {s : Shared} {Q : VK} {us : List Value} {vs : List V} (F : FnG X.prog X.w X.K X.mg X.base k f fd ps sp) (room : Room k X.A) (gd : X.A.guards = some []) (hb : Binds X.K fd ps [])
    (I : Inv X pins σ H s) (r : Vals vs us) (h : sp vs H Q E0) : wpAny (model X.prog X.w) X.A (call (.ref f) us) (EP X pins σ Q) X.xe s := by
  have many : us.length = ps.length := r.length.symm.trans (F.many _ _ _ _ h)
  have bt := hb s us I.kIn (by rw [List.append_nil]; exact many)
  rw [List.append_nil] at bt
  refine wpAny_call (codeAny_mono (F.goes X.A X.stack s H ⟨us, []⟩ us vs Q room gd I.env0 bt r h) fun res s' out => ?_)
  cases res with
  | error er => exact False.elim out
  | ok fl =>
    cases fl with
    | next => exact out.elim
    | brk => exact out.elim
    | cont => exact out.elim
    | ret u => exact I.after out
theorem pe_callG (F : FnG X.prog X.w X.K X.mg X.base k f fd ps sp) (room : Room k X.A) (gd : X.A.guards = some []) (hg : Gl X x) (hm : X.mg x = some (.ref f)) (hk : PySem.W.keepIn X.K (.ref f) = true) (hb : Binds X.K fd ps [])
    (ha : PA X (e :: es) t) (hdb : (x == ("__debug__" : Str)) = false := by decide) (he : starEach (e :: es) X.env = (false, eval e X.env) :: starEach es X.env := by rfl) (hpl : (backTo pos (starEach es X.env)).any (·.1) = false := by rfl) :
    PE X (.Call (.Name x p) (e :: es) [] pos) (fun σ H Q => t σ H fun vs H1 => sp vs H1 Q E0) := by
  refine ⟨fun pins s σ H Q I h => wpAny_Call_Name_kw (ld_glob I hg hm ?_ hdb)⟩
  refine PySem.W.callWith_K (h₀ := X.base) I.ok.mod.kin hk (thn (ha.run pos pins s σ H _ I h) fun us s1 out => ?_) he hpl
  obtain ⟨vs, H1, I1, r, q⟩ := out
  exact ⟨I1.kIn, run_fnG F room gd hb I1 r q⟩
end
end BT

set_option Elab.async false
set_option linter.all false
set_option maxRecDepth 100000
set_option maxHeartbeats 2000000
namespace BT
open PySem PySem.Spec PyProof.Rows L2
/-! ### heaps: the law's source of draws -/
theorem del_get {H : Hp} {a b : Addr} {o : HO} (h : L2.del H a b = some o) : b ≠ a ∧ H b = some o := by
  by_cases e : b = a
  · rw [e, del_same] at h; cases h
  · rw [del_ne e] at h; exact ⟨e, h⟩
/-- at a the source stands: the list at l with the script's numbers, and six numbers more -/
structure Src (l a : Addr) (H : Hp) : Prop where
  at_ : ∃ i b c cl n w : Int, 0 ≤ i ∧ H a = some (.lst [.ref l, .int i, .int b, .int c, .int cl, .int n, .int w])
  nums : ∃ ns : List Int, H l = some (.lst (ns.map V.int))
theorem Src.ne {l a : Addr} {H : Hp} (s : Src l a H) : l ≠ a := fun e => by
  obtain ⟨i, b, c, cl, n, w, _, h1⟩ := s.at_
  obtain ⟨ns, h2⟩ := s.nums
  rw [e, h1] at h2
  have h3 := Option.some.inj h2
  injection h3 with h4
  cases ns with
  | nil => cases h4
  | cons x r =>
    rw [List.map_cons] at h4
    injection h4 with h5 _
    cases h5
/-- behind some deeds that draw from the source at a: it stands as a source, all else stands as it stood -/
structure Keeps (l a : Addr) (H H' : Hp) : Prop where
  src : Src l a H'
  same : ∀ b o, b ≠ a → H b = some o → H' b = some o
theorem Keeps.refl {l a : Addr} {H : Hp} (s : Src l a H) : Keeps l a H H := ⟨s, fun _ _ _ h => h⟩
theorem Keeps.trans {l a : Addr} {H H1 H2 : Hp} (k : Keeps l a H H1) (j : Keeps l a H1 H2) : Keeps l a H H2 := ⟨j.src, fun b o n h => j.same b o n (k.same b o n h)⟩
theorem Keeps.del {l a : Addr} {H H' : Hp} (k : Keeps l a H H') : Same (L2.del H a) (L2.del H' a) := fun b o h => by
  obtain ⟨n, e⟩ := del_get h
  rw [del_ne n]
  exact k.same b o n e
theorem Keeps.of_same {l a : Addr} {H H' : Hp} (s : Src l a H) (k : Same H H') : Keeps l a H H' := by
  obtain ⟨i, b, c, cl, n, w, h0, h1⟩ := s.at_
  obtain ⟨ns, h2⟩ := s.nums
  exact ⟨⟨⟨i, b, c, cl, n, w, h0, k _ _ h1⟩, ⟨ns, k _ _ h2⟩⟩, fun b o _ h => k b o h⟩
theorem Src.free_ne {l a : Addr} {H : Hp} (s : Src l a H) {p : Addr} (h : H p = none) : p ≠ a ∧ p ≠ l := by
  obtain ⟨i, b, c, cl, n, w, h0, h1⟩ := s.at_
  obtain ⟨ns, h2⟩ := s.nums
  exact ⟨fun e => (by rw [e, h1] at h; cases h), fun e => (by rw [e, h2] at h; cases h)⟩
/-- an object that is new since H is laid or written -/
theorem Keeps.own {l a : Addr} {H H' : Hp} (s : Src l a H) (k : Keeps l a H H') {p : Addr} {o : HO} (h : H p = none) : Keeps l a H (upd H' p o) := by
  obtain ⟨n1, n2⟩ := s.free_ne h
  obtain ⟨i, b, c, cl, n, w, h0, h1⟩ := k.src.at_
  obtain ⟨ns, h2⟩ := k.src.nums
  refine ⟨⟨⟨i, b, c, cl, n, w, h0, by rw [upd_ne (Ne.symm n1)]; exact h1⟩, ⟨ns, by rw [upd_ne (Ne.symm n2)]; exact h2⟩⟩, fun q u hq e => ?_⟩
  rw [upd_ne (ne_of_none e h)]
  exact k.same q u hq e
theorem Keeps.free {l a : Addr} {H H' : Hp} (s : Src l a H) (k : Keeps l a H H') {p : Addr} (h : H' p = none) : H p = none := by
  cases e : H p with
  | none => rfl
  | some o =>
    by_cases q : p = a
    · obtain ⟨i, b, c, cl, n, w, h0, h1⟩ := k.src.at_
      rw [q, h1] at h; cases h
    · rw [k.same p o q e] at h; cases h
theorem Keeps.new {l a : Addr} {H H' : Hp} (s : Src l a H) (k : Keeps l a H H') {p : Addr} {o : HO} (h : H' p = none) : Keeps l a H (upd H' p o) := k.own s (k.free s h)
theorem Same.new {H H' : Hp} (k : Same H H') {p : Addr} {o : HO} (h : H' p = none) : Same H (upd H' p o) := fun b u e => by
  rw [upd_ne (ne_of_none (k b u e) h)]; exact k b u e
theorem Same.own {H H' : Hp} (k : Same H H') {p : Addr} {o : HO} (h : H p = none) : Same H (upd H' p o) := fun b u e => by
  rw [upd_ne (ne_of_none e h)]; exact k b u e
theorem Dv.keeps {l a : Addr} {H H' : Hp} {v : V} {d : PyData} (k : Keeps l a H H') (h : Dv (L2.del H a) v d) : Dv (L2.del H' a) v d := Dv.mono k.del d v h
theorem Dv.undel {a : Addr} {H : Hp} {v : V} {d : PyData} (h : Dv (L2.del H a) v d) : Dv H v d := Dv.mono (fun b o e => (del_get e).2) d v h
/-! ### a def that stands: its name, its promise -/
structure DefOk (P : Program) (w : World) (K : PySem.W.Frag) (mg : Str → Option Value) (base : Heap) (CX : CXT) (k : Nat) (x : Str) (ps : List Str) (sp : Sp) : Prop where
  ex : ∃ (f : Addr) (fd : FuncData), FnOk P w K mg base CX k f fd ps sp ∧ mg x = some (.ref f) ∧ PySem.W.keepIn K (.ref f) = true ∧ Binds K fd ps []
structure DefG (P : Program) (w : World) (K : PySem.W.Frag) (mg : Str → Option Value) (base : Heap) (k : Nat) (x : Str) (ps : List Str) (sp : Sp) : Prop where
  ex : ∃ (f : Addr) (fd : FuncData), FnG P w K mg base k f fd ps sp ∧ mg x = some (.ref f) ∧ PySem.W.keepIn K (.ref f) = true ∧ Binds K fd ps []
abbrev FnP (K : PySem.W.Frag) (x : Str) (st : Stmt) (f : Addr) (fd : FuncData) : Prop := FunD K x x (defArgs st) (defBody st) (defScope st) [] [] f fd
section
variable {P : Program} {w : World} {K : PySem.W.Frag} {mg : Str → Option Value} {base : Heap}
theorem okG_of {x : Str} {st : Stmt} {f : Addr} {fd : FuncData} {N ps : List Str} {k : Nat} {sp : Sp} (F : FnP K x st f fd) (S : FnScope N ps (defScope st)) (many : ∀ vs H Q E, sp vs H Q E → vs.length = ps.length)
    (hbody : ∀ (cdv : Value) (A : Around) (outer : List Env) (s : Shared) (H : Hp) (vs : List V) (Q : VK), Room k (A.deeper (envOfC x (defScope st) s.heap.objs.size f cdv)) → A.guards = some [] → sp vs H Q E0 →
      ∃ t, PSs (cxOf CX0 P w K mg base N x (defScope st) f cdv A outer s H E0).nox (defBody st) t ∧ t { nx := fun _ H' => Q .non H', rt := Q } (start N vs) H) : FnG P w K mg base (k + 1) f fd ps sp := by
  obtain ⟨oc, od, dV, kV, dc, pm, an, cdv, ct, sl, e, lk, hcd, _⟩ := F.ex
  subst e
  refine fn_ofG lk hcd S many fun A outer s H vs Q room gd hsp => ?_
  obtain ⟨t, h, q⟩ := hbody cdv A outer s H vs Q room gd hsp
  exact ⟨t, h.nox, q⟩
end
section
variable {X : Cx} {k j : Nat} {ps : List Str} {sp : Sp} {x : Str} {p pos : Pos} {e : Expr} {es : List Expr} {t : TA}
theorem pe_d (D : DefOk X.prog X.w X.K X.mg X.base CX0 k x ps sp) (hr : Room j X.A) (hg : Gl X x) (ha : PA X (e :: es) t) (hk : k ≤ j := by decide) (hdb : (x == ("__debug__" : Str)) = false := by decide)
    (he : starEach (e :: es) X.env = (false, eval e X.env) :: starEach es X.env := by rfl) (hpl : (backTo pos (starEach es X.env)).any (·.1) = false := by rfl) : PE X (.Call (.Name x p) (e :: es) [] pos) (tCall sp [] E0 t) := by
  obtain ⟨f, fd, F, hm, hkp, hb⟩ := D.ex
  exact pe_call F (hr.mono hk) hg hm hkp hb .nil pass0 ha hdb he hpl
theorem pe_dX {E : XK} (D : DefOk X.prog X.w X.K X.mg X.base (L2.CX X.prog X.w) k x ps sp) (hr : Room j X.A) (hg : Gl X x) (hx : Passes (L2.CX X.prog X.w) X E) (ha : PA X (e :: es) t) (hk : k ≤ j := by decide) (hdb : (x == ("__debug__" : Str)) = false := by decide)
    (he : starEach (e :: es) X.env = (false, eval e X.env) :: starEach es X.env := by rfl) (hpl : (backTo pos (starEach es X.env)).any (·.1) = false := by rfl) : PE X (.Call (.Name x p) (e :: es) [] pos) (tCall sp [] E t) := by
  obtain ⟨f, fd, F, hm, hkp, hb⟩ := D.ex
  exact pe_call F (hr.mono hk) hg hm hkp hb .nil hx ha hdb he hpl
/-- a def that may raise, called where nothing may be raised (its promise tells that it is not) -/
theorem pe_dN (D : DefOk X.prog X.w X.K X.mg X.base (L2.CX X.prog X.w) k x ps sp) (hr : Room j X.A) (hg : Gl X x) (ha : PA X (e :: es) t) (hk : k ≤ j := by decide) (hdb : (x == ("__debug__" : Str)) = false := by decide)
    (he : starEach (e :: es) X.env = (false, eval e X.env) :: starEach es X.env := by rfl) (hpl : (backTo pos (starEach es X.env)).any (·.1) = false := by rfl) : PE X (.Call (.Name x p) (e :: es) [] pos) (tCall sp [] E0 t) := pe_dX D hr hg passL ha hk hdb he hpl
theorem pe_dS {E : L2.St → XK} (D : DefOk X.prog X.w X.K X.mg X.base (L2.CX X.prog X.w) k x ps sp) (hr : Room j X.A) (hg : Gl X x) (hx : ∀ σ, PassesAt (L2.CX X.prog X.w) X σ (E σ)) (ha : PA X (e :: es) t) (hk : k ≤ j := by decide) (hdb : (x == ("__debug__" : Str)) = false := by decide)
    (he : starEach (e :: es) X.env = (false, eval e X.env) :: starEach es X.env := by rfl) (hpl : (backTo pos (starEach es X.env)).any (·.1) = false := by rfl) : PE X (.Call (.Name x p) (e :: es) [] pos) (tCallS sp E t) := by
  obtain ⟨f, fd, F, hm, hkp, hb⟩ := D.ex
  exact pe_callS F (hr.mono hk) hg hm hkp hb hx ha hdb he hpl
theorem pe_dG (D : DefG X.prog X.w X.K X.mg X.base k x ps sp) (hr : Room j X.A) (gd : X.A.guards = some []) (hg : Gl X x) (ha : PA X (e :: es) t) (hk : k ≤ j := by decide) (hdb : (x == ("__debug__" : Str)) = false := by decide)
    (he : starEach (e :: es) X.env = (false, eval e X.env) :: starEach es X.env := by rfl) (hpl : (backTo pos (starEach es X.env)).any (·.1) = false := by rfl) : PE X (.Call (.Name x p) (e :: es) [] pos) (fun σ H Q => t σ H fun vs H1 => sp vs H1 Q E0) := by
  obtain ⟨f, fd, F, hm, hkp, hb⟩ := D.ex
  exact pe_callG F (hr.mono hk) gd hg hm hkp hb ha hdb he hpl
end
/-! ### the package's errors: one __init__, its attribute what -/
def spInit (K : PySem.W.Frag) : Sp := fun vs H Q _ => ∃ (a C : Addr) (y : V), vs = [.ref a, y] ∧ OexC K C ∧ PySem.W.findIn K (.ref C) "what" = some none ∧ H a = some (exo a C none) ∧
  ∀ dx, H dx = none → dx ≠ a → Q .non (upd (upd H dx (exd dx [("what", y)])) a (exo a C (some dx)))
structure ErrC (P : Program) (w : World) (K : PySem.W.Frag) (mg : Str → Option Value) (base : Heap) (x : Str) (C : Addr) : Prop where
  g : mg x = some (.ref C)
  oex : OexC K C
  xf : XfC K C
  noW : PySem.W.findIn K (.ref C) "what" = some none
  exm : PySem.W.exmOne K (.ref C) (.ref C) = some true
  ini : ∃ (fI : Addr) (fd : FuncData), PySem.W.findIn K (.ref C) "__init__" = some (some (.ref fI)) ∧ PySem.W.typeIn K (.ref fI) = some (.type "function") ∧
    FnOk P w K mg base CX0 1 fI fd ["self", "what"] (spInit K) ∧ Binds K fd ["self", "what"] []
/-- a reading that may be weakened -/
def MonoE (te : TE) : Prop := ∀ (σ : L2.St) (H : Hp) (Q Q' : VK), (∀ v H', Q v H' → Q' v H') → te σ H Q → te σ H Q'
theorem mono_var (i : Nat) : MonoE (tVar i) := fun _ _ _ _ h ⟨v, e, q⟩ => ⟨v, e, h _ _ q⟩
theorem mono_int (i : Int) : MonoE (tC (.int i)) := fun _ _ _ _ h q => h _ _ q
theorem mono_neg (i : Int) : MonoE (tUn (rU fun i => .int (-i)) (tC (.int i))) := fun _ _ _ _ h ⟨j, e, q⟩ => ⟨j, e, h _ _ q⟩
theorem upd_comm_del {H : Hp} {a d : Addr} {u o1 o2 o3 : HO} (ha : H a = none) (hda : d ≠ a) : upd (L2.del (upd (upd (upd H a o1) d o2) a o3) a) d u = upd H d u := by
  funext b
  by_cases hb : b = d
  · rw [hb, upd_same, upd_same]
  · rw [upd_ne hb, upd_ne hb]
    by_cases hc : b = a
    · rw [hc, del_same, ha]
    · rw [del_ne hc, upd_ne hc, upd_ne hb, upd_ne hc]
section
variable {X : Cx} {k : Nat} {x : Str} {C : Addr} {e : Expr} {te : TE} {p pos p2 : Pos}
theorem pmk_err (D : ErrC X.prog X.w X.K X.mg X.base x C) (hr : Room k X.A) (hg : Gl X x) (he : PE X e te) (mono : MonoE te) (hk : 2 ≤ k := by decide)
    (hdb : (x == ("__debug__" : Str)) = false := by decide) (hs : starEach [e] X.env = (false, eval e X.env) :: starEach [] X.env := by rfl) (hpl : (backTo pos (starEach [] X.env)).any (·.1) = false := by rfl) :
    PMk X (.Call (.Name x p) [e] [] pos) (fun σ H Q => te σ H fun v H1 => ∀ d, H1 d = none → Q (.ref C) (some d) (upd H1 d (.xd [("what", v)]))) := by
  obtain ⟨fI, fd, iC, tI, F, hb⟩ := D.ini
  have q := pmk_oex (X := X) (CX := CX0) (x := x) (p := p) (pos := pos) (C := C) (e := e) (es := []) D.oex iC tI F (hr.mono hk) hb .nil pass0 hg D.g (pa_cons he pa_nil hs) hdb hs hpl
  intro pins s σ H Q I h
  refine q pins s σ H Q I (mono σ H _ _ (fun v H1 h1 => ?_) h)
  refine ⟨(by show 1 ≤ 1000; decide), fun a ha => ⟨a, C, v, rfl, D.oex, D.noW, upd_same, fun dx hd hne => ?_⟩⟩
  have hd1 : H1 dx = none := by rw [upd_ne hne] at hd; exact hd
  refine ⟨rfl, dx, [("what", v)], upd_same, by rw [upd_ne hne, upd_same], hd1, ?_⟩
  rw [upd_comm_del ha hne]
  exact h1 dx hd1
/-- raise X(e) in a def that errors leave -/
theorem ps_err {W : WX} (D : ErrC X.prog X.w X.K X.mg X.base x C) (hr : Room k X.A) (hc : X.calm = true) (tk : Takes X W) (hg : Gl X x) (he : PE X e te) (mono : MonoE te) (hk : 2 ≤ k := by decide)
    (hdb : (x == ("__debug__" : Str)) = false := by decide) (hs : starEach [e] X.env = (false, eval e X.env) :: starEach [] X.env := by rfl) (hpl : (backTo pos (starEach [] X.env)).any (·.1) = false := by rfl) :
    PS X (.Raise (some (.Call (.Name x p) [e] [] pos)) none p2) (fun _ σ H => te σ H fun v H1 => ∀ d, H1 d = none → W (.ref C) (some d) σ (upd H1 d (.xd [("what", v)]))) :=
  ps_raise hc tk (pmk_err D hr hg he mono hk hdb hs hpl)
end
/-! ### kinds of values -/
def tyD : PyData → String
  | .none => "NoneType"
  | .bool _ => "bool"
  | .int _ => "int"
  | .str _ => "str"
  | .list _ => "list"
  | .tuple _ => "tuple"
  | .dict _ => "dict"
theorem Dv.ty {K : PySem.W.Frag} {H : Hp} {v : V} {d : PyData} (h : Dv H v d) : TyX K H v (.type (tyD d)) := by
  cases h with
  | non => exact .base .non
  | bl b => exact .base (.bl b)
  | int i => exact .base (.int i)
  | str x => exact .base (.str x)
  | lst e _ => exact .base (.lst e)
  | tup e _ => exact .base (.tup e)
  | dct e _ => exact .base (.dK e)
def isS (T t : String) : Bool := t == T || (T == "int" && t == "bool")
def isD (T : String) (d : PyData) : Bool := isS T (tyD d)
def kinds : List String := ["NoneType", "bool", "int", "str", "list", "tuple", "dict"]
theorem tyD_mem (d : PyData) : tyD d ∈ kinds := by cases d <;> simp [tyD, kinds]
theorem kit_of {K : PySem.W.Frag} {T : String} (h : (kinds.all fun t => decide (kitB t T = some (isS T t))) = true) (d : PyData) : PySem.W.kitOne K (.type (tyD d)) (.type T) = some (isD T d) :=
  kit_ty (of_decide_eq_true (List.all_eq_true.mp h _ (tyD_mem d)))
theorem kit_int {K : PySem.W.Frag} (d : PyData) : PySem.W.kitOne K (.type (tyD d)) (.type "int") = some (isD "int" d) := kit_of (by decide +kernel) d
theorem kit_bool {K : PySem.W.Frag} (d : PyData) : PySem.W.kitOne K (.type (tyD d)) (.type "bool") = some (isD "bool" d) := kit_of (by decide +kernel) d
theorem kit_tuple {K : PySem.W.Frag} (d : PyData) : PySem.W.kitOne K (.type (tyD d)) (.type "tuple") = some (isD "tuple" d) := kit_of (by decide +kernel) d
theorem kit_list {K : PySem.W.Frag} (d : PyData) : PySem.W.kitOne K (.type (tyD d)) (.type "list") = some (isD "list" d) := kit_of (by decide +kernel) d
theorem kit_dict {K : PySem.W.Frag} (d : PyData) : PySem.W.kitOne K (.type (tyD d)) (.type "dict") = some (isD "dict" d) := kit_of (by decide +kernel) d
/-- isinstance(x, T), T a built-in class, x data -/
def rIsD (T : String) : List V → Hp → VK → Prop := fun xs H Q => ∃ (x : V) (d : PyData), xs = [x, .ty T] ∧ Dv H x d ∧ Q (.bl (isD T d)) H
section
variable {X : Cx}
theorem call_isD {T : String} (hk : ∀ d, PySem.W.kitOne X.K (.type (tyD d)) (.type T) = some (isD T d)) : CallR X (.builtin "isinstance") (rIsD T) := by
  intro pins s σ H xs us Q I r h
  obtain ⟨x, d, rfl, hd, q⟩ := h
  exact call_isi pins s σ H _ us Q I r ⟨x, .ty T, _, _, _, rfl, .ty T, hd.ty, hk d, q⟩
/-- isinstance(e, T) -/
theorem pe_isD {T : String} {e : Expr} {te : TE} {x : Str} {p p2 pos : Pos} (hg : Gl X "isinstance") (hm : X.mg "isinstance" = none) (gT : Gl X x) (mT : X.mg x = none) (bT : bootBuiltins x = some (.type T)) (hk : ∀ d, PySem.W.kitOne X.K (.type (tyD d)) (.type T) = some (isD T d)) (he : PE X e te)
    (hn : x ≠ "__name__" := by decide) (hdb : (x == ("__debug__" : Str)) = false := by decide)
    (hs : starEach [e, .Name x p2] X.env = (false, eval e X.env) :: starEach [.Name x p2] X.env := by rfl) (hs2 : starEach [.Name x p2] X.env = (false, eval (.Name x p2) X.env) :: starEach [] X.env := by rfl) (hpl : (backTo pos (starEach [.Name x p2] X.env)).any (·.1) = false := by rfl) :
    PE X (.Call (.Name "isinstance" p) [e, .Name x p2] [] pos) (tCB (rIsD T) (tCons te (tCons (tC (.ty T)) tNil))) :=
  pe_callB (call_isD hk) hg hm PyProof.Rows.boot_isinstance (pa_cons he (pa_cons (pe_bltn (v := .ty T) gT mT bT rfl hn hdb) pa_nil hs2) hs) (by decide) (by decide) hs hpl
end
end BT

set_option Elab.async false
set_option linter.all false
set_option maxRecDepth 100000
set_option maxHeartbeats 4000000
namespace BT
open PySem PySem.Spec PyProof.Rows L2
/-! ### the end: the law's def called with the script, where no repr is under way -/
/-- the heap that knows the script alone (where the module does not hold it) -/
def scrH (K : PySem.W.Frag) (a : Addr) (o : Obj) (xs : List V) : Hp := fun b => if b = a ∧ K.lookup a = none then some (.frz o (.lst xs)) else none
theorem scrH_cases (K : PySem.W.Frag) (a : Addr) (o : Obj) (xs : List V) (b : Addr) : scrH K a o xs b = none ∨ (b = a ∧ K.lookup a = none ∧ scrH K a o xs b = some (.frz o (.lst xs))) := by
  by_cases h : b = a ∧ K.lookup a = none
  · exact .inr ⟨h.1, h.2, if_pos h⟩
  · exact .inl (if_neg h)
theorem scrH_some {K : PySem.W.Frag} {a b : Addr} {o : Obj} {xs : List V} {u : HO} (h : scrH K a o xs b = some u) : b = a ∧ K.lookup a = none ∧ u = .frz o (.lst xs) := by
  rcases scrH_cases K a o xs b with q | ⟨h1, h2, q⟩
  · rw [h] at q; cases q
  · rw [h] at q
    exact ⟨h1, h2, Option.some.inj q⟩
theorem law_callG {P : Program} {w : World} {K : PySem.W.Frag} {mg mb : Str → Option Value} {k : Nat} {fa a : Addr} {fd : FuncData} {x : Str} {sp : Sp} {s : Shared} {vs : List Value} {ns : List Int}
    (hK : K.In s.heap) (hm : s.heap.Ns mainGlobals mg) (hb : s.heap.Ns builtinsNs mb) (hbb : ∀ x : Str, x ≠ "__name__" → mb x = bootBuiltins x) (hlim : s.heap.NoLimit) (hg : s.gens = #[])
    (ha : s.heap.get? a = some { cls := .type "list", data := .seq vs.toArray }) (hi : IntsAre vs ns) (hl : ns.length ≤ sizeLine) (hr : Room k callerA)
    (F : ∀ base : Heap, K.In base → base.Ns mainGlobals mg → FnG P w K mg base k fa fd [x] sp) (hbind : ∀ (s : Shared) (u : Value), BindsTo s fd ⟨[u], []⟩ [(x, u)])
    (hsp : ∀ H : Hp, SqL K H a (ns.map V.int) → sp [.ref a] H (fun v _ => v = .bl true) E0) :
    codeAny (model P w) callerA (.call (.ref fa) ⟨[.ref a], []⟩) (fun r s' => r = .ok (.ret (.bool true)) ∧ OldK s.heap s'.heap ∧ s'.os = s.os ∧ AllBare s'.gens) s := by
  have rv := vals_ints hi
  have hlen := hi.length
  obtain ⟨o, ho⟩ : ∃ o : Obj, o = { cls := .type "list", data := .seq vs.toArray } := ⟨_, rfl⟩
  rw [← ho] at ha
  obtain ⟨H, hH⟩ : ∃ H : Hp, H = scrH K a o (ns.map V.int) := ⟨_, rfl⟩
  have inv : ∀ {b : Addr} {u : HO}, H b = some u → b = a ∧ K.lookup a = none ∧ u = .frz o (.lst (ns.map V.int)) := fun e => scrH_some (hH ▸ e)
  have hS : SqL K H a (ns.map V.int) := by
    cases e : K.lookup a with
    | none =>
      refine .inl (.inr ⟨o, ?_⟩)
      rw [hH]; exact if_pos ⟨rfl, e⟩
    | some ob =>
      have e2 := hK a ob e
      rw [ha] at e2
      cases Option.some.inj e2
      exact .inr ⟨o, vs.toArray, _, e, by rw [ho], by rw [ho], by rw [ho], by rw [List.size_toArray, hlen]; exact hl, rv⟩
  have hok : HOk P w H s.heap := fun b u e => by
    obtain ⟨rfl, _, rfl⟩ := inv e
    rw [ho] at ha ⊢
    exact ⟨ha, by rw [List.length_map]; exact hl, vs, _, rv, ha⟩
  -- what the base keeps
  have keep : ∀ {b : Addr} {ob : Obj}, s.heap.get? b = some ob → H b = none → (hidT s.heap H).get? b = some ob := fun e n => hidT_get e n
  have noDict : ∀ {b : Addr} {ob : Obj} {es : Array DictEntry} {ep : Nat}, s.heap.get? b = some ob → ob.data = .dict es ep → H b = none := fun {b ob es ep} e d => by
    cases q : H b with
    | none => rfl
    | some u =>
      obtain ⟨rfl, _, _⟩ := inv q
      rw [ha] at e
      cases Option.some.inj e
      rw [ho] at d
      cases (show Data.seq vs.toArray _ = Data.dict es ep from d)
  have nsB : ∀ {b : Addr} {m : Str → Option Value}, s.heap.Ns b m → (hidT s.heap H).Ns b m := fun {b m} h => by
    obtain ⟨ob, es, ep, e, d, r⟩ := h
    exact ⟨ob, es, ep, keep e (noDict e d), d, r⟩
  have kB : K.In (hidT s.heap H) := fun b ob e => keep (hK b ob e) (by
    cases q : H b with
    | none => rfl
    | some u =>
      obtain ⟨rfl, n, _⟩ := inv q
      rw [n] at e; cases e)
  have limB : (hidT s.heap H).NoLimit := by
    obtain ⟨mc, h1, h2⟩ := hlim
    exact ⟨mc, nsB h1, h2⟩
  have env : Env0 P w K mg (hidT s.heap H) callerA [] s H :=
    { frames := rfl, mod := ⟨kB, nsB hm, ⟨mb, nsB hb, hbb⟩, limB⟩, bs := fun b ob e => of_hidT e, bsz := Nat.le_of_eq (hidT_size _ _), funs := trivial, frf := fun b hb => absurd (show b ∈ ([] : List Addr) from hb) (by simp), hok := hok, bare := .of_eq hg }
  refine codeAny_mono ((F _ kB (nsB hm)).goes callerA [] s H ⟨[.ref a], []⟩ [.ref a] [.ref a] _ hr rfl env (hbind s (.ref a)) (.cons rfl .nil) (hsp H hS)) fun r s' out => ?_
  rcases r with er | fl
  · exact (show False from out).elim
  · cases fl with
    | ret u =>
      obtain ⟨v, H', hos, hbare, un, hok', r1, q⟩ := out
      cases (show v = .bl true from q)
      cases (show u = Value.bool true from r1)
      refine ⟨rfl, OldK.of_keep fun b ob e => ?_, hos, hbare⟩
      cases q : H b with
      | none => exact un.keep b ob e q (fun z => nomatch (show b ∈ ([] : List Addr) from z)) (by simp)
      | some u =>
        obtain ⟨rfl, _, rfl⟩ := inv q
        have z := un.frzs b o _ q
        obtain ⟨e1, _⟩ := hok b _ q
        obtain ⟨e2, _⟩ := hok' b _ z
        rw [e1] at e
        cases Option.some.inj e
        exact e2
    | next => exact (show False from out).elim
    | brk => exact (show False from out).elim
    | cont => exact (show False from out).elim
theorem walk_G {l : PySem.W.OpenLaw} {n k : Nat} {q : Program} {loose : List Str} {XP : (Str → Option Value) → Heap → Prop} {YP : World → Heap → Prop} {d : DefRec} {x : Str}
    (hn : l.most = some n) (hz : n ≤ sizeLine) (hd : d.params.defaults = []) (hr : Room k callerA)
    (F : ∀ (w : World) (mg : Str → Option Value) (fa : Addr) (h : Heap), YP w h → h.Ns mainGlobals mg → mg d.name = some (.ref fa) →
      ∃ (K : PySem.W.Frag) (fd : FuncData) (sp : Sp), K.In h ∧ (∀ (s : Shared) (u : Value), BindsTo s fd ⟨[u], []⟩ [(x, u)]) ∧
        (∀ (H : Hp) (a : Addr) (ns : List Int), ns.length ≤ n → SqL K H a (ns.map V.int) → sp [.ref a] H (fun v _ => v = .bl true) E0) ∧
        ∀ base : Heap, K.In base → base.Ns mainGlobals mg → FnG l.prog w K mg base k fa fd [x] sp) :
    PySem.W.WalkO q loose XP YP l.row.toRowW d [] (fun f vs => PySem.call f vs) := by
  refine Att.attach_call hn hd fun w s0 s mg mb fa o pm cd doc a vs ns G Y ho hdt hcd hmg hobj hints hlen hg => ?_
  obtain ⟨K, fd, sp, hK, hbind, hsp, hF⟩ := F w mg fa _ Y G.T.g hmg
  exact law_callG hK G.T.g G.T.b G.T.builtins G.T.nolimit hg hobj hints (Nat.le_trans hlen hz) hr hF hbind fun H hS => hsp H a ns hlen hS
/-! ### the package's error classes, looked at -/
def oexB (K : PySem.W.Frag) (C : Addr) : Bool := match K.lookup C with
  | some ⟨.type "type", _, .cls cd, sl⟩ => (match cd.mro, sl.toList with
    | .ref C' :: bm, [_, _, _, _, some (.builtin n), _] => decide (C' = C) && (decide (n = "ValueError.__new__") && ((!cd.hasDel) && (cd.hasDict && PySem.HandSPX.refsVE bm)))
    | _, _ => false)
  | _ => false
theorem oexB_ok {K : PySem.W.Frag} {C : Addr} (h : oexB K C = true) : ∃ nm q N bs bm sn sub ab col dd k0 k1 k2 k3 k5, K.lookup C = some (excClassObj nm q C N bs bm true sn sub ab col dd k0 k1 k2 k3 k5 "ValueError.__new__") ∧ PySem.HandSPX.refsVE bm = true := by
  unfold oexB at h
  split at h
  · rename_i dd cd sl e
    split at h
    · rename_i C' bm k0 k1 k2 k3 n k5 hm hs
      simp only [Bool.and_eq_true, decide_eq_true_eq, Bool.not_eq_true'] at h
      obtain ⟨rfl, rfl, h1, h2, h3⟩ := h
      obtain ⟨nm, bs, mro, N, qn, hd, sn, sub, ab, col, del⟩ := cd
      dsimp only at hm h1 h2
      subst hm h1 h2
      obtain ⟨l⟩ := sl
      dsimp only at hs
      subst hs
      exact ⟨nm, qn, N, bs, bm, sn, sub, ab, col, dd, k0, k1, k2, k3, k5, e, h3⟩
    · cases h
  · cases h
/-- an error class x: over BlindError, with its __init__ -/
def errB (K : PySem.W.Frag) (x : Str) : Bool :=
  oexB K (He.ga K x) && (decide (PySem.W.findIn K (.ref (He.ga K x)) "__setattr__" = some (some (.builtin "object.__setattr__"))) && (decide (PySem.W.subIn K (.ref (He.ga K x)) (.type "BaseException") = some true) && (decide (PySem.W.typeIn K (.ref (He.ga K x)) = some (.type "type")) &&
  (PySem.W.keepIn K (.ref (He.ga K x)) && (xfB K (He.ga K x) && (decide (PySem.W.findIn K (.ref (He.ga K x)) "what" = some none) && (decide (PySem.W.exmOne K (.ref (He.ga K x)) (.ref (He.ga K x)) = some true) &&
  (decide (PySem.W.findIn K (.ref (He.ga K x)) "__init__" = some (some (.ref (He.fAd K ("BlindError", some "__init__"))))) && (decide (PySem.W.typeIn K (.ref (He.fAd K ("BlindError", some "__init__"))) = some (.type "function")) && He.eqO (PySem.W.nsIn K mainGlobals x) (some (some (.ref (He.ga K x)))))))))))))
theorem errB_ok {P : Program} {w : World} {K : PySem.W.Frag} {mg : Str → Option Value} {base h : Heap} {x : Str} {fd : FuncData} (X : K.In h) (G : h.Ns mainGlobals mg) (b : errB K x = true)
    (F : FnOk P w K mg base CX0 1 (He.fAd K ("BlindError", some "__init__")) fd ["self", "what"] (spInit K)) (hb : Binds K fd ["self", "what"] []) : ErrC P w K mg base x (He.ga K x) := by
  unfold errB at b
  simp only [Bool.and_eq_true, decide_eq_true_eq] at b
  obtain ⟨b1, b2, b3, b4, b5, b6, b7, b8, b9, b10, b11⟩ := b
  exact ⟨PySem.W.mg_of X G (He.eqO_ok b11), ⟨oexB_ok b1, b2, b3, b4, b5⟩, xfB_ok b6, b7, b8, ⟨_, fd, b9, b10, F, hb⟩⟩
/-! ### the hook -/
abbrev AlX : Type := Bool × He.AlD
def obsX (fa : List He.Fa) (fn : List He.DefD) (xs : List Str) (K : PySem.W.Frag) : AlX := (xs.all (errB K), He.obsD fa fn K)
def obsXG (n : Nat) (fa : List He.Fa) (fn : List He.DefD) (xs : List Str) (g : Addr → Option Obj) : AlX := obsX fa fn xs (He.frG g (He.asD g n))
def hookX (n : Nat) (fa : List He.Fa) (fn : List He.DefD) (xs : List Str) : PySem.W.Hook where
  α := AlX
  obs := fun s => obsXG n fa fn xs s.heap.get?
  val := fun _ => (true, He.valD fn)
  says := fun _ h => ∃ K : PySem.W.Frag, K.In h ∧ xs.all (errB K) = true ∧ He.SaysD fa fn K
  of := fun _ _ e => ⟨_, He.frG_in, congrArg (fun z : AlX => z.1) e, congrArg (fun z : AlX => z.2) e⟩
  keeps := fun _ _ _ h k => by
    obtain ⟨K, h1, h2, h3⟩ := h
    exact ⟨K, PySem.W.Frag.In.keeps h1 k, h2, h3⟩
theorem obsXG_eq {n : Nat} {fa : List He.Fa} {fn : List He.DefD} {xs : List Str} {g : Addr → Option Obj} {s : Shared} (h : ∀ a, g a = s.heap.get? a) : obsXG n fa fn xs g = (hookX n fa fn xs).obs s := by
  cases (show g = s.heap.get? from funext h)
  rfl
theorem err_of {K : PySem.W.Frag} {xs : List Str} (c : xs.all (errB K) = true) (i : Nat) {x : Str} (h : xs[i]? = some x := by rfl) : errB K x = true := List.all_eq_true.mp c x (List.mem_of_getElem? h)
end BT

set_option linter.all false
namespace BT
open PySem PySem.Spec PyProof.Rows
/-! ### bits of numbers of any sign -/
def iBit (y : Int) (i : Nat) : Bool := if 0 ≤ y then y.toNat.testBit i else !(Builtin.bitNot y).toNat.testBit i
def andN (m : Nat) (y : Int) : Nat := if 0 ≤ y then m &&& y.toNat else m ^^^ (m &&& (Builtin.bitNot y).toNat)
theorem bitAnd_andN (m : Nat) (y : Int) : Builtin.bitAnd (m : Int) y = ((andN m y : Nat) : Int) := by
  unfold andN
  by_cases h : 0 ≤ y
  · rw [if_pos h, bitAnd_pp (Int.natCast_nonneg _) h, Int.toNat_natCast]
  · rw [if_neg h, bitAnd_pn (Int.natCast_nonneg _) h, Int.toNat_natCast]
    generalize (Builtin.bitNot y).toNat = z
    have h1 := xor_and_add m (m &&& z)
    have h2 : m &&& (m &&& z) = m &&& z := by
      apply Nat.eq_of_testBit_eq
      intro i
      simp only [Nat.testBit_and]
      cases m.testBit i <;> simp
    rw [h2] at h1
    omega
theorem testBit_andN (m : Nat) (y : Int) (i : Nat) : (andN m y).testBit i = (m.testBit i && iBit y i) := by
  unfold andN iBit
  by_cases h : 0 ≤ y
  · rw [if_pos h, if_pos h, Nat.testBit_and]
  · rw [if_neg h, if_neg h, Nat.testBit_xor, Nat.testBit_and]
    cases m.testBit i <;> cases (Builtin.bitNot y).toNat.testBit i <;> rfl
theorem iBit_nat (y i : Nat) : iBit (y : Int) i = y.testBit i := by
  unfold iBit; rw [if_pos (Int.natCast_nonneg _), Int.toNat_natCast]
theorem iBit_neg1 (i : Nat) : iBit (-1) i = true := by
  unfold iBit
  rw [if_neg (by decide)]
  have e : (Builtin.bitNot (-1)).toNat = 0 := by decide
  rw [e, Nat.zero_testBit]; rfl
theorem iBit_not (y i : Nat) : iBit (Builtin.bitNot (y : Int)) i = !y.testBit i := by
  unfold iBit
  have h : ¬ 0 ≤ Builtin.bitNot (y : Int) := by unfold Builtin.bitNot; omega
  have e : (Builtin.bitNot (Builtin.bitNot (y : Int))).toNat = y := by unfold Builtin.bitNot; omega
  rw [if_neg h, e]
theorem andN_nat (m y : Nat) : andN m (y : Int) = m &&& y := by
  apply Nat.eq_of_testBit_eq
  intro i
  rw [testBit_andN, iBit_nat, Nat.testBit_and]
theorem andN_neg1 (m : Nat) : andN m (-1) = m := by
  apply Nat.eq_of_testBit_eq
  intro i
  rw [testBit_andN, iBit_neg1, Bool.and_true]
theorem two_pow_inj {a b : Nat} (h : 2 ^ a = 2 ^ b) : a = b := by
  have q := congrArg Nat.log2 h
  rwa [Nat.log2_two_pow, Nat.log2_two_pow] at q
/-! ### the lowest one -/
def lowN (m : Nat) : Nat := andN m (-(m : Int))
theorem bitAnd_low (m : Nat) : Builtin.bitAnd (m : Int) (-(m : Int)) = ((lowN m : Nat) : Int) := bitAnd_andN m _
theorem lowN_zero : lowN 0 = 0 := rfl
theorem low_even (k : Nat) : lowN (2 * k) = 2 * lowN k := by
  rcases Nat.eq_zero_or_pos k with h | h
  · subst h; rfl
  · have e : ∀ m : Nat, 0 < m → lowN m = m ^^^ (m &&& (m - 1)) := fun m hm => by
      unfold lowN andN
      rw [if_neg (by omega)]
      have e2 : (Builtin.bitNot (-(m : Int))).toNat = m - 1 := by unfold Builtin.bitNot; omega
      rw [e2]
    rw [e _ (by omega), e _ h]
    apply Nat.eq_of_testBit_eq
    intro i
    cases i with
    | zero =>
      simp only [Nat.testBit_xor, Nat.testBit_and, Nat.testBit_zero]
      have h1 : (2 * k) % 2 = 0 := by omega
      have h2 : (2 * (k ^^^ (k &&& (k - 1)))) % 2 = 0 := by omega
      simp [h1, h2]
    | succ i =>
      have h1 : (2 * k) / 2 = k := by omega
      have h2 : (2 * k - 1) / 2 = k - 1 := by omega
      have h3 : (2 * (k ^^^ (k &&& (k - 1)))) / 2 = k ^^^ (k &&& (k - 1)) := by omega
      rw [Nat.testBit_xor, Nat.testBit_and, Nat.testBit_succ, Nat.testBit_succ, Nat.testBit_succ, h1, h2, h3, Nat.testBit_xor, Nat.testBit_and]
theorem low_odd (k : Nat) : lowN (2 * k + 1) = 1 := by
  unfold lowN andN
  rw [if_neg (by omega)]
  have e2 : (Builtin.bitNot (-((2 * k + 1 : Nat) : Int))).toNat = 2 * k := by unfold Builtin.bitNot; omega
  rw [e2]
  apply Nat.eq_of_testBit_eq
  intro i
  cases i with
  | zero =>
    simp only [Nat.testBit_xor, Nat.testBit_and, Nat.testBit_zero]
    have h1 : (2 * k + 1) % 2 = 1 := by omega
    have h2 : (2 * k) % 2 = 0 := by omega
    simp [h1, h2]
  | succ i =>
    have h1 : (2 * k + 1) / 2 = k := by omega
    have h2 : (2 * k) / 2 = k := by omega
    rw [Nat.testBit_xor, Nat.testBit_and, Nat.testBit_succ, Nat.testBit_succ, Nat.testBit_succ, h1, h2]
    cases k.testBit i <;> simp
/-- the place of the lowest one -/
theorem low_spec : ∀ m : Nat, m ≠ 0 → ∃ k, lowN m = 2 ^ k ∧ m.testBit k = true ∧ ∀ j, j < k → m.testBit j = false := by
  intro m
  induction m using Nat.strongRecOn with
  | _ m ih =>
    intro h
    rcases Nat.mod_two_eq_zero_or_one m with h2 | h2
    · have e : m = 2 * (m / 2) := by omega
      obtain ⟨k, h3, h4, h5⟩ := ih (m / 2) (by omega) (by omega)
      refine ⟨k + 1, ?_, ?_, fun j hj => ?_⟩
      · rw [e, low_even, h3, Nat.pow_succ]; omega
      · rw [Nat.testBit_succ]; exact h4
      · cases j with
        | zero => rw [Nat.testBit_zero, h2]; rfl
        | succ j => rw [Nat.testBit_succ]; exact h5 j (by omega)
    · have e : m = 2 * (m / 2) + 1 := by omega
      refine ⟨0, ?_, ?_, fun j hj => absurd hj (by omega)⟩
      · rw [e, low_odd]
      · rw [Nat.testBit_zero, h2]; rfl
theorem low_ne {m : Nat} (h : m ≠ 0) : lowN m ≠ 0 := by
  obtain ⟨k, e, _⟩ := low_spec m h
  rw [e]; exact Nat.ne_of_gt (Nat.two_pow_pos k)
theorem low_eq_zero {m : Nat} : lowN m = 0 ↔ m = 0 := ⟨fun h => Classical.byContradiction fun q => low_ne q h, fun h => by rw [h]; rfl⟩
theorem and_pow_ne {m k : Nat} : m &&& 2 ^ k ≠ 0 ↔ m.testBit k = true := by
  constructor
  · intro h
    refine Classical.byContradiction fun q => h ?_
    apply Nat.eq_of_testBit_eq
    intro i
    rw [Nat.testBit_and, Nat.testBit_two_pow, Nat.zero_testBit]
    by_cases e : k = i
    · subst e; simp [q]
    · simp [e]
  · intro h e
    have q := congrArg (fun z => z.testBit k) e
    simp only [Nat.testBit_and, Nat.testBit_two_pow, Nat.zero_testBit, h] at q
    exact absurd q (by simp)
theorem and_pow_zero {m k : Nat} : m &&& 2 ^ k = 0 ↔ m.testBit k = false := by
  constructor
  · intro h
    cases e : m.testBit k with
    | false => rfl
    | true => exact absurd h (and_pow_ne.mpr e)
  · intro h
    refine Classical.byContradiction fun q => ?_
    rw [and_pow_ne.mp q] at h; cases h
/-! ### rows: as the program reckons them -/
def clearStep (part : Int) (m row : Nat) : Nat := if m &&& lowN (andN row part) ≠ 0 then m ^^^ row else m
def clearedF (part : Int) (m : Nat) (rows : List Nat) : Nat := rows.foldl (clearStep part) m
def sweepStep (part : Int) (st : List Nat × List Nat) (mask : Nat) : List Nat × List Nat :=
  if lowN (andN (clearedF part mask st.1) part) ≠ 0 then
    (st.1.map (fun row => if row &&& lowN (andN (clearedF part mask st.1) part) ≠ 0 then row ^^^ clearedF part mask st.1 else row) ++ [clearedF part mask st.1], st.2)
  else (st.1, st.2 ++ [clearedF part mask st.1])
def sweepF (part : Int) (masks : List Nat) : List Nat × List Nat := masks.foldl (sweepStep part) ([], [])
theorem sweepF_snoc (part : Int) (ms : List Nat) (m : Nat) : sweepF part (ms ++ [m]) = sweepStep part (sweepF part ms) m := by
  unfold sweepF; rw [List.foldl_append]; rfl
theorem clearedF_snoc (part : Int) (m : Nat) (rows : List Nat) (r : Nat) : clearedF part m (rows ++ [r]) = clearStep part (clearedF part m rows) r := by
  unfold clearedF; rw [List.foldl_append]; rfl
/-- rows whose firsts in the part stand alone -/
def Alone (part : Int) (rows : List Nat) : Prop := ∃ ks : List Nat, ks.length = rows.length ∧
  ∀ (i : Nat) (r k : Nat), rows[i]? = some r → ks[i]? = some k → lowN (andN r part) = 2 ^ k ∧ ∀ (j : Nat) (s : Nat), rows[j]? = some s → (s.testBit k = true ↔ j = i)
theorem clearedF_bits {part : Int} {rows ks : List Nat} (hl : ks.length = rows.length) (h : ∀ (i : Nat) (r k : Nat), rows[i]? = some r → ks[i]? = some k → lowN (andN r part) = 2 ^ k ∧ ∀ (j : Nat) (s : Nat), rows[j]? = some s → (s.testBit k = true ↔ j = i)) (m : Nat) :
    ∀ n, n ≤ rows.length → ∀ (i k : Nat), ks[i]? = some k → (clearedF part m (rows.take n)).testBit k = if i < n then false else m.testBit k := by
  intro n
  induction n with
  | zero => intro _ i k _; simp [clearedF]
  | succ n ih =>
    intro hn i k hk
    have hlt : n < rows.length := by omega
    have hrow : rows[n]? = some rows[n] := List.getElem?_eq_getElem hlt
    rw [List.take_add_one, hrow]
    show (clearedF part m (rows.take n ++ [rows[n]])).testBit k = _
    rw [clearedF_snoc]
    obtain ⟨kn, hkn⟩ : ∃ kn, ks[n]? = some kn := ⟨_, List.getElem?_eq_getElem (by omega)⟩
    obtain ⟨e1, e2⟩ := h n _ kn hrow hkn
    have ik : i < ks.length := (List.getElem?_eq_some_iff.mp hk).1
    have hri : rows[i]? = some rows[i] := List.getElem?_eq_getElem (by omega)
    obtain ⟨f1, f2⟩ := h i _ k hri hk
    have old := ih (by omega) i k hk
    have oldn := ih (by omega) n kn hkn
    unfold clearStep
    rw [e1]
    have bn : rows[n].testBit k = decide (n = i) := by
      have q := f2 n _ hrow
      by_cases e : n = i
      · rw [decide_eq_true e]; exact q.mpr e
      · rw [decide_eq_false e]
        cases z : rows[n].testBit k with
        | false => rfl
        | true => exact absurd (q.mp z) e
    by_cases c : clearedF part m (rows.take n) &&& 2 ^ kn ≠ 0
    · rw [if_pos c, Nat.testBit_xor, old, bn]
      have c2 := and_pow_ne.mp c
      by_cases e : n = i
      · subst e
        have ek : k = kn := Option.some.inj (hk.symm.trans hkn)
        subst ek
        rw [old] at c2
        rw [if_neg (by omega)] at c2
        rw [if_neg (by omega), if_pos (by omega), c2, decide_eq_true rfl]; rfl
      · rw [decide_eq_false e, Bool.xor_false]
        by_cases g : i < n
        · rw [if_pos g, if_pos (by omega)]
        · rw [if_neg g, if_neg (by omega)]
    · rw [if_neg c, old]
      have c2 : (clearedF part m (rows.take n)).testBit kn = false := by
        cases z : (clearedF part m (rows.take n)).testBit kn with
        | false => rfl
        | true => exact absurd (and_pow_ne.mpr z) c
      by_cases e : n = i
      · subst e
        have ek : k = kn := Option.some.inj (hk.symm.trans hkn)
        subst ek
        rw [old] at c2
        rw [if_neg (by omega)] at c2
        rw [if_neg (by omega), if_pos (by omega), c2]
      · by_cases g : i < n
        · rw [if_pos g, if_pos (by omega)]
        · rw [if_neg g, if_neg (by omega)]
theorem alone_nil (part : Int) : Alone part [] := ⟨[], rfl, fun i r k h => by simp at h⟩
theorem alone_step {part : Int} {rows : List Nat} (A : Alone part rows) (mask : Nat) (hlow : lowN (andN (clearedF part mask rows) part) ≠ 0) :
    Alone part (rows.map (fun row => if row &&& lowN (andN (clearedF part mask rows) part) ≠ 0 then row ^^^ clearedF part mask rows else row) ++ [clearedF part mask rows]) := by
  obtain ⟨ks, hl, h⟩ := A
  have hb := clearedF_bits hl h mask rows.length (Nat.le_refl _)
  rw [List.take_length] at hb
  have hne : andN (clearedF part mask rows) part ≠ 0 := fun e => hlow (by rw [e]; rfl)
  obtain ⟨kr, ek, b1, b2⟩ := low_spec _ hne
  generalize clearedF part mask rows = rest at hb ek b1 b2
  rw [ek]
  have rk : rest.testBit kr = true ∧ iBit part kr = true := by
    rw [testBit_andN, Bool.and_eq_true] at b1; exact b1
  -- no first of a row is kr
  have kne : ∀ (i k : Nat), ks[i]? = some k → k ≠ kr ∧ rest.testBit k = false := fun i k hk => by
    have q := hb i k hk
    have ik : i < ks.length := (List.getElem?_eq_some_iff.mp hk).1
    rw [if_pos (by omega)] at q
    exact ⟨fun e => (by rw [e, rk.1] at q; cases q), q⟩
  have bits : ∀ (row i k : Nat), rows[i]? = some row → ks[i]? = some k → ∀ j, j < k → (row.testBit j && iBit part j) = false := fun row i k hr hk j hj => by
    obtain ⟨e1, _⟩ := h i row k hr hk
    have hn : andN row part ≠ 0 := fun e => by
      rw [e, lowN_zero] at e1
      exact absurd e1.symm (Nat.ne_of_gt (Nat.two_pow_pos k))
    obtain ⟨k2, e2, _, e4⟩ := low_spec _ hn
    have ee : k2 = k := two_pow_inj (e2.symm.trans e1)
    subst ee
    rw [← testBit_andN]; exact e4 j hj
  have uniq : ∀ {m k : Nat}, m.testBit k = true → (∀ j, j < k → m.testBit j = false) → lowN m = 2 ^ k := fun {m k} h1 h2 => by
    have hm : m ≠ 0 := fun e => by rw [e, Nat.zero_testBit] at h1; cases h1
    obtain ⟨k2, e1, e2, e3⟩ := low_spec m hm
    have : k2 = k := by
      rcases Nat.lt_trichotomy k2 k with q | q | q
      · rw [h2 k2 q] at e2; cases e2
      · exact q
      · rw [e3 k q] at h1; cases h1
    rw [e1, this]
  refine ⟨ks ++ [kr], by simp [hl], fun i r k hr hk => ?_⟩
  have lm : (rows.map fun row => if row &&& 2 ^ kr ≠ 0 then row ^^^ rest else row).length = rows.length := List.length_map ..
  have getNew : ∀ (j s : Nat), (rows.map (fun row => if row &&& 2 ^ kr ≠ 0 then row ^^^ rest else row) ++ [rest])[j]? = some s → (j < rows.length ∧ ∃ row, rows[j]? = some row ∧ s = if row &&& 2 ^ kr ≠ 0 then row ^^^ rest else row) ∨ (j = rows.length ∧ s = rest) := fun j s hs => by
    by_cases hj : j < rows.length
    · left
      rw [List.getElem?_append_left (by rw [lm]; exact hj), List.getElem?_map] at hs
      rw [List.getElem?_eq_getElem hj] at hs
      exact ⟨hj, _, List.getElem?_eq_getElem hj, (Option.some.inj hs).symm⟩
    · right
      have hj2 := (List.getElem?_eq_some_iff.mp hs).1
      rw [List.length_append, lm, List.length_singleton] at hj2
      have ej : j = rows.length := by omega
      subst ej
      rw [List.getElem?_append_right (by rw [lm]; exact Nat.le_refl _), lm, Nat.sub_self] at hs
      exact ⟨rfl, (Option.some.inj hs).symm⟩
  rcases getNew i r hr with ⟨hi, row, hrow, rfl⟩ | ⟨rfl, rfl⟩
  · rw [List.getElem?_append_left (by omega)] at hk
    obtain ⟨e1, e2⟩ := h i row k hrow hk
    obtain ⟨kn, rn⟩ := kne i k hk
    have rb : row.testBit k = true := (e2 i row hrow).mpr rfl
    have low := bits row i k hrow hk
    have pk : iBit part k = true := by
      have hn : andN row part ≠ 0 := fun e => by
        rw [e, lowN_zero] at e1
        exact absurd e1.symm (Nat.ne_of_gt (Nat.two_pow_pos k))
      obtain ⟨k2, q2, q3, _⟩ := low_spec _ hn
      have ee : k2 = k := two_pow_inj (q2.symm.trans e1)
      subst ee
      rw [testBit_andN, Bool.and_eq_true] at q3; exact q3.2
    refine ⟨uniq ?_ fun j hj => ?_, fun j s hs => ?_⟩
    · rw [testBit_andN, pk, Bool.and_true]
      split
      · rw [Nat.testBit_xor, rb, rn]; rfl
      · exact rb
    · rw [testBit_andN]
      split
      · rename_i c
        have c2 := and_pow_ne.mp c
        -- the row has kr, so kr is no place below its first
        have hkr : k < kr := by
          rcases Nat.lt_trichotomy k kr with q | q | q
          · exact q
          · exact absurd q kn
          · have z := low kr q
            rw [c2, rk.2] at z; cases z
        have z1 := low j hj
        have z2 := b2 j (by omega)
        rw [testBit_andN] at z2
        rw [Nat.testBit_xor]
        cases p : iBit part j with
        | false => rw [Bool.and_false]
        | true =>
          rw [p, Bool.and_true] at z1 z2
          rw [z1, z2]; rfl
      · exact low j hj
    · rcases getNew j s hs with ⟨hj, row2, hrow2, rfl⟩ | ⟨rfl, rfl⟩
      · have q := e2 j row2 hrow2
        split
        · rw [Nat.testBit_xor, rn, Bool.xor_false]; exact q
        · exact q
      · rw [rn]
        exact ⟨fun z => absurd z (by decide), fun z => absurd z (by omega)⟩
  · rw [List.getElem?_append_right (by omega), hl, Nat.sub_self] at hk
    have ekk : kr = k := Option.some.inj hk
    subst ekk
    refine ⟨ek, fun j s hs => ?_⟩
    rcases getNew j s hs with ⟨hj, row2, hrow2, rfl⟩ | ⟨rfl, rfl⟩
    · constructor
      · intro z
        split at z
        · rename_i c
          rw [Nat.testBit_xor, and_pow_ne.mp c, rk.1] at z; cases z
        · rename_i c
          exact absurd (and_pow_ne.mpr z) c
      · intro z; omega
    · exact ⟨fun _ => rfl, fun _ => rk.1⟩
theorem sweep_alone (part : Int) (ms : List Nat) : Alone part (sweepF part ms).1 := by
  have key : ∀ (ms : List Nat) (st : List Nat × List Nat), Alone part st.1 → Alone part (ms.foldl (sweepStep part) st).1 := by
    intro ms
    induction ms with
    | nil => intro st h; exact h
    | cons m ms ih =>
      intro st h
      rw [List.foldl_cons]
      refine ih _ ?_
      unfold sweepStep
      split
      · rename_i c
        exact alone_step h m c
      · exact h
  exact key ms ([], []) (alone_nil part)
end BT

set_option Elab.async false
set_option linter.all false
set_option maxRecDepth 100000
set_option maxHeartbeats 4000000
namespace BT
open PySem PySem.Spec PySem.Calls PyProof.Rows
section
variable {prog : Program} {w : World} {A : Around} {E : Value → Shared → Prop} {s : Shared} {a kS : Addr} {vs : List Value} {kz : List Int} {keys : Array Value} {e e1 : Nat} {P : PySem.Fin → Shared → Prop}
/-- the heap when the keys are let go and the sorted items are put back -/
def putBack (h : Heap) (kS a : Addr) (out : Array Value) : Heap := (h.update kS (Obj.mapSeq fun _ => #[])).update a (Obj.mapSeq fun _ => out)
theorem key_tail {st : SortSt} (gk : s.heap.get? kS = some (seqObj "list" keys e)) (ga : s.heap.get? a = some (seqObj "list" #[] e1)) (ne : kS ≠ a) (hk : IntsAre keys.toList kz) (hl : kz.length = vs.length) (lim : vs.length < 64)
    (hp : (arrOf st).Perm (keys.zip vs.toArray)) (hs : SortedTo (arrOf st) (arrOf st).size) (hf : failedOf st = none)
    (h : ∀ out : Array Value, KskOut false kz vs out.toList → out.size = vs.length → P (.done (.ret .none)) { s with heap := putBack s.heap kS a out }) :
    wpAny (model prog w) A (ksk_tail a false e1 (.ref kS) st) P E s := by
  have sk : keys.size = vs.length := by
    have := hk.length
    rw [Array.length_toList] at this
    omega
  have so : ((arrOf st).map (·.2)).size = vs.length := by rw [Array.size_map, hp.size_eq, Array.size_zip, sk, List.size_toArray, Nat.min_self]
  have lim2 : vs.length ≤ sizeLine := by rw [sizeLine_eq]; omega
  have keep := Heap.SameBut.update s.heap kS (Obj.mapSeq fun _ => (#[] : Array Value))
  have ga2 : (s.heap.update kS (Obj.mapSeq fun _ => (#[] : Array Value))).get? a = some (seqObj "list" #[] e1) := (keep.2 a (Ne.symm ne)).trans ga
  unfold ksk_tail
  dsimp only
  refine wpAny_bind (listUpdate_at gk rfl ?_ (by rw [sk]; exact lim2) (Nat.zero_le _))
  refine wpAny_bind (wpAny_letGo (wpAny_bind (seqEpoch_at ga2 rfl ?_)))
  refine wpAny_bind (listUpdate_at ga2 rfl ?_ (Nat.zero_le _) ?_)
  · rw [hf]
    simp only [bne_self_eq_false, Bool.false_eq_true, if_false]
    exact wpAny_pure (h _ (ksk_out (b := false) hk hp hs) so)
  · show ((arrOf st).map (·.2)).size ≤ _
    rw [so]; omega
theorem key_end (gk : s.heap.get? kS = some (seqObj "list" keys e)) (ga : s.heap.get? a = some (seqObj "list" #[] e1)) (ne : kS ≠ a) (hk : IntsAre keys.toList kz) (hl : kz.length = vs.length) (lim : vs.length < 64)
    (h : ∀ out : Array Value, KskOut false kz vs out.toList → out.size = vs.length → P (.done (.ret .none)) { s with heap := putBack s.heap kS a out }) :
    wpAny (model prog w) A (ksk_end a false vs.toArray e1 (.ref kS) keys) P E s := by
  have sk : keys.size = vs.length := by
    have := hk.length
    rw [Array.length_toList] at this
    omega
  have sz : (keys.zip vs.toArray).size = vs.length := by rw [Array.size_zip, sk, List.size_toArray, Nat.min_self]
  unfold ksk_end
  simp only [Bool.false_eq_true, if_false]
  by_cases few : vs.toArray.size < 2
  · rw [if_pos few, if_pos few]
    refine wpAny_bind (wpAny_pure ?_)
    rw [StateT.run_pure]
    refine wpAny_bind (wpAny_pure ?_)
    dsimp only
    refine key_tail (st := SortSt.mk' general' (keys.zip vs.toArray) #[] 7 none) gk ga ne hk hl lim (Array.Perm.refl _) (fun i j hij hj => ?_) rfl h
    have hj' : j < (keys.zip vs.toArray).size := hj
    rw [sz] at hj'
    rw [List.size_toArray] at few
    obtain rfl : i = j := by omega
    exact Int.le_refl _
  · rw [if_neg few, if_neg few]
    rw [List.size_toArray] at few
    rw [ksk_kind hk (by rw [sk]; omega)]
    refine wpAny_bind (wpAny_pure (wpAny_bind (wpAny_mono (wpS_sortRuns (a₀ := keys.zip vs.toArray) (st := SortSt.mk' oneType' (keys.zip vs.toArray) #[] 7 none)
      (Q := fun _ z => (arrOf z).Perm (keys.zip vs.toArray) ∧ failedOf z = none ∧ SortedTo (arrOf z) (keys.zip vs.toArray).size) (ksk_intKeys hk) ⟨Array.Perm.refl _, rfl, rfl, rfl⟩ (by rw [sz]; omega) (by rw [sz]; exact lim) fun z h1 h2 h3 => ⟨h1, h2, h3⟩) ?_ fun _ _ x => x)))
    rintro ⟨⟨⟩, z⟩ s' ⟨rfl, hp, hf, hs⟩
    dsimp only
    exact key_tail gk ga ne hk hl lim hp (by rw [hp.size_eq]; exact hs) hf h
end
end BT
namespace BT
open PySem PySem.Spec PyProof.Rows L2
section
variable {X : Cx} {pins : List (Addr × Obj)} {σ : L2.St} {H : Hp} {s : Shared}
/-- what the keys are: f answers .int (kz i) for the i-th item, and changes nothing -/
def KeyTurn (X : Cx) (H : Hp) (f : Value) (vs : List Value) (kz : List Int) : Prop := ∀ (i : Nat) (v : Value) (k : Int), vs[i]? = some v → kz[i]? = some k → ∀ (pins : List (Addr × Obj)) (σ : L2.St) (s : Shared), Inv X pins σ H s →
  wpAny (model X.prog X.w) X.A.in1.in1 (call f [v]) (fun r s' => ∃ t, r = .int k t ∧ Inv X pins σ H s') (fun _ _ => False) s
theorem key_rest {f : Value} {vs : List Value} {kz : List Int} {a kS : Addr} {e1 : Nat} {P : PySem.Fin → Shared → Prop} {E : Value → Shared → Prop} (I : Inv X pins σ H s) (turn : KeyTurn X H f vs kz) (hl : kz.length = vs.length) (lim : vs.length < 64) (ne : kS ≠ a)
    (fa : FpOk X pins H a) (fk : FpOk X pins H kS) (ga : s.heap.get? a = some (seqObj "list" #[] e1)) (gk : s.heap.get? kS = some (seqObj "list" #[] 0))
    (h : ∀ (s' : Shared) (out : Array Value), Inv X pins σ H s' → KskOut false kz vs out.toList → out.size = vs.length → (∃ n, s'.heap.get? a = some (seqObj "list" out n)) → P (.done (.ret .none)) s') :
    wpAny (model X.prog X.w) X.A.in1.in1 (ksk_rest a f false vs.toArray e1 (.ref kS)) P E s := by
  have pinOk : ∀ {s' : Shared} {kA : Array Value} {n : Nat}, s'.heap.get? a = some (seqObj "list" #[] e1) → s'.heap.get? kS = some (seqObj "list" kA n) → Inv X pins σ H s' → Inv X (pins ++ pinsAt [a, kS] s'.heap) σ H s' := fun {s' kA n} g1 g2 I' => by
    refine I'.pinned (fun b hb => ?_) (fun b hb => ?_)
    · rcases List.mem_cons.mp hb with rfl | hb
      · exact fa
      · rw [List.mem_singleton.mp hb]; exact fk
    · rcases List.mem_cons.mp hb with rfl | hb
      · exact ⟨_, g1, fun v z => by cases z⟩
      · rw [List.mem_singleton.mp hb]
        exact ⟨_, g2, fun v z => by cases z⟩
  unfold ksk_rest
  refine wpAny_bind (wpAny_rule ?_)
  rw [List.forIn_toArray]
  refine wpAny_bind (ksk_fold (fun i s' => Inv X pins σ H s' ∧ s'.heap.get? a = some (seqObj "list" #[] e1) ∧ ∃ kA n, s'.heap.get? kS = some (seqObj "list" kA n) ∧ IntsAre kA.toList (kz.take i)) vs 0 s ⟨I, ga, #[], 0, gk, by simpa using IntsAre.nil⟩ ?_ ?_)
  · rintro j x s1 hx ⟨I1, g1, kA, n, g2, hk⟩
    rw [Nat.zero_add] at hk ⊢
    have hj := (List.getElem?_eq_some_iff.mp hx).1
    obtain ⟨k, hkj⟩ : ∃ k, kz[j]? = some k := ⟨_, List.getElem?_eq_getElem (by omega)⟩
    have Ip := pinOk g1 g2 I1
    refine wpAny_bind (wpAny_attempt (wpAny_mono (turn j x k hx hkj _ σ s1 Ip) (fun r s2 hr => ?_) fun _ _ no => no.elim))
    obtain ⟨t, rfl, I2⟩ := hr
    have p1 := (I2.pin (a, seqObj "list" #[] e1) (List.mem_append_right _ (List.mem_append_right _ (mem_pinsAt (by simp) g1)))).1
    have p2 := (I2.pin (kS, seqObj "list" kA n) (List.mem_append_right _ (List.mem_append_right _ (mem_pinsAt (by simp) g2)))).1
    have I3 := I2.unpinned
    have size : kA.size ≤ 63 := by
      have q := hk.length
      rw [Array.length_toList, List.length_take] at q
      omega
    have sb := Heap.SameBut.update s2.heap kS (Obj.mapSeq (·.push (.int k t)))
    obtain ⟨n2, g3⟩ : ∃ n2, (s2.heap.update kS (Obj.mapSeq (·.push (.int k t)))).get? kS = some (seqObj "list" (kA.push (.int k t)) n2) := ⟨_, get?_update_seq p2 (·.push (.int k t))⟩
    refine wpAny_bind (listUpdate_at p2 rfl ?_ (by rw [sizeLine_eq]; omega) (by rw [Array.size_push, sizeLine_eq]; omega))
    refine wpAny_pure ⟨rfl, ?_, (sb.2 a (Ne.symm ne)).trans p1, kA.push (.int k t), n2, g3, ?_⟩
    · exact I3.turned (t' := s2.toks) (fun b o hb e => (sb.2 b hb).trans e) fk.1 fk.2.1 fk.2.2.2.1 fk.2.2.2.2.1 fk.2.2.2.2.2
    · have e1 : kz.take (j + 1) = kz.take j ++ [k] := by rw [List.take_add_one, hkj]; rfl
      rw [e1, Array.toList_push]
      exact ksk_snoc hk
  · rintro s1 ⟨I1, g1, kA, n, g2, hk⟩
    rw [List.take_of_length_le (by omega)] at hk
    refine wpAny_bind (listItems_at g2 rfl ?_)
    refine key_end g2 g1 ne hk hl lim fun out ho hz => ?_
    have b1 := Heap.SameBut.update s1.heap kS (Obj.mapSeq fun _ => (#[] : Array Value))
    have I2 := I1.turned (t' := s1.toks) (fun b o hb e => (b1.2 b hb).trans e) fk.1 fk.2.1 fk.2.2.2.1 fk.2.2.2.2.1 fk.2.2.2.2.2
    have g3 : (s1.heap.update kS (Obj.mapSeq fun _ => (#[] : Array Value))).get? a = some (seqObj "list" #[] e1) := (b1.2 a (Ne.symm ne)).trans g1
    have b2 := Heap.SameBut.update (s1.heap.update kS (Obj.mapSeq fun _ => (#[] : Array Value))) a (Obj.mapSeq fun _ => out)
    have I3 := I2.turned (t' := s1.toks) (fun b o hb e => (b2.2 b hb).trans e) fa.1 fa.2.1 fa.2.2.2.1 fa.2.2.2.2.1 fa.2.2.2.2.2
    exact h _ out I3 ho hz ⟨_, get?_update_seq g3 fun _ => out⟩
/-- the sorted list is a new one -/
def KeyOut (kz : List Int) (xs ys : List V) : Prop := ∃ ps : List (Int × V), ps.Perm (kz.zip xs) ∧ ys = ps.map Prod.snd ∧ ps.Pairwise fun p q => p.1 ≤ q.1
theorem key_out {kz : List Int} {xs : List V} {vs out : List Value} (r : Vals xs vs) (h : KskOut false kz vs out) : ∃ ys, Vals ys out ∧ KeyOut kz xs ys := by
  obtain ⟨ps, hp, rfl, hs⟩ := h
  obtain ⟨qs, h1, h2, h3⟩ : ∃ qs : List (Int × V), qs.Perm (kz.zip xs) ∧ Vals (qs.map Prod.snd) (ps.map Prod.snd) ∧ qs.map Prod.fst = ps.map Prod.fst := by
    have base : ∃ zs : List ((Int × V) × (Int × Value)), zs.map Prod.fst = kz.zip xs ∧ zs.map Prod.snd = kz.zip vs ∧ ∀ z ∈ zs, z.1.1 = z.2.1 ∧ RelV z.1.2 z.2.2 := by
      clear hp hs
      induction r generalizing kz with
      | nil => exact ⟨[], by simp, by simp, fun _ h => nomatch h⟩
      | cons rv _ ih =>
        cases kz with
        | nil => exact ⟨[], by simp, by simp, fun _ h => nomatch h⟩
        | cons k kz =>
          obtain ⟨zs, e1, e2, e3⟩ := ih (kz := kz)
          refine ⟨((k, _), (k, _)) :: zs, by rw [List.map_cons, List.zip_cons_cons, e1], by rw [List.map_cons, List.zip_cons_cons, e2], fun z hz => ?_⟩
          rcases List.mem_cons.mp hz with rfl | hz
          · exact ⟨rfl, rv⟩
          · exact e3 z hz
    obtain ⟨zs, e1, e2, e3⟩ := base
    rw [← e2] at hp
    have key : ∀ {ps : List (Int × Value)} {zs : List ((Int × V) × (Int × Value))}, ps.Perm (zs.map Prod.snd) → ∃ ws : List ((Int × V) × (Int × Value)), ws.Perm zs ∧ ws.map Prod.snd = ps := by
      intro ps
      induction ps with
      | nil =>
        intro zs h
        have := h.symm.eq_nil
        cases zs with
        | nil => exact ⟨[], .refl _, rfl⟩
        | cons z zs => cases this
      | cons p ps ih =>
        intro zs h
        have hm : p ∈ zs.map Prod.snd := h.mem_iff.mp (List.mem_cons_self ..)
        obtain ⟨z, hz, rfl⟩ := List.mem_map.mp hm
        obtain ⟨l1, l2, rfl⟩ := List.append_of_mem hz
        have h2 : ps.Perm ((l1 ++ l2).map Prod.snd) := by
          have h3 : ((l1 ++ z :: l2).map Prod.snd).Perm (z.2 :: (l1 ++ l2).map Prod.snd) := by
            rw [List.map_append, List.map_cons, List.map_append]
            exact List.perm_middle
          exact (List.perm_cons _).mp (h.trans h3)
        obtain ⟨ws, q1, q2⟩ := ih h2
        exact ⟨z :: ws, ((List.perm_cons _).mpr q1).trans List.perm_middle.symm, by rw [List.map_cons, q2]⟩
    obtain ⟨ws, q1, q2⟩ := key hp
    refine ⟨ws.map Prod.fst, by rw [← e1]; exact q1.map _, ?_, ?_⟩
    · rw [← q2]
      have rel : ∀ z ∈ ws, RelV z.1.2 z.2.2 := fun z hz => (e3 z (q1.mem_iff.mp hz)).2
      clear q2 q1
      induction ws with
      | nil => exact .nil
      | cons z ws ih => exact .cons (rel z (List.mem_cons_self ..)) (ih fun y hy => rel y (List.mem_cons_of_mem _ hy))
    · rw [← q2, List.map_map, List.map_map]
      exact List.map_congr_left fun z hz => (e3 z (q1.mem_iff.mp hz)).1
  refine ⟨_, h2, qs, h1, rfl, ?_⟩
  have e : ∀ {as : List (Int × V)} {bs : List (Int × Value)}, as.map Prod.fst = bs.map Prod.fst → bs.Pairwise (fun p q => if false = true then q.1 ≤ p.1 else p.1 ≤ q.1) → as.Pairwise fun p q => p.1 ≤ q.1 := by
    intro as bs e hb
    have e2 : (as.map Prod.fst).Pairwise (· ≤ ·) := by
      rw [e, List.pairwise_map]
      exact hb.imp fun h => by simpa using h
    rw [List.pairwise_map] at e2
    exact e2
  exact e h3 hs
theorem sorted_key {f : Value} {kz : List Int} {l : Addr} {xs : List V} {Q : VK} (I : Inv X pins σ H s) (hs : SqL X.K H l xs) (hl : kz.length = xs.length) (lim : xs.length < 64) (ha1 : argsOk "sorted" ⟨[.ref l], [(Str.ofString "key", f)]⟩) (ha2 : ∀ x, argsOk "list.sort" ⟨[.ref x], [(Str.ofString "key", f)]⟩)
    (ht : ∀ x, Builtin.«list.sort» ⟨[.ref x], [(Str.ofString "key", f)]⟩ = ksk_tree x f false) (turn : ∀ vs : List Value, Vals xs vs → KeyTurn X H f vs kz)
    (q : ∀ (ys : List V) (p : Addr), KeyOut kz xs ys → H p = none → Q (.ref p) (upd H p (.lst ys))) :
    wpAny (model X.prog X.w) X.A (call (.builtin "sorted") [.ref l] [(Str.ofString "key", f)]) (EP X pins σ Q) X.xe s := by
  obtain ⟨vs, rv, pl, hz⟩ := I.list hs
  have lv : xs.length = vs.length := rv.length
  have lim2 : vs.length ≤ sizeLine := by rw [sizeLine_eq]; omega
  refine call_function_entry_kw kind_sorted plain_sorted entry_sorted ha1 ?_
  unfold Builtin.«sorted»
  refine wpAny_bind (m := checkCount "sorted" 1 1 _) (wpAny_pure (wpAny_bind (collect_list pl.isList ?_ lim2)))
  refine wpAny_bind (wpAny_newList ?_ lim2)
  -- the heap with the list to sort
  have sb := Heap.SameBut.update (s.heap.push (seqObj "list" #[] 0)) s.heap.objs.size (Obj.mapSeq (· ++ vs.toArray))
  generalize hh1 : (s.heap.push (seqObj "list" #[] 0)).update s.heap.objs.size (Obj.mapSeq (· ++ vs.toArray)) = h1 at sb
  have s1 : h1.objs.size = s.heap.objs.size + 1 := by rw [← hh1, Heap.size_update, size_push']
  have keep1 : ∀ b o, s.heap.get? b = some o → h1.get? b = some o := fun b o e => by
    have hb := Heap.lt_size e
    rw [sb.2 b (Nat.ne_of_lt hb), Heap.get?_push_ne _ _ _ (Nat.ne_of_lt hb)]
    exact e
  have I1 : Inv X pins σ H { s with heap := h1, toks := s.toks } := I.kept keep1
  generalize hs1 : ({ s with heap := h1, toks := s.toks } : Shared) = t1 at I1
  have e1 : t1.heap = h1 := by rw [← hs1]
  have fa : FpOk X pins H t1.heap.objs.size := I1.fpOk (Nat.le_refl _) (I1.hok.fresh (Nat.le_refl _))
  have I2 : Inv X pins σ H { t1 with heap := t1.heap.push (seqObj "list" vs.toArray 0), toks := t1.toks } := I1.kept fun b o e => Heap.get?_push_of_some _ e
  have g2 : (t1.heap.push (seqObj "list" vs.toArray 0)).get? t1.heap.objs.size = some (seqObj "list" vs.toArray 0) := Heap.get?_push_size _ rfl
  show wpAny _ _ _ _ _ { t1 with heap := t1.heap.push (seqObj "list" vs.toArray 0), toks := t1.toks }
  generalize ha : t1.heap.objs.size = a at fa g2 ⊢
  have alt : a < (t1.heap.push (seqObj "list" vs.toArray 0)).objs.size := by rw [size_push', ha]; exact Nat.lt_succ_self _
  generalize hs2 : ({ t1 with heap := t1.heap.push (seqObj "list" vs.toArray 0), toks := t1.toks } : Shared) = t2 at I2 ⊢
  have e2 : t2.heap = t1.heap.push (seqObj "list" vs.toArray 0) := by rw [← hs2]
  rw [← e2] at g2 alt
  clear hs2 e2
  refine wpAny_bind (wpAny_holding (wpAny_call_entry_kw slot_list_sort ⟨_, g2, rfl⟩ entry_list_sort ?_ (ha2 _)))
  show wpAny (model X.prog X.w) X.A.in1.in1 (Builtin.«list.sort» ⟨[.ref a], [(Str.ofString "key", f)]⟩) _ _ _
  rw [ht a]
  unfold ksk_tree
  obtain ⟨n3, g3⟩ : ∃ n3, (t2.heap.update a (Obj.mapSeq fun _ => (#[] : Array Value))).get? a = some (seqObj "list" #[] n3) := ⟨_, get?_update_seq g2 fun _ => #[]⟩
  have b3 := Heap.SameBut.update t2.heap a (Obj.mapSeq fun _ => (#[] : Array Value))
  refine wpAny_bind (listItems_at g2 rfl (wpAny_bind (listUpdate_at g2 rfl ?_ (by rw [List.size_toArray]; exact lim2) (Nat.zero_le _))))
  refine wpAny_bind (seqEpoch_at g3 rfl (wpAny_bind (wpAny_newTuple ?_ (by show vs.length ≤ _; exact lim2))))
  refine wpAny_bind (wpAny_newList ?_ (Nat.zero_le _))
  refine wpAny_holding ?_
  have I3 := I2.turned (t' := t2.toks) (fun b o hb e => (b3.2 b hb).trans e) fa.1 fa.2.1 fa.2.2.2.1 fa.2.2.2.2.1 fa.2.2.2.2.2
  generalize hs3 : ({ t2 with heap := t2.heap.update a (Obj.mapSeq fun _ => #[]), toks := t2.toks } : Shared) = t3 at I3 ⊢
  have e3 : t3.heap = t2.heap.update a (Obj.mapSeq fun _ => #[]) := by rw [← hs3]
  rw [← e3] at g3
  have a3 : a < t3.heap.objs.size := Heap.lt_size g3
  have I4 : Inv X pins σ H { t3 with heap := t3.heap.push (seqObj "tuple" vs.toArray.toList.toArray 0), toks := t3.toks } := I3.kept fun b o e => Heap.get?_push_of_some _ e
  have g4 : (t3.heap.push (seqObj "tuple" vs.toArray.toList.toArray 0)).get? a = some (seqObj "list" #[] n3) := Heap.get?_push_of_some _ g3
  have a4 : a < (t3.heap.push (seqObj "tuple" vs.toArray.toList.toArray 0)).objs.size := by rw [size_push']; exact Nat.lt_succ_of_lt a3
  generalize hs4 : ({ t3 with heap := t3.heap.push (seqObj "tuple" vs.toArray.toList.toArray 0), toks := t3.toks } : Shared) = t4 at I4 ⊢
  have e4 : t4.heap = t3.heap.push (seqObj "tuple" vs.toArray.toList.toArray 0) := by rw [← hs4]
  rw [← e4] at g4 a4
  have fk : FpOk X pins H t4.heap.objs.size := I4.fpOk (Nat.le_refl _) (I4.hok.fresh (Nat.le_refl _))
  have I5 : Inv X pins σ H { t4 with heap := t4.heap.push (seqObj "list" #[] 0), toks := t4.toks } := I4.kept fun b o e => Heap.get?_push_of_some _ e
  refine key_rest (kS := t4.heap.objs.size) I5 (turn vs rv) (by omega) (by omega) (Nat.ne_of_gt a4) fa fk (Heap.get?_push_of_some _ g4) (Heap.get?_push_size _ rfl) fun s' out I' ho hz' hg => ?_
  obtain ⟨n, hg⟩ := hg
  obtain ⟨ys, ry, hy⟩ := key_out rv ho
  refine ⟨_, rfl, wpAny_pure ⟨_, rfl, .ref a, upd H a (.lst ys), ?_, rfl, q ys a hy fa.1⟩⟩
  refine I'.take (t' := s'.toks) (fun b ob _ e => e) fa ⟨?_, out.toList, n, ry, by rw [Array.toArray_toList]; exact hg⟩
  rw [ry.length, Array.length_toList, hz']; exact lim2
def rSortedKey (K : PySem.W.Frag) (f : Addr) (sp : Sp) : List V → List V → Hp → VK → Prop := fun vs zs H Q => ∃ (l : Addr) (xs : List V) (kz : List Int), vs = [.ref l] ∧ zs = [.ref f] ∧ SqL K H l xs ∧ kz.length = xs.length ∧ xs.length < 64 ∧
  (∀ (i : Nat) (x : V) (k : Int), xs[i]? = some x → kz[i]? = some k → sp [x] H (fun v H' => v = .int k ∧ H' = H) E0) ∧ ∀ (ys : List V) (p : Addr), KeyOut kz xs ys → H p = none → Q (.ref p) (upd H p (.lst ys))
theorem vals_at {xs : List V} {vs : List Value} (r : Vals xs vs) : ∀ {i : Nat} {v : Value}, vs[i]? = some v → ∃ x, xs[i]? = some x ∧ RelV x v := by
  induction r with
  | nil => intro i v h; simp at h
  | cons rv _ ih =>
    intro i v h
    cases i with
    | zero =>
      have e := Option.some.inj h
      exact ⟨_, rfl, e ▸ rv⟩
    | succ i => exact ih h
theorem cr_sortedKeyF {k : Nat} {f : Addr} {fd : FuncData} {y : Str} {sp : Sp} (F : FnOk X.prog X.w X.K X.mg X.base CX0 k f fd [y] sp) (hr : Room (k + 2) X.A) (hb : Binds X.K fd [y] []) : CallRK X (.builtin "sorted") [Str.ofString "key"] (rSortedKey X.K f sp) := by
  intro pins s σ H vs zs us ws Q I r rz h
  obtain ⟨l, xs, kz, rfl, rfl, hs, hl, lim, hk, q⟩ := h
  obtain ⟨u1, rfl, r1⟩ := vals1 r
  obtain ⟨w1, rfl, r2⟩ := vals1 rz
  cases (show u1 = Value.ref l from r1)
  cases (show w1 = Value.ref f from r2)
  refine sorted_key I hs hl lim (ksk_s1 _ _) (fun x => ksk_l1 _ _) (fun x => ksk_t1 _ _) (fun vs rv i v k hv hk2 pins σ s I' => ?_) q
  obtain ⟨x, hx, rx⟩ := vals_at rv hv
  refine wpAny_call (codeAny_mono (F.run X.A.in1.in1 X.stack s H ⟨[v], []⟩ [v] [x] _ E0 hr.in1.in1 I'.env0.in1.in1 (hb s [v] I'.kIn rfl) (.cons rx .nil) (hk i x k hx hk2)) fun r s' hq => ?_)
  cases r with
  | error e => exact hq.elim
  | ok fl =>
    cases fl with
    | ret u =>
      obtain ⟨v', H', I2, rv', e, e2⟩ := I'.after hq
      subst e e2
      obtain ⟨t, rfl⟩ := rv'
      exact ⟨t, rfl, I2⟩
    | next => exact False.elim hq
    | brk => exact False.elim hq
    | cont => exact False.elim hq
end
section
variable {X : Cx} {k j : Nat} {y x : Str} {sp : Sp} {p p2 kpos pos : Pos} {e : Expr} {te : TE}
/-- sorted(e, key=x), x a def of one number that changes nothing -/
def tSortedKey (K : PySem.W.Frag) (mg : Str → Option Value) (x : Str) (sp : Sp) (te : TE) : TE := fun σ H Q => ∃ f, mg x = some (.ref f) ∧ tCKw (rSortedKey K f sp) (tCons te tNil) (tCons (tC (.ref f)) tNil) σ H Q
theorem pe_sortedKey (D : DefOk X.prog X.w X.K X.mg X.base CX0 k x [y] sp) (hr : Room j X.A) (hg : Gl X "sorted") (hm : X.mg "sorted" = none) (hgx : Gl X x) (he : PE X e te) (hk : k + 2 ≤ j := by decide) (hdb : (x == ("__debug__" : Str)) = false := by decide)
    (h1 : backTo pos (starEach [e] X.env) = (false, eval e X.env) :: backTo pos (starEach [] X.env) := by rfl) (h2 : (backTo pos (starEach [e] X.env)).any (·.1) = false := by rfl) (h0 : starEach [e] X.env = (false, eval e X.env) :: starEach [] X.env := by rfl)
    (h3 : (backToKw pos (keywordEach [⟨some (Str.ofString "key"), .Name x p2, kpos⟩] X.env)).all (·.1.isSome) = true := by rfl) (h4 : (backToKw pos (keywordEach [⟨some (Str.ofString "key"), .Name x p2, kpos⟩] X.env)).any (·.1.isNone) = false := by rfl)
    (h5 : (backToKw pos (keywordEach [⟨some (Str.ofString "key"), .Name x p2, kpos⟩] X.env)).filterMap (·.1) = [Str.ofString "key"] := by rfl) :
    PE X (.Call (.Name "sorted" p) [e] [⟨some (Str.ofString "key"), .Name x p2, kpos⟩] pos) (tSortedKey X.K X.mg x sp te) := by
  obtain ⟨f, fd, F, hmx, hkp, hb⟩ := D.ex
  have q := pe_callBK (X := X) (x := "sorted") (p := p) (pos := pos) (e := e) (es := []) (kws := [⟨some (Str.ofString "key"), .Name x p2, kpos⟩]) (cr_sortedKeyF F (hr.mono hk) hb) hg hm (by decide +kernel) (pa_cons he pa_nil h0) (pk_cons (pe_glob (v := .ref f) (hd := hdb) hgx hmx rfl) pk_nil) (by decide) (by decide) h1 h2 h3 h4 h5
  refine ⟨fun pins s σ H Q I h => ?_⟩
  obtain ⟨f2, e2, h⟩ := h
  rw [hmx] at e2
  cases e2
  exact q.run pins s σ H Q I h
end
end BT

set_option Elab.async false
set_option linter.all false
namespace BT
open PySem PySem.Spec PyProof.Rows L2
theorem perm_map_inv {α β : Type} (F : α → β) : ∀ {ps : List β} {zs : List α}, ps.Perm (zs.map F) → ∃ ws : List α, ws.Perm zs ∧ ws.map F = ps
  | [], zs, h => by
    have e := h.symm.eq_nil
    cases zs with
    | nil => exact ⟨[], .refl _, rfl⟩
    | cons z zs => cases e
  | p :: ps, zs, h => by
    obtain ⟨z, hz, rfl⟩ := List.mem_map.mp (h.mem_iff.mp (List.mem_cons_self ..))
    obtain ⟨l1, l2, rfl⟩ := List.append_of_mem hz
    have h3 : ((l1 ++ z :: l2).map F).Perm (F z :: (l1 ++ l2).map F) := by
      rw [List.map_append, List.map_cons, List.map_append]
      exact List.perm_middle
    obtain ⟨ws, q1, q2⟩ := perm_map_inv F ((List.perm_cons _).mp (h.trans h3))
    exact ⟨z :: ws, ((List.perm_cons _).mpr q1).trans List.perm_middle.symm, by rw [List.map_cons, q2]⟩
theorem sorted_one {α : Type} (key : α → Nat) : ∀ {a b : List α}, a.Perm b → a.Pairwise (fun x y => key x ≤ key y) → b.Pairwise (fun x y => key x ≤ key y) → (∀ x ∈ b, ∀ y ∈ b, key x = key y → x = y) → a = b
  | [], b, h, _, _, _ => h.symm.eq_nil.symm
  | x :: a, [], h, _, _, _ => by have := h.eq_nil; cases this
  | x :: a, y :: b, h, ha, hb, hk => by
    have ha' := List.pairwise_cons.mp ha
    have hb' := List.pairwise_cons.mp hb
    have hx : x ∈ y :: b := h.mem_iff.mp (List.mem_cons_self ..)
    have hy : y ∈ x :: a := h.mem_iff.mpr (List.mem_cons_self ..)
    have e : x = y := by
      rcases List.mem_cons.mp hx with e | hx2
      · exact e
      · rcases List.mem_cons.mp hy with e | hy2
        · exact e.symm
        · exact hk x hx y (List.mem_cons_self ..) (Nat.le_antisymm (ha'.1 y hy2) (hb'.1 x hx2))
    subst e
    rw [sorted_one key ((List.perm_cons _).mp h) ha'.2 hb'.2 fun p hp q hq => hk p (List.mem_cons_of_mem _ hp) q (List.mem_cons_of_mem _ hq)]
/-- sorted by the lowest place -/
def insLow (x : Nat) : List Nat → List Nat
  | [] => [x]
  | y :: r => if lowN x ≤ lowN y then x :: y :: r else y :: insLow x r
def sortLow (l : List Nat) : List Nat := l.foldr insLow []
theorem insLow_perm (x : Nat) : ∀ l : List Nat, (insLow x l).Perm (x :: l)
  | [] => .refl _
  | y :: r => by
    unfold insLow
    split
    · exact .refl _
    · exact ((insLow_perm x r).cons y).trans (List.Perm.swap x y r)
theorem sortLow_perm : ∀ l : List Nat, (sortLow l).Perm l
  | [] => .refl _
  | x :: l => (insLow_perm x (sortLow l)).trans ((sortLow_perm l).cons x)
theorem insLow_sorted (x : Nat) : ∀ l : List Nat, l.Pairwise (fun a b => lowN a ≤ lowN b) → (insLow x l).Pairwise fun a b => lowN a ≤ lowN b
  | [], _ => List.pairwise_singleton _ _
  | y :: r, h => by
    have h' := List.pairwise_cons.mp h
    unfold insLow
    split
    · rename_i c
      refine List.pairwise_cons.mpr ⟨fun z hz => ?_, h⟩
      rcases List.mem_cons.mp hz with rfl | hz
      · exact c
      · exact Nat.le_trans c (h'.1 z hz)
    · rename_i c
      refine List.pairwise_cons.mpr ⟨fun z hz => ?_, insLow_sorted x r h'.2⟩
      rcases List.mem_cons.mp ((insLow_perm x r).mem_iff.mp hz) with rfl | hz
      · omega
      · exact h'.1 z hz
theorem sortLow_sorted : ∀ l : List Nat, (sortLow l).Pairwise fun a b => lowN a ≤ lowN b
  | [] => .nil
  | x :: l => insLow_sorted x _ (sortLow_sorted l)
def reduceF (ms : List Nat) : List Nat := sortLow (sweepF (-1) ms).1
theorem alone_inj {rows : List Nat} (A : Alone (-1) rows) : ∀ x ∈ rows, ∀ y ∈ rows, lowN x = lowN y → x = y := fun x hx y hy e => by
  obtain ⟨ks, hl, h⟩ := A
  obtain ⟨i, hi, rfl⟩ := List.getElem_of_mem hx
  obtain ⟨j, hj, rfl⟩ := List.getElem_of_mem hy
  obtain ⟨a1, a2⟩ := h i _ ks[i] (List.getElem?_eq_getElem hi) (List.getElem?_eq_getElem (by omega))
  obtain ⟨b1, b2⟩ := h j _ ks[j] (List.getElem?_eq_getElem hj) (List.getElem?_eq_getElem (by omega))
  rw [andN_neg1] at a1 b1
  have ek : ks[i] = ks[j] := two_pow_inj (a1.symm.trans (e.trans b1))
  have q := (b2 j _ (List.getElem?_eq_getElem hj)).mpr rfl
  have z := (a2 j _ (List.getElem?_eq_getElem hj)).mp (by rw [ek]; exact q)
  subst z; rfl
theorem zip_map2 {α β γ : Type} (f : α → β) (g : α → γ) : ∀ l : List α, (l.map f).zip (l.map g) = l.map fun x => (f x, g x)
  | [] => rfl
  | x :: l => by rw [List.map_cons, List.map_cons, List.zip_cons_cons, zip_map2 f g l, List.map_cons]
theorem key_reduce {ms : List Nat} {ys : List V} (h : KeyOut ((sweepF (-1) ms).1.map fun m => ((lowN m : Nat) : Int)) (lotV (sweepF (-1) ms).1) ys) : ys = lotV (reduceF ms) := by
  obtain ⟨ps, hp, rfl, hs⟩ := h
  unfold lotV at hp
  rw [zip_map2] at hp
  obtain ⟨ws, h1, rfl⟩ := perm_map_inv _ hp
  have hw : ws.Pairwise fun a b => lowN a ≤ lowN b := by
    rw [List.pairwise_map] at hs
    exact hs.imp fun h => Int.ofNat_le.mp h
  have e : ws = reduceF ms := sorted_one lowN (h1.trans (sortLow_perm _).symm) hw (sortLow_sorted _) fun x hx y hy => alone_inj (sweep_alone (-1) ms) x ((sortLow_perm _).mem_iff.mp hx) y ((sortLow_perm _).mem_iff.mp hy)
  rw [List.map_map, ← e]
  rfl
end BT

set_option Elab.async false
set_option linter.all false
set_option maxRecDepth 100000
set_option maxHeartbeats 2000000
namespace BT
open PySem PySem.Spec PyProof.Rows L2
/-! ### walks over a list or a tuple -/
def iSeq (K : PySem.W.Frag) (te : TE) : TI := fun σ H R => te σ H fun x H1 => ∃ (a : Addr) (xs : List V), x = .ref a ∧ ((SqL K H1 a xs ∧ R (Itl K a) H1) ∨ (SqT K H1 a xs ∧ R (Itt K a) H1))
section
variable {X : Cx} {tg e : Expr} {te : TE}
theorem pi_seq (he : PE X e te) : PI X tg e (iSeq X.K te) := by
  refine ⟨fun pins s σ H R I h => thn (he.run pins s σ H _ I h) fun v s1 out => ?_⟩
  obtain ⟨x, H1, I1, r, a, xs, rfl, w⟩ := out
  cases r
  rcases w with ⟨hq, q⟩ | ⟨hq, q⟩
  · obtain ⟨its, rv, p, hz⟩ := I1.list hq
    exact wpAny_pyIter_list p.isList (pi_one (tk := s1.toks) I1 _ (turn_list a _) ⟨_, Heap.get?_push_size _ rfl, rfl, rfl⟩ q)
  · obtain ⟨its, rv, p, hz⟩ := I1.tuple hq
    exact wpAny_pyIter_tuple (show s1.heap.IsTuple a its.toArray from p) (pi_one (tk := s1.toks) I1 _ (turn_tuple a _) ⟨_, Heap.get?_push_size _ rfl, rfl, rfl⟩ q)
end
/-- numbers in a list or a tuple -/
def NatsAt (H : Hp) (a : Addr) (ns : List Nat) : Prop := H a = some (.lst (lotV ns)) ∨ H a = some (.tup (lotV ns))
theorem NatsAt.same {H H' : Hp} {a : Addr} {ns : List Nat} (s : Same H H') (h : NatsAt H a ns) : NatsAt H' a ns := h.imp (s a _) (s a _)
theorem for_seq {K : PySem.W.Frag} {a : Addr} {xs : List V} {g : TG} {tb : TS} {D : Ends} {σ : L2.St} {H : Hp} (Pv : Nat → L2.St → Hp → Prop) (h0 : Pv 0 σ H) (hl : (∀ i σ H, i ≤ xs.length → Pv i σ H → H a = some (.lst xs)) ∨ (∀ i σ H, i ≤ xs.length → Pv i σ H → H a = some (.tup xs)))
    (hs : ∀ i x σ H, xs[i]? = some x → Pv i σ H → g x σ H fun σ2 H2 => tb { D with nx := Pv (i + 1), ct := Pv (i + 1), bk := D.nx } σ2 H2) (hd : ∀ σ H, Pv xs.length σ H → D.nx σ H) :
    (SqL K H a xs ∧ ∃ W : Nat → Nat → L2.St → Hp → Prop, (∃ m, W 0 m σ H) ∧ ∀ i m σ H, W i m σ H → ((Itl K a).stop i H ∧ D.nx σ H) ∨ ((Itl K a).go i H ∧ ∃ N : L2.St → Hp → Prop, (∀ σ' H', N σ' H' → ∃ m', m' < m ∧ W (i + 1) m' σ' H') ∧ ∀ x H', (Itl K a).yld i H x H' → g x σ H' fun σ2 H2 => tb { D with nx := N, ct := N, bk := D.nx } σ2 H2)) ∨
    (SqT K H a xs ∧ ∃ W : Nat → Nat → L2.St → Hp → Prop, (∃ m, W 0 m σ H) ∧ ∀ i m σ H, W i m σ H → ((Itt K a).stop i H ∧ D.nx σ H) ∨ ((Itt K a).go i H ∧ ∃ N : L2.St → Hp → Prop, (∀ σ' H', N σ' H' → ∃ m', m' < m ∧ W (i + 1) m' σ' H') ∧ ∀ x H', (Itt K a).yld i H x H' → g x σ H' fun σ2 H2 => tb { D with nx := N, ct := N, bk := D.nx } σ2 H2)) := by
  rcases hl with hl | hl
  · exact .inl ⟨.inl (.inl (hl 0 σ H (Nat.zero_le _) h0)), for_list Pv h0 (fun i σ H hi p => .inl (.inl (hl i σ H hi p))) hs hd⟩
  · exact .inr ⟨.inl (.inl (hl 0 σ H (Nat.zero_le _) h0)), for_tup Pv h0 (fun i σ H hi p => .inl (.inl (hl i σ H hi p))) hs hd⟩
/-- the same in a comprehension -/
theorem lc_seq {K : PySem.W.Frag} {a : Addr} {xs : List V} {g : TG} {tt : TT} {te : TE} {vs : List Nat} {σ : L2.St} {H0 : Hp} {Qd : Addr → Hp → Prop} (hn : H0 a = some (.lst xs) ∨ H0 a = some (.tup xs)) (Pv : Addr → Nat → Hp → Prop) (h0 : ∀ D, H0 D = none → Pv D 0 (upd H0 D (.lst [])))
    (hl : ∀ D i H, H0 D = none → i ≤ xs.length → Pv D i H → ∀ o, H0 a = some o → H a = some o)
    (hs : ∀ D i x H, H0 D = none → xs[i]? = some x → Pv D i H → g x (wipe σ vs) H fun σ2 H2 => wipe σ2 vs = wipe σ vs ∧ tt σ2 H2 fun b H3 => if b = true then te σ2 H3 fun y H4 => ∃ acc, H4 D = some (.lst acc) ∧ acc.length < sizeLine ∧ Pv D (i + 1) (upd H4 D (.lst (acc ++ [y]))) else Pv D (i + 1) H3)
    (hd : ∀ D H, H0 D = none → Pv D xs.length H → Qd D H) :
    (SqL K H0 a xs ∧ ∀ D, H0 D = none → ∃ W : Nat → Nat → Hp → Prop, (∃ m, W 0 m (upd H0 D (.lst []))) ∧ ∀ i m H, W i m H → ((Itl K a).stop i H ∧ Qd D H) ∨ ((Itl K a).go i H ∧ ∃ Nx : Hp → Prop, (∀ H', Nx H' → ∃ m', m' < m ∧ W (i + 1) m' H') ∧ ∀ x H', (Itl K a).yld i H x H' → g x (wipe σ vs) H' fun σ2 H2 => wipe σ2 vs = wipe σ vs ∧ tt σ2 H2 fun b H3 => if b = true then te σ2 H3 fun y H4 => ∃ acc, H4 D = some (.lst acc) ∧ acc.length < sizeLine ∧ Nx (upd H4 D (.lst (acc ++ [y]))) else Nx H3)) ∨
    (SqT K H0 a xs ∧ ∀ D, H0 D = none → ∃ W : Nat → Nat → Hp → Prop, (∃ m, W 0 m (upd H0 D (.lst []))) ∧ ∀ i m H, W i m H → ((Itt K a).stop i H ∧ Qd D H) ∨ ((Itt K a).go i H ∧ ∃ Nx : Hp → Prop, (∀ H', Nx H' → ∃ m', m' < m ∧ W (i + 1) m' H') ∧ ∀ x H', (Itt K a).yld i H x H' → g x (wipe σ vs) H' fun σ2 H2 => wipe σ2 vs = wipe σ vs ∧ tt σ2 H2 fun b H3 => if b = true then te σ2 H3 fun y H4 => ∃ acc, H4 D = some (.lst acc) ∧ acc.length < sizeLine ∧ Nx (upd H4 D (.lst (acc ++ [y]))) else Nx H3)) := by
  rcases hn with hn | hn
  · exact .inl ⟨.inl (.inl hn), fun D hD => lc_list (Pv D) (h0 D hD) (fun i H hi p => .inl (.inl (hl D i H hD hi p _ hn))) (fun i x H hx p => hs D i x H hD hx p) fun H p => hd D H hD p⟩
  · exact .inr ⟨.inl (.inl hn), fun D hD => lc_tup (Pv D) (h0 D hD) (fun i H hi p => .inl (.inl (hl D i H hD hi p _ hn))) (fun i x H hx p => hs D i x H hD hx p) fun H p => hd D H hD p⟩
end BT

set_option Elab.async false
set_option linter.all false
set_option maxRecDepth 100000
set_option maxHeartbeats 4000000
namespace PySem
open AutoSeq1 (wpAny_loadPart')
/-- enumerate of a tuple: its iterator, then the enumerate object -/
theorem BT_enum_new (t : Addr) (items : Array Value) (n : Nat) (dct : Option Addr) (sl : Array (Option Value)) :
    Meets (Builtin.«enumerate.__new__» ⟨[.type "enumerate", .ref t], []⟩) (fun _ R s => s.heap.get? t = some { cls := .type "tuple", dict := dct, data := .seq items n, slots := sl } ∧
      R (.ok (.ret (.ref (s.heap.push { cls := .type "tuple_iterator", data := .fields #[.ref t, .int 0 0] }).objs.size)))
        { s with heap := (s.heap.push { cls := .type "tuple_iterator", data := .fields #[.ref t, .int 0 0] }).push { cls := .type "enumerate", data := .fields #[.none, .bool false, .ref s.heap.objs.size, rawInt 0, .none, .none] } }) :=
  .of_wp fun prog w A R s h => by
    obtain ⟨hp, g, d, tk, os⟩ := s; obtain ⟨ht, h⟩ := h
    have hT : Heap.IsTuple (Shared.heap ⟨hp, g, d, tk, os⟩) t items := ⟨_, ht, rfl, n, rfl⟩
    have sub := sub_enumerate
    wp_walk using wpAny_loadPart' ht
    refine wpAny_stack_any fun st => wpAny_pure ?_
    split
    · rename_i c _ _ _ _ _
      cases (c == Value.type "enumerate") <;> (wp_walk using wpAny_loadPart' ht, wpAny_pyIter_tuple hT; exact ⟨_, rfl, h⟩)
    · wp_walk using wpAny_loadPart' ht, wpAny_pyIter_tuple hT
      exact ⟨_, rfl, h⟩
end PySem
namespace BT
open PySem PySem.Spec PyProof.Rows L2
section
variable {prog : Program} {w : World} {A : Around} {E : Value → Shared → Prop} {s : Shared}
theorem call_enum_tup {t : Addr} {items : Array Value} {Q : Value → Shared → Prop} (hT : s.heap.IsTuple t items)
    (h : ∀ h' : Heap, IsEnum h' (s.heap.objs.size + 1) s.heap.objs.size 0 .none → h'.IsTupleIter s.heap.objs.size t 0 → (∀ b o, s.heap.get? b = some o → h'.get? b = some o) → Q (.ref (s.heap.objs.size + 1)) { s with heap := h' }) :
    wpAny (model prog w) A (call (.type "enumerate") [.ref t]) Q E s := by
  obtain ⟨⟨c, dct, dt, sl⟩, ht, hc, n, hd⟩ := hT
  cases (show c = .type "tuple" from hc)
  cases (show dt = .seq items n from hd)
  refine callType_new F.called_enumerate (by decide) (F.typeCall_enumerate_1 _) (F.newCall_enumerate_1 _) (fun _ => F.args_object_init_2 _ _) F.entry_enumerate_new (BT_enum_new t items n dct sl) ⟨ht, ?_⟩
  have size1 : (s.heap.push { cls := .type "tuple_iterator", data := .fields #[.ref t, .int 0 0] }).objs.size = s.heap.objs.size + 1 := Heap.size_push ..
  show _ ∧ _
  rw [size1]
  have he : IsEnum ((s.heap.push { cls := .type "tuple_iterator", data := .fields #[.ref t, .int 0 0] }).push { cls := .type "enumerate", data := .fields #[.none, .bool false, .ref s.heap.objs.size, rawInt 0, .none, .none] }) (s.heap.objs.size + 1) s.heap.objs.size 0 .none := by
    rw [← size1]
    exact Heap.get?_push_size _ rfl
  exact ⟨⟨_, he, rfl⟩, h _ he ⟨_, Heap.get?_push_of_some _ (Heap.get?_push_size _ rfl), rfl, rfl⟩ fun b o x => Heap.get?_push_of_some _ (Heap.get?_push_of_some _ x)⟩
theorem draws_tup (hh : A.handled = none) (it t : Addr) (ne : t ≠ it) (items : Array Value) : Draws prog w A it [it, t] items.size (fun i v => items[i]? = some v) (fun i h => h.IsTupleIter it t i ∧ h.IsTuple t items) := by
  constructor
  · rintro i h ⟨⟨o, ho, _⟩, _⟩
    exact ⟨o, ho⟩
  · rintro i h h' ⟨⟨o, ho, r⟩, ⟨u, hu, q⟩⟩ k
    exact ⟨⟨o, k it (by simp) o ho, r⟩, ⟨u, k t (by simp) u hu, q⟩⟩
  · rintro i s Q E hi ⟨h1, h2⟩ hQ
    exact wpAny_nextOf_tuple_item h1 h2 (x := items[i]) (by simp [hi]) fun h' g1 sb => hQ _ h' s.toks (by simp [hi]) ⟨g1, h2.extBut sb.extBut ne⟩ sb
  · rintro s Q E ⟨h1, h2⟩ hE
    exact wpAny_nextOf_tuple_end hh h1 h2 (by simp) hE
end
/-- the tuple at a, its items with their numbers in new pairs -/
def IteT (K : PySem.W.Frag) (a : Addr) : It where
  go := fun i H => ∃ (xs : List V) (x : V), SqT K H a xs ∧ xs[i]? = some x
  yld := fun i H v H' => ∃ T x, v = .ref T ∧ H T = none ∧ H' = upd H T (.tup [.int (i : Nat), x]) ∧ ∀ xs, SqT K H a xs → xs[i]? = some x
  stop := fun i H => ∃ xs : List V, SqT K H a xs ∧ xs.length = i
theorem turn_enumT {P : Program} {w : World} {K : PySem.W.Frag} {elts : List Expr} {kk : Nat} {tpos : Pos} (a e it : Addr) :
    Turn P w K (.Tuple elts kk tpos) (IteT K a) [e, it] e (fun i h => (∃ old, IsEnum h e it ((i : Nat) : Int) old) ∧ h.IsTupleIter it a i ∧ e ≠ it ∧ a ≠ e ∧ a ≠ it) where
  mem := List.mem_cons_self ..
  obj := by
    rintro i h ⟨⟨old, he⟩, ⟨o, ho, _, hd⟩, _⟩ b hb
    rcases List.mem_cons.mp hb with rfl | hb
    · exact ⟨_, he, fun v q => by cases q⟩
    · rw [List.mem_singleton.mp hb]
      exact ⟨o, ho, fun v q => by rw [hd] at q; cases q⟩
  keep := by
    rintro i h h' ⟨⟨old, he⟩, ⟨o, ho, r⟩, n⟩ k
    exact ⟨⟨old, k e (by simp) _ he⟩, ⟨o, k it (by simp) _ ho, r⟩, n⟩
  item := by
    intro X hP hw hK hc i pins s σ H E I hf st hg
    subst hP hw hK
    obtain ⟨⟨old, he⟩, hit, ne, n1, n2⟩ := st
    obtain ⟨xs, x, hq, hx⟩ := hg
    obtain ⟨its, rv, p, hz⟩ := I.tuple hq
    obtain ⟨u, hu, ru⟩ := rv.get hx
    have lt1 := Heap.lt_size he
    have lt2 : it < s.heap.objs.size := by obtain ⟨_, q, _⟩ := hit; exact Heap.lt_size q
    have hi : i < its.toArray.size := by
      rw [List.size_toArray]
      exact (List.getElem?_eq_some_iff.mp hu).1
    refine wpAny_pyNext_enum_itemD (draws_tup (A := X.A.in1) (I.ok.hd hc) it a n2 its.toArray) he ⟨hit, show s.heap.IsTuple a its.toArray from p⟩ hi ne (by simp [ne, Ne.symm n1]) fun y h' tk hy ho hst hT hsz hk => ?_
    have ey : y = u := by
      rw [List.getElem?_toArray] at hy
      exact Option.some.inj (hy.symm.trans hu)
    subst ey
    refine ⟨_, rfl, wpAny_letOwnedTupleGo_enum (s := { s with heap := h', toks := tk + 1 }) ho fun h2 he2 sb => ?_⟩
    have g : h2.get? s.heap.objs.size = some { cls := .type "tuple", data := .seq #[.int i tk, y] } := (sb.2 _ (Nat.ne_of_gt lt1)).trans hT
    have new : ObjOk X.prog X.w (upd H s.heap.objs.size (.tup [.int (i : Nat), x])) h2 s.heap.objs.size (.tup [.int (i : Nat), x]) := ⟨by show 2 ≤ sizeLine; decide, [.int i tk, y], .cons ⟨_, rfl⟩ (.cons ru .nil), ⟨_, g, rfl, _, rfl⟩⟩
    have I1 : Inv X pins σ (upd H s.heap.objs.size (.tup [.int (i : Nat), x])) { s with heap := h2, toks := tk + 1 } :=
      I.turnedNew (ch := [e, it]) (fun b ob hb q => (sb.2 b fun z => hb (by simp [z])).trans (hk b ob (fun z => hb (by simp [z])) (fun z => hb (by simp [z])) q)) hf (Nat.le_refl _) new
    refine ⟨.ref s.heap.objs.size, _, I1, rfl, ⟨_, x, rfl, I.hok.fresh (Nat.le_refl _), rfl, fun ys hy => by rw [I.tuple_inj hy hq]; exact hx⟩, ⟨⟨y, ?_⟩, ?_, ne, n1, n2⟩, fun b hb => ?_⟩
    · have e1 : ((i + 1 : Nat) : Int) = (i : Int) + 1 := by omega
      rw [e1]
      exact he2
    · obtain ⟨⟨o, q1, r⟩, _⟩ := hst
      exact ⟨o, (sb.2 it (Ne.symm ne)).trans q1, r⟩
    · have hlt : b < s.heap.objs.size := by
        rcases List.mem_cons.mp hb with rfl | hb
        · exact lt1
        · rw [List.mem_singleton.mp hb]; exact lt2
      rw [upd_ne (Nat.ne_of_lt hlt)]
      exact (hf b hb).1
  done := by
    intro X hP hw hK hc i pins s σ H E I hf st hg
    subst hP hw hK
    obtain ⟨⟨old, he⟩, hit, ne, n1, n2⟩ := st
    obtain ⟨xs, hq, hx⟩ := hg
    obtain ⟨its, rv, p, hz⟩ := I.tuple hq
    obtain ⟨f0, f1, f2, f3, f4, f5⟩ := hf it (by simp)
    have hl := rv.length
    have en : its.toArray.size = i := by rw [List.size_toArray, ← hl, hx]
    subst en
    exact wpAny_pyNext_enum_endD (draws_tup (A := X.A.in1) (I.ok.hd hc) it a n2 its.toArray) he ⟨hit, show s.heap.IsTuple a its.toArray from p⟩ fun h' eb => ⟨rfl, I.turned (t' := s.toks) (fun b o hb q => eb b o hb q) f0 f1 f3 f4 f5⟩
  self := fun A i s Q E st h => let ⟨⟨_, he⟩, _⟩ := st; wpAny_pyIter_enum he h
/-- enumerate of a list or a tuple -/
def iEnumA (K : PySem.W.Frag) (ta : TA) : TI := fun σ H R => ta σ H fun vs H1 => ∃ (a : Addr) (xs : List V), vs = [.ref a] ∧ ((SqL K H1 a xs ∧ R (Ite K a) H1) ∨ (SqT K H1 a xs ∧ R (IteT K a) H1))
theorem pi_enumA {X : Cx} {e : Expr} {ta : TA} {p pos tpos : Pos} {elts : List Expr} {kk : Nat} (hg : Gl X "enumerate") (hm : X.mg "enumerate" = none) (ha : PA X [e] ta) (hs : starEach [e] X.env = [(false, eval e X.env)] := by rfl) :
    PI X (.Tuple elts kk tpos) (.Call (.Name "enumerate" p) [e] [] pos) (iEnumA X.K ta) := by
  refine ⟨fun pins s σ H R I h => Call_ (ld_blt I hg hm boot_enumerate (PyProof.Rows.callWith_type1 (thn (ha.run pos pins s σ H _ I h) fun us s1 out => ?_) hs rfl))⟩
  obtain ⟨vs, H1, I1, r1, a, xs, rfl, w⟩ := out
  obtain ⟨u, rfl, r2⟩ := vals1 r1
  cases (show u = Value.ref a from r2)
  have fresh : ∀ b : Addr, b = s1.heap.objs.size + 1 ∨ b = s1.heap.objs.size → FpOk X pins H1 b := fun b hb => by
    have hle : s1.heap.objs.size ≤ b := by
      rcases hb with z | z
      · rw [z]; exact Nat.le_add_right _ _
      · rw [z]; exact Nat.le_refl _
    exact I1.fpOk hle (I1.hok.fresh hle)
  rcases w with ⟨hq, q⟩ | ⟨hq, q⟩
  · obtain ⟨its, rv, p', hz⟩ := I1.list hq
    refine call_enumerate_list p'.isList fun h' he hit _ hk => wpAny_pyIter_enum he ?_
    exact ⟨_, [s1.heap.objs.size + 1, s1.heap.objs.size], _, _, H1, rfl, I1.kept (t' := s1.toks) hk, turn_enum a _ _, ⟨⟨.none, he⟩, hit, Nat.succ_ne_self _⟩, fun b hb => fresh b (by simpa using hb), q⟩
  · obtain ⟨its, rv, p', hz⟩ := I1.tuple hq
    obtain ⟨ob, hob, _⟩ := id p'
    have lt := Heap.lt_size hob
    refine call_enum_tup (show s1.heap.IsTuple a its.toArray from p') fun h' he hit hk => wpAny_pyIter_enum he ?_
    exact ⟨_, [s1.heap.objs.size + 1, s1.heap.objs.size], _, _, H1, rfl, I1.kept (t' := s1.toks) hk, turn_enumT a _ _, ⟨⟨.none, he⟩, hit, Nat.succ_ne_self _, Nat.ne_of_lt (Nat.lt_succ_of_lt lt), Nat.ne_of_lt lt⟩, fun b hb => fresh b (by simpa using hb), q⟩
theorem walk_enumT {K : PySem.W.Frag} {a : Addr} {xs : List V} : Walk (IteT K a) xs.length (fun H => SqT K H a xs) (YPair (fun i => some (.int (i : Nat))) (fun i => xs[i]?)) := by
  constructor
  · intro i H hi q
    exact ⟨xs, xs[i], q, List.getElem?_eq_getElem hi⟩
  · intro H q
    exact ⟨xs, q, rfl⟩
  · rintro i H v H' _ q ⟨T, x, h1, h2, h3, h4⟩
    exact ⟨T, .int (i : Nat), x, h1, h2, h3, rfl, h4 xs q⟩
/-- a loop over enumerate of a list or a tuple of numbers -/
theorem for_enumA {K : PySem.W.Frag} {a : Addr} {xs : List V} {g : TG} {tb : TS} {D : Ends} {σ : L2.St} {H : Hp} (hn : H a = some (.lst xs) ∨ H a = some (.tup xs)) (Pv : Nat → L2.St → Hp → Prop) (h0 : Pv 0 σ H) (hl : ∀ i σ H', i ≤ xs.length → Pv i σ H' → ∀ o, H a = some o → H' a = some o)
    (hs : ∀ i x σ H' T, xs[i]? = some x → Pv i σ H' → H' T = none → g (.ref T) σ (upd H' T (.tup [.int (i : Nat), x])) fun σ2 H2 => tb { D with nx := Pv (i + 1), ct := Pv (i + 1), bk := D.nx } σ2 H2) (hd : ∀ σ H', Pv xs.length σ H' → D.nx σ H') :
    (SqL K H a xs ∧ ∃ W : Nat → Nat → L2.St → Hp → Prop, (∃ m, W 0 m σ H) ∧ ∀ i m σ H, W i m σ H → ((Ite K a).stop i H ∧ D.nx σ H) ∨ ((Ite K a).go i H ∧ ∃ N : L2.St → Hp → Prop, (∀ σ' H', N σ' H' → ∃ m', m' < m ∧ W (i + 1) m' σ' H') ∧ ∀ x H', (Ite K a).yld i H x H' → g x σ H' fun σ2 H2 => tb { D with nx := N, ct := N, bk := D.nx } σ2 H2)) ∨
    (SqT K H a xs ∧ ∃ W : Nat → Nat → L2.St → Hp → Prop, (∃ m, W 0 m σ H) ∧ ∀ i m σ H, W i m σ H → ((IteT K a).stop i H ∧ D.nx σ H) ∨ ((IteT K a).go i H ∧ ∃ N : L2.St → Hp → Prop, (∀ σ' H', N σ' H' → ∃ m', m' < m ∧ W (i + 1) m' σ' H') ∧ ∀ x H', (IteT K a).yld i H x H' → g x σ H' fun σ2 H2 => tb { D with nx := N, ct := N, bk := D.nx } σ2 H2)) := by
  have turn : ∀ i x σ H1 H2, i < xs.length → Pv i σ H1 → YPair (fun i => some (.int (i : Nat))) (fun i => xs[i]?) i H1 x H2 → g x σ H2 fun σ2 H2 => tb { D with nx := Pv (i + 1), ct := Pv (i + 1), bk := D.nx } σ2 H2 := by
    rintro i v σ H1 H2 hi p ⟨T, x, y, rfl, hT, rfl, hx, hy⟩
    have ex : V.int (i : Nat) = x := Option.some.inj hx
    subst ex
    exact hs i y σ H1 T hy p hT
  rcases hn with hn | hn
  · exact .inl ⟨.inl (.inl hn), for_it walk_enum Pv h0 (fun i σ H' hi p => .inl (.inl (hl i σ H' hi p _ hn))) turn hd⟩
  · exact .inr ⟨.inl (.inl hn), for_it walk_enumT Pv h0 (fun i σ H' hi p => .inl (.inl (hl i σ H' hi p _ hn))) turn hd⟩
end BT

set_option Elab.async false
set_option linter.all false
set_option maxRecDepth 100000
set_option maxHeartbeats 4000000
namespace BT
open PySem PySem.Spec PyProof.Rows L2
/-! ### methods that stand, classes that make -/
structure MethOk (P : Program) (w : World) (K : PySem.W.Frag) (mg : Str → Option Value) (base : Heap) (CX : CXT) (k : Nat) (C : Addr) (m : Str) (ps : List Str) (sp : Sp) : Prop where
  ex : ∃ (f : Addr) (fd : FuncData), FnOk P w K mg base CX k f fd ps sp ∧ Meth K C m f ∧ Binds K fd ps []
structure MakeOk (P : Program) (w : World) (K : PySem.W.Frag) (mg : Str → Option Value) (base : Heap) (CX : CXT) (k : Nat) (C : Addr) (x : Str) (ps : List Str) (sp : Sp) : Prop where
  g : mg x = some (.ref C)
  ex : ∃ (f : Addr) (fd : FuncData), FnOk P w K mg base CX k f fd ps sp ∧ Mk K C f ∧ Binds K fd ps []
abbrev FnM (K : PySem.W.Frag) (x qual : Str) (st : Stmt) (f : Addr) (fd : FuncData) : Prop := FunD K x qual (defArgs st) (defBody st) (defScope st) [] [] f fd
/-- the answer of a method, a call where what is raised is wished for at the slots -/
def tMethS (C : Addr) (m : Str) (sp : Sp) (E : L2.St → XK) (ta : TE) (t : TA) : TE := fun σ H Q => ta σ H fun x H1 => ∃ a dx fs, x = .ref a ∧ H1 a = some (.ins C dx fs) ∧ fs.lookup m = none ∧ t σ H1 fun vs H2 => sp (x :: vs) H2 Q (E σ)
def tMakeS (C : Addr) (sp : Sp) (E : L2.St → XK) (t : TA) : TE := fun σ H Q => t σ H fun vs H1 => ∀ x dx, H1 x = none → H1 dx = none → dx ≠ x → sp (.ref x :: vs) (upd (upd H1 dx (.own x)) x (.ins C dx [])) (fun v H2 => v = .non ∧ Q (.ref x) H2) (E σ)
section
variable {X : Cx} {CX : CXT} {k j : Nat} {C : Addr} {ps : List Str} {sp : Sp} {x m : Str} {p pos apos : Pos} {e o : Expr} {es : List Expr} {ta : TE} {t : TA}
theorem pe_mX {E : XK} {pl : Sem Bool} (D : MethOk X.prog X.w X.K X.mg X.base CX k C m ps sp) (c : Cls X.K C) (he : PE X o ta) (hr : Room j X.A) (hx : Passes CX X E) (ha : PA X (e :: es) t) (hk : k ≤ j := by decide)
    (h1 : starEach (e :: es) X.env = (false, eval e X.env) :: starEach es X.env := by rfl) (h2 : (backTo pos (starEach es X.env)).any (·.1) = false := by rfl)
    (h3 : eval (.Call (.Attribute o m apos) (e :: es) [] pos) X.env = (do
      let v ← eval o X.env
      standAt apos.atName
      let (f, first) ← holding [v] (getMethod v m pl)
      callWith pos f first (backTo pos (starEach (e :: es) X.env)) (backToKw pos (keywordEach [] X.env))) := by rfl) :
    PE X (.Call (.Attribute o m apos) (e :: es) [] pos) (tMeth C m sp [] E ta t) := by
  obtain ⟨f, fd, F, hm, hb⟩ := D.ex
  exact pe_meth (pl := pl) he c hm F (hr.mono hk) hb .nil hx ha h1 h2 h3
theorem pe_m0X {E : XK} {pl : Sem Bool} (D : MethOk X.prog X.w X.K X.mg X.base CX k C m ps sp) (c : Cls X.K C) (he : PE X o ta) (hr : Room j X.A) (hx : Passes CX X E) (hk : k ≤ j := by decide)
    (h3 : eval (.Call (.Attribute o m apos) [] [] pos) X.env = (do
      let v ← eval o X.env
      standAt apos.atName
      let (f, first) ← holding [v] (getMethod v m pl)
      callWith pos f first (backTo pos (starEach [] X.env)) (backToKw pos (keywordEach [] X.env))) := by rfl) :
    PE X (.Call (.Attribute o m apos) [] [] pos) (tMeth C m sp [] E ta tNil) := by
  obtain ⟨f, fd, F, hm, hb⟩ := D.ex
  exact pe_meth0 (pl := pl) he c hm F (hr.mono hk) hb .nil hx h3
theorem pe_mkX {E : XK} (D : MakeOk X.prog X.w X.K X.mg X.base CX k C x ps sp) (hr : Room j X.A) (hg : Gl X x) (hx : Passes CX X E) (ha : PA X (e :: es) t) (hk : k + 1 ≤ j := by decide) (hdb : (x == ("__debug__" : Str)) = false := by decide)
    (h1 : starEach (e :: es) X.env = (false, eval e X.env) :: starEach es X.env := by rfl) (h2 : (backTo pos (starEach es X.env)).any (·.1) = false := by rfl) : PE X (.Call (.Name x p) (e :: es) [] pos) (tMake C sp [] E t) := by
  obtain ⟨f, fd, F, hm, hb⟩ := D.ex
  exact pe_make hm F (hr.mono hk) hg D.g hb .nil hx ha hdb h1 h2
theorem pe_mS {E : L2.St → XK} {pl : Sem Bool} (D : MethOk X.prog X.w X.K X.mg X.base CX k C m ps sp) (c : Cls X.K C) (he : PE X o ta) (hr : Room j X.A) (hx : ∀ σ, PassesAt CX X σ (E σ)) (ha : PA X (e :: es) t) (hk : k ≤ j := by decide)
    (h1 : starEach (e :: es) X.env = (false, eval e X.env) :: starEach es X.env := by rfl) (h2 : (backTo pos (starEach es X.env)).any (·.1) = false := by rfl)
    (h3 : eval (.Call (.Attribute o m apos) (e :: es) [] pos) X.env = (do
      let v ← eval o X.env
      standAt apos.atName
      let (f, first) ← holding [v] (getMethod v m pl)
      callWith pos f first (backTo pos (starEach (e :: es) X.env)) (backToKw pos (keywordEach [] X.env))) := by rfl) :
    PE X (.Call (.Attribute o m apos) (e :: es) [] pos) (tMethS C m sp E ta t) := by
  obtain ⟨f, fd, F, hm, hb⟩ := D.ex
  refine ⟨fun pins s σ H Q I h => PySem.W.methodCall_KW (pl := pl) (thn (he.run pins s σ H _ I h) fun u s1 out => ?_) h3⟩
  obtain ⟨y, H1, I1, ry, a, dx, fs, rfl, ea, l, q⟩ := out
  cases (show u = Value.ref a from ry)
  refine getmeth_ok I1 ea c hm l (PySem.W.callWith_K (first := [.ref a]) (h₀ := X.base) I.ok.mod.kin hm.kp (thn (ha.run pos pins s1 σ H1 _ I1 q) fun us s2 out => ?_) h1 h2)
  obtain ⟨vs, H2, I2, r, q2⟩ := out
  exact ⟨I2.kIn, run_fnSD (us := .ref a :: us) (vs := .ref a :: vs) F (hr.mono hk) hb .nil (hx σ) I2 (.cons rfl r) (by rw [List.append_nil]; exact q2)⟩
theorem pe_m0S {E : L2.St → XK} {pl : Sem Bool} (D : MethOk X.prog X.w X.K X.mg X.base CX k C m ps sp) (c : Cls X.K C) (he : PE X o ta) (hr : Room j X.A) (hx : ∀ σ, PassesAt CX X σ (E σ)) (hk : k ≤ j := by decide)
    (h3 : eval (.Call (.Attribute o m apos) [] [] pos) X.env = (do
      let v ← eval o X.env
      standAt apos.atName
      let (f, first) ← holding [v] (getMethod v m pl)
      callWith pos f first (backTo pos (starEach [] X.env)) (backToKw pos (keywordEach [] X.env))) := by rfl) :
    PE X (.Call (.Attribute o m apos) [] [] pos) (tMethS C m sp E ta tNil) := by
  obtain ⟨f, fd, F, hm, hb⟩ := D.ex
  refine ⟨fun pins s σ H Q I h => PySem.W.methodCall_KW (pl := pl) (thn (he.run pins s σ H _ I h) fun u s1 out => ?_) h3⟩
  obtain ⟨y, H1, I1, ry, a, dx, fs, rfl, ea, l, q⟩ := out
  cases (show u = Value.ref a from ry)
  refine getmeth_ok I1 ea c hm l ?_
  exact PySem.W.callWith_K0 (first := [.ref a]) I1.kIn hm.kp (run_fnSD (us := [.ref a]) (vs := [.ref a]) F (hr.mono hk) hb .nil (hx σ) I1 (.cons rfl .nil) q)
theorem pe_mkS {E : L2.St → XK} (D : MakeOk X.prog X.w X.K X.mg X.base CX k C x ps sp) (hr : Room j X.A) (hg : Gl X x) (hx : ∀ σ, PassesAt CX X σ (E σ)) (ha : PA X (e :: es) t) (hk : k + 1 ≤ j := by decide) (hdb : (x == ("__debug__" : Str)) = false := by decide)
    (h1 : starEach (e :: es) X.env = (false, eval e X.env) :: starEach es X.env := by rfl) (h2 : (backTo pos (starEach es X.env)).any (·.1) = false := by rfl) : PE X (.Call (.Name x p) (e :: es) [] pos) (tMakeS C sp E t) := by
  obtain ⟨f, fd, F, M, hb⟩ := D.ex
  refine ⟨fun pins s σ H Q I h => wpAny_Call_Name_kw (ld_glob I hg D.g (PySem.W.callWith_K (h₀ := X.base) I.ok.mod.kin M.kp (thn (ha.run pos pins s σ H _ I h) fun us s1 out => ?_) h1 h2) hdb)⟩
  obtain ⟨vs, H1, I1, r, q⟩ := out
  refine ⟨I1.kIn, ?_⟩
  have hq := q (s1.heap.objs.size + 1) s1.heap.objs.size (I1.hok.fresh (Nat.le_succ _)) (I1.hok.fresh (Nat.le_refl _)) (Nat.ne_of_lt (Nat.lt_succ_self _))
  have I2 := Inv.made (C := C) I1
  have r2 : Vals (V.ref (s1.heap.objs.size + 1) :: vs) (Value.ref (s1.heap.objs.size + 1) :: us) := .cons rfl r
  have len : (Value.ref (s1.heap.objs.size + 1) :: us).length = ps.length := by
    rw [← r2.length]
    exact F.len _ _ _ _ hq
  have bt := hb _ (Value.ref (s1.heap.objs.size + 1) :: us) I2.kIn (by rw [List.append_nil]; exact len)
  rw [List.append_nil] at bt
  refine wpAny_call (make_map (f := f) I1.kIn M.makes M.init (beq_iff_eq.mp M.fn) (codeAny_mono (F.run _ X.stack _ _ ⟨Value.ref (s1.heap.objs.size + 1) :: us, []⟩ (Value.ref (s1.heap.objs.size + 1) :: us) _ _ (E σ) ((hr.mono hk).make C us []) (I2.env0.make C us []) bt r2 hq) fun r s' out => ?_))
  cases r with
  | error er => exact hx σ pins _ _ er s' I2 out
  | ok fl =>
    cases fl with
    | ret u =>
      obtain ⟨v, H', I3, rv, ev, q3⟩ := I2.after out
      subst ev
      exact ⟨rv, ⟨V.ref (s1.heap.objs.size + 1), H', I3, rfl, q3⟩⟩
    | next => exact False.elim out
    | brk => exact False.elim out
    | cont => exact False.elim out
end
end BT

set_option Elab.async false
set_option linter.all false
set_option maxRecDepth 100000
set_option maxHeartbeats 4000000
namespace BT
open PySem PySem.Spec PyProof.Rows L2
theorem ints_at : ∀ {vs : List Value} {ns : List Int}, IntsAre vs ns → ∀ {i : Nat} {v : Value}, vs[i]? = some v → ∃ t, v = .int (ns.getD i 0) t
  | _, _, .nil, i, v, h => by simp at h
  | _, _, .cons n t r, 0, v, h => ⟨t, (Option.some.inj h).symm⟩
  | _, _, .cons n t r, i + 1, v, h => ints_at r (i := i) h
theorem any_ints : ∀ ns : List Int, (List.range ns.length).any (fun i => ns.getD i 0 != 0) = ns.any (· != 0)
  | [] => rfl
  | n :: ns => by
    rw [List.length_cons, List.range_succ_eq_map, List.any_cons, List.any_map, List.any_cons, ← any_ints ns]
    rfl
/-- any of a list of whole numbers -/
def rAnyI (K : PySem.W.Frag) : List V → Hp → VK → Prop := fun vs H Q => ∃ (a : Addr) (ns : List Int), vs = [V.ref a] ∧ SqL K H a (ns.map V.int) ∧ Q (.bl (ns.any (· != 0))) H
theorem cr_anyI {X : Cx} (hc : X.calm = true) : CallR X (.builtin "any") (rAnyI X.K) := by
  intro pins s σ H vs us Q I r h
  obtain ⟨a, ns, rfl, hs, q⟩ := h
  obtain ⟨u, rfl, r1⟩ := vals1 r
  cases (show u = Value.ref a from r1)
  obtain ⟨its, rv, hl, _⟩ := I.list hs
  have hi : IntsAre its ns := rv.ints
  have tr : TruthOf X.prog X.w X.A.in1 (fun i v => its.toArray[i]? = some v) (fun i => ns.getD i 0 != 0) := fun i v s Q E hv hq => by
    have hv : its.toArray[i]? = some v := hv
    rw [List.getElem?_toArray] at hv
    obtain ⟨t, rfl⟩ := ints_at hi hv
    exact truthy_int hq
  refine call_any_walk (iter_any hl.isList fun s2 e2 st hne => ?_)
  subst e2
  refine ⟨_, _, _, _, _, _, _, rfl, Walks.list (A := X.A.in1) (I.ok.hd hc) _ a hne its.toArray, st, tr, fun h' tk hk => ⟨.bl _, H, I.kept fun b o eo => hk b o (fun hm => ?_) (Heap.get?_push_of_some _ eo), ?_, q⟩⟩
  · rcases List.mem_cons.mp hm with e | hm
    · exact absurd (e ▸ Heap.lt_size eo) (Nat.lt_irrefl _)
    · cases hm
  · show Value.bool _ = Value.bool _
    rw [← any_ints, List.size_toArray, hi.length]
end BT

set_option Elab.async false
set_option linter.all false
set_option maxRecDepth 100000
set_option maxHeartbeats 4000000
namespace BT
open PySem PySem.W PySem.SeqAt PySem.Calls PyProof.Rows
section
variable {prog : Program} {w : World} {A : Around} {E : Value → Shared → Prop} {s : Shared}
theorem call_tup_lt {Q : Value → Shared → Prop} {l b : Addr} {items items2 : Array Value} {e r : Nat → Bool} (hl : s.heap.IsTuple l items) (hb : s.heap.IsTuple b items2)
    (he : ∀ j (h1 : j < items.size) (h2 : j < items2.size), EqAt A.in1 s items[j] items2[j] (e j)) (hr : ∀ j (h1 : j < items.size) (h2 : j < items2.size), e j = false → RcLt A.in1 s items[j] items2[j] (r j))
    (h : Q (.bool (firstLt e r (decide (items.size < items2.size)) (List.range (min items.size items2.size)))) s) : wpAny (model prog w) A (call (.builtin "tuple.__lt__") [.ref l, .ref b]) Q E s := by
  obtain ⟨⟨c1, d1, t1, sl1⟩, ho, hc, n, hd⟩ := id hl
  obtain ⟨⟨c2, d2, t2, sl2⟩, ho2, hc2, n2, hd2⟩ := id hb
  simp only at hc hd hc2 hd2
  subst hc hd hc2 hd2
  exact call_meets F.slot_tuple_lt ⟨_, ho, rfl⟩ F.entry_tuple_lt (F.args_tuple_lt_2 _ _) (tuple_ltAt l b items items2 n n2 d1 d2 sl1 sl2 e r) ⟨ho, ho2, he, hr, h⟩
/-- a tuple against a tuple, in whatever way the sort compares -/
theorem one_lt_tup {f : Bool} {xs ys : List PyData} {a b : Value} {as bs : List Addr} {Q : Bool → Shared → Prop} (ra : Reads s.heap a (.tuple xs) as) (rb : Reads s.heap b (.tuple ys) bs) (h : alikeAll xs ys = true)
    (hu : A.units + min (PyData.tuple xs).depth (PyData.tuple ys).depth < cLine) (hq : Q (dataLt (.tuple xs) (.tuple ys)) s) : wpAny (model prog w) A (oneLt' f a b) Q E s := by
  cases f with
  | false => exact oneLt_alike (fun h => by cases h) ra rb (by simpa [alike] using h) (by simp) hu hq
  | true =>
    cases ra with
    | @tuple l o vs n _ as1 h1 h2 h3 h4 =>
      cases rb with
      | @tuple l' o' vs' n' _ bs1 k1 k2 k3 k4 =>
        have n1 : vs.size = xs.length := by simpa using ReadsAll.length _ _ _ h4
        have n2 : vs'.size = ys.length := by simpa using ReadsAll.length _ _ _ k4
        rw [dataLt_tuple, ← firstLt_toks xs ys h, ← n1, ← n2] at hq
        rw [oneLt'_eq]
        simp only [if_true]
        refine wpAny_bind (wpAny_cRoomFor (room_here hu) (wpAny_bind (wpAny_callSpecialIfBound?_slot (T := "tuple") ⟨_, h1, h2⟩ F.slot_tuple_lt
          (call_tup_lt (e := pairEq xs ys) (r := fun j => dataLt (xs.getD j .none) (ys.getD j .none)) ⟨_, h1, h2, _, h3⟩ ⟨_, k1, k2, _, k3⟩ (fun j j1 j2 => ?_) (fun j j1 j2 hj => ?_) ?_))))
        · have q := eqAt_alikeAll xs ys A.in1 s vs.toList vs'.toList _ _ h4 k4 h (room_in hu) j (by simpa using j1) (by simpa using j2)
          simpa using q
        · have q := rcLt_alikeAll xs ys A.in1 s vs.toList vs'.toList _ _ h4 k4 h (room_in hu) j (by simpa using j1) (by simpa using j2) hj
          simpa using q
        · exact wpAny_truthy_bool hq
end
section
variable {M : Model} {A : Around} {E : Value → Shared → Prop} {s : Shared}
theorem mapM_each {α β : Type} {f : α → Sem β} {R : α → β → Prop} : ∀ (l : List α) {Q : List β → Shared → Prop}, (∀ v ∈ l, ∃ r, R v r ∧ ∀ (Q' : β → Shared → Prop), Q' r s → wpAny M A (f v) Q' E s) → (∀ rs : List β, EachIs R l rs → Q rs s) → wpAny M A (l.mapM f) Q E s
  | [], _, _, h => by
    rw [List.mapM_nil]
    exact wpAny_pure (h [] .nil)
  | x :: l, Q, hf, h => by
    rw [List.mapM_cons]
    obtain ⟨r, hr, hx⟩ := hf x (List.mem_cons_self ..)
    exact wpAny_bind (hx _ (wpAny_bind (mapM_each l (Q := fun bs s' => wpAny M A (pure (r :: bs)) Q E s') (fun v hv => hf v (List.mem_cons_of_mem _ hv)) fun rs hrs => wpAny_pure (h (r :: rs) (.cons hr hrs)))))
end
section
variable {prog : Program} {w : World} {A : Around} {s : Shared}
/-- tuples of any lengths that are alike can be sorted -/
theorem sorts_tups {vs : List Value} {ds : List PyData} (e : EachIs (fun v d => ∃ as, Reads s.heap v d as) vs ds) (hal : AllAlike ds) (ht : ∀ d, d ∈ ds → ∃ xs, d = .tuple xs) (hu : ∀ d, d ∈ ds → A.units + d.depth < cLine) : SortsAt prog w A s (dataKind s.heap ds) vs := by
  by_cases full : ∀ d, d ∈ ds → ∃ x r, d = .tuple (x :: r)
  · exact SortsAt.data e hal (.inl full) hu
  -- one at least is empty
  have room : ∀ {d d' : PyData}, d ∈ ds → A.units + min d.depth d'.depth < cLine := fun {d d'} hd => Nat.lt_of_le_of_lt (Nat.add_le_add_left (Nat.min_le_left _ _) _) (hu d hd)
  have lt : ∀ f : Bool, ∀ (E : Value → Shared → Prop) (x y : Value) (a b : (dataKind s.heap ds).α) {Q : Bool → Shared → Prop}, (dataKind s.heap ds).keyOf x = some a → (dataKind s.heap ds).keyOf y = some b → Q ((dataKind s.heap ds).blt a b) s → wpAny (model prog w) A (oneLt' f x y) Q E s := by
    intro f E x y a b Q ha hb hq
    obtain ⟨d, as, hd, ra, rfl⟩ := dataKind_inv ha
    obtain ⟨d', as', hd', rb, rfl⟩ := dataKind_inv hb
    obtain ⟨xs, rfl⟩ := ht d hd
    obtain ⟨ys, rfl⟩ := ht d' hd'
    exact one_lt_tup ra rb (by simpa [alike] using hal _ hd _ hd') (room hd) hq
  refine ⟨fun v hv => ?_, ?_⟩
  · obtain ⟨d, hd, as, r⟩ := e.left v hv
    exact ⟨_, dataKind_some hal hd r⟩
  have firsts : ∀ v, v ∈ vs → ∃ r : Option Value, (∃ d as, d ∈ ds ∧ Reads s.heap v d as ∧ (r.isSome = true ↔ ∃ x t, d = .tuple (x :: t))) ∧ ∀ {E : Value → Shared → Prop} (Q' : Option Value → Shared → Prop), Q' r s → wpAny (model prog w) A (firstOfTuple' v) Q' E s := by
    intro v hv
    obtain ⟨d, hd, as, r⟩ := e.left v hv
    obtain ⟨xs, rfl⟩ := ht d hd
    have r' := r
    cases r with
    | @tuple l o vs n _ as1 h1 h2 h3 h4 =>
      refine ⟨vs[0]?, ⟨_, _, hd, r', ?_⟩, fun {E} Q' hq => ?_⟩
      · have n1 : vs.size = xs.length := by simpa using ReadsAll.length _ _ _ h4
        cases xs with
        | nil =>
          have : vs[0]? = none := by simp at n1 ⊢; exact n1
          rw [this]
          exact ⟨fun h => absurd h (by decide), fun ⟨x, t, h⟩ => PyData.noConfusion h fun h => by cases h⟩
        | cons x t =>
          have h0 : 0 < vs.size := by rw [n1]; simp
          rw [Array.getElem?_eq_getElem h0]
          exact ⟨fun _ => ⟨x, t, rfl⟩, fun _ => rfl⟩
      · rw [kas_first_eq]
        refine wpAny_bind (wpAny_typeOf (T := "tuple") ⟨_, h1, h2⟩ ?_)
        rw [if_neg (by simp)]
        exact wpAny_bind (listItems_at h1 h3 (wpAny_pure hq))
  cases ds with
  | nil => exact absurd (fun d hd => by cases hd) full
  | cons d0 ds0 =>
    obtain ⟨xs0, e0⟩ := ht d0 (List.mem_cons_self ..)
    cases vs with
    | nil => cases e
    | cons v0 vs0 =>
      have e' := e
      cases e with
      | cons h0 t0 =>
        obtain ⟨as0, rd0⟩ := h0
        have notall : ∀ rs : List (Option Value), EachIs (fun v r => ∃ d as, d ∈ d0 :: ds0 ∧ Reads s.heap v d as ∧ (r.isSome = true ↔ ∃ x t, d = .tuple (x :: t))) (v0 :: vs0) rs → ¬ (rs.toArray.all (·.isSome)) = true := by
          intro rs hrs hall
          refine full fun d hd => ?_
          have key : ∀ {vs : List Value} {ds : List PyData} {rs : List (Option Value)}, EachIs (fun v d => ∃ as, Reads s.heap v d as) vs ds → EachIs (fun v r => ∃ d as, d ∈ d0 :: ds0 ∧ Reads s.heap v d as ∧ (r.isSome = true ↔ ∃ x t, d = .tuple (x :: t))) vs rs → (∀ d ∈ ds, d ∈ d0 :: ds0) → (∀ r ∈ rs, r.isSome = true) → ∀ d ∈ ds, ∃ x t, d = .tuple (x :: t) := by
            intro vs ds rs h1
            induction h1 generalizing rs with
            | nil => intro _ _ _ d hd; cases hd
            | cons hr _ ih =>
              intro h2 hm hsome d hd
              cases h2 with
              | cons q t =>
                rcases List.mem_cons.mp hd with rfl | hd
                · obtain ⟨d2, as2, m2, r2, i2⟩ := q
                  obtain ⟨as1, r1⟩ := hr
                  have ed : d2 = d := alike_unique _ _ _ _ _ (hal _ m2 _ (hm d (List.mem_cons_self ..))) r2 r1
                  rw [← ed]
                  exact i2.mp (hsome _ (List.mem_cons_self ..))
                · exact ih t (fun d hd => hm d (List.mem_cons_of_mem _ hd)) (fun r hr => hsome r (List.mem_cons_of_mem _ hr)) d hd
          refine key e' hrs (fun d hd => hd) (fun r hr => ?_) d hd
          simp only [List.all_toArray, List.all_eq_true] at hall
          exact hall r hr
        have kinds : ∀ (E : Value → Shared → Prop) {Q : SortKind → Shared → Prop}, Q (if xs0.isEmpty = true then oneType' else general') s → wpAny (model prog w) A (keyKind' (v0 :: vs0).toArray) Q E s := by
          intro E Q hq
          rw [keyKind'_eq, List.mapM_toArray, map_eq_pure_bind]
          refine wpAny_bind (wpAny_bind (mapM_each (R := fun v r => ∃ d as, d ∈ d0 :: ds0 ∧ Reads s.heap v d as ∧ (r.isSome = true ↔ ∃ x t, d = .tuple (x :: t))) _ (fun v hv => ?_) fun rs hrs => wpAny_pure ?_))
          · obtain ⟨r, h1, h2⟩ := firsts v hv
            exact ⟨r, h1, h2⟩
          · rw [if_neg (notall rs hrs)]
            cases hrs with
            | cons q t =>
              obtain ⟨d2, as2, m2, r2, i2⟩ := q
              have ed : d2 = d0 := alike_unique _ _ _ _ _ (hal _ m2 _ (List.mem_cons_self ..)) r2 rd0
              subst ed
              subst e0
              rename_i r rs2
              cases xs0 with
              | nil =>
                have hr0 : r = none := by
                  cases hr : r with
                  | none => rfl
                  | some z =>
                    obtain ⟨x, t, e⟩ := i2.mp (by rw [hr]; rfl)
                    cases e
                subst hr0
                rw [if_neg (by simp)]
                rw [oneTypeOnly'_eq, List.mapM_toArray, map_eq_pure_bind]
                refine wpAny_bind (wpAny_bind (wpAny_bind (kas_mapM (r := Value.type "tuple") _ (fun v hv Q' hq' => ?_) (wpAny_pure ?_))))
                · obtain ⟨d, hd, as, rr⟩ := e'.left v hv
                  obtain ⟨xs, rfl⟩ := ht d hd
                  cases rr with
                  | @tuple l o ws n _ as1 h1 h2 h3 h4 => exact wpAny_typeOf (T := "tuple") ⟨_, h1, h2⟩ hq'
                · have hall : ((List.map (fun _ => Value.type "tuple") (v0 :: vs0)).toArray.all fun x => x == Value.type "tuple") = true := by
                    simp only [List.all_toArray, List.all_map, List.all_eq_true]
                    intro _ _
                    rfl
                  have h00 : (List.map (fun _ => Value.type "tuple") (v0 :: vs0)).toArray[0]? = some (Value.type "tuple") := by simp
                  rw [h00]
                  simp only [hall, if_true]
                  exact wpAny_pure (wpAny_pure hq)
              | cons x0 t0' =>
                have hr0 : r.isSome = true := i2.mpr ⟨x0, t0', rfl⟩
                obtain ⟨z, rfl⟩ := Option.isSome_iff_exists.mp hr0
                rw [if_pos (by simp)]
                exact wpAny_pure hq
        refine ⟨if xs0.isEmpty = true then oneType' else general', ?_, fun _ E Q hq => kinds E hq⟩
        cases xs0 with
        | nil =>
          intro E x y a b Q ha hb hq
          show wpAny (model prog w) A (oneLt' true x y) Q E s
          exact lt true E x y a b ha hb hq
        | cons x t =>
          intro E x y a b Q ha hb hq
          show wpAny (model prog w) A (oneLt' false x y) Q E s
          exact lt false E x y a b ha hb hq
end
end BT
namespace BT
open PySem PySem.Spec PySem.W PySem.SeqAt PyProof.Rows L2
/-- data sorted by the order of tuples -/
noncomputable def sortD (ds : List PyData) : List PyData := ds.mergeSort (sortLe (listOrd itemOrd) false keyToks)
/-- tuples of whole numbers -/
def TupD (d : PyData) : Prop := ∃ ns : List Int, d = .tuple (ns.map PyData.int)
theorem alike_ints : ∀ a b : List Int, alikeAll (a.map PyData.int) (b.map PyData.int) = true
  | [], _ => by simp [alikeAll]
  | _ :: _, [] => by simp [alikeAll]
  | x :: a, y :: b => by
    rw [List.map_cons, List.map_cons, alikeAll, alike, alike_ints a b]; rfl
theorem tups_alike {ds : List PyData} (h : ∀ d ∈ ds, TupD d) : AllAlike ds := fun d hd e he => by
  obtain ⟨a, rfl⟩ := h d hd
  obtain ⟨b, rfl⟩ := h e he
  simp only [alike]
  exact alike_ints a b
theorem tup_depth {d : PyData} (h : TupD d) : d.depth ≤ 1 := by
  obtain ⟨a, rfl⟩ := h
  have : PyData.depthAll (a.map PyData.int) ≤ 0 := by
    induction a with
    | nil => simp [PyData.depthAll]
    | cons x a ih =>
      rw [List.map_cons]
      simp only [PyData.depthAll, PyData.depth]
      omega
  simp only [PyData.depth]
  omega
section
variable {X : Cx}
/-- sorted(xs), xs a list of tuples of whole numbers of any lengths -/
def rSortedD (K : PySem.W.Frag) : List V → Hp → VK → Prop := fun vs H Q => ∃ (a : Addr) (xs : List V) (ds : List PyData), vs = [V.ref a] ∧ H a = some (.lst xs) ∧ DvA H xs ds ∧ (∀ d ∈ ds, TupD d) ∧ ∀ (ys : List V) (p : Addr), DvA H ys (sortD ds) → H p = none → Q (.ref p) (upd H p (.lst ys))
theorem each_of {H : Hp} : ∀ {xs : List V} {ds : List PyData} {vs : List Value}, DvA H xs ds → Vals xs vs → EachIs (fun v d => ∃ x, RelV x v ∧ Dv H x d) vs ds
  | _, _, _, .nil, .nil => .nil
  | _, _, _, .cons h1 h2, .cons r1 r2 => .cons ⟨_, r1, h1⟩ (each_of h2 r2)
theorem of_each {H : Hp} : ∀ {ds : List PyData} {vs : List Value}, EachIs (fun v d => ∃ x, RelV x v ∧ Dv H x d) vs ds → ∃ xs, Vals xs vs ∧ DvA H xs ds
  | _, _, .nil => ⟨[], .nil, .nil⟩
  | _, _, .cons h t => by
    obtain ⟨x, r, d⟩ := h
    obtain ⟨xs, rs, ds⟩ := of_each t
    exact ⟨x :: xs, .cons r rs, .cons d ds⟩
theorem each_and {α β : Type} {R : α → β → Prop} {S : β → Prop} : ∀ {as : List α} {bs : List β}, EachIs R as bs → (∀ b ∈ bs, S b) → EachIs (fun a b => R a b ∧ S b) as bs
  | _, _, .nil, _ => .nil
  | _, _, .cons h t, hs => .cons ⟨h, hs _ (List.mem_cons_self ..)⟩ (each_and t fun b hb => hs b (List.mem_cons_of_mem _ hb))
theorem cr_sortedD (hu : X.A.units + 64 < cLine) : CallR X (.builtin "sorted") (rSortedD X.K) := by
  intro pins s σ H vs us Q I r h
  obtain ⟨a, xs, ds, rfl, ha, hA, ht, q⟩ := h
  obtain ⟨u, rfl, r1⟩ := vals1 r
  cases (show u = Value.ref a from r1)
  obtain ⟨its, rv, pl, hz⟩ := I.list (.inl (.inl ha))
  have lv := rv.length
  have I2 : Inv X pins σ H { s with heap := sortingHeap (copyHeap s.heap its) (s.heap.objs.size + 1) its, toks := s.toks } := I.kept fun b o e => sorting_copy_old e
  have each := each_of hA rv
  have reads : EachIs (fun v d => ∃ as, Reads (sortingHeap (copyHeap s.heap its) (s.heap.objs.size + 1) its) v d as) its ds := each.mono fun v d h => by
    obtain ⟨x, rx, dx⟩ := h
    obtain ⟨as, h1, _⟩ := Dv.reads I2 d x v dx rx
    exact ⟨as, h1⟩
  have hal := tups_alike ht
  have S : SortsAt X.prog X.w X.A.in1.in1 { s with heap := sortingHeap (copyHeap s.heap its) (s.heap.objs.size + 1) its } (dataKind (sortingHeap (copyHeap s.heap its) (s.heap.objs.size + 1) its) ds) its :=
    sorts_tups (s := { s with heap := sortingHeap (copyHeap s.heap its) (s.heap.objs.size + 1) its }) reads hal (fun d hd => by obtain ⟨ns, e⟩ := ht d hd; exact ⟨_, e⟩) fun d hd => by
      have := tup_depth (ht d hd)
      show X.A.units + 1 + 1 + d.depth < cLine
      omega
  refine sorted_vals pl.isList S (by rw [← lv]; exact hz) ?_
  have keys : EachIs (fun v d => (dataKind (sortingHeap (copyHeap s.heap its) (s.heap.objs.size + 1) its) ds).keyOf v = some (keyToks d)) its ds := (each_and reads (S := fun d => d ∈ ds) fun d hd => hd).mono fun v d h => by
    obtain ⟨⟨as, r⟩, hd⟩ := h
    exact dataKind_some hal hd r
  have out := sortVals_each (κ := dataKind (sortingHeap (copyHeap s.heap its) (s.heap.objs.size + 1) its) ds) (rev := false) keyToks each keys
  obtain ⟨ys, ry, hy⟩ := of_each out
  obtain ⟨ep, he⟩ := PyProof.Rows.sortedAll_at s.heap its (sortVals (dataKind (sortingHeap (copyHeap s.heap its) (s.heap.objs.size + 1) its) ds) false its its).toArray
  refine ⟨.ref _, upd H (s.heap.objs.size + 1) (.lst ys), I.laid (t' := s.toks) (fun _ _ => PyProof.Rows.sortedAll_old) (Nat.le_succ _) ⟨?_, _, ep, ry, he⟩, rfl, q ys _ hy (I.hok.fresh (Nat.le_succ _))⟩
  rw [ry.length, sortVals_length false rfl, ← lv]
  exact hz
end
end BT

set_option Elab.async false
set_option linter.all false
set_option maxRecDepth 100000
set_option maxHeartbeats 4000000
namespace BT
open PySem PySem.Spec PySem.Calls PyProof.Rows L2
section
variable {X : Cx}
/-- sorted(t), t a tuple of whole numbers -/
def rSortedTI (K : PySem.W.Frag) : List V → Hp → VK → Prop := fun vs H Q => ∃ (a : Addr) (ns : List Int), vs = [V.ref a] ∧ H a = some (.tup (ns.map V.int)) ∧ ∀ (ns' : List Int) (p : Addr), ns'.Perm ns → ns'.Pairwise (· ≤ ·) → H p = none → Q (.ref p) (upd H p (.lst (ns'.map V.int)))
theorem cr_sortedTI : CallR X (.builtin "sorted") (rSortedTI X.K) := by
  intro pins s σ H vs us Q I r h
  obtain ⟨a, ns, rfl, ha, q⟩ := h
  obtain ⟨u, rfl, r1⟩ := vals1 r
  cases (show u = Value.ref a from r1)
  obtain ⟨its, rv, tp, hz⟩ := I.tuple (.inl (.inl ha))
  have hi := rv.ints
  have lv := rv.length
  have lim : its.length ≤ sizeLine := by rw [← lv]; exact hz
  obtain ⟨o, ho, hc, n, hd⟩ := id tp
  refine Calls.call_function_entry kind_sorted plain_sorted entry_sorted (args_sorted1 _) ?_
  unfold Builtin.«sorted»
  refine wpAny_bind (m := checkCount "sorted" 1 1 _) (wpAny_pure (wpAny_bind (wpAny_collect_seq a (.inr rfl) ho hc hd (fun h1 keep => ?_) (by rw [List.size_toArray]; exact lim))))
  have I1 : Inv X pins σ H { s with heap := h1, toks := s.toks } := I.kept keep
  show wpAny _ _ _ _ _ { s with heap := h1, toks := s.toks }
  generalize ({ s with heap := h1, toks := s.toks } : Shared) = t1 at I1 ⊢
  have el : its.toArray.toList = its := by simp
  rw [el]
  refine wpAny_bind (wpAny_newList ?_ lim)
  have fresh : H t1.heap.objs.size = none := I1.hok.fresh (Nat.le_refl _)
  have g2 : (t1.heap.push (seqObj "list" its.toArray 0)).get? t1.heap.objs.size = some (seqObj "list" its.toArray 0) := Heap.get?_push_size _ rfl
  have I2 : Inv X pins σ (upd H t1.heap.objs.size (.lst (ns.map V.int))) { t1 with heap := t1.heap.push (seqObj "list" its.toArray 0), toks := t1.toks } :=
    I1.laid (fun b o e => Heap.get?_push_of_some _ e) (Nat.le_refl _) ⟨hz, its, 0, rv, g2⟩
  show wpAny _ _ _ _ _ { t1 with heap := t1.heap.push (seqObj "list" its.toArray 0), toks := t1.toks }
  generalize ha2 : t1.heap.objs.size = b at fresh g2 I2 ⊢
  generalize hs2 : ({ t1 with heap := t1.heap.push (seqObj "list" its.toArray 0), toks := t1.toks } : Shared) = t2 at I2 ⊢
  have e2 : t2.heap = t1.heap.push (seqObj "list" its.toArray 0) := by rw [← hs2]
  rw [← e2] at g2
  refine wpAny_bind (wpAny_holding (wpAny_call_entry slot_list_sort ⟨_, g2, rfl⟩ entry_list_sort (SrtO.list_sort_ord SrtO.swo_int g2 lim (fun h2 => SrtO.ints_sortable hi h2) fun out h1 h2 => ⟨_, rfl, ?_⟩) (args_list_sort _)))
  obtain ⟨k1, k2, k3⟩ := SrtO.ints_out hi h1 h2
  obtain ⟨ep, he⟩ := PyProof.Rows.sortedHeap_at (vs := its) (out := out.toArray) g2
  have hlen : ((out.map SrtO.iv).map V.int).length ≤ sizeLine := by
    rw [List.length_map, k2.length_eq]
    rw [List.length_map] at hz
    exact hz
  refine wpAny_pure ⟨_, rfl, .ref b, upd (upd H b (.lst (ns.map V.int))) b (.lst ((out.map SrtO.iv).map V.int)), I2.write (e := b) (t' := t2.toks) (by rw [upd_same]; trivial) (.inl rfl) (fun c u hb hu => ?_) ⟨_, he⟩ ⟨hlen, out, ep, vals_of_ints k1, he⟩, rfl, ?_⟩
  · rw [PyProof.Rows.sortedHeap_old hb (Heap.lt_size hu)]
    exact hu
  · rw [upd_upd]
    exact q _ b k2 k3 fresh
end
/-! ### the order of sorted tuples is one -/
theorem sortD_perm (ds : List PyData) : (sortD ds).Perm ds := List.mergeSort_perm _ _
end BT

set_option Elab.async false
set_option linter.all false
set_option maxRecDepth 100000
set_option maxHeartbeats 4000000
namespace BT
open PySem PySem.Spec PyProof.Rows L2
/-! ### try with more than one clause 'except x as n' -/
/-- the clauses, and what they wish, each behind those ahead of it -/
inductive Clauses (X : Cx) (Wout : WX) : List ExceptHandler → (Ends → WX) → Prop
  | nil : Clauses X Wout [] fun _ => Wout
  | cons {x n : Str} {c : Value} {i : Nat} {ts : Addr → Value → Option Addr → TS} {b₀ : Stmt} {suite : List Stmt} {np pos' : Pos} {hds : List ExceptHandler} {W : Ends → WX} (hi : X.N[i]? = some n) (hln : X.env.kindOf n = some .local) (hc : Names X x c)
      (hsu : ∀ (a : Addr) (oe : Obj) (cls : Value) (d : Option Addr) (pn : List (Addr × Obj)), Zc cls d oe → (∃ vs, oe.data = .fields vs) → PSs (X.suite a ((a, oe) :: pn)) (b₀ :: suite) (ts a cls d)) (r : Clauses X Wout hds W) :
      Clauses X Wout (.ExceptHandler (some (.Name x np)) (some n) (b₀ :: suite) pos' :: hds) fun D => wAs X.K c i ts (W D) D
/-- an exception that has come down to the clauses -/
structure Down (X : Cx) (pins : List (Addr × Obj)) (σ : L2.St) (H : Hp) (cls : Value) (d : Option Addr) (B : Heap) (a : Addr) (sI s : Shared) : Prop where
  inv : Inv X pins σ H sI
  nb : ∀ b o, sI.heap.get? b = some o → b ∉ frs X.stack → B.get? b = some o
  up : sI.heap.UpToSlots s.heap
  na : H a = none
  os : s.os = sI.os
  ag : AllBare s.gens
  fl : HandSPX.FlyingZ B (X.env :: X.outer) a (Zc cls d) s.heap
section
variable {X : Cx} {pins : List (Addr × Obj)} {σ : L2.St} {H : Hp} {cls : Value} {d : Option Addr} {B : Heap} {a : Addr} {sI s : Shared} {Wout : WX}
theorem Down.now (q : Down X pins σ H cls d B a sI s) : Inv X pins σ H s := q.inv.landed q.nb q.fl.1 q.up q.os q.ag
theorem Down.obj (q : Down X pins σ H cls d B a sI s) (hf : X.env.frame = some X.env.locals) : ∃ oe vs, s.heap.get? a = some oe ∧ Zc cls d oe ∧ oe.data = .fields vs ∧ a ≠ X.env.locals ∧ a ∉ X.fs := by
  obtain ⟨oe, vs, e, z, dt⟩ := q.fl.there
  have no : a ∉ frs (X.env :: X.outer) := fun hm => by
    obtain ⟨_, o2, e2, bad⟩ := q.fl.2.2.1.mem hm
    rw [e] at e2
    cases e2
    exact bad _ dt
  refine ⟨oe, vs, e, z, dt, fun h => no ?_, fun h => no ?_⟩
  · exact List.mem_filterMap.mpr ⟨X.env, List.mem_cons_self, by rw [hf, h]⟩
  · obtain ⟨v, hv, p⟩ := List.mem_filterMap.mp h
    exact List.mem_filterMap.mpr ⟨v, List.mem_cons_of_mem _ hv, p⟩
theorem Down.rest {D : Ends} (ok : X.Ok) (hs : X.stack = X.env :: X.outer) (hf : X.env.frame = some X.env.locals) (hN : X.N.Nodup) (tk : Takes X Wout) {hds : List ExceptHandler} {W : Ends → WX} (hh : Clauses X Wout hds W) :
    ∀ {s : Shared}, Down X pins σ H cls d B a sI s → W D cls d σ H → wpAny (model X.prog X.w) X.A (handleBy (.ref a) X.env hds) (SP X pins D) X.xe s := by
  induction hh with
  | nil =>
    intro s q w
    obtain ⟨oe, vs, T, oT, ty, he, hz, hd, h1, hr⟩ := q.fl.2.2.2
    refine wpAny_handleBy_nil ?_
    unfold PySem.passOn
    refine wpAny_bind (wpAny_field he hd h1 ?_)
    rw [if_neg (show ¬ ((Value.ref T == Value.none) = true) from by simp)]
    have last : wpAny (model X.prog X.w) X.A (setFlight (.ref a) X.env.frame) (fun _ s4 => wpAny (model X.prog X.w) X.A (throw (.ref a) : Sem Flow) (SP X pins D) X.xe s4) X.xe s := by
      rw [hf]
      exact HandSPX.setFlight_upZ q.fl fun h4 held up4 => wpAny_throw (tk _ _ ⟨a, B, sI, pins, σ, H, cls, d, rfl, q.inv, q.nb, q.up.trans up4, .inr (.inr (by rw [hs]; exact held)), q.na, q.os, q.ag, w⟩)
    first
      | exact wpAny_bind (wpAny_pure (wpAny_bind last))
      | exact wpAny_bind last
  | @cons x n c i ts b₀ suite np pos' hds W hi hln hc hsu r ih =>
    intro s q w
    obtain ⟨b, hb, yes, no⟩ := w
    obtain ⟨oe, vs, e, z, dt, nL, nF⟩ := q.obj hf
    have inS := q.now.suite e dt q.na nL nF
    have ty : PySem.W.Looks (model X.prog X.w) s.heap (typeOf (.ref a)) cls := fun A Q E s k p => wpAny_typeOf_ref (k _ _ e) (by rw [z.1]; exact p)
    have ask : ∀ {Q : Value → Shared → Prop} {E : Value → Shared → Prop}, Q c s → wpAny (model X.prog X.w) (X.A.mark (some (.ref a))) (eval (.Name x np) X.env) Q E s := fun {Q E} p => by
      rcases hc with ⟨g, nd, m | ⟨m, bt, nn⟩⟩
      · exact ld_glob (X := X.suite a ((a, oe) :: (X.pn ++ pins))) inS g m p nd
      · exact ld_blt (X := X.suite a ((a, oe) :: (X.pn ++ pins))) inS g m bt p nn nd
    refine wpAny_handleBy_cons (codeAny_handlers_test ?_) (by intro p; cases p)
    refine ask ((PySem.W.exm_one (M := model X.prog X.w) q.now.kIn ty hb).here ?_)
    cases b with
    | false => exact ih q (no rfl)
    | true =>
      refine codeAny_handlers_suite_as (HandSPX.lands_againZ q.fl fun h4 fl4 up4 => ?_)
      have q4 : Down X pins σ H cls d B a sI { s with heap := h4 } := ⟨q.inv, q.nb, q.up.trans up4, q.na, q.os, q.ag, fl4⟩
      obtain ⟨oe4, vs4, e4, z4, dt4, nL4, nF4⟩ := q4.obj hf
      refine store_ok (X := X.suite a ((a, oe4) :: (X.pn ++ pins))) (v := .ref a) (q4.now.suite e4 dt4 q.na nL4 nF4) hN hi (.inl hln) rfl (fun s5 I5 => ?_) (.inr hln)
      refine wpAny_mono ((hsu a oe4 cls d (X.pn ++ pins) z4 ⟨_, dt4⟩).run [] s5 _ H _ I5 (yes rfl a q.na)) (fun f s6 hsp => ?_) (fun _ _ p => False.elim p)
      have leave : ∀ {σ6 : L2.St} {H6 : Hp} {Q : Shared → Prop}, Inv (X.suite a ((a, oe4) :: (X.pn ++ pins))) [] σ6 H6 s6 → (∀ s7, Inv X pins (σ6.set i none) H6 s7 → Q s7) →
          wpAny (model X.prog X.w) X.A (do bindName X.env n .none; unbindBehindTheSuite X.env n pos') (fun _ s7 => Q s7) X.xe s6 := fun I6 k => gone_ok (I6.unsuite ok) hN hi hln k
      cases f with
      | next => obtain ⟨_, _, I6, p⟩ := hsp; exact leave I6 fun _ I7 => ⟨_, _, I7, p⟩
      | brk => obtain ⟨_, _, I6, p⟩ := hsp; exact leave I6 fun _ I7 => ⟨_, _, I7, p⟩
      | cont => obtain ⟨_, _, I6, p⟩ := hsp; exact leave I6 fun _ I7 => ⟨_, _, I7, p⟩
      | ret u => obtain ⟨_, _, _, I6, rv, p⟩ := hsp; exact leave I6 fun _ I7 => ⟨_, _, _, I7, rv, p⟩
theorem ps_tryAs {body : List Stmt} {h₀ : ExceptHandler} {hds : List ExceptHandler} {pos : Pos} {tb : WX → TS} {W : Ends → WX} (hs : X.stack = X.env :: X.outer) (hf : X.env.frame = some X.env.locals) (hN : X.N.Nodup) (tk : Takes X Wout)
    (hb : ∀ (W : WX) (pn : List (Addr × Obj)) (xe : Value → Shared → Prop), Takes (X.tr pn xe) W → PassesOwn (model X.prog X.w) X.A X.env xe → PSs (X.tr pn xe) body (tb W)) (hh : Clauses X Wout (h₀ :: hds) W) :
    PS X (.Try body (h₀ :: hds) [] [] pos) (fun D σ H => tb (W D) D σ H) := by
  refine ⟨fun pins s σ H D I h => ?_⟩
  have ok := I.ok
  have hfr : X.A.frames = some (X.env :: X.outer) := by rw [ok.frames, hs]
  refine wpAny_Try_except (wpAny_mono ((hb (W D) (X.pn ++ pins) (fun e s₁ => wpAny (model X.prog X.w) X.A (noteFrame e X.env) (fun _ s₂ => wpAny (model X.prog X.w) X.A (setFlight e none) (fun _ s₃ =>
    wpAny (model X.prog X.w) X.A (handleBy e X.env (h₀ :: hds)) (SP X pins D) X.xe s₃) X.xe s₂) X.xe s₁) (fun u s' thrown => ?_) PassesOwn.looking).run [] s σ H D (I.toTry _) h) (fun f s1 hsp => ?_) fun e s1 he => he)
  · obtain ⟨a, B, sI, pins', σ', H', cls, d, rfl, I', nb, up, sky, na, os, ag, w⟩ := thrown
    have sky' : Sky B (X.env :: X.outer) a (Zc cls d) X.env.locals s'.heap := by rw [← hs]; exact sky
    exact Sky.land Zc.steady hfr hf sky' fun h3 fl3 up3 => Down.rest (pins := pins) ok hs hf hN tk hh (s := { s' with heap := h3 }) ⟨I'.ofTry ok, nb, up.trans up3, na, os, ag, fl3⟩ w
  · cases f with
    | next => obtain ⟨_, _, I1, p⟩ := hsp; exact wpAny_execs_nil ⟨_, _, I1.ofTry ok, p⟩
    | brk => obtain ⟨_, _, I1, p⟩ := hsp; exact ⟨_, _, I1.ofTry ok, p⟩
    | cont => obtain ⟨_, _, I1, p⟩ := hsp; exact ⟨_, _, I1.ofTry ok, p⟩
    | ret u => obtain ⟨_, _, _, I1, rv, p⟩ := hsp; exact ⟨_, _, _, I1.ofTry ok, rv, p⟩
end
end BT

set_option Elab.async false
set_option linter.all false
set_option maxRecDepth 100000
set_option maxHeartbeats 2000000
theorem L2.Room.units5 {k : Nat} {A : PySem.Around} (r : L2.Room k A) : A.units + 65 < PySem.cLine := by have := r.un; omega
namespace DL
open PySem PySem.Spec PyProof.Rows L2 BT
structure Bi3 (mg : Str → Option Value) : Prop where
  str : mg "str" = none
  dict : mg "dict" = none
/-! ### data, by value -/
inductive D where
  | non | bl (b : Bool) | int (i : Int) | str (x : Str)
  | tup (xs : List D) | lst (xs : List D) | dct (kvs : List (Key × D)) | obj (c : Str) (fs : List (Str × D))
/-- a heap that is read in part -/
abbrev Fz (B : Addr → Prop) (H : Hp) : Addr → HO → Prop := fun b o => ¬ B b ∧ H b = some o
mutual
/-- the value v is the data d -/
inductive Dx (ad : Str → Addr) (F : Addr → HO → Prop) : V → D → Prop
  | non : Dx ad F .non .non
  | bl (b : Bool) : Dx ad F (.bl b) (.bl b)
  | int (i : Int) : Dx ad F (.int i) (.int i)
  | str (x : Str) : Dx ad F (.str x) (.str x)
  | tup {a : Addr} {vs : List V} {ds : List D} : F a (.tup vs) → DxA ad F vs ds → Dx ad F (.ref a) (.tup ds)
  | lst {a : Addr} {vs : List V} {ds : List D} : F a (.lst vs) → DxA ad F vs ds → Dx ad F (.ref a) (.lst ds)
  | dct {a : Addr} {kvs : List (Key × V)} {es : List (Key × D)} : F a (.dK kvs) → DxK ad F kvs es → Dx ad F (.ref a) (.dct es)
  | obj {a dx : Addr} {c : Str} {fvs : List (Str × V)} {fs : List (Str × D)} : F a (.ins (ad c) dx fvs) → DxF ad F fvs fs → Dx ad F (.ref a) (.obj c fs)
inductive DxA (ad : Str → Addr) (F : Addr → HO → Prop) : List V → List D → Prop
  | nil : DxA ad F [] []
  | cons {v : V} {vs : List V} {d : D} {ds : List D} : Dx ad F v d → DxA ad F vs ds → DxA ad F (v :: vs) (d :: ds)
inductive DxK (ad : Str → Addr) (F : Addr → HO → Prop) : List (Key × V) → List (Key × D) → Prop
  | nil : DxK ad F [] []
  | cons {k : Key} {v : V} {vs : List (Key × V)} {d : D} {ds : List (Key × D)} : Dx ad F v d → DxK ad F vs ds → DxK ad F ((k, v) :: vs) ((k, d) :: ds)
inductive DxF (ad : Str → Addr) (F : Addr → HO → Prop) : List (Str × V) → List (Str × D) → Prop
  | nil : DxF ad F [] []
  | cons {k : Str} {v : V} {vs : List (Str × V)} {d : D} {ds : List (Str × D)} : Dx ad F v d → DxF ad F vs ds → DxF ad F ((k, v) :: vs) ((k, d) :: ds)
end
section
variable {ad : Str → Addr} {F F' : Addr → HO → Prop}
mutual
theorem Dx.mono (S : ∀ b o, F b o → F' b o) : ∀ {v : V} {d : D}, Dx ad F v d → Dx ad F' v d
  | _, _, .non => .non
  | _, _, .bl b => .bl b
  | _, _, .int i => .int i
  | _, _, .str x => .str x
  | _, _, .tup e a => .tup (S _ _ e) (DxA.mono S a)
  | _, _, .lst e a => .lst (S _ _ e) (DxA.mono S a)
  | _, _, .dct e a => .dct (S _ _ e) (DxK.mono S a)
  | _, _, .obj e a => .obj (S _ _ e) (DxF.mono S a)
theorem DxA.mono (S : ∀ b o, F b o → F' b o) : ∀ {v : List V} {d : List D}, DxA ad F v d → DxA ad F' v d
  | _, _, .nil => .nil
  | _, _, .cons a r => .cons (Dx.mono S a) (DxA.mono S r)
theorem DxK.mono (S : ∀ b o, F b o → F' b o) : ∀ {v : List (Key × V)} {d : List (Key × D)}, DxK ad F v d → DxK ad F' v d
  | _, _, .nil => .nil
  | _, _, .cons a r => .cons (Dx.mono S a) (DxK.mono S r)
theorem DxF.mono (S : ∀ b o, F b o → F' b o) : ∀ {v : List (Str × V)} {d : List (Str × D)}, DxF ad F v d → DxF ad F' v d
  | _, _, .nil => .nil
  | _, _, .cons a r => .cons (Dx.mono S a) (DxF.mono S r)
end
theorem DxA.append : ∀ {xs : List V} {ds : List D} {ys : List V} {es : List D}, DxA ad F xs ds → DxA ad F ys es → DxA ad F (xs ++ ys) (ds ++ es)
  | _, _, _, _, .nil, h => h
  | _, _, _, _, .cons a r, h => .cons a (DxA.append r h)
theorem DxA.length : ∀ {xs : List V} {ds : List D}, DxA ad F xs ds → xs.length = ds.length
  | _, _, .nil => rfl
  | _, _, .cons _ r => congrArg Nat.succ (DxA.length r)
theorem DxA.get : ∀ {xs : List V} {ds : List D} {i : Nat} {v : V}, DxA ad F xs ds → xs[i]? = some v → ∃ d, ds[i]? = some d ∧ Dx ad F v d
  | _, _, _, _, .nil, h => by simp at h
  | _, _, 0, v, .cons (d := d) a r, h => ⟨d, rfl, by have e : _ = v := Option.some.inj h; rw [← e]; exact a⟩
  | _, _, i + 1, v, .cons a r, h => by
    obtain ⟨d, h1, h2⟩ := DxA.get (i := i) r h
    exact ⟨d, h1, h2⟩
theorem DxA.getD : ∀ {xs : List V} {ds : List D} {i : Nat} {d : D}, DxA ad F xs ds → ds[i]? = some d → ∃ v, xs[i]? = some v ∧ Dx ad F v d
  | _, _, _, _, .nil, h => by simp at h
  | _, _, 0, d, .cons (v := v) a r, h => ⟨v, rfl, by have e : _ = d := Option.some.inj h; rw [← e]; exact a⟩
  | _, _, i + 1, d, .cons a r, h => by
    obtain ⟨v, h1, h2⟩ := DxA.getD (i := i) r h
    exact ⟨v, h1, h2⟩
theorem DxA.take : ∀ {xs : List V} {ds : List D} (j : Nat), DxA ad F xs ds → DxA ad F (xs.take j) (ds.take j)
  | _, _, 0, _ => .nil
  | _, _, _ + 1, .nil => .nil
  | _, _, j + 1, .cons a r => .cons a (DxA.take j r)
theorem DxA.drop : ∀ {xs : List V} {ds : List D} (j : Nat), DxA ad F xs ds → DxA ad F (xs.drop j) (ds.drop j)
  | _, _, 0, r => r
  | _, _, _ + 1, .nil => .nil
  | _, _, j + 1, .cons a r => DxA.drop j r
theorem DxF.lookup : ∀ {fvs : List (Str × V)} {fs : List (Str × D)} {f : Str} {d : D}, DxF ad F fvs fs → fs.lookup f = some d → ∃ v, fvs.lookup f = some v ∧ Dx ad F v d
  | _, _, _, _, .nil, h => by simp at h
  | _, _, f, d, .cons (k := k) a r, h => by
    rw [List.lookup_cons] at h ⊢
    split at h
    · have := Option.some.inj h
      subst this
      exact ⟨_, rfl, a⟩
    · exact DxF.lookup r h
theorem DxF.lookup_none : ∀ {fvs : List (Str × V)} {fs : List (Str × D)} {f : Str}, DxF ad F fvs fs → fs.lookup f = none → fvs.lookup f = none
  | _, _, _, .nil, h => rfl
  | _, _, f, .cons (k := k) a r, h => by
    rw [List.lookup_cons] at h ⊢
    split at h
    · cases h
    · exact DxF.lookup_none r h
end
/-! ### the frame: what stands stays, but for the law's source -/
abbrev SO := Option (Addr × Addr)
structure Wd (B : Addr → Prop) (s : SO) (H : Hp) : Prop where
  al : ∀ b, B b → ∃ o, H b = some o ∧ ∀ xs, o ≠ .tup xs
  sr : ∀ l a, s = some (l, a) → Src l a H ∧ B a ∧ B l
structure Frm (s : SO) (H H' : Hp) : Prop where
  st : ∀ b o, (∀ l a, s = some (l, a) → b ≠ a) → H b = some o → H' b = some o
  sr : ∀ l a, s = some (l, a) → Src l a H'
section
variable {B : Addr → Prop} {s : SO} {H H1 H2 : Hp}
theorem Wd.refl (w : Wd B s H) : Frm s H H := ⟨fun _ _ _ h => h, fun l a e => (w.sr l a e).1⟩
theorem Frm.trans (f : Frm s H H1) (g : Frm s H1 H2) : Frm s H H2 := ⟨fun b o n h => g.st b o n (f.st b o n h), g.sr⟩
theorem Wd.same (w : Wd B s H) (S : Same H H1) : Frm s H H1 := ⟨fun b o _ h => S b o h, fun l a e => (Keeps.of_same (w.sr l a e).1 S).src⟩
theorem Wd.new (w : Wd B s H) {p : Addr} {o : HO} (h : H p = none) : Frm s H (upd H p o) := w.same (Same.new (Same.refl H) h)
theorem Wd.frm (w : Wd B s H) (f : Frm s H H1) : Wd B s H1 := ⟨fun b h => by
    obtain ⟨o, e, nt⟩ := w.al b h
    by_cases q : ∃ l, s = some (l, b)
    · obtain ⟨l, q⟩ := q
      obtain ⟨i, x, c, cl, n, y, _, h1⟩ := (f.sr l b q).at_
      exact ⟨_, h1, fun _ e => (nomatch e)⟩
    · exact ⟨o, f.st b o (fun l a e he => q ⟨l, he ▸ e⟩) e, nt⟩, fun l a e => ⟨f.sr l a e, (w.sr l a e).2⟩⟩
theorem Wd.nb (w : Wd B s H) {p : Addr} (h : H p = none) : ¬ B p := fun q => by
  obtain ⟨o, e, _⟩ := w.al p q
  rw [h] at e; cases e
theorem Wd.nt (w : Wd B s H) {p : Addr} {xs : List V} (h : H p = some (.tup xs)) : ¬ B p := fun q => by
  obtain ⟨o, e, n⟩ := w.al p q
  rw [h] at e
  exact n xs (Option.some.inj e).symm
theorem Wd.fz (w : Wd B s H) (f : Frm s H H1) : ∀ b o, Fz B H b o → Fz B H1 b o := fun b o h => ⟨h.1, f.st b o (fun l a e q => h.1 (q ▸ (w.sr l a e).2.1)) h.2⟩
theorem Wd.dx {ad : Str → Addr} {v : V} {d : D} (w : Wd B s H) (f : Frm s H H1) (h : Dx ad (Fz B H) v d) : Dx ad (Fz B H1) v d := h.mono (w.fz f)
end
/-! ### slots -/
inductive Sl where
  | un | dat (d : D) | own (xs : List D) | ownD (kvs : List (Key × D)) | src | exc (a x : Addr) (d : D)
def SlR (ad : Str → Addr) (B : Addr → Prop) (s : SO) (H : Hp) (o : Option (Option V)) : Sl → Prop
  | .un => True
  | .dat d => ∃ v, o = some (some v) ∧ Dx ad (Fz B H) v d
  | .own xs => ∃ p vs, o = some (some (.ref p)) ∧ B p ∧ (∀ l a, s = some (l, a) → p ≠ a) ∧ H p = some (.lst vs) ∧ DxA ad (Fz B H) vs xs
  | .ownD xs => ∃ p vs, o = some (some (.ref p)) ∧ B p ∧ (∀ l a, s = some (l, a) → p ≠ a) ∧ H p = some (.dK vs) ∧ DxK ad (Fz B H) vs xs
  | .src => ∃ l a, s = some (l, a) ∧ o = some (some (.ref a))
  | .exc a x d => ∃ v, o = some (some (.ref a)) ∧ H x = some (.xd [("what", v)]) ∧ Dx ad (Fz B H) v d
theorem SlR.frm {ad : Str → Addr} {B : Addr → Prop} {s : SO} {H H1 : Hp} {o : Option (Option V)} (w : Wd B s H) (f : Frm s H H1) : ∀ {sl : Sl}, SlR ad B s H o sl → SlR ad B s H1 o sl
  | .un, h => h
  | .dat d, ⟨v, e, h⟩ => ⟨v, e, w.dx f h⟩
  | .own xs, ⟨p, vs, e, b, n, h, r⟩ => ⟨p, vs, e, b, n, f.st _ _ n h, r.mono (w.fz f)⟩
  | .ownD xs, ⟨p, vs, e, b, n, h, r⟩ => ⟨p, vs, e, b, n, f.st _ _ n h, r.mono (w.fz f)⟩
  | .src, h => h
  | .exc a x d, ⟨v, e, h, r⟩ => ⟨v, e, f.st _ _ (fun l a' es q => by
      obtain ⟨i, y, c, cl, n, z, _, h1⟩ := (w.sr l a' es).1.at_
      rw [q, h1] at h; cases h) h, w.dx f r⟩
structure RepE (ad : Str → Addr) (B : Addr → Prop) (s : SO) (H : Hp) (σ : L2.St) (ρ : List Sl) : Prop where
  wd : Wd B s H
  sl : ∀ (i : Nat) (sl : Sl), ρ[i]? = some sl → SlR ad B s H (σ[i]?) sl
  len : σ.length = ρ.length
abbrev DXt := List Sl → Str → D → Prop
abbrev DE := List Sl → (D → Prop) → DXt → Prop
abbrev DT := List Sl → (Bool → Prop) → DXt → Prop
abbrev DA := List Sl → (List Sl → Prop) → DXt → Prop
structure Wl (ad : Str → Addr) (E : L2.St → XK) (Ed : DXt) (B : Addr → Prop) (s : SO) (ρ : List Sl) (σ : L2.St) (H : Hp) : Prop where
  rep : RepE ad B s H σ ρ
  tie : ∀ cn d v x H', Frm s H H' → Dx ad (Fz B H') v d → H' x = none → Ed ρ cn d → E σ (.ref (ad cn)) (some x) (upd H' x (.xd [("what", v)]))
section
variable {ad : Str → Addr} {E : L2.St → XK} {Ed : DXt} {B : Addr → Prop} {s : SO} {ρ : List Sl} {σ : L2.St} {H H1 : Hp}
theorem Wl.wd (w : Wl ad E Ed B s ρ σ H) : Wd B s H := w.rep.wd
theorem Wl.frm (w : Wl ad E Ed B s ρ σ H) (f : Frm s H H1) : Wl ad E Ed B s ρ σ H1 := ⟨⟨w.wd.frm f, fun i sl e => (w.rep.sl i sl e).frm w.wd f, w.rep.len⟩, fun cn d v x H' g => w.tie cn d v x H' (f.trans g)⟩
theorem Wl.refl (w : Wl ad E Ed B s ρ σ H) : Frm s H H := w.wd.refl
end
/-! ### readings by value -/
def teD (ad : Str → Addr) (E : L2.St → XK) (Ed : DXt) (f : DE) : TE := fun σ H Q => ∃ B s ρ Qd, Wl ad E Ed B s ρ σ H ∧ f ρ Qd Ed ∧ ∀ d v H', Qd d → Frm s H H' → Dx ad (Fz B H') v d → Q v H'
def ttD (ad : Str → Addr) (E : L2.St → XK) (Ed : DXt) (f : DT) : TT := fun σ H Q => ∃ B s ρ Qd, Wl ad E Ed B s ρ σ H ∧ f ρ Qd Ed ∧ ∀ b H', Qd b → Frm s H H' → Q b H'
/-- an argument: data, or the source -/
def ArR (ad : Str → Addr) (B : Addr → Prop) (s : SO) (H : Hp) (v : V) : Sl → Prop
  | .dat d => Dx ad (Fz B H) v d
  | .src => ∃ l a, s = some (l, a) ∧ v = .ref a
  | _ => False
inductive ArA (ad : Str → Addr) (B : Addr → Prop) (s : SO) (H : Hp) : List V → List Sl → Prop
  | nil : ArA ad B s H [] []
  | cons {v : V} {vs : List V} {a : Sl} {as : List Sl} : ArR ad B s H v a → ArA ad B s H vs as → ArA ad B s H (v :: vs) (a :: as)
theorem ArR.frm {ad : Str → Addr} {B : Addr → Prop} {s : SO} {H H1 : Hp} {v : V} (w : Wd B s H) (f : Frm s H H1) : ∀ {a : Sl}, ArR ad B s H v a → ArR ad B s H1 v a
  | .dat d, h => w.dx f h
  | .src, h => h
theorem ArA.frm {ad : Str → Addr} {B : Addr → Prop} {s : SO} {H H1 : Hp} (w : Wd B s H) (f : Frm s H H1) : ∀ {vs : List V} {as : List Sl}, ArA ad B s H vs as → ArA ad B s H1 vs as
  | _, _, .nil => .nil
  | _, _, .cons a r => .cons (a.frm w f) (ArA.frm w f r)
theorem ArA.length {ad : Str → Addr} {B : Addr → Prop} {s : SO} {H : Hp} : ∀ {vs : List V} {as : List Sl}, ArA ad B s H vs as → vs.length = as.length
  | _, _, .nil => rfl
  | _, _, .cons _ r => congrArg Nat.succ (ArA.length r)
/-- arguments of a built-in: all data -/
theorem ArA.dat {ad : Str → Addr} {B : Addr → Prop} {s : SO} {H : Hp} : ∀ {vs : List V} {ds : List D}, ArA ad B s H vs (ds.map Sl.dat) → DxA ad (Fz B H) vs ds
  | _, [], .nil => .nil
  | _, _ :: _, .cons a r => .cons a (ArA.dat r)
def taD (ad : Str → Addr) (E : L2.St → XK) (Ed : DXt) (n : Nat) (f : DA) : TA := fun σ H Q => ∃ B s ρ Qd, Wl ad E Ed B s ρ σ H ∧ f ρ Qd Ed ∧ ∀ as vs H', Qd as → as.length = n → Frm s H H' → ArA ad B s H' vs as → Q vs H'
structure PD (X : Cx) (ad : Str → Addr) (E : L2.St → XK) (Ed : DXt) (e : Expr) (f : DE) : Prop where
  pe : PE X e (teD ad E Ed f)
structure TD (X : Cx) (ad : Str → Addr) (E : L2.St → XK) (Ed : DXt) (e : Expr) (f : DT) : Prop where
  pt : PT X e (ttD ad E Ed f)
structure AD (X : Cx) (ad : Str → Addr) (E : L2.St → XK) (Ed : DXt) (es : List Expr) (n : Nat) (f : DA) : Prop where
  pa : PA X es (taD ad E Ed n f)
theorem weakE {X : Cx} {e : Expr} {t t' : TE} (h : PE X e t) (k : ∀ σ H Q, t' σ H Q → t σ H Q) : PE X e t' := ⟨fun pins s σ H Q I q => h.run pins s σ H Q I (k σ H Q q)⟩
theorem weakT {X : Cx} {e : Expr} {t t' : TT} (h : PT X e t) (k : ∀ σ H Q, t' σ H Q → t σ H Q) : PT X e t' := ⟨fun pins s σ H Q I q => h.run pins s σ H Q I (k σ H Q q)⟩
theorem weakA {X : Cx} {e : List Expr} {t t' : TA} (h : PA X e t) (k : ∀ σ H Q, t' σ H Q → t σ H Q) : PA X e t' := ⟨fun pos pins s σ H Q I q => h.run pos pins s σ H Q I (k σ H Q q)⟩
theorem weakS {X : Cx} {e : Stmt} {t t' : TS} (h : PS X e t) (k : ∀ D σ H, t' D σ H → t D σ H) : PS X e t' := ⟨fun pins s σ H D I q => h.run pins s σ H D I (k D σ H q)⟩
theorem weakSs {X : Cx} {e : List Stmt} {t t' : TS} (h : PSs X e t) (k : ∀ D σ H, t' D σ H → t D σ H) : PSs X e t' := ⟨fun pins s σ H D I q => h.run pins s σ H D I (k D σ H q)⟩
section
variable {X : Cx} {ad : Str → Addr} {E : L2.St → XK} {Ed : DXt} {a b : Expr} {fa fb : DE} {pos : Pos}
/-! ### names, constants -/
def eV (i : Nat) : DE := fun ρ Q _ => match ρ[i]? with
  | some (.dat d) => Q d
  | _ => False
theorem pdv {x : Str} (i : Nat) (h : PE X (.Name x pos) (tVar i)) : PD X ad E Ed (.Name x pos) (eV i) := ⟨weakE h fun σ H Q ⟨B, s, ρ, Qd, W, h, k⟩ => by
  unfold eV at h
  split at h
  · rename_i d e
    obtain ⟨v, ev, hv⟩ := W.rep.sl i _ e
    exact ⟨v, ev, k d v H h W.refl hv⟩
  · exact h.elim⟩
def eC (d : D) : DE := fun _ Q _ => Q d
theorem pdInt {i : Int} {j : Nat} : PD X ad E Ed (.Constant (.int i) j pos) (eC (.int i)) := ⟨weakE pe_int fun σ H Q ⟨B, s, ρ, Qd, W, h, k⟩ => k _ _ H h W.refl (.int i)⟩
theorem pdBl {i : Bool} {j : Nat} : PD X ad E Ed (.Constant (.bool i) j pos) (eC (.bl i)) := ⟨weakE pe_bl fun σ H Q ⟨B, s, ρ, Qd, W, h, k⟩ => k _ _ H h W.refl (.bl i)⟩
theorem pdNon {j : Nat} : PD X ad E Ed (.Constant .none j pos) (eC .non) := ⟨weakE pe_non fun σ H Q ⟨B, s, ρ, Qd, W, h, k⟩ => k _ _ H h W.refl .non⟩
theorem pdStr {x : Str} {j : Nat} : PD X ad E Ed (.Constant (.str x) j pos) (eC (.str x)) := ⟨weakE pe_str fun σ H Q ⟨B, s, ρ, Qd, W, h, k⟩ => k _ _ H h W.refl (.str x)⟩
theorem pdGlobI {x : Str} {i : Int} {t : Tok} (hg : Gl X x) (hm : X.mg x = some (.int i t)) (hd : (x == ("__debug__" : Str)) = false := by decide) : PD X ad E Ed (.Name x pos) (eC (.int i)) := ⟨weakE (pe_glob (v := .int i) hg hm ⟨_, rfl⟩ hd) fun σ H Q ⟨B, s, ρ, Qd, W, h, k⟩ => k _ _ H h W.refl (.int i)⟩
/-! ### two-place operations -/
def OpD (ad : Str → Addr) (r : R2) (o : D → D → (D → Prop) → Prop) : Prop := ∀ (B : Addr → Prop) (s : SO) (H : Hp) (x y : V) (dx dy : D) (Qd : D → Prop) (Q : VK), Wd B s H → Dx ad (Fz B H) x dx → Dx ad (Fz B H) y dy → o dx dy Qd →
  (∀ d v H', Qd d → Frm s H H' → Dx ad (Fz B H') v d → Q v H') → r x y H Q
def e2 (o : D → D → (D → Prop) → Prop) (fa fb : DE) : DE := fun ρ Q Ed => fa ρ (fun x => fb ρ (fun y => o x y Q) Ed) Ed
theorem e2_of {r : R2} {o : D → D → (D → Prop) → Prop} (hr : OpD ad r o) : ∀ σ H Q, teD ad E Ed (e2 o fa fb) σ H Q → tOp r (teD ad E Ed fa) (teD ad E Ed fb) σ H Q := fun σ H Q ⟨B, s, ρ, Qd, W, h, k⟩ =>
  ⟨B, s, ρ, _, W, h, fun x v H1 hx f1 dx => ⟨B, s, ρ, _, W.frm f1, hx, fun y u H2 hy f2 dy => hr B s H2 v u x y Qd Q (W.frm (f1.trans f2)).wd ((W.frm f1).wd.dx f2 dx) dy hy fun d v' H' hd f' dd => k d v' H' hd (f1.trans (f2.trans f')) dd⟩⟩
theorem pdOp {op : Operator} {r : R2} {o : D → D → (D → Prop) → Prop} (ho : OpR X (binaryOp op) r) (hr : OpD ad r o) (ha : PD X ad E Ed a fa) (hb : PD X ad E Ed b fb) : PD X ad E Ed (.BinOp a op b pos) (e2 o fa fb) := ⟨weakE (pe_op ho ha.pe hb.pe) (e2_of hr)⟩
theorem pdCmp {op : CmpOp} {r : R2} {o : D → D → (D → Prop) → Prop} (ho : OpR X (compareOp op) r) (hr : OpD ad r o) (ha : PD X ad E Ed a fa) (hb : PD X ad E Ed b fb) (hm : behindInMarks op b = false) : PD X ad E Ed (.Compare a [op] [b] pos) (e2 o fa fb) := ⟨weakE (pe_cmpR ho ha.pe hb.pe hm) (e2_of hr)⟩
/-- a test by a comparison -/
def t2 (o : D → D → (D → Prop) → Prop) (fa fb : DE) : DT := fun ρ Q Ed => fa ρ (fun x => fb ρ (fun y => o x y fun d => match d with | .bl c => Q c | _ => False) Ed) Ed
theorem tdCmp {op : CmpOp} {r : R2} {o : D → D → (D → Prop) → Prop} (ho : OpR X (compareOp op) r) (hr : OpD ad r o) (ha : PD X ad E Ed a fa) (hb : PD X ad E Ed b fb) (hm : behindInMarks op b = false) : TD X ad E Ed (.Compare a [op] [b] pos) (t2 o fa fb) :=
  ⟨weakT (pt_cmpR ho ha.pe hb.pe hm) fun σ H Q ⟨B, s, ρ, Qd, W, h, k⟩ => e2_of (E := E) (Ed := Ed) hr σ H _ ⟨B, s, ρ, _, W, h, fun d v H' hd f dv => by
    cases d with
    | bl c => cases dv; exact ⟨c, rfl, k c H' hd f⟩
    | _ => exact hd.elim⟩⟩
theorem OpD.or {r1 r2 : R2} {o1 o2 : D → D → (D → Prop) → Prop} (h1 : OpD ad r1 o1) (h2 : OpD ad r2 o2) : OpD ad (fun x y H Q => r1 x y H Q ∨ r2 x y H Q) (fun x y Q => o1 x y Q ∨ o2 x y Q) := fun B s H x y dx dy Qd Q w a b h k => h.imp (fun h => h1 B s H x y dx dy Qd Q w a b h k) (fun h => h2 B s H x y dx dy Qd Q w a b h k)
theorem OpR.or {f : Value → Value → Sem Value} {r1 r2 : R2} (h1 : OpR X f r1) (h2 : OpR X f r2) : OpR X f (fun x y H Q => r1 x y H Q ∨ r2 x y H Q) := fun pins s σ H x y v u Q I a b h => h.elim (h1 pins s σ H x y v u Q I a b) (h2 pins s σ H x y v u Q I a b)
theorem OpD.im {r : R2} {o o' : D → D → (D → Prop) → Prop} (h : OpD ad r o) (k : ∀ x y Q, o' x y Q → o x y Q) : OpD ad r o' := fun B s H x y dx dy Qd Q w a b g => h B s H x y dx dy Qd Q w a b (k _ _ _ g)
/-- ints in, an int or a flag out -/
def oI (g : Int → Int → D) : D → D → (D → Prop) → Prop
  | .int i, .int j, Q => Q (g i j)
  | _, _, _ => False
def oIC (C : Int → Int → Prop) (g : Int → Int → D) : D → D → (D → Prop) → Prop
  | .int i, .int j, Q => C i j ∧ Q (g i j)
  | _, _, _ => False
theorem dI {g : Int → Int → V} {g' : Int → Int → D} (hg : ∀ i j F, Dx ad F (g i j) (g' i j)) : OpD ad (rI0 g) (oI g') := fun B s H x y dx dy Qd Q w a b h k => by
  unfold oI at h
  split at h
  · rename_i i j
    cases a
    cases b
    exact ⟨i, j, rfl, rfl, k _ _ H h w.refl (hg i j _)⟩
  · exact h.elim
theorem dIC {C : Int → Int → Prop} {g : Int → Int → V} {g' : Int → Int → D} (hg : ∀ i j F, Dx ad F (g i j) (g' i j)) : OpD ad (rI C g) (oIC C g') := fun B s H x y dx dy Qd Q w a b h k => by
  unfold oIC at h
  split at h
  · rename_i i j
    cases a
    cases b
    exact ⟨i, j, rfl, rfl, h.1, k _ _ H h.2 w.refl (hg i j _)⟩
  · exact h.elim
end
end DL

set_option Elab.async false
set_option linter.all false
set_option maxRecDepth 100000
set_option maxHeartbeats 2000000
namespace DL
open PySem PySem.Spec PyProof.Rows L2 BT
/-! ### data as the model's plain data -/
mutual
/-- data that == and in may compare -/
def pyN : D → Option PyData
  | .non => some .none
  | .bl b => some (.bool b)
  | .int i => some (.int i)
  | .str x => some (.str x)
  | .tup xs => (pyNs xs).map .tuple
  | .lst xs => (pyNs xs).map .list
  | .dct _ => none
  | .obj _ _ => none
def pyNs : List D → Option (List PyData)
  | [] => some []
  | x :: xs => (pyN x).bind fun p => (pyNs xs).map (p :: ·)
end
mutual
/-- data that repr may show -/
def pyR : D → Option PyData
  | .non => some .none
  | .bl b => some (.bool b)
  | .int i => some (.int i)
  | .str x => some (.str x)
  | .tup xs => (pyRs xs).map .tuple
  | .lst xs => (pyRs xs).map .list
  | .dct es => (pyRk es).map .dict
  | .obj _ _ => none
def pyRs : List D → Option (List PyData)
  | [] => some []
  | x :: xs => (pyR x).bind fun p => (pyRs xs).map (p :: ·)
def pyRk : List (Key × D) → Option (List (PyData × PyData))
  | [] => some []
  | (k, x) :: xs => (pyR x).bind fun p => (pyRk xs).map ((kD k, p) :: ·)
end
section
variable {ad : Str → Addr} {B : Addr → Prop} {H : Hp} {K : PySem.W.Frag}
mutual
theorem Dx.dp : ∀ {d : D} {v : V} {p : PyData}, Dx ad (Fz B H) v d → pyN d = some p → Dp K H v p
  | .non, _, _, h, e => by cases h; cases (Option.some.inj e); exact .non
  | .bl b, _, _, h, e => by cases h; cases (Option.some.inj e); exact .bl b
  | .int b, _, _, h, e => by cases h; cases (Option.some.inj e); exact .int b
  | .str b, _, _, h, e => by cases h; cases (Option.some.inj e); exact .str b
  | .tup xs, _, _, h, e => by
    obtain ⟨ps, e1, e2⟩ := Option.map_eq_some_iff.mp (by simpa only [pyN] using e)
    subst e2
    cases h with
    | tup a r => exact .tup (.inl (.inl a.2)) (DxA.dp r e1)
  | .lst xs, _, _, h, e => by
    obtain ⟨ps, e1, e2⟩ := Option.map_eq_some_iff.mp (by simpa only [pyN] using e)
    subst e2
    cases h with
    | lst a r => exact .lst (.inl (.inl a.2)) (DxA.dp r e1)
  | .dct _, _, _, _, e => by simp [pyN] at e
  | .obj _ _, _, _, _, e => by simp [pyN] at e
theorem DxA.dp : ∀ {d : List D} {v : List V} {p : List PyData}, DxA ad (Fz B H) v d → pyNs d = some p → DpAll K H v p
  | [], _, _, h, e => by
    cases h
    cases (Option.some.inj (by simpa only [pyNs] using e : some [] = some _))
    exact .nil
  | x :: xs, _, _, h, e => by
    obtain ⟨p, e1, e2⟩ := Option.bind_eq_some_iff.mp (by simpa only [pyNs] using e)
    obtain ⟨ps, e3, e4⟩ := Option.map_eq_some_iff.mp e2
    subst e4
    cases h with
    | cons a r => exact .cons (Dx.dp a e1) (DxA.dp r e3)
end
mutual
theorem Dx.dv : ∀ {d : D} {v : V} {p : PyData}, Dx ad (Fz B H) v d → pyR d = some p → Dv H v p
  | .non, _, _, h, e => by cases h; cases (Option.some.inj e); exact .non
  | .bl b, _, _, h, e => by cases h; cases (Option.some.inj e); exact .bl b
  | .int b, _, _, h, e => by cases h; cases (Option.some.inj e); exact .int b
  | .str b, _, _, h, e => by cases h; cases (Option.some.inj e); exact .str b
  | .tup xs, _, _, h, e => by
    obtain ⟨ps, e1, e2⟩ := Option.map_eq_some_iff.mp (by simpa only [pyR] using e)
    subst e2
    cases h with
    | tup a r => exact .tup a.2 (DxA.dv r e1)
  | .lst xs, _, _, h, e => by
    obtain ⟨ps, e1, e2⟩ := Option.map_eq_some_iff.mp (by simpa only [pyR] using e)
    subst e2
    cases h with
    | lst a r => exact .lst a.2 (DxA.dv r e1)
  | .dct es, _, _, h, e => by
    obtain ⟨ps, e1, e2⟩ := Option.map_eq_some_iff.mp (by simpa only [pyR] using e)
    subst e2
    cases h with
    | dct a r => exact .dct a.2 (DxK.dv r e1)
  | .obj _ _, _, _, _, e => by simp [pyR] at e
theorem DxA.dv : ∀ {d : List D} {v : List V} {p : List PyData}, DxA ad (Fz B H) v d → pyRs d = some p → DvA H v p
  | [], _, _, h, e => by
    cases h
    cases (Option.some.inj (by simpa only [pyRs] using e : some [] = some _))
    exact .nil
  | x :: xs, _, _, h, e => by
    obtain ⟨p, e1, e2⟩ := Option.bind_eq_some_iff.mp (by simpa only [pyRs] using e)
    obtain ⟨ps, e3, e4⟩ := Option.map_eq_some_iff.mp e2
    subst e4
    cases h with
    | cons a r => exact .cons (Dx.dv a e1) (DxA.dv r e3)
theorem DxK.dv : ∀ {d : List (Key × D)} {v : List (Key × V)} {p : List (PyData × PyData)}, DxK ad (Fz B H) v d → pyRk d = some p → DvK H v p
  | [], _, _, h, e => by
    cases h
    cases (Option.some.inj (by simpa only [pyRk] using e : some [] = some _))
    exact .nil
  | (k, x) :: xs, _, _, h, e => by
    obtain ⟨p, e1, e2⟩ := Option.bind_eq_some_iff.mp (by simpa only [pyRk] using e)
    obtain ⟨ps, e3, e4⟩ := Option.map_eq_some_iff.mp e2
    subst e4
    cases h with
    | cons a r => exact .cons (Dx.dv a e1) (DxK.dv r e3)
end
end
section
variable {X : Cx} {ad : Str → Addr} {E : L2.St → XK} {Ed : DXt} {a b : Expr} {fa fb : DE} {pos : Pos} {es : List Expr} {n : Nat} {ga : DA}
/-! ### arguments -/
def aN : DA := fun _ Q _ => Q []
def aC (f : DE) (g : DA) : DA := fun ρ Q Ed => f ρ (fun d => g ρ (fun as => Q (.dat d :: as)) Ed) Ed
/-- a name as an argument: data, or the source -/
def aV (i : Nat) (g : DA) : DA := fun ρ Q Ed => match ρ[i]? with
  | some (.dat d) => g ρ (fun as => Q (.dat d :: as)) Ed
  | some .src => g ρ (fun as => Q (.src :: as)) Ed
  | _ => False
theorem adN : AD X ad E Ed [] 0 aN := ⟨weakA pa_nil fun σ H Q ⟨B, s, ρ, Qd, W, h, k⟩ => k _ _ H h rfl W.refl .nil⟩
theorem adC (ha : PD X ad E Ed a fa) (hr : AD X ad E Ed es n ga) (hs : starEach (a :: es) X.env = (false, eval a X.env) :: starEach es X.env := by rfl) : AD X ad E Ed (a :: es) (n + 1) (aC fa ga) :=
  ⟨weakA (pa_cons ha.pe hr.pa hs) fun σ H Q ⟨B, s, ρ, Qd, W, h, k⟩ => ⟨B, s, ρ, _, W, h, fun d v H1 hd f1 dv => ⟨B, s, ρ, _, W.frm f1, hd, fun as vs H2 ha hl f2 da =>
    k _ _ H2 ha (congrArg Nat.succ hl) (f1.trans f2) (.cons ((W.frm f1).wd.dx f2 dv) da)⟩⟩⟩
theorem adV {x : Str} (i : Nat) (ha : PE X (.Name x pos) (tVar i)) (hr : AD X ad E Ed es n ga) (hs : starEach (.Name x pos :: es) X.env = (false, eval (.Name x pos) X.env) :: starEach es X.env := by rfl) : AD X ad E Ed (.Name x pos :: es) (n + 1) (aV i ga) :=
  ⟨weakA (pa_cons ha hr.pa hs) fun σ H Q ⟨B, s, ρ, Qd, W, h, k⟩ => by
    unfold aV at h
    split at h
    · rename_i d e
      obtain ⟨v, ev, hv⟩ := W.rep.sl i _ e
      exact ⟨v, ev, B, s, ρ, _, W, h, fun as vs H2 ha hl f2 da => k _ _ H2 ha (congrArg Nat.succ hl) f2 (.cons (W.wd.dx f2 hv) da)⟩
    · rename_i e
      obtain ⟨l, c, es, ev⟩ := W.rep.sl i _ e
      exact ⟨.ref c, ev, B, s, ρ, _, W, h, fun as vs H2 ha hl f2 da => k _ _ H2 ha (congrArg Nat.succ hl) f2 (.cons ⟨l, c, es, rfl⟩ da)⟩
    · exact h.elim⟩
/-- all of them data -/
def dats : List Sl → Option (List D)
  | [] => some []
  | .dat d :: r => (dats r).map (d :: ·)
  | _ => none
theorem dats_ok : ∀ {as : List Sl} {ds : List D}, dats as = some ds → as = ds.map Sl.dat
  | [], ds, h => by cases (Option.some.inj (by simpa only [dats] using h : some [] = some _)); rfl
  | .dat d :: r, ds, h => by
    obtain ⟨ps, e1, e2⟩ := Option.map_eq_some_iff.mp (by simpa only [dats] using h)
    subst e2
    rw [dats_ok e1]; rfl
  | .un :: _, _, h => by simp [dats] at h
  | .own _ :: _, _, h => by simp [dats] at h
  | .ownD _ :: _, _, h => by simp [dats] at h
  | .src :: _, _, h => by simp [dats] at h
  | .exc _ _ _ :: _, _, h => by simp [dats] at h
/-! ### tuples, lists -/
def eTup (g : DA) : DE := fun ρ Q Ed => g ρ (fun as => match dats as with
  | some ds => Q (.tup ds)
  | none => False) Ed
def eLst (g : DA) : DE := fun ρ Q Ed => g ρ (fun as => match dats as with
  | some ds => Q (.lst ds)
  | none => False) Ed
theorem pdTup {kk : Nat} (h : AD X ad E Ed es n ga) (hn : n ≤ 1000 := by decide) : PD X ad E Ed (.Tuple es kk pos) (eTup ga) :=
  ⟨weakE (pe_tup h.pa) fun σ H Q ⟨B, s, ρ, Qd, W, h, k⟩ => ⟨B, s, ρ, _, W, h, fun as vs H1 ha hl f1 da => by
    split at ha
    · rename_i ds e
      rw [dats_ok e] at da hl
      have := da.length
      refine ⟨by rw [this, hl, sizeLine_eq]; omega, fun p hp => ?_⟩
      have w1 := (W.frm f1).wd
      have f2 := w1.new (o := .tup vs) hp
      exact k _ _ _ ha (f1.trans f2) (.tup ⟨w1.nb hp, upd_same⟩ (da.dat.mono (w1.fz f2)))
    · exact ha.elim⟩⟩
theorem pdLst (h : AD X ad E Ed es n ga) (hn : n ≤ 1000 := by decide) : PD X ad E Ed (.List es pos) (eLst ga) :=
  ⟨weakE (pe_lst h.pa) fun σ H Q ⟨B, s, ρ, Qd, W, h, k⟩ => ⟨B, s, ρ, _, W, h, fun as vs H1 ha hl f1 da => by
    split at ha
    · rename_i ds e
      rw [dats_ok e] at da hl
      have := da.length
      refine ⟨by rw [this, hl, sizeLine_eq]; omega, fun p hp => ?_⟩
      have w1 := (W.frm f1).wd
      have f2 := w1.new (o := .lst vs) hp
      exact k _ _ _ ha (f1.trans f2) (.lst ⟨w1.nb hp, upd_same⟩ (da.dat.mono (w1.fz f2)))
    · exact ha.elim⟩⟩
/-! ### operators -/
def oAdd : D → D → (D → Prop) → Prop
  | .int i, .int j, Q => Q (.int (i + j))
  | .lst xs, .lst ys, Q => xs.length + ys.length ≤ 1000000 ∧ Q (.lst (xs ++ ys))
  | .tup xs, .tup ys, Q => xs.length + ys.length ≤ 1000000 ∧ Q (.tup (xs ++ ys))
  | .str x, .str y, Q => x.length + y.length ≤ 1000000 ∧ Q (.str (x ++ y))
  | _, _, _ => False
theorem pdAdd (ha : PD X ad E Ed a fa) (hb : PD X ad E Ed b fb) : PD X ad E Ed (.BinOp a .Add b pos) (e2 oAdd fa fb) := by
  refine pdOp (OpR.or op_add (OpR.or op_cat (OpR.or op_catA op_add_str))) (fun B s H x y dx dy Qd Q w da db h k => ?_) ha hb
  unfold oAdd at h
  split at h
  · cases da; cases db
    exact .inl ⟨_, _, rfl, rfl, k _ _ H h w.refl (.int _)⟩
  · rename_i xs ys
    cases da with
    | lst ea ra => cases db with
      | lst eb rb =>
        have la := ra.length
        have lb := rb.length
        refine .inr (.inl ⟨_, _, _, _, rfl, rfl, ea.2, eb.2, by rw [la, lb, sizeLine_eq]; omega, fun p hp => ?_⟩)
        exact k _ _ _ h.2 (w.new hp) (.lst ⟨w.nb hp, upd_same⟩ ((ra.append rb).mono (w.fz (w.new hp))))
  · rename_i xs ys
    cases da with
    | tup ea ra => cases db with
      | tup eb rb =>
        have la := ra.length
        have lb := rb.length
        refine .inr (.inr (.inl ⟨_, _, _, _, rfl, rfl, .inl (.inl ea.2), .inl (.inl eb.2), by rw [la, lb, sizeLine_eq]; omega, fun e => ?_, fun _ e => ?_, fun _ _ p hp => ?_⟩))
        · subst e
          cases ra
          exact k _ _ _ h.2 w.refl (.tup eb rb)
        · subst e
          cases rb
          rw [List.append_nil] at h
          exact k _ _ _ h.2 w.refl (.tup ea ra)
        · exact k _ _ _ h.2 (w.new hp) (.tup ⟨w.nb hp, upd_same⟩ ((ra.append rb).mono (w.fz (w.new hp))))
  · cases da; cases db
    exact .inr (.inr (.inr ⟨_, _, rfl, rfl, by rw [sizeLine_eq]; omega, k _ _ H h.2 w.refl (.str _)⟩))
  · exact h.elim
def rep (xs : List D) (k : Nat) : List D := (List.replicate k xs).flatten
def oMul : D → D → (D → Prop) → Prop
  | .int i, .int j, Q => CMul i j ∧ Q (.int (i * j))
  | .lst xs, .int k, Q => 0 ≤ k ∧ k ≤ 1000000 ∧ xs.length * k.toNat ≤ 1000000 ∧ Q (.lst (rep xs k.toNat))
  | _, _, _ => False
theorem DxA.rep {F : Addr → HO → Prop} {xs : List V} {ds : List D} (h : DxA ad F xs ds) : ∀ k : Nat, DxA ad F (List.replicate k xs).flatten (DL.rep ds k)
  | 0 => .nil
  | k + 1 => by
    unfold DL.rep
    rw [List.replicate_succ, List.replicate_succ, List.flatten_cons, List.flatten_cons]
    exact h.append (DxA.rep h k)
theorem pdMul (ha : PD X ad E Ed a fa) (hb : PD X ad E Ed b fb) : PD X ad E Ed (.BinOp a .Mult b pos) (e2 oMul fa fb) := by
  refine pdOp (OpR.or op_mul op_rep) (fun B s H x y dx dy Qd Q w da db h k => ?_) ha hb
  unfold oMul at h
  split at h
  · cases da; cases db
    exact .inl ⟨_, _, rfl, rfl, h.1, k _ _ H h.2 w.refl (.int _)⟩
  · cases db
    cases da with
    | lst ea ra =>
      have la := ra.length
      refine .inr ⟨_, _, _, rfl, rfl, ea.2, by omega, by omega, by rw [la, sizeLine_eq]; omega, fun p hp => ?_⟩
      exact k _ _ _ h.2.2.2 (w.new hp) (.lst ⟨w.nb hp, upd_same⟩ ((ra.rep _).mono (w.fz (w.new hp))))
  · exact h.elim
theorem pdSub (ha : PD X ad E Ed a fa) (hb : PD X ad E Ed b fb) : PD X ad E Ed (.BinOp a .Sub b pos) (e2 (oI fun i j => .int (i - j)) fa fb) := pdOp op_sub (dI fun i j F => .int _) ha hb
theorem pdMod (ha : PD X ad E Ed a fa) (hb : PD X ad E Ed b fb) : PD X ad E Ed (.BinOp a .Mod b pos) (e2 (oIC (fun _ j => 0 < j) fun i j => .int (i % j)) fa fb) := pdOp op_mod (dIC fun i j F => .int _) ha hb
theorem pdDiv (ha : PD X ad E Ed a fa) (hb : PD X ad E Ed b fb) : PD X ad E Ed (.BinOp a .FloorDiv b pos) (e2 (oIC CDiv fun i j => .int (i / j)) fa fb) := pdOp op_fdiv (dIC fun i j F => .int _) ha hb
theorem pdPow (ha : PD X ad E Ed a fa) (hb : PD X ad E Ed b fb) : PD X ad E Ed (.BinOp a .Pow b pos) (e2 (oIC CPow fun i j => .int (i ^ j.toNat)) fa fb) := pdOp op_pow (dIC fun i j F => .int _) ha hb
theorem pdShl (ha : PD X ad E Ed a fa) (hb : PD X ad E Ed b fb) : PD X ad E Ed (.BinOp a .LShift b pos) (e2 (oIC CPow fun i j => .int (i * 2 ^ j.toNat)) fa fb) := pdOp op_shl (dIC fun i j F => .int _) ha hb
theorem pdShr (ha : PD X ad E Ed a fa) (hb : PD X ad E Ed b fb) : PD X ad E Ed (.BinOp a .RShift b pos) (e2 (oIC (fun _ j => 0 ≤ j) fun i j => .int (i / 2 ^ j.toNat)) fa fb) := pdOp op_shr (dIC fun i j F => .int _) ha hb
theorem pdAnd (ha : PD X ad E Ed a fa) (hb : PD X ad E Ed b fb) : PD X ad E Ed (.BinOp a .BitAnd b pos) (e2 (oI fun i j => .int (Builtin.bitAnd i j)) fa fb) := pdOp op_and (dI fun i j F => .int _) ha hb
theorem pdOr (ha : PD X ad E Ed a fa) (hb : PD X ad E Ed b fb) : PD X ad E Ed (.BinOp a .BitOr b pos) (e2 (oI fun i j => .int (Builtin.bitOr i j)) fa fb) := pdOp op_or (dI fun i j F => .int _) ha hb
theorem pdXor (ha : PD X ad E Ed a fa) (hb : PD X ad E Ed b fb) : PD X ad E Ed (.BinOp a .BitXor b pos) (e2 (oI fun i j => .int (Builtin.bitXor i j)) fa fb) := pdOp op_xor (dI fun i j F => .int _) ha hb
def e1 (o : D → (D → Prop) → Prop) (fa : DE) : DE := fun ρ Q Ed => fa ρ (fun x => o x Q) Ed
def oI1 (g : Int → D) : D → (D → Prop) → Prop
  | .int i, Q => Q (g i)
  | _, _ => False
theorem pdUn {op : UnaryOp} {g : Int → Int} (ho : UnR X (unaryOp op) (rU fun i => .int (g i))) (ha : PD X ad E Ed a fa) : PD X ad E Ed (.UnaryOp op a pos) (e1 (oI1 fun i => .int (g i)) fa) :=
  ⟨weakE (pe_un ho ha.pe) fun σ H Q ⟨B, s, ρ, Qd, W, h, k⟩ => ⟨B, s, ρ, _, W, h, fun d v H1 hd f1 dv => by
    unfold oI1 at hd
    split at hd
    · cases dv; exact ⟨_, rfl, k _ _ _ hd f1 (.int _)⟩
    · exact hd.elim⟩⟩
theorem pdNeg (ha : PD X ad E Ed a fa) : PD X ad E Ed (.UnaryOp .USub a pos) (e1 (oI1 fun i => .int (-i)) fa) := pdUn un_neg ha
theorem pdInv (ha : PD X ad E Ed a fa) : PD X ad E Ed (.UnaryOp .Invert a pos) (e1 (oI1 fun i => .int (Builtin.bitNot i)) fa) := pdUn un_inv ha
/-! ### comparisons -/
def ng : Bool → Bool → Bool
  | false, c => c
  | true, c => !c
def oEq (neg : Bool) : D → D → (D → Prop) → Prop
  | .int i, .int j, Q => Q (.bl (ng neg (decide (i = j))))
  | .str i, .str j, Q => Q (.bl (ng neg (decide (i = j))))
  | .bl i, .bl j, Q => Q (.bl (ng neg (decide (i = j))))
  | x, y, Q => ∃ p q, pyN x = some p ∧ pyN y = some q ∧ SeqAt.shaped p = true ∧ SeqAt.shaped q = true ∧ Q (.bl (ng neg (PyData.eqv p q)))
theorem xor_f (c : Bool) : ng false c = c := rfl
theorem xor_t (c : Bool) : ng true c = !c := rfl
theorem decV_int {i j : Int} : decide (V.int i = V.int j) = decide (i = j) := by
  by_cases h : i = j
  · subst h; simp
  · rw [decide_eq_false h, decide_eq_false fun e => h (by injection e)]
theorem decV_str {i j : Str} : decide (V.str i = V.str j) = decide (i = j) := by
  by_cases h : i = j
  · subst h; simp
  · rw [decide_eq_false h, decide_eq_false fun e => h (by injection e)]
theorem decV_bl {i j : Bool} : decide (V.bl i = V.bl j) = decide (i = j) := by
  by_cases h : i = j
  · subst h; simp
  · rw [decide_eq_false h, decide_eq_false fun e => h (by injection e)]
theorem dEq {K : PySem.W.Frag} : OpD ad (fun x y H Q => rEq x y H Q ∨ rEqD K x y H Q) (oEq false) := fun B s H x y dx dy Qd Q w da db h k => by
  unfold oEq at h
  split at h
  · cases da; cases db
    rw [xor_f] at h
    exact .inl ⟨rfl, by rw [decV_int]; exact k _ _ H h w.refl (.bl _)⟩
  · cases da; cases db
    rw [xor_f] at h
    exact .inl ⟨rfl, by rw [decV_str]; exact k _ _ H h w.refl (.bl _)⟩
  · cases da; cases db
    rw [xor_f] at h
    exact .inl ⟨rfl, by rw [decV_bl]; exact k _ _ H h w.refl (.bl _)⟩
  · obtain ⟨p, q, e1, e2, e3, e4, h⟩ := h
    rw [xor_f] at h
    exact .inr ⟨p, q, da.dp e1, db.dp e2, e3, e4, k _ _ H h w.refl (.bl _)⟩
theorem dNe {K : PySem.W.Frag} : OpD ad (fun x y H Q => rNe x y H Q ∨ rNeD K x y H Q) (oEq true) := fun B s H x y dx dy Qd Q w da db h k => by
  unfold oEq at h
  split at h
  · cases da; cases db
    rw [xor_t] at h
    exact .inl ⟨rfl, by rw [decV_int]; exact k _ _ H h w.refl (.bl _)⟩
  · cases da; cases db
    rw [xor_t] at h
    exact .inl ⟨rfl, by rw [decV_str]; exact k _ _ H h w.refl (.bl _)⟩
  · cases da; cases db
    rw [xor_t] at h
    exact .inl ⟨rfl, by rw [decV_bl]; exact k _ _ H h w.refl (.bl _)⟩
  · obtain ⟨p, q, e1, e2, e3, e4, h⟩ := h
    rw [xor_t] at h
    exact .inr ⟨p, q, da.dp e1, db.dp e2, e3, e4, k _ _ H h w.refl (.bl _)⟩
theorem pdEq (hu : X.A.units + 64 < cLine) (ha : PD X ad E Ed a fa) (hb : PD X ad E Ed b fb) (hm : behindInMarks .Eq b = false) : PD X ad E Ed (.Compare a [.Eq] [b] pos) (e2 (oEq false) fa fb) := pdCmp (OpR.or op_eq (op_eqD hu)) dEq ha hb hm
theorem tdEq (hu : X.A.units + 64 < cLine) (ha : PD X ad E Ed a fa) (hb : PD X ad E Ed b fb) (hm : behindInMarks .Eq b = false) : TD X ad E Ed (.Compare a [.Eq] [b] pos) (t2 (oEq false) fa fb) := tdCmp (OpR.or op_eq (op_eqD hu)) dEq ha hb hm
theorem pdNe (hu : X.A.units + 64 < cLine) (ha : PD X ad E Ed a fa) (hb : PD X ad E Ed b fb) (hm : behindInMarks .NotEq b = false) : PD X ad E Ed (.Compare a [.NotEq] [b] pos) (e2 (oEq true) fa fb) := pdCmp (OpR.or op_ne (op_neD hu)) dNe ha hb hm
theorem tdNe (hu : X.A.units + 64 < cLine) (ha : PD X ad E Ed a fa) (hb : PD X ad E Ed b fb) (hm : behindInMarks .NotEq b = false) : TD X ad E Ed (.Compare a [.NotEq] [b] pos) (t2 (oEq true) fa fb) := tdCmp (OpR.or op_ne (op_neD hu)) dNe ha hb hm
abbrev oLt : D → D → (D → Prop) → Prop := oI fun i j => .bl (decide (i < j))
abbrev oLe : D → D → (D → Prop) → Prop := oI fun i j => .bl (decide (i ≤ j))
abbrev oGt : D → D → (D → Prop) → Prop := oI fun i j => .bl (decide (j < i))
abbrev oGe : D → D → (D → Prop) → Prop := oI fun i j => .bl (decide (j ≤ i))
theorem dLt : OpD ad (rI0 fun i j => .bl (decide (i < j))) oLt := dI fun _ _ _ => .bl _
theorem dLe : OpD ad (rI0 fun i j => .bl (decide (i ≤ j))) oLe := dI fun _ _ _ => .bl _
theorem dGt : OpD ad (rI0 fun i j => .bl (decide (j < i))) oGt := dI fun _ _ _ => .bl _
theorem dGe : OpD ad (rI0 fun i j => .bl (decide (j ≤ i))) oGe := dI fun _ _ _ => .bl _
def oIsN (neg : Bool) : D → D → (D → Prop) → Prop
  | .non, .non, Q => Q (.bl (!neg))
  | _, .non, Q => Q (.bl neg)
  | _, _, _ => False
theorem dIsN : OpD ad (fun x y H Q => y = .non ∧ Q (.bl (decide (x = .non))) H) (oIsN false) := fun B s H x y dx dy Qd Q w da db h k => by
  unfold oIsN at h
  split at h
  · cases da; cases db
    exact ⟨rfl, k _ _ H h w.refl (.bl _)⟩
  · cases db
    refine ⟨rfl, ?_⟩
    have e : decide (x = V.non) = false := by
      cases da <;> first | rfl | (rename_i hn; exact absurd rfl (hn))
    rw [e]
    exact k _ _ H h w.refl (.bl _)
  · exact h.elim
theorem dNotN : OpD ad (fun x y H Q => y = .non ∧ Q (.bl (!decide (x = .non))) H) (oIsN true) := fun B s H x y dx dy Qd Q w da db h k => by
  unfold oIsN at h
  split at h
  · cases da; cases db
    exact ⟨rfl, k _ _ H h w.refl (.bl _)⟩
  · cases db
    refine ⟨rfl, ?_⟩
    have e : decide (x = V.non) = false := by
      cases da <;> first | rfl | (rename_i hn; exact absurd rfl (hn))
    rw [e]
    exact k _ _ H h w.refl (.bl _)
  · exact h.elim
/-! ### tests -/
def tBl (f : DE) : DT := fun ρ Q Ed => f ρ (fun d => match d with
  | .bl c => Q c
  | _ => False) Ed
theorem tdVal (h : PD X ad E Ed a fa) (he : ∀ whole, isTrue a X.env whole = (do let v ← whole; standAt a.pos; holding [v] (truthy v)) := by intro _; rfl) : TD X ad E Ed a (tBl fa) :=
  ⟨weakT (pt_val h.pe he) fun σ H Q ⟨B, s, ρ, Qd, W, h, k⟩ => ⟨B, s, ρ, _, W, h, fun d v H1 hd f1 dv => by
    cases d with
    | bl c => cases dv; exact ⟨c, rfl, k c H1 hd f1⟩
    | _ => exact hd.elim⟩⟩
/-- truth -/
def tru : D → Option Bool
  | .non => some false
  | .bl b => some b
  | .int i => some (i != 0)
  | .lst xs => some (!xs.isEmpty)
  | .tup xs => some (!xs.isEmpty)
  | .dct xs => some (!xs.isEmpty)
  | _ => none
def tTru (f : DE) : DT := fun ρ Q Ed => f ρ (fun d => match tru d with
  | some c => Q c
  | none => False) Ed
theorem DxA.emp {F : Addr → HO → Prop} {xs : List V} {ds : List D} (h : DxA ad F xs ds) : xs.isEmpty = ds.isEmpty := by cases h <;> rfl
theorem DxK.emp {F : Addr → HO → Prop} {xs : List (Key × V)} {ds : List (Key × D)} (h : DxK ad F xs ds) : xs.isEmpty = ds.isEmpty := by cases h <;> rfl
theorem tdTru (h : PD X ad E Ed a fa) (he : ∀ whole, isTrue a X.env whole = (do let v ← whole; standAt a.pos; holding [v] (truthy v)) := by intro _; rfl) : TD X ad E Ed a (tTru fa) :=
  ⟨weakT (pt_truth h.pe he) fun σ H Q ⟨B, s, ρ, Qd, W, h, k⟩ => ⟨B, s, ρ, _, W, h, fun d v H1 hd f1 dv => by
    cases dv with
    | non => exact ⟨_, rfl, k _ H1 hd f1⟩
    | bl b => exact ⟨_, rfl, k _ H1 hd f1⟩
    | int i => exact ⟨_, rfl, k _ H1 hd f1⟩
    | str x => exact hd.elim
    | tup e r => exact ⟨_, .inr (.inl ⟨_, .inl (.inl e.2), rfl⟩), by rw [r.emp]; exact k _ H1 hd f1⟩
    | lst e r => exact ⟨_, .inl ⟨_, .inl (.inl e.2), rfl⟩, by rw [r.emp]; exact k _ H1 hd f1⟩
    | dct e r => exact ⟨_, .inr (.inr ⟨_, e.2, rfl⟩), by rw [r.emp]; exact k _ H1 hd f1⟩
    | obj e r => exact hd.elim⟩⟩
def tN (t : DT) : DT := fun ρ Q Ed => t ρ (fun c => Q (!c)) Ed
theorem tdNot {t : DT} (h : TD X ad E Ed a t) : TD X ad E Ed (.UnaryOp .Not a pos) (tN t) :=
  ⟨weakT (pt_not h.pt) fun σ H Q ⟨B, s, ρ, Qd, W, h, k⟩ => ⟨B, s, ρ, _, W, h, fun c H1 hc f1 => k _ H1 hc f1⟩⟩
structure BD (X : Cx) (ad : Str → Addr) (E : L2.St → XK) (Ed : DXt) (e : Expr) (f : DT) : Prop where
  pw : PW X e (ttD ad E Ed f)
theorem weakW {X : Cx} {e : Expr} {t t' : TT} (h : PW X e t) (k : ∀ σ H Q, t' σ H Q → t σ H Q) : PW X e t' := ⟨fun whole pins s σ H Q I q => h.run whole pins s σ H Q I (k σ H Q q)⟩
def tAn (t u : DT) : DT := fun ρ Q Ed => t ρ (fun c => if c = true then u ρ Q Ed else Q false) Ed
def tOo (t u : DT) : DT := fun ρ Q Ed => t ρ (fun c => if c = true then Q true else u ρ Q Ed) Ed
theorem bdAnd1 {t : DT} (h : TD X ad E Ed a t) : BD X ad E Ed (.BoolOp .And [a] pos) t := ⟨pw_and1 h.pt⟩
theorem bdOr1 {t : DT} (h : TD X ad E Ed a t) : BD X ad E Ed (.BoolOp .Or [a] pos) t := ⟨pw_or1 h.pt⟩
theorem bdAnd {t u : DT} {rest : List Expr} (h : TD X ad E Ed a t) (h2 : BD X ad E Ed (.BoolOp .And (b :: rest) pos) u) : BD X ad E Ed (.BoolOp .And (a :: b :: rest) pos) (tAn t u) :=
  ⟨weakW (pw_and h.pt h2.pw) fun σ H Q ⟨B, s, ρ, Qd, W, h, k⟩ => ⟨B, s, ρ, _, W, h, fun c H1 hc f1 => by
    cases c with
    | true => exact ⟨B, s, ρ, Qd, W.frm f1, hc, fun b H2 hb f2 => k b H2 hb (f1.trans f2)⟩
    | false => exact k _ H1 hc f1⟩⟩
theorem bdOr {t u : DT} {rest : List Expr} (h : TD X ad E Ed a t) (h2 : BD X ad E Ed (.BoolOp .Or (b :: rest) pos) u) : BD X ad E Ed (.BoolOp .Or (a :: b :: rest) pos) (tOo t u) :=
  ⟨weakW (pw_or h.pt h2.pw) fun σ H Q ⟨B, s, ρ, Qd, W, h, k⟩ => ⟨B, s, ρ, _, W, h, fun c H1 hc f1 => by
    cases c with
    | true => exact k _ H1 hc f1
    | false => exact ⟨B, s, ρ, Qd, W.frm f1, hc, fun b H2 hb f2 => k b H2 hb (f1.trans f2)⟩⟩⟩
theorem BD.td {t : DT} (h : BD X ad E Ed a t) : TD X ad E Ed a t := ⟨PW.pt h.pw⟩
/-- chains of comparisons -/
def tCh (o o' : D → D → (D → Prop) → Prop) (fa fb fc : DE) : DT := fun ρ Q Ed => fa ρ (fun x => fb ρ (fun y => o x y fun d => match d with
  | .bl true => fc ρ (fun z => o' y z fun d => match d with | .bl c => Q c | _ => False) Ed
  | .bl false => Q false
  | _ => False) Ed) Ed
end
end DL

set_option Elab.async false
set_option linter.all false
set_option maxRecDepth 100000
set_option maxHeartbeats 2000000
namespace DL
open PySem PySem.Spec PyProof.Rows L2 BT
/-! ### promises by value -/
abbrev DSp := List Sl → (D → Prop) → (Str → D → Prop) → Prop
def spD (ad : Str → Addr) (f : DSp) : Sp := fun vs H Q E => ∃ B s as Qd Xd, Wd B s H ∧ ArA ad B s H vs as ∧ f as Qd Xd ∧ (∀ d v H', Qd d → Frm s H H' → Dx ad (Fz B H') v d → Q v H') ∧
  (∀ cn d v x H', Xd cn d → Frm s H H' → Dx ad (Fz B H') v d → H' x = none → E (.ref (ad cn)) (some x) (upd H' x (.xd [("what", v)])))
/-- of an __init__, called by its class's name -/
def spI (ad : Str → Addr) (c : Str) (f : DSp) : Sp := fun vs H Q E => ∃ x dx us H1 B s as Qd Xd, vs = .ref x :: us ∧ H = upd (upd H1 dx (.own x)) x (.ins (ad c) dx []) ∧ H1 x = none ∧ H1 dx = none ∧ dx ≠ x ∧ Wd B s H1 ∧ ArA ad B s H1 us as ∧ f as Qd Xd ∧
  (∀ d H', Qd d → Frm s H1 H' → Dx ad (Fz B H') (.ref x) d → Q .non H') ∧ (∀ cn d v y H', Xd cn d → Frm s H1 H' → Dx ad (Fz B H') v d → H' y = none → E (.ref (ad cn)) (some y) (upd H' y (.xd [("what", v)])))
abbrev DefX (P : Program) (w : World) (K : PySem.W.Frag) (mg : Str → Option Value) (base : Heap) (ad : Str → Addr) (k : Nat) (x : Str) (ps : List Str) (f : DSp) : Prop := DefOk P w K mg base (L2.CX P w) k x ps (spD ad f)
abbrev DefY (P : Program) (w : World) (K : PySem.W.Frag) (mg : Str → Option Value) (base : Heap) (ad : Str → Addr) (k : Nat) (x : Str) (ps : List Str) (f : DSp) : Prop := DefG P w K mg base k x ps (spD ad f)
abbrev MetX (P : Program) (w : World) (K : PySem.W.Frag) (mg : Str → Option Value) (base : Heap) (ad : Str → Addr) (k : Nat) (c m : Str) (ps : List Str) (f : DSp) : Prop := MethOk P w K mg base (L2.CX P w) k (ad c) m ps (spD ad f)
abbrev MakX (P : Program) (w : World) (K : PySem.W.Frag) (mg : Str → Option Value) (base : Heap) (ad : Str → Addr) (k : Nat) (c : Str) (ps : List Str) (f : DSp) : Prop := MakeOk P w K mg base (L2.CX P w) k (ad c) c ps (spI ad c f)
/-- where nothing may be raised -/
def X0 : DXt := fun _ _ _ => False
section
variable {X : Cx} {ad : Str → Addr} {E : L2.St → XK} {Ed : DXt} {a b e o : Expr} {fa fb fo : DE} {p pos apos p2 : Pos} {es : List Expr} {n k j : Nat} {ga : DA} {x m c : Str} {ps : List Str} {dsp : DSp}
/-- what an expression may let out -/
def Lets (X : Cx) (E : L2.St → XK) : Prop := ∀ σ, PassesAt (L2.CX X.prog X.w) X σ (E σ)
theorem lets0 : Lets X (fun _ => E0) := fun σ pins H s e s' I c => passL pins σ H s e s' I c
theorem letsW {W : WX} (tk : Takes X W) : Lets X (WE W) := fun σ => passAt tk σ
theorem letsP {E : XK} (h : Passes (L2.CX X.prog X.w) X E) : Lets X (fun _ => E) := fun σ pins H s e s' I c => h pins σ H s e s' I c
def eCall (f : DSp) (g : DA) : DE := fun ρ Q Ed => g ρ (fun as => f as Q (Ed ρ)) Ed
theorem pdCall (D : DefX X.prog X.w X.K X.mg X.base ad k x ps dsp) (hr : Room j X.A) (hx : Lets X E) (hg : Gl X x) (ha : AD X ad E Ed (e :: es) n ga) (hk : k ≤ j := by decide) (hdb : (x == ("__debug__" : Str)) = false := by decide)
    (he : starEach (e :: es) X.env = (false, eval e X.env) :: starEach es X.env := by rfl) (hpl : (backTo pos (starEach es X.env)).any (·.1) = false := by rfl) : PD X ad E Ed (.Call (.Name x p) (e :: es) [] pos) (eCall dsp ga) :=
  ⟨weakE (pe_dS D hr hg hx ha.pa hk hdb he hpl) fun σ H Q ⟨B, s, ρ, Qd, W, h, kk⟩ => ⟨B, s, ρ, _, W, h, fun as vs H1 ha hl f1 da => ⟨B, s, as, Qd, Ed ρ, (W.frm f1).wd, da, ha, fun d v H' hd f dv => kk d v H' hd (f1.trans f) dv,
    fun cn d v x H' hd f dv hx => W.tie cn d v x H' (f1.trans f) dv hx hd⟩⟩⟩
/-- a def of the law's -/
def eCallG (f : DSp) (g : DA) : DE := fun ρ Q Ed => g ρ (fun as => f as Q fun _ _ => False) Ed
theorem pdCallG (D : DefY X.prog X.w X.K X.mg X.base ad k x ps dsp) (hr : Room j X.A) (gd : X.A.guards = some []) (hg : Gl X x) (ha : AD X ad E Ed (e :: es) n ga) (hk : k ≤ j := by decide) (hdb : (x == ("__debug__" : Str)) = false := by decide)
    (he : starEach (e :: es) X.env = (false, eval e X.env) :: starEach es X.env := by rfl) (hpl : (backTo pos (starEach es X.env)).any (·.1) = false := by rfl) : PD X ad E Ed (.Call (.Name x p) (e :: es) [] pos) (eCallG dsp ga) :=
  ⟨weakE (pe_dG D hr gd hg ha.pa hk hdb he hpl) fun σ H Q ⟨B, s, ρ, Qd, W, h, kk⟩ => ⟨B, s, ρ, _, W, h, fun as vs H1 ha hl f1 da => ⟨B, s, as, Qd, _, (W.frm f1).wd, da, ha, fun d v H' hd f dv => kk d v H' hd (f1.trans f) dv, fun cn d v x H' hd => hd.elim⟩⟩⟩
/-! ### methods, makers, fields -/
def eMeth (c m : Str) (f : DSp) (fo : DE) (g : DA) : DE := fun ρ Q Ed => fo ρ (fun o => match o with
  | .obj c' fs => c' = c ∧ fs.lookup m = none ∧ g ρ (fun as => f (.dat (.obj c' fs) :: as) Q (Ed ρ)) Ed
  | _ => False) Ed
theorem pdMeth {pl : Sem Bool} (D : MetX X.prog X.w X.K X.mg X.base ad k c m ps dsp) (cl : Cls X.K (ad c)) (hr : Room j X.A) (hx : Lets X E) (ho : PD X ad E Ed o fo) (ha : AD X ad E Ed (e :: es) n ga) (hk : k ≤ j := by decide)
    (h1 : starEach (e :: es) X.env = (false, eval e X.env) :: starEach es X.env := by rfl) (h2 : (backTo pos (starEach es X.env)).any (·.1) = false := by rfl)
    (h3 : eval (.Call (.Attribute o m apos) (e :: es) [] pos) X.env = (do
      let v ← eval o X.env
      standAt apos.atName
      let (f, first) ← holding [v] (getMethod v m pl)
      callWith pos f first (backTo pos (starEach (e :: es) X.env)) (backToKw pos (keywordEach [] X.env))) := by rfl) : PD X ad E Ed (.Call (.Attribute o m apos) (e :: es) [] pos) (eMeth c m dsp fo ga) :=
  ⟨weakE (pe_mS (pl := pl) D cl ho.pe hr hx ha.pa hk h1 h2 h3) fun σ H Q ⟨B, s, ρ, Qd, W, h, kk⟩ => ⟨B, s, ρ, _, W, h, fun d v H1 hd f1 dv => by
    cases dv with
    | obj ea ra =>
      obtain ⟨rfl, hm, hd⟩ := hd
      refine ⟨_, _, _, rfl, ea.2, ra.lookup_none hm, B, s, ρ, _, W.frm f1, hd, fun as vs H2 ha hl f2 da => ⟨B, s, _, Qd, Ed ρ, ((W.frm f1).frm f2).wd, .cons (a := .dat _) ((W.frm f1).wd.dx f2 (.obj ea ra)) da, ha, fun d v H' hd f dv => kk d v H' hd (f1.trans (f2.trans f)) dv,
        fun cn d v x H' hd f dv hx => W.tie cn d v x H' (f1.trans (f2.trans f)) dv hx hd⟩⟩
    | _ => exact hd.elim⟩⟩
theorem pdMeth0 {pl : Sem Bool} (D : MetX X.prog X.w X.K X.mg X.base ad k c m ps dsp) (cl : Cls X.K (ad c)) (hr : Room j X.A) (hx : Lets X E) (ho : PD X ad E Ed o fo) (hk : k ≤ j := by decide)
    (h3 : eval (.Call (.Attribute o m apos) [] [] pos) X.env = (do
      let v ← eval o X.env
      standAt apos.atName
      let (f, first) ← holding [v] (getMethod v m pl)
      callWith pos f first (backTo pos (starEach [] X.env)) (backToKw pos (keywordEach [] X.env))) := by rfl) : PD X ad E Ed (.Call (.Attribute o m apos) [] [] pos) (eMeth c m dsp fo aN) :=
  ⟨weakE (pe_m0S (pl := pl) D cl ho.pe hr hx hk h3) fun σ H Q ⟨B, s, ρ, Qd, W, h, kk⟩ => ⟨B, s, ρ, _, W, h, fun d v H1 hd f1 dv => by
    cases dv with
    | obj ea ra =>
      obtain ⟨rfl, hm, hd⟩ := hd
      exact ⟨_, _, _, rfl, ea.2, ra.lookup_none hm, B, s, _, Qd, Ed ρ, (W.frm f1).wd, .cons (a := .dat _) (.obj ea ra) .nil, hd, fun d v H' hd f dv => kk d v H' hd (f1.trans f) dv, fun cn d v x H' hd f dv hx => W.tie cn d v x H' (f1.trans f) dv hx hd⟩
    | _ => exact hd.elim⟩⟩
theorem pdMake (D : MakX X.prog X.w X.K X.mg X.base ad k c ps dsp) (hr : Room j X.A) (hx : Lets X E) (hg : Gl X c) (ha : AD X ad E Ed (e :: es) n ga) (hk : k + 1 ≤ j := by decide) (hdb : (c == ("__debug__" : Str)) = false := by decide)
    (he : starEach (e :: es) X.env = (false, eval e X.env) :: starEach es X.env := by rfl) (hpl : (backTo pos (starEach es X.env)).any (·.1) = false := by rfl) : PD X ad E Ed (.Call (.Name c p) (e :: es) [] pos) (eCall dsp ga) :=
  ⟨weakE (pe_mkS D hr hg hx ha.pa hk hdb he hpl) fun σ H Q ⟨B, s, ρ, Qd, W, h, kk⟩ => ⟨B, s, ρ, _, W, h, fun as vs H1 ha hl f1 da => fun x dx hx hdx ne => ⟨x, dx, vs, H1, B, s, as, Qd, Ed ρ, rfl, rfl, hx, hdx, ne, (W.frm f1).wd, da, ha,
    fun d H' hd f dv => ⟨rfl, kk d _ H' hd (f1.trans f) dv⟩, fun cn d v x H' hd f dv hx => W.tie cn d v x H' (f1.trans f) dv hx hd⟩⟩⟩
/-- the classes and their attributes -/
def tabHas (tab : List (Str × List Str)) (c f : Str) : Bool := match tab.lookup c with
  | some fs => fs.any (· == f)
  | none => false
structure ClsTab (K : PySem.W.Frag) (ad : Str → Addr) (tab : List (Str × List Str)) : Prop where
  cls : ∀ c fs, tab.lookup c = some fs → Cls K (ad c)
  no : ∀ c fs, tab.lookup c = some fs → ∀ f ∈ fs, NoAttr K (ad c) f
def eFld (tab : List (Str × List Str)) (f : Str) (fo : DE) : DE := fun ρ Q Ed => fo ρ (fun o => match o with
  | .obj c fs => match fs.lookup f with
    | some d => tabHas tab c f = true ∧ Q d
    | none => False
  | _ => False) Ed
theorem pdFld {tab : List (Str × List Str)} {f : Str} (T : ClsTab X.K ad tab) (ho : PD X ad E Ed o fo) (hb : attributeBase o f X.env (eval o X.env) = eval o X.env) : PD X ad E Ed (.Attribute o f pos) (eFld tab f fo) :=
  ⟨weakE (pe_fld ho.pe hb) fun σ H Q ⟨B, s, ρ, Qd, W, h, kk⟩ => ⟨B, s, ρ, _, W, h, fun d v H1 hd f1 dv => by
    cases dv with
    | obj ea ra =>
      rename_i c fvs fs
      dsimp only at hd
      cases hl : fs.lookup f with
      | none => rw [hl] at hd; exact hd.elim
      | some d =>
        rw [hl] at hd
        obtain ⟨ht, hd⟩ := hd
        obtain ⟨v, hv, dv⟩ := ra.lookup hl
        unfold tabHas at ht
        split at ht
        · rename_i gs eg
          obtain ⟨g, hg, e⟩ := List.any_eq_true.mp ht
          have e := eq_of_beq e
          subst e
          exact ⟨_, _, _, _, v, rfl, ea.2, T.cls _ _ eg, T.no _ _ eg _ hg, hv, kk d v H1 hd f1 dv⟩
        · cases ht
    | _ => exact hd.elim⟩⟩
/-! ### chains -/
theorem tdChain {op op' : CmpOp} {r r' : R2} {o1 o2 : D → D → (D → Prop) → Prop} {c : Expr} {fc : DE} (ho : OpR X (compareOp op) r) (ho' : OpR X (compareOp op') r') (h1 : OpD ad r o1) (h2 : OpD ad r' o2) (ha : PD X ad E Ed a fa) (hb : PD X ad E Ed b fb) (hc : PD X ad E Ed c fc)
    (pt : ∀ {ta tb tc : TE}, PE X a ta → PE X b tb → PE X c tc → PT X (.Compare a [op, op'] [b, c] pos) (tTest (tChain r r' ta tb tc))) : TD X ad E Ed (.Compare a [op, op'] [b, c] pos) (tCh o1 o2 fa fb fc) :=
  ⟨weakT (pt ha.pe hb.pe hc.pe) fun σ H Q ⟨B, s, ρ, Qd, W, h, k⟩ => ⟨B, s, ρ, _, W, h, fun x v H1 hx f1 dx => ⟨B, s, ρ, _, W.frm f1, hx, fun y u H2 hy f2 dy =>
    h1 B s H2 v u x y _ _ (W.frm (f1.trans f2)).wd ((W.frm f1).wd.dx f2 dx) dy hy fun d v' H3 hd f3 dd => by
      cases d with
      | bl c =>
        cases dd
        cases c with
        | true => exact ⟨true, rfl, iteT ⟨B, s, ρ, _, W.frm (f1.trans (f2.trans f3)), hd, fun z z' H4 hz f4 dz => h2 B s H4 u z' y z _ _ (W.frm (f1.trans (f2.trans (f3.trans f4)))).wd ((W.frm (f1.trans f2)).wd.dx (f3.trans f4) dy) dz hz fun d2 w' H5 hd2 f5 dd2 => by
            cases d2 with
            | bl c => cases dd2; exact ⟨c, rfl, k c H5 hd2 (f1.trans (f2.trans (f3.trans (f4.trans f5))))⟩
            | _ => exact hd2.elim⟩⟩
        | false => exact ⟨false, rfl, iteF ⟨false, rfl, k false H3 hd (f1.trans (f2.trans f3))⟩⟩
      | _ => exact hd.elim⟩⟩⟩
/-! ### subscripts, slices -/
theorem DxA.at_ {F : Addr → HO → Prop} {vs : List V} {ds : List D} {i : Int} {d : D} (h : DxA ad F vs ds) (e : atI ds i = some d) : ∃ v, atI vs i = some v ∧ Dx ad F v d := by
  unfold atI at e ⊢
  rw [h.length]
  cases q : ixN ds.length i with
  | none => rw [q] at e; cases e
  | some j =>
    rw [q] at e
    exact h.getD e
def oIx : D → D → (D → Prop) → Prop
  | .lst xs, .int i, Q => (match atI xs i with | some d => Q d | none => False)
  | .tup xs, .int i, Q => (match atI xs i with | some d => Q d | none => False)
  | _, _, _ => False
theorem pdIx (ha : PD X ad E Ed a fa) (hb : PD X ad E Ed b fb) (hs : PlainIx b) : PD X ad E Ed (.Subscript a b pos) (e2 oIx fa fb) :=
  ⟨weakE (pe_ix (IxR.or ix_list ix_tup) ha.pe hb.pe hs) (e2_of fun B s H x y dx dy Qd Q w da db h k => by
    unfold oIx at h
    split at h
    · split at h
      · rename_i e
        cases db
        cases da with
        | lst ea ra =>
          obtain ⟨v, hv, dv⟩ := ra.at_ e
          exact .inl ⟨_, _, _, v, rfl, rfl, .inl (.inl ea.2), hv, k _ _ H h w.refl dv⟩
      · exact h.elim
    · split at h
      · rename_i e
        cases db
        cases da with
        | tup ea ra =>
          obtain ⟨v, hv, dv⟩ := ra.at_ e
          exact .inr ⟨_, _, _, v, rfl, rfl, .inl (.inl ea.2), hv, k _ _ H h w.refl dv⟩
      · exact h.elim
    · exact h.elim)⟩
abbrev DO := List Sl → (Option Int → Prop) → DXt → Prop
def toD (ad : Str → Addr) (E : L2.St → XK) (Ed : DXt) (f : DO) : TO := fun σ H Q => ∃ B s ρ Qd, Wl ad E Ed B s ρ σ H ∧ f ρ Qd Ed ∧ ∀ b H', Qd b → Frm s H H' → Q b H'
structure OD (X : Cx) (ad : Str → Addr) (E : L2.St → XK) (Ed : DXt) (e : Option Expr) (f : DO) : Prop where
  po : PO X e (toD ad E Ed f)
theorem weakO {X : Cx} {e : Option Expr} {t t' : TO} (h : PO X e t) (k : ∀ σ H Q, t' σ H Q → t σ H Q) : PO X e t' := ⟨fun pins s σ H Q I q => h.run pins s σ H Q I (k σ H Q q)⟩
def oNo : DO := fun _ Q _ => Q none
def oPt (f : DE) : DO := fun ρ Q Ed => f ρ (fun d => match d with
  | .int i => Q (some i)
  | _ => False) Ed
theorem odNo : OD X ad E Ed none oNo := ⟨weakO po_none fun σ H Q ⟨B, s, ρ, Qd, W, h, k⟩ => k _ H h W.refl⟩
theorem odPt (h : PD X ad E Ed e fa) : OD X ad E Ed (some e) (oPt fa) := ⟨weakO (po_some h.pe) fun σ H Q ⟨B, s, ρ, Qd, W, h, k⟩ => ⟨B, s, ρ, _, W, h, fun d v H1 hd f1 dv => by
    cases d with
    | int i => cases dv; exact ⟨i, rfl, k _ H1 hd f1⟩
    | _ => exact hd.elim⟩⟩
def cutD (xs : List D) (lo hi : Option Int) : List D := (xs.drop (HT.sIx xs.length 0 lo)).take (HT.sIx xs.length xs.length hi - HT.sIx xs.length 0 lo)
theorem DxA.cut {F : Addr → HO → Prop} {vs : List V} {ds : List D} (h : DxA ad F vs ds) (lo hi : Option Int) : DxA ad F (cutV vs lo hi) (cutD ds lo hi) := by
  unfold cutV cutD
  rw [h.length]
  exact (h.drop _).take _
theorem cut_whole {F : Addr → HO → Prop} {vs : List V} {ds : List D} {lo hi : Option Int} (h : DxA ad F vs ds) (hw : HT.sIx vs.length 0 lo = 0 ∧ HT.sIx vs.length vs.length hi = vs.length) : cutD ds lo hi = ds := by
  unfold cutD
  rw [h.length] at hw
  rw [hw.1, hw.2, List.drop_zero, Nat.sub_zero, List.take_length]
def eSl (fa : DE) (lo hi : DO) : DE := fun ρ Q Ed => fa ρ (fun x => lo ρ (fun l => hi ρ (fun u => match x with
  | .lst xs => Q (.lst (cutD xs l u))
  | .tup xs => Q (.tup (cutD xs l u))
  | _ => False) Ed) Ed) Ed
theorem pdSl {lo hi : Option Expr} {fl fh : DO} (ha : PD X ad E Ed a fa) (hl : OD X ad E Ed lo fl) (hh : OD X ad E Ed hi fh) : PD X ad E Ed (.Subscript a (.Slice lo hi none p2) pos) (eSl fa fl fh) :=
  ⟨weakE (pe_slice (SlR.or sl_list sl_tupA) ha.pe hl.po hh.po) fun σ H Q ⟨B, s, ρ, Qd, W, h, k⟩ => ⟨B, s, ρ, _, W, h, fun x v H1 hx f1 dx => ⟨B, s, ρ, _, W.frm f1, hx, fun l H2 hl f2 => ⟨B, s, ρ, _, (W.frm f1).frm f2, hl, fun u H3 hu f3 => by
    have w3 := (((W.frm f1).frm f2).frm f3).wd
    have ff := f1.trans (f2.trans f3)
    have dx := (W.frm f1).wd.dx (f2.trans f3) dx
    split at hu
    · cases dx with
      | lst ea ra => exact .inl ⟨_, _, rfl, .inl (.inl ea.2), fun p hp => k _ _ _ hu (ff.trans (w3.new hp)) (.lst ⟨w3.nb hp, upd_same⟩ ((ra.cut l u).mono (w3.fz (w3.new hp))))⟩
    · cases dx with
      | tup ea ra =>
        refine .inr ⟨_, _, rfl, .inl (.inl ea.2), fun hw => ?_, fun _ p hp => k _ _ _ hu (ff.trans (w3.new hp)) (.tup ⟨w3.nb hp, upd_same⟩ ((ra.cut l u).mono (w3.fz (w3.new hp))))⟩
        refine k _ _ _ hu ff ?_
        rw [cut_whole ra hw]
        exact .tup ea ra
    · exact hu.elim⟩⟩⟩⟩
/-! ### built-ins -/
/-- a call of a built-in with data: r by values, o by data -/
def CaD (ad : Str → Addr) (r : List V → Hp → VK → Prop) (o : List D → (D → Prop) → Prop) : Prop := ∀ (B : Addr → Prop) (s : SO) (H : Hp) (vs : List V) (ds : List D) (Qd : D → Prop) (Q : VK), Wd B s H → DxA ad (Fz B H) vs ds → o ds Qd →
  (∀ d v H', Qd d → Frm s H H' → Dx ad (Fz B H') v d → Q v H') → r vs H Q
def eB (o : List D → (D → Prop) → Prop) (g : DA) : DE := fun ρ Q Ed => g ρ (fun as => match dats as with
  | some ds => o ds Q
  | none => False) Ed
theorem eB_of {r : List V → Hp → VK → Prop} {o : List D → (D → Prop) → Prop} (hr : CaD ad r o) : ∀ σ H Q, teD ad E Ed (eB o ga) σ H Q → tCB r (taD ad E Ed n ga) σ H Q := fun σ H Q ⟨B, s, ρ, Qd, W, h, k⟩ => ⟨B, s, ρ, _, W, h, fun as vs H1 ha hl f1 da => by
    split at ha
    · rename_i ds e
      rw [dats_ok e] at da
      exact hr B s H1 vs ds Qd Q (W.frm f1).wd da.dat ha fun d v H' hd f dv => k d v H' hd (f1.trans f) dv
    · exact ha.elim⟩
theorem pdB {id : String} {r : List V → Hp → VK → Prop} {o : List D → (D → Prop) → Prop} (hc : CallR X (.builtin id) r) (hr : CaD ad r o) (hg : Gl X x) (hm : X.mg x = none) (hv : bootBuiltins x = some (.builtin id)) (ha : AD X ad E Ed (e :: es) n ga)
    (hn : x ≠ "__name__" := by decide) (hdb : (x == ("__debug__" : Str)) = false := by decide) (he : starEach (e :: es) X.env = (false, eval e X.env) :: starEach es X.env := by rfl) (hpl : (backTo pos (starEach es X.env)).any (·.1) = false := by rfl) :
    PD X ad E Ed (.Call (.Name x p) (e :: es) [] pos) (eB o ga) := ⟨weakE (pe_callB hc hg hm hv ha.pa hn hdb he hpl) (eB_of hr)⟩
theorem pdTy {T : String} {r : List V → Hp → VK → Prop} {o : List D → (D → Prop) → Prop} (hc : CallR X (.type T) r) (hr : CaD ad r o) (hg : Gl X x) (hm : X.mg x = none) (hv : bootBuiltins x = some (.type T)) (ha : AD X ad E Ed (e :: es) n ga)
    (hn : x ≠ "__name__" := by decide) (hdb : (x == ("__debug__" : Str)) = false := by decide) (he : starEach (e :: es) X.env = (false, eval e X.env) :: starEach es X.env := by rfl) (hpl : (backTo pos (starEach es X.env)).any (·.1) = false := by rfl) :
    PD X ad E Ed (.Call (.Name x p) (e :: es) [] pos) (eB o ga) := ⟨weakE (pe_callTy hc hg hm hv ha.pa hn hdb he hpl) (eB_of hr)⟩
def oLen : List D → (D → Prop) → Prop
  | [.lst xs], Q => Q (.int xs.length)
  | [.tup xs], Q => Q (.int xs.length)
  | [.dct xs], Q => Q (.int xs.length)
  | _, _ => False
theorem DxK.length {F : Addr → HO → Prop} : ∀ {xs : List (Key × V)} {ds : List (Key × D)}, DxK ad F xs ds → xs.length = ds.length
  | _, _, .nil => rfl
  | _, _, .cons _ r => congrArg Nat.succ (DxK.length r)
theorem pdLen (hg : Gl X "len") (hm : X.mg "len" = none) (ha : AD X ad E Ed [e] n ga) (he : starEach [e] X.env = (false, eval e X.env) :: starEach [] X.env := by rfl) (hpl : (backTo pos (starEach [] X.env)).any (·.1) = false := by rfl) : PD X ad E Ed (.Call (.Name "len" p) [e] [] pos) (eB oLen ga) :=
  pdB (CallR.or call_len_seq call_lenD) (fun B s H vs ds Qd Q w da h k => by
    unfold oLen at h
    split at h
    · cases da with
      | cons a r => cases r; cases a with
        | lst ea ra => exact .inl ⟨_, _, rfl, .inl (.inl (.inl ea.2)), k _ _ H h w.refl (by rw [ra.length]; exact .int _)⟩
    · cases da with
      | cons a r => cases r; cases a with
        | tup ea ra => exact .inl ⟨_, _, rfl, .inr (.inl (.inl ea.2)), k _ _ H h w.refl (by rw [ra.length]; exact .int _)⟩
    · cases da with
      | cons a r => cases r; cases a with
        | dct ea ra => exact .inr ⟨_, _, rfl, ea.2, k _ _ H h w.refl (by rw [ra.length]; exact .int _)⟩
    · exact h.elim) hg hm PySem.boot_len ha (by decide) (by decide) he hpl
def oList : List D → (D → Prop) → Prop
  | [.lst xs], Q => Q (.lst xs)
  | [.tup xs], Q => Q (.lst xs)
  | _, _ => False
theorem pdList (hg : Gl X "list") (hm : X.mg "list" = none) (ha : AD X ad E Ed [e] n ga) (he : starEach [e] X.env = (false, eval e X.env) :: starEach [] X.env := by rfl) (hpl : (backTo pos (starEach [] X.env)).any (·.1) = false := by rfl) : PD X ad E Ed (.Call (.Name "list" p) [e] [] pos) (eB oList ga) :=
  pdTy call_list_of (fun B s H vs ds Qd Q w da h k => by
    unfold oList at h
    split at h
    · cases da with
      | cons a r => cases r; cases a with
        | lst ea ra => exact ⟨_, _, rfl, .inl (.inl (.inl ea.2)), fun l hl => k _ _ _ h (w.new hl) (.lst ⟨w.nb hl, upd_same⟩ (ra.mono (w.fz (w.new hl))))⟩
    · cases da with
      | cons a r => cases r; cases a with
        | tup ea ra => exact ⟨_, _, rfl, .inr (.inl (.inl ea.2)), fun l hl => k _ _ _ h (w.new hl) (.lst ⟨w.nb hl, upd_same⟩ (ra.mono (w.fz (w.new hl))))⟩
    · exact h.elim) hg hm PyProof.Rows.boot_list ha (by decide) (by decide) he hpl
def oTuple : D → (D → Prop) → Prop
  | .lst xs, Q => Q (.tup xs)
  | .tup xs, Q => Q (.tup xs)
  | _, _ => False
theorem pdTuple (hg : Gl X "tuple") (hm : X.mg "tuple" = none) (ha : PD X ad E Ed a fa) (he : starEach [a] X.env = (false, eval a X.env) :: starEach [] X.env := by rfl) : PD X ad E Ed (.Call (.Name "tuple" p) [a] [] pos) (e1 oTuple fa) :=
  ⟨weakE (pe_tupleOf hg hm ha.pe he) fun σ H Q ⟨B, s, ρ, Qd, W, h, k⟩ => ⟨B, s, ρ, _, W, h, fun d v H1 hd f1 dv => by
    have w := (W.frm f1).wd
    unfold oTuple at hd
    split at hd
    · cases dv with
      | lst ea ra => exact .inl ⟨_, _, rfl, .inl (.inl ea.2), fun l hl => k _ _ _ hd (f1.trans (w.new hl)) (.tup ⟨w.nb hl, upd_same⟩ (ra.mono (w.fz (w.new hl))))⟩
    · cases dv with
      | tup ea ra => exact .inr ⟨_, _, rfl, .inl (.inl ea.2), k _ _ _ hd f1 (.tup ea ra)⟩
    · exact hd.elim⟩⟩
def oAbs : List D → (D → Prop) → Prop
  | [.int i], Q => Q (.int (if i < 0 then -i else i))
  | _, _ => False
theorem pdAbs (hg : Gl X "abs") (hm : X.mg "abs" = none) (ha : AD X ad E Ed [e] n ga) (he : starEach [e] X.env = (false, eval e X.env) :: starEach [] X.env := by rfl) (hpl : (backTo pos (starEach [] X.env)).any (·.1) = false := by rfl) : PD X ad E Ed (.Call (.Name "abs" p) [e] [] pos) (eB oAbs ga) :=
  pdB call_abs (fun B s H vs ds Qd Q w da h k => by
    unfold oAbs at h
    split at h
    · cases da with
      | cons a r => cases r; cases a; exact ⟨_, rfl, k _ _ H h w.refl (.int _)⟩
    · exact h.elim) hg hm PyProof.Rows.boot_abs ha (by decide) (by decide) he hpl
def oMin2 : List D → (D → Prop) → Prop
  | [.int i, .int j], Q => Q (.int (if j < i then j else i))
  | _, _ => False
theorem pdMin2 {e' : Expr} (hc : X.calm = true) (hg : Gl X "min") (hm : X.mg "min" = none) (ha : AD X ad E Ed [e, e'] n ga) (he : starEach [e, e'] X.env = (false, eval e X.env) :: starEach [e'] X.env := by rfl) (hpl : (backTo pos (starEach [e'] X.env)).any (·.1) = false := by rfl) : PD X ad E Ed (.Call (.Name "min" p) [e, e'] [] pos) (eB oMin2 ga) :=
  pdB (call_min2 hc) (fun B s H vs ds Qd Q w da h k => by
    unfold oMin2 at h
    split at h
    · cases da with
      | cons a r => cases r with
        | cons b r => cases r; cases a; cases b; exact ⟨_, _, rfl, k _ _ H h w.refl (.int _)⟩
    · exact h.elim) hg hm PyProof.Rows.boot_min ha (by decide) (by decide) he hpl
def oInt1 : List D → (D → Prop) → Prop
  | [.int i], Q => Q (.int i)
  | [.bl b], Q => Q (.int (if b then 1 else 0))
  | _, _ => False
theorem pdInt1 (hg : Gl X "int") (hm : X.mg "int" = none) (ha : AD X ad E Ed [e] n ga) (he : starEach [e] X.env = (false, eval e X.env) :: starEach [] X.env := by rfl) (hpl : (backTo pos (starEach [] X.env)).any (·.1) = false := by rfl) : PD X ad E Ed (.Call (.Name "int" p) [e] [] pos) (eB oInt1 ga) :=
  pdTy call_int1 (fun B s H vs ds Qd Q w da h k => by
    unfold oInt1 at h
    split at h
    · cases da with
      | cons a r => cases r; cases a; exact .inl ⟨_, rfl, k _ _ H h w.refl (.int _)⟩
    · cases da with
      | cons a r => cases r; cases a; exact .inr ⟨_, rfl, k _ _ H h w.refl (.int _)⟩
    · exact h.elim) hg hm PyProof.Rows.boot_int ha (by decide) (by decide) he hpl
/-- repr: of data that is short -/
def oRepr : List D → (D → Prop) → Prop
  | [d], Q => (match d with | .tup _ => True | .lst _ => True | .dct _ => True | _ => False) ∧ ∃ p, pyR d = some p ∧ Sr p ∧ Q (.str p.shown)
  | _, _ => False
theorem pdRepr (gd : X.A.guards = some []) (hu : X.A.units + 64 < cLine) (hg : Gl X "repr") (hm : X.mg "repr" = none) (ha : AD X ad E Ed [e] n ga) (he : starEach [e] X.env = (false, eval e X.env) :: starEach [] X.env := by rfl) (hpl : (backTo pos (starEach [] X.env)).any (·.1) = false := by rfl) : PD X ad E Ed (.Call (.Name "repr" p) [e] [] pos) (eB oRepr ga) :=
  pdB (call_repr gd hu) (fun B s H vs ds Qd Q w da h k => by
    unfold oRepr at h
    split at h
    · obtain ⟨hk, p, e, sr, h⟩ := h
      cases da with
      | cons a r =>
        cases r
        have dv := a.dv e
        cases a with
        | tup ea ra => exact ⟨_, p, rfl, dv, sr, k _ _ H h w.refl (.str _)⟩
        | lst ea ra => exact ⟨_, p, rfl, dv, sr, k _ _ H h w.refl (.str _)⟩
        | dct ea ra => exact ⟨_, p, rfl, dv, sr, k _ _ H h w.refl (.str _)⟩
        | _ => exact hk.elim
    · exact h.elim) hg hm PyProof.Rows.boot_repr ha (by decide) (by decide) he hpl
end
end DL

set_option Elab.async false
set_option linter.all false
set_option maxRecDepth 100000
set_option maxHeartbeats 2000000
namespace DL
open PySem PySem.Spec PyProof.Rows L2 BT
/-! ### statements -/
structure Ct where
  A : Addr → Prop
  s : SO
  Z : Addr → HO → Prop
def Bl (c : Ct) (P : Nat → Option Addr) : Addr → Prop := fun b => c.A b ∨ ∃ i, P i = some b
structure Rep (ad : Str → Addr) (c : Ct) (P : Nat → Option Addr) (H : Hp) (σ : L2.St) (ρ : List Sl) : Prop where
  wd : Wd (Bl c P) c.s H
  sa : ∀ l a, c.s = some (l, a) → c.A a ∧ c.A l ∧ ∀ o, ¬ c.Z a o
  z : ∀ b o, c.Z b o → H b = some o
  ow : ∀ i p, P i = some p → ¬ c.A p ∧ ∀ o, ¬ c.Z p o
  inj : ∀ i j p, P i = some p → P j = some p → i = j
  sl : ∀ (i : Nat) (sl : Sl), ρ[i]? = some sl → SlR ad (Bl c P) c.s H (σ[i]?) sl
  own : ∀ (i : Nat) (xs : List D), ρ[i]? = some (.own xs) → ∃ p, P i = some p ∧ σ[i]? = some (some (.ref p))
  ownD : ∀ (i : Nat) (xs : List (Key × D)), ρ[i]? = some (.ownD xs) → ∃ p, P i = some p ∧ σ[i]? = some (some (.ref p))
  len : σ.length = ρ.length
structure TieC (ad : Str → Addr) (E : L2.St → XK) (Ed : DXt) (c : Ct) : Prop where
  t : ∀ P σ ρ H cn d v x, Rep ad c P H σ ρ → Dx ad (Fz (Bl c P) H) v d → H x = none → Ed ρ cn d → E σ (.ref (ad cn)) (some x) (upd H x (.xd [("what", v)]))
structure DEnds where
  nx : List Sl → Prop
  ct : List Sl → Prop := fun _ => False
  bk : List Sl → Prop := fun _ => False
  rt : D → Prop
structure EnT (ad : Str → Addr) (c : Ct) (De : DEnds) (Dn : Ends) : Prop where
  nx : ∀ P σ ρ H, Rep ad c P H σ ρ → De.nx ρ → Dn.nx σ H
  ct : ∀ P σ ρ H, Rep ad c P H σ ρ → De.ct ρ → Dn.ct σ H
  bk : ∀ P σ ρ H, Rep ad c P H σ ρ → De.bk ρ → Dn.bk σ H
  rt : ∀ P σ ρ H d v, Rep ad c P H σ ρ → Dx ad (Fz (Bl c P) H) v d → De.rt d → Dn.rt v H
abbrev DS := DEnds → List Sl → DXt → Prop
def tsD (ad : Str → Addr) (E : L2.St → XK) (Ed : DXt) (g : DS) : TS := fun Dn σ H => ∃ c P ρ De, Rep ad c P H σ ρ ∧ TieC ad E Ed c ∧ EnT ad c De Dn ∧ g De ρ Ed
structure SD (X : Cx) (ad : Str → Addr) (E : L2.St → XK) (Ed : DXt) (st : Stmt) (g : DS) : Prop where
  ps : PS X st (tsD ad E Ed g)
structure BS (X : Cx) (ad : Str → Addr) (E : L2.St → XK) (Ed : DXt) (st : List Stmt) (g : DS) : Prop where
  ps : PSs X st (tsD ad E Ed g)
section
variable {ad : Str → Addr} {c : Ct} {P : Nat → Option Addr} {H H1 : Hp} {σ : L2.St} {ρ : List Sl} {E : L2.St → XK} {Ed : DXt}
theorem Rep.frm (r : Rep ad c P H σ ρ) (f : Frm c.s H H1) : Rep ad c P H1 σ ρ :=
  ⟨r.wd.frm f, r.sa, fun b o h => f.st b o (fun l a e q => (r.sa l a e).2.2 o (q ▸ h)) (r.z b o h), r.ow, r.inj, fun i sl e => (r.sl i sl e).frm r.wd f, r.own, r.ownD, r.len⟩
theorem Rep.wl (r : Rep ad c P H σ ρ) (t : TieC ad E Ed c) : Wl ad E Ed (Bl c P) c.s ρ σ H := ⟨⟨r.wd, r.sl, r.len⟩, fun cn d v x H' f dv hx he => t.t P σ ρ H' cn d v x (r.frm f) dv hx he⟩
theorem Rep.refl (r : Rep ad c P H σ ρ) : Frm c.s H H := r.wd.refl
theorem Rep.weak {c' : Ct} (hA : c'.A = c.A) (hs : c'.s = c.s) (hZ : ∀ b o, c'.Z b o → c.Z b o) (r : Rep ad c P H σ ρ) : Rep ad c' P H σ ρ := by
  obtain ⟨A, s, Z⟩ := c
  obtain ⟨A', s', Z'⟩ := c'
  cases hA; cases hs
  exact ⟨r.wd, fun l a e => ⟨(r.sa l a e).1, (r.sa l a e).2.1, fun o q => (r.sa l a e).2.2 o (hZ _ _ q)⟩, fun b o q => r.z b o (hZ _ _ q), fun i p e => ⟨(r.ow i p e).1, fun o q => (r.ow i p e).2 o (hZ _ _ q)⟩, r.inj, r.sl, r.own, r.ownD, r.len⟩
def rm (P : Nat → Option Addr) (i : Nat) : Nat → Option Addr := fun j => if j = i then none else P j
def st (P : Nat → Option Addr) (i : Nat) (p : Addr) : Nat → Option Addr := fun j => if j = i then some p else P j
theorem rm_some {i j : Nat} {p : Addr} (h : rm P i j = some p) : P j = some p ∧ j ≠ i := by
  unfold rm at h
  split at h
  · cases h
  · rename_i n; exact ⟨h, n⟩
theorem bl_rm (i : Nat) : ∀ b, Bl c (rm P i) b → Bl c P b := fun b h => h.imp id fun ⟨j, e⟩ => ⟨j, (rm_some e).1⟩
theorem fz_rm (i : Nat) : ∀ b o, Fz (Bl c P) H b o → Fz (Bl c (rm P i)) H b o := fun b o h => ⟨fun q => h.1 (bl_rm i b q), h.2⟩
theorem SlR.rm {i j : Nat} {o : Option (Option V)} (hji : j ≠ i) : ∀ {sl : Sl}, SlR ad (Bl c P) c.s H o sl → ((∃ xs, sl = .own xs) ∨ (∃ xs, sl = .ownD xs) → ∃ p, P j = some p ∧ o = some (some (.ref p))) → SlR ad (Bl c (rm P i)) c.s H o sl
  | .un, h, _ => h
  | .dat d, ⟨v, e, h⟩, _ => ⟨v, e, h.mono (fz_rm i)⟩
  | .own xs, ⟨p, vs, e, b, n, h, r⟩, k => by
    obtain ⟨q, e1, e2⟩ := k (.inl ⟨_, rfl⟩)
    rw [e] at e2
    have : p = q := by injection e2 with e2; injection e2 with e2; injection e2
    subst this
    exact ⟨p, vs, e, .inr ⟨j, by unfold DL.rm; rw [if_neg hji]; exact e1⟩, n, h, r.mono (fz_rm i)⟩
  | .ownD xs, ⟨p, vs, e, b, n, h, r⟩, k => by
    obtain ⟨q, e1, e2⟩ := k (.inr ⟨_, rfl⟩)
    rw [e] at e2
    have : p = q := by injection e2 with e2; injection e2 with e2; injection e2
    subst this
    exact ⟨p, vs, e, .inr ⟨j, by unfold DL.rm; rw [if_neg hji]; exact e1⟩, n, h, r.mono (fz_rm i)⟩
  | .src, h, _ => h
  | .exc a x d, ⟨v, e, h, r⟩, _ => ⟨v, e, h, r.mono (fz_rm i)⟩
theorem Rep.ownAt (r : Rep ad c P H σ ρ) {j : Nat} {sl : Sl} (e : ρ[j]? = some sl) : ((∃ xs, sl = .own xs) ∨ (∃ xs, sl = .ownD xs) → ∃ p, P j = some p ∧ σ[j]? = some (some (.ref p))) := fun h => by
  rcases h with ⟨xs, rfl⟩ | ⟨xs, rfl⟩
  · exact r.own j xs e
  · exact r.ownD j xs e
/-- a slot is given a value, what it owned is let go -/
theorem Rep.setS (r : Rep ad c P H σ ρ) {i : Nat} {v : Option V} {sl : Sl} (hs : ∀ xs, sl ≠ .own xs) (hd : ∀ xs, sl ≠ .ownD xs) (h : SlR ad (Bl c (rm P i)) c.s H (some v) sl) : Rep ad c (rm P i) H (σ.set i v) (ρ.set i sl) := by
  refine ⟨⟨fun b q => r.wd.al b (bl_rm i b q), fun l a e => ⟨(r.wd.sr l a e).1, .inl (r.sa l a e).1, .inl (r.sa l a e).2.1⟩⟩, r.sa, r.z, fun j p e => r.ow j p (rm_some e).1, fun j k p e1 e2 => r.inj j k p (rm_some e1).1 (rm_some e2).1, fun j sl' e => ?_, fun j xs e => ?_, fun j xs e => ?_, by rw [List.length_set, List.length_set, r.len]⟩
  · by_cases hj : j = i
    · subst hj
      by_cases hl : j < ρ.length
      · rw [List.getElem?_set_self hl] at e
        cases e
        rw [List.getElem?_set_self (by rw [r.len]; exact hl)]
        exact h
      · rw [List.getElem?_eq_none (by rw [List.length_set]; omega)] at e; cases e
    · rw [List.getElem?_set_ne (Ne.symm hj)] at e ⊢
      exact (r.sl j sl' e).rm hj (r.ownAt e)
  · by_cases hj : j = i
    · subst hj
      by_cases hl : j < ρ.length
      · rw [List.getElem?_set_self hl] at e
        exact absurd (Option.some.inj e) (hs xs)
      · rw [List.getElem?_eq_none (by rw [List.length_set]; omega)] at e; cases e
    · rw [List.getElem?_set_ne (Ne.symm hj)] at e ⊢
      obtain ⟨p, h1, h2⟩ := r.own j xs e
      exact ⟨p, by unfold rm; rw [if_neg hj]; exact h1, h2⟩
  · by_cases hj : j = i
    · subst hj
      by_cases hl : j < ρ.length
      · rw [List.getElem?_set_self hl] at e
        exact absurd (Option.some.inj e) (hd xs)
      · rw [List.getElem?_eq_none (by rw [List.length_set]; omega)] at e; cases e
    · rw [List.getElem?_set_ne (Ne.symm hj)] at e ⊢
      obtain ⟨p, h1, h2⟩ := r.ownD j xs e
      exact ⟨p, by unfold rm; rw [if_neg hj]; exact h1, h2⟩
theorem Rep.setD (r : Rep ad c P H σ ρ) {i : Nat} {v : V} {d : D} (h : Dx ad (Fz (Bl c P) H) v d) : Rep ad c (rm P i) H (σ.set i (some v)) (ρ.set i (.dat d)) :=
  r.setS (fun _ e => (nomatch e)) (fun _ e => (nomatch e)) ⟨v, rfl, h.mono (fz_rm i)⟩
/-- a list of its own is no longer written -/
theorem Rep.freeze (r : Rep ad c P H σ ρ) {i : Nat} {xs : List D} (e : ρ[i]? = some (.own xs)) : Rep ad c (rm P i) H σ (ρ.set i (.dat (.lst xs))) := by
  obtain ⟨p, e1, e2⟩ := r.own i xs e
  obtain ⟨q, vs, e3, b, n, h, da⟩ := r.sl i _ e
  rw [e2] at e3
  have : p = q := by injection e3 with e3; injection e3 with e3; injection e3
  subst this
  have np : ¬ Bl c (rm P i) p := fun q => by
    rcases q with q | ⟨j, q⟩
    · exact (r.ow i p e1).1 q
    · exact (rm_some q).2 (r.inj j i p (rm_some q).1 e1)
  have key := r.setS (i := i) (v := some (.ref p)) (sl := .dat (.lst xs)) (fun _ e => (nomatch e)) (fun _ e => (nomatch e)) ⟨_, rfl, .lst ⟨np, h⟩ (da.mono (fz_rm i))⟩
  have hl : i < σ.length := (List.getElem?_eq_some_iff.mp e2).1
  have e4 : σ.set i (some (.ref p)) = σ := by
    refine List.ext_getElem? fun j => ?_
    by_cases hj : j = i
    · subst hj; rw [List.getElem?_set_self hl, e2]
    · rw [List.getElem?_set_ne (Ne.symm hj)]
  rw [e4] at key
  exact key
end
section
variable {X : Cx} {ad : Str → Addr} {E : L2.St → XK} {Ed : DXt} {a b e : Expr} {fa fb : DE} {pos pos' : Pos} {s1 : Stmt} {ss sa sb : List Stmt} {g ga gb : DS} {tc : DT}
theorem tie_e (c : Ct) (P : Nat → Option Addr) (ρ : List Sl) (De : DEnds) (Dn : Ends) {σ : L2.St} {H : Hp} {Qd : D → Prop} (r : Rep ad c P H σ ρ) (t : TieC ad E Ed c) (h : fa ρ Qd Ed) {Q : VK} (k : ∀ d v H1, Qd d → Rep ad c P H1 σ ρ → Frm c.s H H1 → Dx ad (Fz (Bl c P) H1) v d → Q v H1) : teD ad E Ed fa σ H Q :=
  ⟨Bl c P, c.s, ρ, Qd, r.wl t, h, fun d v H1 hd f dv => k d v H1 hd (r.frm f) f dv⟩
theorem tie_t {c : Ct} {P : Nat → Option Addr} {ρ : List Sl} {σ : L2.St} {H : Hp} {Qd : Bool → Prop} (r : Rep ad c P H σ ρ) (t : TieC ad E Ed c) (h : tc ρ Qd Ed) {Q : Bool → Hp → Prop} (k : ∀ b H1, Qd b → Rep ad c P H1 σ ρ → Q b H1) : ttD ad E Ed tc σ H Q :=
  ⟨Bl c P, c.s, ρ, Qd, r.wl t, h, fun b H1 hd f => k b H1 hd (r.frm f)⟩
def sNil : DS := fun De ρ _ => De.nx ρ
def sSeq (g h : DS) : DS := fun De ρ Ed => g { De with nx := fun ρ' => h De ρ' Ed } ρ Ed
theorem bsNil : BS X ad E Ed [] sNil := ⟨weakSs pss_nil fun Dn σ H ⟨c, P, ρ, De, r, t, en, h⟩ => en.nx P σ ρ H r h⟩
theorem bsOne (h : SD X ad E Ed s1 g) : BS X ad E Ed [s1] g := ⟨pss_one h.ps⟩
theorem bsCons (h : SD X ad E Ed s1 g) (h2 : BS X ad E Ed ss gb) : BS X ad E Ed (s1 :: ss) (sSeq g gb) :=
  ⟨weakSs (pss_cons h.ps h2.ps) fun Dn σ H ⟨c, P, ρ, De, r, t, en, h⟩ => ⟨c, P, ρ, { De with nx := fun ρ' => gb De ρ' Ed }, r, t, ⟨fun P' σ' ρ' H' r' q => ⟨c, P', ρ', De, r', t, en, q⟩, en.ct, en.bk, en.rt⟩, h⟩⟩
def sExp (f : DE) : DS := fun De ρ Ed => f ρ (fun _ => De.nx ρ) Ed
theorem sdExp (h : PD X ad E Ed e fa) (hs : swapsWith e none pos.line X.env = pure false := by rfl) : SD X ad E Ed (.Expr e pos) (sExp fa) :=
  ⟨weakS (ps_expr h.pe hs) fun Dn σ H ⟨c, P, ρ, De, r, t, en, h⟩ => tie_e c P ρ De Dn r t h fun d v H1 hd r1 _ _ => en.nx P σ ρ H1 r1 hd⟩
theorem sdDoc {x : Str} {j : Nat} : SD X ad E Ed (.Expr (.Constant (.str x) j pos) pos') sNil := ⟨weakS ps_doc fun Dn σ H ⟨c, P, ρ, De, r, t, en, h⟩ => en.nx P σ ρ H r h⟩
def sRet (f : DE) : DS := fun De ρ Ed => f ρ De.rt Ed
theorem sdRet (h : PD X ad E Ed e fa) : SD X ad E Ed (.Return (some e) pos) (sRet fa) :=
  ⟨weakS (ps_ret h.pe) fun Dn σ H ⟨c, P, ρ, De, r, t, en, h⟩ => tie_e c P ρ De Dn r t h fun d v H1 hd r1 _ dv => en.rt P σ ρ H1 d v r1 dv hd⟩
def sIf (t : DT) (g h : DS) : DS := fun De ρ Ed => t ρ (fun c => if c = true then g De ρ Ed else h De ρ Ed) Ed
theorem sdIf (hc : TD X ad E Ed e tc) (ha : BS X ad E Ed sa ga) (hb : BS X ad E Ed sb gb) : SD X ad E Ed (.If e sa sb pos) (sIf tc ga gb) :=
  ⟨weakS (ps_if hc.pt ha.ps hb.ps) fun Dn σ H ⟨c, P, ρ, De, r, t, en, h⟩ => tie_t r t h fun b H1 hb r1 => by
    cases b with
    | true => exact ⟨c, P, ρ, De, r1, t, en, hb⟩
    | false => exact ⟨c, P, ρ, De, r1, t, en, hb⟩⟩
def sPass : DS := fun De ρ _ => De.nx ρ
def sCont : DS := fun De ρ _ => De.ct ρ
def sBrk : DS := fun De ρ _ => De.bk ρ
theorem sdCont : SD X ad E Ed (.Continue pos) sCont := ⟨weakS ps_continue fun Dn σ H ⟨c, P, ρ, De, r, t, en, h⟩ => en.ct P σ ρ H r h⟩
theorem sdBrk : SD X ad E Ed (.Break pos) sBrk := ⟨weakS ps_break fun Dn σ H ⟨c, P, ρ, De, r, t, en, h⟩ => en.bk P σ ρ H r h⟩
theorem sdPass : SD X ad E Ed (.Pass pos) sPass := ⟨weakS ps_pass fun Dn σ H ⟨c, P, ρ, De, r, t, en, h⟩ => en.nx P σ ρ H r h⟩
/-- name = value -/
def sSet (i : Nat) (f : DE) : DS := fun De ρ Ed => f ρ (fun d => De.nx (ρ.set i (.dat d))) Ed
theorem sdSet {i : Nat} {x : Str} (ps : ∀ {te : TE}, PE X e te → PS X (.Assign [.Name x pos'] e pos) (tAsg te (gName i))) (h : PD X ad E Ed e fa) : SD X ad E Ed (.Assign [.Name x pos'] e pos) (sSet i fa) :=
  ⟨weakS (ps h.pe) fun Dn σ H ⟨c, P, ρ, De, r, t, en, h⟩ => tie_e c P ρ De Dn r t h fun d v H1 hd r1 _ dv => en.nx _ _ _ H1 (r1.setD dv) hd⟩
/-- name op= value -/
def IpD (ad : Str → Addr) (ti : TIp) (o : D → D → (D → Prop) → Prop) : Prop := ∀ (B : Addr → Prop) (s : SO) (H : Hp) (x y : V) (dx dy : D) (Qd : D → Prop) (Q : VK), Wd B s H → Dx ad (Fz B H) x dx → Dx ad (Fz B H) y dy → o dx dy Qd →
  (∀ d v H', Qd d → Frm s H H' → Dx ad (Fz B H') v d → Q v H') → ti x y H Q
def sAug (i : Nat) (o : D → D → (D → Prop) → Prop) (f : DE) : DS := fun De ρ Ed => match ρ[i]? with
  | some (.dat x) => f ρ (fun y => o x y fun d => De.nx (ρ.set i (.dat d))) Ed
  | _ => False
theorem sdAug {i : Nat} {x : Str} {op : Operator} {ti : TIp} {o : D → D → (D → Prop) → Prop} (ps : ∀ {te : TE}, PE X e te → PS X (.AugAssign (.Name x pos') op e pos) (tAug i te ti)) (ho : OpD ad ti o) (h : PD X ad E Ed e fa) : SD X ad E Ed (.AugAssign (.Name x pos') op e pos) (sAug i o fa) :=
  ⟨weakS (ps h.pe) fun Dn σ H ⟨c, P, ρ, De, r, t, en, h⟩ => by
    unfold sAug at h
    split at h
    · rename_i d e
      obtain ⟨v, ev, dv⟩ := r.sl i _ e
      exact ⟨v, ev, tie_e c P ρ De Dn r t h fun d2 v2 H1 hd r1 f1 dv2 => ho (Bl c P) c.s H1 v v2 d d2 _ _ r1.wd (r.wd.dx f1 dv) dv2 hd fun d3 v3 H2 hd3 f2 dv3 => en.nx _ _ _ H2 ((r1.frm f2).setD dv3) hd3⟩
    · exact h.elim⟩
/-- a list that was written is read from now on -/
def sFrz (i : Nat) (g : DS) : DS := fun De ρ Ed => match ρ[i]? with
  | some (.own xs) => g De (ρ.set i (.dat (.lst xs))) Ed
  | _ => g De ρ Ed
theorem sdFrz (i : Nat) (h : SD X ad E Ed s1 g) : SD X ad E Ed s1 (sFrz i g) := ⟨weakS h.ps fun Dn σ H ⟨c, P, ρ, De, r, t, en, h⟩ => by
    unfold sFrz at h
    split at h
    · rename_i xs e
      exact ⟨c, _, _, De, r.freeze e, t, en, h⟩
    · exact ⟨c, P, ρ, De, r, t, en, h⟩⟩
/-! ### raise -/
def sRaise (cn : Str) (f : DE) : DS := fun _ ρ Ed => f ρ (fun d => Ed ρ cn d) Ed
theorem mono_teD (f : DE) : MonoE (teD ad E Ed f) := fun σ H Q Q' hq ⟨B, s, ρ, Qd, W, h, k⟩ => ⟨B, s, ρ, Qd, W, h, fun d v H' hd f dv => hq _ _ (k d v H' hd f dv)⟩
theorem sdRaise {k : Nat} {x : Str} {p p2 : Pos} (D : ErrC X.prog X.w X.K X.mg X.base x (ad x)) (hr : Room k X.A) (hc : X.calm = true) (tk : Takes X (fun cls d σ H => E σ cls d H)) (hg : Gl X x) (he : PD X ad E Ed e fa) (hk : 2 ≤ k := by decide)
    (hdb : (x == ("__debug__" : Str)) = false := by decide) (hs : starEach [e] X.env = (false, eval e X.env) :: starEach [] X.env := by rfl) (hpl : (backTo pos (starEach [] X.env)).any (·.1) = false := by rfl) :
    SD X ad E Ed (.Raise (some (.Call (.Name x p) [e] [] pos)) none p2) (sRaise x fa) :=
  ⟨weakS (ps_err D hr hc tk hg he.pe (mono_teD fa) hk hdb hs hpl) fun Dn σ H ⟨c, P, ρ, De, r, t, en, h⟩ => tie_e c P ρ De Dn r t h fun d v H1 hd r1 _ dv x hx => t.t P σ ρ H1 _ d v x r1 dv hx hd⟩
end
end DL

set_option Elab.async false
set_option linter.all false
set_option maxRecDepth 100000
set_option maxHeartbeats 2000000
namespace DL
open PySem PySem.Spec PyProof.Rows L2 BT
/-! ### walks -/
/-- J walks the data xs, which stand in H1 -/
def ItOk (ad : Str → Addr) (B : Addr → Prop) (H1 : Hp) (J : It) (xs : List D) : Prop := ∀ (i : Nat) (H' : Hp) (B' : Addr → Prop) (s : SO), Wd B' s H' → (∀ b o, Fz B H1 b o → Fz B' H' b o) →
  (i = xs.length → J.stop i H') ∧ ∀ x, xs[i]? = some x → J.go i H' ∧ ∀ v H'', J.yld i H' v H'' → Same H' H'' ∧ Dx ad (Fz B' H'') v x
abbrev DI := List Sl → (List D → Prop) → DXt → Prop
def tiD (ad : Str → Addr) (E : L2.St → XK) (Ed : DXt) (f : DI) : TI := fun σ H R => ∃ B s ρ Qd, Wl ad E Ed B s ρ σ H ∧ f ρ Qd Ed ∧ ∀ xs H1 J, Qd xs → Frm s H H1 → ItOk ad B H1 J xs → R J H1
structure ID (X : Cx) (ad : Str → Addr) (E : L2.St → XK) (Ed : DXt) (tg iter : Expr) (f : DI) : Prop where
  pi : PI X tg iter (tiD ad E Ed f)
theorem weakI {X : Cx} {tg e : Expr} {t t' : TI} (h : PI X tg e t) (k : ∀ σ H Q, t' σ H Q → t σ H Q) : PI X tg e t' := ⟨fun pins s σ H Q I q => h.run pins s σ H Q I (k σ H Q q)⟩
section
variable {X : Cx} {ad : Str → Addr} {E : L2.St → XK} {Ed : DXt} {tg a e e' : Expr} {fa : DE} {p pos : Pos} {n : Nat} {ga : DA}
def seqD : D → Option (List D)
  | .lst xs => some xs
  | .tup xs => some xs
  | _ => none
def iSq (f : DE) : DI := fun ρ Q Ed => f ρ (fun d => match seqD d with
  | some xs => Q xs
  | none => False) Ed
theorem itl_ok {K : PySem.W.Frag} {B : Addr → Prop} {H : Hp} {p : Addr} {vs : List V} {xs : List D} (h : Fz B H p (.lst vs)) (da : DxA ad (Fz B H) vs xs) : ItOk ad B H (Itl K p) xs := fun i H' B' s w k =>
  ⟨fun hi => ⟨vs, .inl (.inl (k _ _ h).2), by rw [da.length, hi]; exact Nat.le_refl _⟩, fun x hx => by
    obtain ⟨v, hv, dv⟩ := da.getD hx
    exact ⟨⟨vs, v, .inl (.inl (k _ _ h).2), hv⟩, fun u H'' ⟨e, q⟩ => by
      subst e
      have z := q vs (.inl (.inl (k _ _ h).2))
      rw [hv] at z
      cases Option.some.inj z
      exact ⟨Same.refl _, dv.mono k⟩⟩⟩
theorem itt_ok {K : PySem.W.Frag} {B : Addr → Prop} {H : Hp} {p : Addr} {vs : List V} {xs : List D} (h : Fz B H p (.tup vs)) (da : DxA ad (Fz B H) vs xs) : ItOk ad B H (Itt K p) xs := fun i H' B' s w k =>
  ⟨fun hi => ⟨vs, .inl (.inl (k _ _ h).2), by rw [da.length, hi]; exact Nat.le_refl _⟩, fun x hx => by
    obtain ⟨v, hv, dv⟩ := da.getD hx
    exact ⟨⟨vs, v, .inl (.inl (k _ _ h).2), hv⟩, fun u H'' ⟨e, q⟩ => by
      subst e
      have z := q vs (.inl (.inl (k _ _ h).2))
      rw [hv] at z
      cases Option.some.inj z
      exact ⟨Same.refl _, dv.mono k⟩⟩⟩
theorem idSq (h : PD X ad E Ed e fa) : ID X ad E Ed tg e (iSq fa) := ⟨weakI (pi_seq h.pe) fun σ H R ⟨B, s, ρ, Qd, W, h, k⟩ => ⟨B, s, ρ, _, W, h, fun d v H1 hd f1 dv => by
    cases dv with
    | lst ea ra => exact ⟨_, _, rfl, .inl ⟨.inl (.inl ea.2), k _ H1 _ hd f1 (itl_ok ea ra)⟩⟩
    | tup ea ra => exact ⟨_, _, rfl, .inr ⟨.inl (.inl ea.2), k _ H1 _ hd f1 (itt_ok ea ra)⟩⟩
    | _ => exact hd.elim⟩⟩
/-- whole numbers lo, lo + 1, .., n of them -/
def rgD (lo : Int) (n : Nat) : List D := (List.range n).map fun i : Nat => .int (lo + (i : Int))
theorem rgD_len (lo : Int) (n : Nat) : (rgD lo n).length = n := by unfold rgD; rw [List.length_map, List.length_range]
theorem rgD_get {lo : Int} {n i : Nat} {x : D} (h : (rgD lo n)[i]? = some x) : i < n ∧ x = .int (lo + (i : Int)) := by
  unfold rgD at h
  rw [List.getElem?_map] at h
  have hl : i < n := by
    cases q : (List.range n)[i]? with
    | none => rw [q] at h; cases h
    | some z =>
      have := (List.getElem?_eq_some_iff.mp q).1
      rw [List.length_range] at this; exact this
  rw [List.getElem?_range hl] at h
  exact ⟨hl, (Option.some.inj h).symm⟩
theorem itr_ok {B : Addr → Prop} {H : Hp} {lo : Int} {m : Nat} : ItOk ad B H (Itr lo m) (rgD lo m) := fun i H' B' s w k =>
  ⟨fun hi => by rw [rgD_len] at hi; exact Nat.le_of_eq hi.symm, fun x hx => by
    obtain ⟨h1, rfl⟩ := rgD_get hx
    exact ⟨h1, fun v H'' ⟨e1, e2⟩ => by subst e1 e2; exact ⟨Same.refl _, .int _⟩⟩⟩
def iRg1 (g : DA) : DI := fun ρ Q Ed => g ρ (fun as => match as with
  | [.dat (.int j)] => -(2 ^ 62) ≤ j ∧ j < 2 ^ 62 ∧ Q (rgD 0 j.toNat)
  | _ => False) Ed
theorem idRg1 (hg : Gl X "range") (hm : X.mg "range" = none) (ha : AD X ad E Ed [e] n ga) (hs : starEach [e] X.env = [(false, eval e X.env)] := by rfl) : ID X ad E Ed tg (.Call (.Name "range" p) [e] [] pos) (iRg1 ga) :=
  ⟨weakI (pi_range1 hg hm ha.pa hs) fun σ H R ⟨B, s, ρ, Qd, W, h, k⟩ => ⟨B, s, ρ, _, W, h, fun as vs H1 hd hl f1 da => by
    split at hd
    · rename_i j
      obtain ⟨h1, h2, hd⟩ := hd
      cases da with
      | cons a r =>
        cases r
        cases a
        exact ⟨j, rfl, h1, h2, k _ H1 _ hd f1 itr_ok⟩
    · exact hd.elim⟩⟩
def iRg2 (g : DA) : DI := fun ρ Q Ed => g ρ (fun as => match as with
  | [.dat (.int i), .dat (.int j)] => -(2 ^ 62) ≤ i ∧ i < 2 ^ 62 ∧ -(2 ^ 62) ≤ j ∧ j < 2 ^ 62 ∧ Q (rgD i (j - i).toNat)
  | _ => False) Ed
theorem idRg2 (hg : Gl X "range") (hm : X.mg "range" = none) (ha : AD X ad E Ed [e, e'] n ga) (hs : starEach [e, e'] X.env = [(false, eval e X.env), (false, eval e' X.env)] := by rfl) (hs2 : starEach [e'] X.env = [(false, eval e' X.env)] := by rfl) : ID X ad E Ed tg (.Call (.Name "range" p) [e, e'] [] pos) (iRg2 ga) :=
  ⟨weakI (pi_range2 hg hm ha.pa hs hs2) fun σ H R ⟨B, s, ρ, Qd, W, h, k⟩ => ⟨B, s, ρ, _, W, h, fun as vs H1 hd hl f1 da => by
    split at hd
    · rename_i i j
      obtain ⟨h1, h2, h3, h4, hd⟩ := hd
      cases da with
      | cons a r =>
        cases r with
        | cons b r =>
          cases r
          cases a
          cases b
          exact ⟨i, j, rfl, ⟨h1, h2, h3, h4⟩, k _ H1 _ hd f1 itr_ok⟩
    · exact hd.elim⟩⟩
end
/-! ### targets, loops -/
abbrev DG := D → List Sl → (List Sl → Prop) → Prop
def tgD (ad : Str → Addr) (g : DG) : TG := fun v σ H Q => ∃ c P ρ d Qd, Rep ad c P H σ ρ ∧ Dx ad (Fz (Bl c P) H) v d ∧ g d ρ Qd ∧ ∀ P' σ' ρ', Rep ad c P' H σ' ρ' → Qd ρ' → Q σ' H
structure GD (X : Cx) (ad : Str → Addr) (tg : Expr) (g : DG) : Prop where
  pg : PG X tg (tgD ad g)
theorem weakG {X : Cx} {tg : Expr} {t t' : TG} (h : PG X tg t) (k : ∀ v σ H Q, t' v σ H Q → t v σ H Q) : PG X tg t' := ⟨fun pins s σ H v u Q I r q => h.run pins s σ H v u Q I r (k v σ H Q q)⟩
def gN (i : Nat) : DG := fun d ρ Q => Q (ρ.set i (.dat d))
/-- two names -/
def gN2 (i j : Nat) : DG := fun d ρ Q => match d with
  | .tup [x, y] => Q ((ρ.set i (.dat x)).set j (.dat y))
  | _ => False
section
variable {X : Cx} {ad : Str → Addr} {E : L2.St → XK} {Ed : DXt} {tg e : Expr} {pos : Pos} {g : DG} {gb : DS} {ss : List Stmt} {fi : DI} {fa : DE}
theorem gdN {i : Nat} {x : Str} (h : PG X (.Name x pos) (gName i)) : GD X ad (.Name x pos) (gN i) := ⟨weakG h fun v σ H Q ⟨c, P, ρ, d, Qd, r, dv, h, k⟩ => k _ _ _ (r.setD dv) h⟩
theorem gdN2 {i j : Nat} {tgt : Expr} {K : PySem.W.Frag} (h : PG X tgt (gTup K 2 (gCons (gName i) (gCons (gName j) gNil)))) : GD X ad tgt (gN2 i j) := ⟨weakG h fun v σ H Q ⟨c, P, ρ, d, Qd, r, dv, h, k⟩ => by
    unfold gN2 at h
    split at h
    · rename_i x y
      cases dv with
      | tup ea ra =>
        cases ra with
        | cons a ra => cases ra with
          | cons b ra =>
            cases ra
            exact ⟨_, _, rfl, .inl (.inl ea.2), rfl, _, _, rfl, _, _, rfl, rfl, k _ _ _ ((r.setD a).setD (b.mono (fz_rm _))) h⟩
    · exact h.elim⟩
/-- the loop's start, its data fixed -/
def ctAt (c : Ct) (P : Nat → Option Addr) (H : Hp) : Ct := ⟨c.A, c.s, fun b o => (∀ l a, c.s = some (l, a) → b ≠ a) ∧ (∀ i, P i ≠ some b) ∧ H b = some o⟩
theorem Rep.at_ {c : Ct} {P : Nat → Option Addr} {H : Hp} {σ : L2.St} {ρ : List Sl} (r : Rep ad c P H σ ρ) : Rep ad (ctAt c P H) P H σ ρ :=
  ⟨r.wd, fun l a e => ⟨(r.sa l a e).1, (r.sa l a e).2.1, fun o q => q.1 l a e rfl⟩, fun b o q => q.2.2, fun i p e => ⟨(r.ow i p e).1, fun o q => q.2.1 i e⟩, r.inj, r.sl, r.own, r.ownD, r.len⟩
theorem Rep.of_at {c : Ct} {P P' : Nat → Option Addr} {H H' : Hp} {σ σ' : L2.St} {ρ ρ' : List Sl} (r : Rep ad c P H σ ρ) (r' : Rep ad (ctAt c P H) P' H' σ' ρ') : Rep ad c P' H' σ' ρ' :=
  Rep.weak (c' := c) (c := ctAt c P H) rfl rfl (hZ := fun b o q => ⟨fun l a e z => (r.sa l a e).2.2 o (z ▸ q), fun i e => (r.ow i b e).2 o q, r.z b o q⟩) r'
theorem fz_at {c : Ct} {P P' : Nat → Option Addr} {H H' : Hp} {σ σ' : L2.St} {ρ ρ' : List Sl} (r : Rep ad c P H σ ρ) (r' : Rep ad (ctAt c P H) P' H' σ' ρ') : ∀ b o, Fz (Bl c P) H b o → Fz (Bl (ctAt c P H) P') H' b o := fun b o h => by
  have z : (ctAt c P H).Z b o := ⟨fun l a e q => h.1 (.inl (q ▸ (r.sa l a e).1)), fun i e => h.1 (.inr ⟨i, e⟩), h.2⟩
  refine ⟨fun q => ?_, r'.z b o z⟩
  rcases q with q | ⟨i, q⟩
  · exact h.1 (.inl q)
  · exact (r'.ow i b q).2 o z
def sFor (fi : DI) (g : DG) (gb : DS) : DS := fun De ρ Ed => fi ρ (fun xs => ∃ Iv : Nat → List Sl → Prop, Iv 0 ρ ∧
  (∀ i x ρ', xs[i]? = some x → Iv i ρ' → g x ρ' fun ρ2 => gb { nx := Iv (i + 1), ct := Iv (i + 1), bk := De.nx, rt := De.rt } ρ2 Ed) ∧ ∀ ρ', Iv xs.length ρ' → De.nx ρ') Ed
theorem sdFor (hp : PassesOwn (model X.prog X.w) X.A X.env X.xe) (hc : X.calm = true) (hi : ID X ad E Ed tg e fi) (hg : GD X ad tg g) (hb : BS X ad E Ed ss gb) (hs : ∀ x, foldedSetIterable e X.env x = pure x := by intro _; rfl) : SD X ad E Ed (.For tg e ss [] pos) (sFor fi g gb) :=
  ⟨weakS (ps_for hp hc hi.pi hg.pg hb.ps hs) fun Dn σ H ⟨c, P, ρ, De, r, t, en, h⟩ => ⟨Bl c P, c.s, ρ, _, r.wl t, h, fun xs H1 J hx f1 io => by
    obtain ⟨Iv, h0, hs, hd⟩ := hx
    have r1 := r.frm f1
    have ft : ∀ {P' : Nat → Option Addr} {H' : Hp} {σ' : L2.St} {ρ' : List Sl}, Rep ad (ctAt c P H1) P' H' σ' ρ' → Rep ad c P' H' σ' ρ' := fun r' => r1.of_at r'
    refine ⟨fun i m σ' H' => m = xs.length - i ∧ i ≤ xs.length ∧ ∃ P' ρ', Rep ad (ctAt c P H1) P' H' σ' ρ' ∧ Iv i ρ', ⟨xs.length, by simp, Nat.zero_le _, P, ρ, r1.at_, h0⟩, ?_⟩
    rintro i m σ' H' ⟨rfl, hi, P', ρ', r', iv⟩
    have io := io i H' _ c.s r'.wd (fz_at r1 r')
    by_cases hlt : i < xs.length
    · obtain ⟨go, yl⟩ := io.2 xs[i] (List.getElem?_eq_getElem hlt)
      refine .inr ⟨go, fun σ2 H2 => ∃ P2 ρ2, Rep ad (ctAt c P H1) P2 H2 σ2 ρ2 ∧ Iv (i + 1) ρ2, fun σ2 H2 ⟨P2, ρ2, r2, iv2⟩ => ⟨_, by omega, rfl, hlt, P2, ρ2, r2, iv2⟩, fun v H2 y => ?_⟩
      obtain ⟨sm, dv⟩ := yl v H2 y
      have r2 := r'.frm (r'.wd.same sm)
      refine ⟨_, P', ρ', xs[i], _, r2, dv, hs i xs[i] ρ' (List.getElem?_eq_getElem hlt) iv, fun P3 σ3 ρ3 r3 q => ?_⟩
      refine ⟨_, P3, ρ3, { nx := Iv (i + 1), ct := Iv (i + 1), bk := De.nx, rt := De.rt }, r3, ⟨fun P σ ρ H cn d v x r => t.t P σ ρ H cn d v x (ft r)⟩, ⟨fun P4 σ4 ρ4 H4 r4 q4 => ⟨P4, ρ4, r4, q4⟩, fun P4 σ4 ρ4 H4 r4 q4 => ⟨P4, ρ4, r4, q4⟩, fun P4 σ4 ρ4 H4 r4 q4 => en.nx _ _ _ _ (ft r4) q4, fun P4 σ4 ρ4 H4 d v r4 dv q4 => en.rt _ _ _ _ _ _ (ft r4) dv q4⟩, q⟩
    · have e : i = xs.length := by omega
      subst e
      exact .inl ⟨io.1 rfl, en.nx _ _ _ _ (ft r') (hd ρ' iv)⟩⟩⟩
/-- a, b = value, and other targets -/
def sAsg (f : DE) (g : DG) : DS := fun De ρ Ed => f ρ (fun d => g d ρ De.nx) Ed
theorem sdAsg (he : PD X ad E Ed e fa) (hg : GD X ad tg g) (hs : swapsWithSole [tg] e pos.line X.env = pure false := by rfl) (hw : swappedStores [tg] e X.env = pure none := by rfl)
    (h1 : (assignEach [tg] X.env).map (·.2) = [assign tg X.env] := by rfl) : SD X ad E Ed (.Assign [tg] e pos) (sAsg fa g) :=
  ⟨weakS (ps_asg he.pe hg.pg hs hw h1) fun Dn σ H ⟨c, P, ρ, De, r, t, en, h⟩ => tie_e c P ρ De Dn r t h fun d v H1 hd r1 _ dv => ⟨c, P, ρ, d, _, r1, dv, hd, fun P' σ' ρ' r' q => en.nx _ _ _ _ r' q⟩⟩
end
/-- behind branches: what stands is put in one -/
theorem sJoin {g h : DS} {De : DEnds} {ρ : List Sl} {Ed : DXt} (J : List Sl → Prop) (h2 : ∀ ρ', J ρ' → h De ρ' Ed) (h1 : ∀ D' : DEnds, (∀ ρ', J ρ' → D'.nx ρ') → D'.ct = De.ct → D'.bk = De.bk → D'.rt = De.rt → g D' ρ Ed) : sSeq g h De ρ Ed := h1 _ h2 rfl rfl rfl
/-! ### comprehensions -/
def wipeD (ρ : List Sl) : List Nat → List Sl
  | [] => ρ
  | v :: vs => (wipeD ρ vs).set v .un
theorem wipe_get {σ : L2.St} {i : Nat} : ∀ {vs : List Nat}, i ∉ vs → (wipe σ vs)[i]? = σ[i]?
  | [], _ => rfl
  | v :: vs, h => by
    unfold wipe
    rw [List.getElem?_set_ne (fun e => h (by rw [e]; exact List.mem_cons_self)), wipe_get fun m => h (List.mem_cons_of_mem _ m)]
theorem wipeD_get {ρ : List Sl} {i : Nat} {sl : Sl} : ∀ {vs : List Nat}, (wipeD ρ vs)[i]? = some sl → sl = .un ∨ (i ∉ vs ∧ ρ[i]? = some sl)
  | [], h => .inr ⟨by simp, h⟩
  | v :: vs, h => by
    unfold wipeD at h
    by_cases e : i = v
    · subst e
      by_cases hl : i < (wipeD ρ vs).length
      · rw [List.getElem?_set_self hl] at h; exact .inl (Option.some.inj h).symm
      · rw [List.getElem?_eq_none (by rw [List.length_set]; omega)] at h; cases h
    · rw [List.getElem?_set_ne (Ne.symm e)] at h
      rcases wipeD_get h with h | ⟨h1, h2⟩
      · exact .inl h
      · exact .inr ⟨fun m => (List.mem_cons.mp m).elim e h1, h2⟩
theorem wipe_set {σ : L2.St} {v : Option V} {i : Nat} (vs : List Nat) (h : i ∈ vs) : wipe ((wipe σ vs).set i v) vs = wipe σ vs := by
  have nn : ∀ {vs : List Nat} {τ : L2.St} {j : Nat}, j ∈ vs → j < τ.length → (wipe τ vs)[j]? = some none := by
    intro vs
    induction vs with
    | nil => intro τ j hj; cases hj
    | cons w vs ih =>
      intro τ j hj hl
      unfold wipe
      by_cases e : j = w
      · subst e
        rw [List.getElem?_set_self (by rw [wipe_length]; exact hl)]
      · rw [List.getElem?_set_ne (Ne.symm e)]
        exact ih ((List.mem_cons.mp hj).resolve_left e) hl
  refine List.ext_getElem? fun j => ?_
  by_cases hj : j ∈ vs
  · by_cases hl : j < σ.length
    · rw [nn hj (by rw [List.length_set, wipe_length]; exact hl), nn hj hl]
    · rw [List.getElem?_eq_none (by rw [wipe_length, List.length_set, wipe_length]; omega), List.getElem?_eq_none (by rw [wipe_length]; omega)]
  · rw [wipe_get hj, List.getElem?_set_ne (fun e : i = j => hj (e ▸ h))]
section
variable {X : Cx} {ad : Str → Addr} {E : L2.St → XK} {Ed : DXt} {tg elt iter e : Expr} {ifs : List Expr} {scope : Scope} {own : List (Str × Nat)} {pos : Pos} {fi : DI} {tt : DT} {te : DE}
structure FD (X : Cx) (ad : Str → Addr) (E : L2.St → XK) (Ed : DXt) (es : List Expr) (f : DT) : Prop where
  pts : PTs X es (ttD ad E Ed f)
def tYs : DT := fun _ Q _ => Q true
theorem fdN : FD X ad E Ed [] tYs := ⟨⟨fun pins s σ H Q I ⟨B, s', ρ, Qd, W, h, k⟩ => pts_nil.run pins s σ H Q I (k true H h W.refl)⟩⟩
theorem fd1 {t : DT} (h : TD X ad E Ed e t) : FD X ad E Ed [e] t := ⟨pts_one h.pt⟩
/-- an expression that makes a new list -/
abbrev DF := List Sl → (List D → Prop) → DXt → Prop
def teF (ad : Str → Addr) (E : L2.St → XK) (Ed : DXt) (f : DF) : TE := fun σ H Q => ∃ B s ρ Qd, Wl ad E Ed B s ρ σ H ∧ f ρ Qd Ed ∧ ∀ xs p vs H', Qd xs → H p = none → Frm s H H' → H' p = some (.lst vs) → DxA ad (Fz (fun b => B b ∨ b = p) H') vs xs → Q (.ref p) H'
structure PF (X : Cx) (ad : Str → Addr) (E : L2.St → XK) (Ed : DXt) (e : Expr) (f : DF) : Prop where
  pe : PE X e (teF ad E Ed f)
def eF (f : DF) : DE := fun ρ Q Ed => f ρ (fun xs => Q (.lst xs)) Ed
theorem PF.pd {f : DF} (h : PF X ad E Ed e f) : PD X ad E Ed e (eF f) := ⟨weakE h.pe fun σ H Q ⟨B, s, ρ, Qd, W, h, k⟩ => ⟨B, s, ρ, _, W, h, fun xs p vs H' hx hp f hd da => k _ _ _ hx f (.lst ⟨W.wd.nb hp, hd⟩ (da.mono fun b o q => ⟨fun z => q.1 (.inl z), q.2⟩))⟩⟩
/-- [elt for x in iter if ..], x in slot i -/
def fLc (fi : DI) (vs : List Nat) (i : Nat) (tt : DT) (te : DE) : DF := fun ρ Q Ed => fi ρ (fun xs => xs.length ≤ 1000000 ∧ ∃ Iv : Nat → List D → Prop, Iv 0 [] ∧
  (∀ j x acc, xs[j]? = some x → Iv j acc → tt ((wipeD ρ vs).set i (.dat x)) (fun b => if b = true then te ((wipeD ρ vs).set i (.dat x)) (fun y => Iv (j + 1) (acc ++ [y])) X0 else Iv (j + 1) acc) X0) ∧ ∀ acc, Iv xs.length acc → Q acc) Ed
theorem RepE.wipe1 {B B' : Addr → Prop} {s : SO} {H H' : Hp} {σ : L2.St} {ρ : List Sl} {vs : List Nat} {i : Nat} {v : V} {d : D} (w : Wd B' s H') (hk : ∀ (j : Nat) (sl : Sl), ρ[j]? = some sl → SlR ad B' s H' (σ[j]?) sl) (hl : σ.length = ρ.length) (dv : Dx ad (Fz B' H') v d) :
    RepE ad B' s H' ((wipe σ vs).set i (some v)) ((wipeD ρ vs).set i (.dat d)) := by
  have hw : (wipeD ρ vs).length = ρ.length := by
    have : ∀ us : List Nat, (wipeD ρ us).length = ρ.length := by
      intro us
      induction us with
      | nil => rfl
      | cons u us ih => unfold wipeD; rw [List.length_set, ih]
    exact this vs
  refine ⟨w, fun j sl e => ?_, by rw [List.length_set, List.length_set, wipe_length, hw, hl]⟩
  by_cases hj : j = i
  · subst hj
    by_cases hlt : j < (wipeD ρ vs).length
    · rw [List.getElem?_set_self hlt] at e
      cases e
      rw [List.getElem?_set_self (by rw [wipe_length, hl, ← hw]; exact hlt)]
      exact ⟨v, rfl, dv⟩
    · rw [List.getElem?_eq_none (by rw [List.length_set]; omega)] at e; cases e
  · rw [List.getElem?_set_ne (Ne.symm hj)] at e ⊢
    rcases wipeD_get e with e | ⟨h1, h2⟩
    · subst e; exact trivial
    · rw [wipe_get h1]; exact hk j sl h2
theorem SlR.up {B B' : Addr → Prop} {s : SO} {H H' : Hp} {o : Option (Option V)} (w : Wd B s H) (hB : ∀ b, B b → B' b) (fz : ∀ b o, Fz B H b o → Fz B' H' b o) (st : ∀ b o, (∀ l a, s = some (l, a) → b ≠ a) → H b = some o → H' b = some o) : ∀ {sl : Sl}, SlR ad B s H o sl → SlR ad B' s H' o sl
  | .un, h => h
  | .dat d, ⟨v, e, h⟩ => ⟨v, e, h.mono fz⟩
  | .own xs, ⟨p, vs, e, b, n, h, r⟩ => ⟨p, vs, e, hB _ b, n, st _ _ n h, r.mono fz⟩
  | .ownD xs, ⟨p, vs, e, b, n, h, r⟩ => ⟨p, vs, e, hB _ b, n, st _ _ n h, r.mono fz⟩
  | .src, h => h
  | .exc a x d, ⟨v, e, h, r⟩ => ⟨v, e, st _ _ (fun l a' es q => by
      obtain ⟨i, y, c, cl, n, z, _, h1⟩ := (w.sr l a' es).1.at_
      rw [q, h1] at h; cases h) h, r.mono fz⟩
theorem lc_low {B : Addr → Prop} {s : SO} {ρ : List Sl} {σ : L2.St} {H H1 : Hp} {J : It} {xs : List D} {us : List Nat} {i : Nat} {Qd : List D → Prop} {Q : VK} (him : i ∈ us) (W : Wl ad E Ed B s ρ σ H) (f1 : Frm s H H1) (io : ItOk ad B H1 J xs)
    (hx : xs.length ≤ 1000000 ∧ ∃ Iv : Nat → List D → Prop, Iv 0 [] ∧ (∀ j x acc, xs[j]? = some x → Iv j acc → tt ((wipeD ρ us).set i (.dat x)) (fun b => if b = true then te ((wipeD ρ us).set i (.dat x)) (fun y => Iv (j + 1) (acc ++ [y])) X0 else Iv (j + 1) acc) X0) ∧ ∀ acc, Iv xs.length acc → Qd acc)
    (k : ∀ xs p vs H', Qd xs → H p = none → Frm s H H' → H' p = some (.lst vs) → DxA ad (Fz (fun b => B b ∨ b = p) H') vs xs → Q (.ref p) H') :
    ∀ D, H1 D = none → ∃ W : Nat → Nat → Hp → Prop, (∃ m, W 0 m (upd H1 D (.lst []))) ∧ ∀ i' m H, W i' m H → (J.stop i' H ∧ Q (.ref D) H) ∨ (J.go i' H ∧ ∃ Nx : Hp → Prop, (∀ H', Nx H' → ∃ m', m' < m ∧ W (i' + 1) m' H') ∧ ∀ x H', J.yld i' H x H' →
      gName i x (wipe σ us) H' fun σ2 H2 => wipe σ2 us = wipe σ us ∧ ttD ad (fun _ => E0) X0 tt σ2 H2 fun b H3 => if b = true then teD ad (fun _ => E0) X0 te σ2 H3 fun y H4 => ∃ acc, H4 D = some (.lst acc) ∧ acc.length < sizeLine ∧ Nx (upd H4 D (.lst (acc ++ [y]))) else Nx H3) := by
  intro D hD
  obtain ⟨hlen, Iv, h0, hs, hd⟩ := hx
  have W1 := W.frm f1
  have wd1 := W1.wd
  have Dn : ∀ l a, s = some (l, a) → D ≠ a ∧ D ≠ l := fun l a e => by
    obtain ⟨q, _, _⟩ := wd1.sr l a e
    exact q.free_ne hD
  have wdk : ∀ {H' : Hp}, Frm s H1 H' → (∃ vs, H' D = some (.lst vs)) → Wd (fun b => B b ∨ b = D) s H' := fun {H'} f h => ⟨fun b q => by
      rcases q with q | rfl
      · exact (wd1.frm f).al b q
      · exact ⟨_, h.choose_spec, fun _ e => (nomatch e)⟩, fun l a e => ⟨f.sr l a e, .inl (wd1.sr l a e).2.1, .inl (wd1.sr l a e).2.2⟩⟩
  have fzk : ∀ {H' : Hp}, Frm s H1 H' → ∀ b o, Fz B H1 b o → Fz (fun b => B b ∨ b = D) H' b o := fun {H'} f b o h => ⟨fun q => q.elim h.1 (fun e => by
      have z := h.2
      rw [e, hD] at z
      cases z), (wd1.fz f b o h).2⟩
  refine ⟨fun j m H' => m = xs.length - j ∧ j ≤ xs.length ∧ Frm s H1 H' ∧ ∃ vs acc, H' D = some (.lst vs) ∧ DxA ad (Fz (fun b => B b ∨ b = D) H') vs acc ∧ acc.length ≤ j ∧ Iv j acc, ⟨xs.length, by simp, Nat.zero_le _, wd1.new hD, [], [], upd_same, .nil, Nat.zero_le _, h0⟩, ?_⟩
  rintro j m H' ⟨rfl, hj, f, vs, acc, hv, da, hl, iv⟩
  have io := io j H' _ s (wdk f ⟨_, hv⟩) (fzk f)
  by_cases hlt : j < xs.length
  · obtain ⟨go, yl⟩ := io.2 xs[j] (List.getElem?_eq_getElem hlt)
    refine .inr ⟨go, fun H2 => Frm s H1 H2 ∧ ∃ vs acc, H2 D = some (.lst vs) ∧ DxA ad (Fz (fun b => B b ∨ b = D) H2) vs acc ∧ acc.length ≤ j + 1 ∧ Iv (j + 1) acc, fun H2 q => ⟨_, by omega, rfl, hlt, q⟩, fun v H2 y => ?_⟩
    obtain ⟨sm, dv⟩ := yl v H2 y
    have f2 := (wdk f ⟨_, hv⟩).same sm
    have f12 := f.trans f2
    have hv2 := sm _ _ hv
    have w2 := wdk f12 ⟨_, hv2⟩
    have da2 := da.mono ((wdk f ⟨_, hv⟩).fz f2)
    have st := hs j xs[j] acc (List.getElem?_eq_getElem hlt) iv
    have Wb : Wl ad (fun _ => E0) X0 (fun b => B b ∨ b = D) s ((wipeD ρ us).set i (.dat xs[j])) ((wipe σ us).set i (some v)) H2 :=
      ⟨RepE.wipe1 (B := B) (H := H) w2 (fun j sl e => (W.rep.sl j sl e).up W.wd (fun b q => .inl q) (fun b o q => fzk f12 b o (W.wd.fz f1 b o q)) (f1.trans f12).st) W.rep.len dv, fun cn d v x H' _ _ _ q => q.elim⟩
    refine ⟨wipe_set us him, _, s, _, _, Wb, st, fun b H3 hb f3 => ?_⟩
    have hv3 := f3.st D _ (fun l a e => (Dn l a e).1) hv2
    have da3 := da2.mono (w2.fz f3)
    cases b with
    | false => exact ⟨f12.trans f3, vs, acc, hv3, da3, by omega, hb⟩
    | true =>
      refine ⟨_, s, _, _, Wb.frm f3, hb, fun y u H4 hy f4 dy => ?_⟩
      have hv4 := f4.st D _ (fun l a e => (Dn l a e).1) hv3
      have w3 := (Wb.frm f3).wd
      have da4 := da3.mono (w3.fz f4)
      have f14 := f12.trans (f3.trans f4)
      have fzu : ∀ b o, Fz (fun b => B b ∨ b = D) H4 b o → Fz (fun b => B b ∨ b = D) (upd H4 D (.lst (vs ++ [u]))) b o := fun b o q => ⟨q.1, by rw [upd_ne (fun e => q.1 (.inr e))]; exact q.2⟩
      refine ⟨vs, hv4, by rw [da.length, sizeLine_eq]; omega, ⟨fun b o n q => ?_, fun l a e => ?_⟩, vs ++ [u], acc ++ [y], upd_same, (da4.append (.cons dy .nil)).mono fzu, by rw [List.length_append, List.length_singleton]; omega, hy⟩
      · rw [upd_ne (ne_of_none q hD)]
        exact f14.st b o n q
      · obtain ⟨⟨i0, b0, c0, cl, n0, w0, h00, h1⟩, ns, h2⟩ := f14.sr l a e
        exact ⟨⟨i0, b0, c0, cl, n0, w0, h00, by rw [upd_ne (Ne.symm (Dn l a e).1)]; exact h1⟩, ns, by rw [upd_ne (Ne.symm (Dn l a e).2)]; exact h2⟩
  · have e : j = xs.length := by omega
    subst e
    have hn : H D = none := by
      cases q : H D with
      | none => rfl
      | some o =>
        have := f1.st D o (fun l a e => (Dn l a e).1) q
        rw [hD] at this; cases this
    exact .inl ⟨io.1 rfl, k acc D vs H' (hd acc iv) hn (f1.trans f) hv da⟩
theorem pfLc {i : Nat} (hc : X.calm = true) (hN : X.N.Nodup) (hi : ID X ad E Ed tg iter fi) (ok : BlkOk X.N X.env.scope scope own)
    (hg : ∀ (s : Shared) (H : Hp) (C : Addr) (cl : List (Str × Addr)) (fp : List Addr), PG (X.blk s H scope (compEnvC scope cl C X.env) fp) tg (gName i)) (ht : ∀ (s : Shared) (H : Hp) (C : Addr) (cl : List (Str × Addr)) (fp : List Addr), FD (X.blk s H scope (compEnvC scope cl C X.env) fp) ad (fun _ => E0) X0 ifs tt)
    (he : ∀ (s : Shared) (H : Hp) (C : Addr) (cl : List (Str × Addr)) (fp : List Addr), PD (X.blk s H scope (compEnvC scope cl C X.env) fp) ad (fun _ => E0) X0 elt te) (him : i ∈ own.map (·.2) := by decide) (hs : ∀ x, foldedSetIterable iter X.env x = pure x := by intro _; rfl) :
    PF X ad E Ed (.ListComp elt [⟨tg, iter, ifs, 0⟩] scope pos) (fLc fi (own.map (·.2)) i tt te) :=
  ⟨weakE (pe_lc hc hN hi.pi ok hg (fun s H C cl fp => (ht s H C cl fp).pts) (fun s H C cl fp => (he s H C cl fp).pe) hs) fun σ H Q ⟨B, s, ρ, Qd, W, h, k⟩ => ⟨B, s, ρ, _, W, h, fun xs H1 J hx f1 io => lc_low him W f1 io hx k⟩⟩
/-- name = [..] on one line -/
theorem sdSetLc {i j : Nat} {y : Str} {py spos : Pos} (hc : X.calm = true) (hN : X.N.Nodup) (hy : X.N[j]? = some y) (hyl : X.env.scope.names.lookup y = some .local) (hsw : swapsWith (.ListComp elt [⟨tg, iter, ifs, 0⟩] scope pos) (some (.Name y py)) spos.line X.env = pure true)
    (hi : ID X ad E Ed tg iter fi) (ok : BlkOk X.N X.env.scope scope own)
    (hg : ∀ (s : Shared) (H : Hp) (C : Addr) (cl : List (Str × Addr)) (fp : List Addr), PG (X.blk s H scope (compEnvC scope cl C X.env) fp) tg (gName i)) (ht : ∀ (s : Shared) (H : Hp) (C : Addr) (cl : List (Str × Addr)) (fp : List Addr), FD (X.blk s H scope (compEnvC scope cl C X.env) fp) ad (fun _ => E0) X0 ifs tt)
    (he : ∀ (s : Shared) (H : Hp) (C : Addr) (cl : List (Str × Addr)) (fp : List Addr), PD (X.blk s H scope (compEnvC scope cl C X.env) fp) ad (fun _ => E0) X0 elt te) (him : i ∈ own.map (·.2) := by decide) (hs : ∀ x, foldedSetIterable iter X.env x = pure x := by intro _; rfl) :
    SD X ad E Ed (.Assign [.Name y py] (.ListComp elt [⟨tg, iter, ifs, 0⟩] scope pos) spos) (sSet j (eF (fLc fi (own.map (·.2)) i tt te))) :=
  ⟨weakS (ps_setLc hc hN hy hyl hsw hi.pi ok hg (fun s H C cl fp => (ht s H C cl fp).pts) (fun s H C cl fp => (he s H C cl fp).pe) hs) fun Dn σ H ⟨c, P, ρ, De, r, t, en, h⟩ =>
    ⟨Bl c P, c.s, ρ, _, r.wl t, h, fun xs H1 J hx f1 io => lc_low (Q := fun x H1 => gName j x σ H1 Dn.nx) him (r.wl t) f1 io hx fun xs p vs H' hd hp f hv da => en.nx _ _ _ _ ((r.frm f).setD (.lst ⟨r.wd.nb hp, hv⟩ (da.mono fun b o q => ⟨fun z => q.1 (.inl z), q.2⟩))) hd⟩⟩
end
end DL

set_option Elab.async false
set_option linter.all false
set_option maxRecDepth 100000
set_option maxHeartbeats 2000000
namespace DL
open PySem PySem.Spec PyProof.Rows L2 BT
/-! ### lists of one's own -/
section
variable {ad : Str → Addr} {c : Ct} {P : Nat → Option Addr} {H H1 : Hp} {σ : L2.St} {ρ : List Sl} {E : L2.St → XK} {Ed : DXt}
theorem st_some {i j : Nat} {p q : Addr} (h : st P i p j = some q) : (j = i ∧ q = p) ∨ (j ≠ i ∧ P j = some q) := by
  unfold st at h
  split at h
  · exact .inl ⟨by assumption, (Option.some.inj h).symm⟩
  · exact .inr ⟨by assumption, h⟩
theorem Rep.setO (r : Rep ad c P H σ ρ) {i : Nat} {p : Addr} {vs : List V} {xs : List D} (f : Frm c.s H H1) (hp : H p = none) (hv : H1 p = some (.lst vs)) (da : DxA ad (Fz (fun b => Bl c P b ∨ b = p) H1) vs xs) :
    Rep ad c (st P i p) H1 (σ.set i (some (.ref p))) (ρ.set i (.own xs)) := by
  have bs : ∀ b, Bl c (st P i p) b → Bl c P b ∨ b = p := fun b h => by
    rcases h with h | ⟨j, h⟩
    · exact .inl (.inl h)
    · rcases st_some h with ⟨_, rfl⟩ | ⟨_, h⟩
      · exact .inr rfl
      · exact .inl (.inr ⟨j, h⟩)
  have fz : ∀ b o, Fz (Bl c P) H b o → Fz (Bl c (st P i p)) H1 b o := fun b o h => ⟨fun q => (bs b q).elim h.1 (fun e => by
    have z := h.2
    rw [e, hp] at z
    cases z), (r.wd.fz f b o h).2⟩
  have np : ∀ j, P j ≠ some p := fun j e => r.wd.nb hp (.inr ⟨j, e⟩)
  have na : ¬ c.A p := fun q => r.wd.nb hp (.inl q)
  have w1 := r.wd.frm f
  have src : ∀ l a, c.s = some (l, a) → p ≠ a := fun l a e => fun q => na (q ▸ (r.sa l a e).1)
  refine ⟨⟨fun b h => ?_, fun l a e => ⟨(w1.sr l a e).1, .inl (r.sa l a e).1, .inl (r.sa l a e).2.1⟩⟩, r.sa, (r.frm f).z, fun j q e => ?_, fun j k q e1 e2 => ?_, fun j sl e => ?_, fun j ys e => ?_, fun j ys e => ?_, by rw [List.length_set, List.length_set, r.len]⟩
  · rcases bs b h with h | rfl
    · exact w1.al b h
    · exact ⟨_, hv, fun _ e => (nomatch e)⟩
  · rcases st_some e with ⟨_, rfl⟩ | ⟨_, e⟩
    · exact ⟨na, fun o q => by rw [r.z _ _ q] at hp; cases hp⟩
    · exact r.ow j q e
  · rcases st_some e1 with ⟨a1, b1⟩ | ⟨a1, b1⟩
    · rcases st_some e2 with ⟨a2, b2⟩ | ⟨a2, b2⟩
      · rw [a1, a2]
      · exact absurd (b1 ▸ b2) (np k)
    · rcases st_some e2 with ⟨a2, b2⟩ | ⟨a2, b2⟩
      · exact absurd (b2 ▸ b1) (np j)
      · exact r.inj j k q b1 b2
  · by_cases hj : j = i
    · subst hj
      by_cases hl : j < ρ.length
      · rw [List.getElem?_set_self hl] at e
        cases e
        rw [List.getElem?_set_self (by rw [r.len]; exact hl)]
        exact ⟨p, vs, rfl, .inr ⟨j, by unfold st; rw [if_pos rfl]⟩, src, hv, da.mono fun b o q => ⟨fun z => q.1 (bs b z), q.2⟩⟩
      · rw [List.getElem?_eq_none (by rw [List.length_set]; omega)] at e; cases e
    · rw [List.getElem?_set_ne (Ne.symm hj)] at e ⊢
      have so := r.sl j sl e
      have ow := r.ownAt e
      cases sl with
      | own ys =>
        obtain ⟨q, us, e1, b, n, h, da⟩ := so
        obtain ⟨q2, e2, e3⟩ := ow (.inl ⟨_, rfl⟩)
        rw [e1] at e3
        have : q = q2 := by injection e3 with e3; injection e3 with e3; injection e3
        subst this
        exact ⟨q, us, e1, .inr ⟨j, by unfold st; rw [if_neg hj]; exact e2⟩, n, f.st _ _ n h, da.mono fz⟩
      | ownD ys =>
        obtain ⟨q, us, e1, b, n, h, da⟩ := so
        obtain ⟨q2, e2, e3⟩ := ow (.inr ⟨_, rfl⟩)
        rw [e1] at e3
        have : q = q2 := by injection e3 with e3; injection e3 with e3; injection e3
        subst this
        exact ⟨q, us, e1, .inr ⟨j, by unfold st; rw [if_neg hj]; exact e2⟩, n, f.st _ _ n h, da.mono fz⟩
      | un => exact so
      | dat d => exact so.imp fun v h => ⟨h.1, h.2.mono fz⟩
      | src => exact so
      | exc a x d =>
        obtain ⟨v, e1, h, dv⟩ := so
        exact ⟨v, e1, f.st _ _ (fun l a' es q => by
          obtain ⟨i0, y, c0, cl, n0, z, _, h1⟩ := (r.wd.sr l a' es).1.at_
          rw [q, h1] at h; cases h) h, dv.mono fz⟩
  · by_cases hj : j = i
    · subst hj
      by_cases hl : j < ρ.length
      · exact ⟨p, by unfold st; rw [if_pos rfl], by rw [List.getElem?_set_self (by rw [r.len]; exact hl)]⟩
      · rw [List.getElem?_eq_none (by rw [List.length_set]; omega)] at e; cases e
    · rw [List.getElem?_set_ne (Ne.symm hj)] at e ⊢
      obtain ⟨q, h1, h2⟩ := r.own j ys e
      exact ⟨q, by unfold st; rw [if_neg hj]; exact h1, h2⟩
  · by_cases hj : j = i
    · subst hj
      by_cases hl : j < ρ.length
      · rw [List.getElem?_set_self hl] at e; cases e
      · rw [List.getElem?_eq_none (by rw [List.length_set]; omega)] at e; cases e
    · rw [List.getElem?_set_ne (Ne.symm hj)] at e ⊢
      obtain ⟨q, h1, h2⟩ := r.ownD j ys e
      exact ⟨q, by unfold st; rw [if_neg hj]; exact h1, h2⟩
theorem Rep.app (r : Rep ad c P H σ ρ) {i : Nat} {p : Addr} {vs ws : List V} {xs ys : List D} (e : ρ[i]? = some (.own xs)) (ep : P i = some p) (es : σ[i]? = some (some (.ref p))) (hv : H p = some (.lst vs)) (da : DxA ad (Fz (Bl c P) H) ws ys) :
    Rep ad c P (upd H p (.lst ws)) σ (ρ.set i (.own ys)) := by
  have bp : Bl c P p := .inr ⟨i, ep⟩
  have fz : ∀ b o, Fz (Bl c P) H b o → Fz (Bl c P) (upd H p (.lst ws)) b o := fun b o h => ⟨h.1, by rw [upd_ne (fun e : b = p => h.1 (by rw [e]; exact bp))]; exact h.2⟩
  have ns : ∀ l a, c.s = some (l, a) → a ≠ p ∧ l ≠ p := fun l a e2 => ⟨fun q => (r.ow i p ep).1 (q ▸ (r.sa l a e2).1), fun q => (r.ow i p ep).1 (q ▸ (r.sa l a e2).2.1)⟩
  refine ⟨⟨fun b h => ?_, fun l a e2 => ⟨?_, .inl (r.sa l a e2).1, .inl (r.sa l a e2).2.1⟩⟩, r.sa, fun b o h => ?_, r.ow, r.inj, fun j sl e2 => ?_, fun j zs e2 => ?_, fun j zs e2 => ?_, by rw [List.length_set, r.len]⟩
  · by_cases q : b = p
    · exact ⟨.lst ws, (by rw [q]; exact upd_same), fun _ e => (nomatch e)⟩
    · obtain ⟨o, h, nt⟩ := r.wd.al b h
      exact ⟨o, by rw [upd_ne q]; exact h, nt⟩
  · obtain ⟨⟨i0, b0, c0, cl, n0, w0, h00, h1⟩, zs, h2⟩ := (r.wd.sr l a e2).1
    exact ⟨⟨i0, b0, c0, cl, n0, w0, h00, by rw [upd_ne (ns l a e2).1]; exact h1⟩, zs, by rw [upd_ne (ns l a e2).2]; exact h2⟩
  · rw [upd_ne (fun q : b = p => (r.ow i p ep).2 o (by rw [← q]; exact h))]
    exact r.z b o h
  · by_cases hj : j = i
    · subst hj
      rw [List.getElem?_set_self (List.getElem?_eq_some_iff.mp e).1] at e2
      cases e2
      exact ⟨p, ws, es, bp, fun l a e3 q => (ns l a e3).1 q.symm, upd_same, da.mono fz⟩
    · rw [List.getElem?_set_ne (Ne.symm hj)] at e2
      have so := r.sl j sl e2
      have ow := r.ownAt e2
      cases sl with
      | own zs =>
        obtain ⟨q, us, e1, b, n, h, da⟩ := so
        obtain ⟨q2, e3, e4⟩ := ow (.inl ⟨_, rfl⟩)
        rw [e1] at e4
        have : q = q2 := by injection e4 with e4; injection e4 with e4; injection e4
        subst this
        exact ⟨q, us, e1, b, n, by rw [upd_ne (fun z : q = p => hj (r.inj j i p (by rw [← z]; exact e3) ep))]; exact h, da.mono fz⟩
      | ownD zs =>
        obtain ⟨q, us, e1, b, n, h, da⟩ := so
        exact ⟨q, us, e1, b, n, by rw [upd_ne (fun z => by rw [z, hv] at h; cases h)]; exact h, da.mono fz⟩
      | un => exact so
      | dat d => exact so.imp fun v h => ⟨h.1, h.2.mono fz⟩
      | src => exact so
      | exc a x d =>
        obtain ⟨v, e1, h, dv⟩ := so
        exact ⟨v, e1, by rw [upd_ne (fun z => by rw [z, hv] at h; cases h)]; exact h, dv.mono fz⟩
  · by_cases hj : j = i
    · subst hj; exact ⟨p, ep, es⟩
    · rw [List.getElem?_set_ne (Ne.symm hj)] at e2
      exact r.own j zs e2
  · by_cases hj : j = i
    · subst hj
      rw [List.getElem?_set_self (List.getElem?_eq_some_iff.mp e).1] at e2; cases e2
    · rw [List.getElem?_set_ne (Ne.symm hj)] at e2
      exact r.ownD j zs e2
end
section
variable {X : Cx} {ad : Str → Addr} {E : L2.St → XK} {Ed : DXt} {a b e : Expr} {fa fb : DE} {pos pos' apos p : Pos} {g ga gb : DS} {f : DF} {n : Nat}
def sSetO (i : Nat) (f : DF) : DS := fun De ρ Ed => f ρ (fun xs => De.nx (ρ.set i (.own xs))) Ed
theorem sdSetO {i : Nat} {x : Str} (ps : ∀ {te : TE}, PE X e te → PS X (.Assign [.Name x pos'] e pos) (tAsg te (gName i))) (h : PF X ad E Ed e f) : SD X ad E Ed (.Assign [.Name x pos'] e pos) (sSetO i f) :=
  ⟨weakS (ps h.pe) fun Dn σ H ⟨c, P, ρ, De, r, t, en, h⟩ => ⟨Bl c P, c.s, ρ, _, r.wl t, h, fun xs p vs H' hd hp f hv da => en.nx _ _ _ _ (r.setO f hp hv da) hd⟩⟩
/-- [..] as a new list -/
def fLst (g : DA) : DF := fun ρ Q Ed => g ρ (fun as => match dats as with
  | some ds => Q ds
  | none => False) Ed
theorem pfLst {es : List Expr} {ga : DA} (h : AD X ad E Ed es n ga) (hn : n ≤ 1000 := by decide) : PF X ad E Ed (.List es pos) (fLst ga) :=
  ⟨weakE (pe_lst h.pa) fun σ H Q ⟨B, s, ρ, Qd, W, h, k⟩ => ⟨B, s, ρ, _, W, h, fun as vs H1 ha hl f1 da => by
    split at ha
    · rename_i ds e
      rw [dats_ok e] at da hl
      have := da.length
      refine ⟨by rw [this, hl, sizeLine_eq]; omega, fun p hp => ?_⟩
      have w1 := (W.frm f1).wd
      have hn : H p = none := by
        cases q : H p with
        | none => rfl
        | some o =>
          by_cases z : ∃ l, s = some (l, p)
          · obtain ⟨l, z⟩ := z
            obtain ⟨i, x, c, cl, n, y, _, h1⟩ := (f1.sr l p z).at_
            rw [hp] at h1; cases h1
          · have := f1.st p o (fun l a e1 e2 => z ⟨l, e2 ▸ e1⟩) q
            rw [hp] at this; cases this
      refine k _ _ _ _ ha hn (f1.trans (w1.new hp)) upd_same (da.dat.mono fun b o q => ⟨fun z => z.elim q.1 fun e => ?_, (w1.fz (w1.new hp) b o q).2⟩)
      have z := q.2
      rw [e, hp] at z; cases z
    · exact ha.elim⟩⟩
/-- name.append(value), the name's list its own -/
def sApp (i : Nat) (f : DE) : DS := fun De ρ Ed => match ρ[i]? with
  | some (.own xs) => f ρ (fun d => xs.length < 1000000 ∧ De.nx (ρ.set i (.own (xs ++ [d])))) Ed
  | _ => False
theorem sdApp {i : Nat} {x : Str} (hv : PE X (.Name x pos') (tVar i)) (h : PD X ad E Ed e fa)
    (pe : ∀ {te : TE}, PE X e te → PS X (.Expr (.Call (.Attribute (.Name x pos') "append" apos) [e] [] p) pos) (tDrop (tBM X.K "list" rAppend (tVar i) (tCons te tNil)))) : SD X ad E Ed (.Expr (.Call (.Attribute (.Name x pos') "append" apos) [e] [] p) pos) (sApp i fa) :=
  ⟨weakS (pe h.pe) fun Dn σ H ⟨c, P, ρ, De, r, t, en, h⟩ => by
    unfold sApp at h
    split at h
    · rename_i xs e
      obtain ⟨p, ep, es⟩ := r.own i xs e
      obtain ⟨q, vs, e2, b, n, hq, da⟩ := r.sl i _ e
      rw [es] at e2
      have : p = q := by injection e2 with e2; injection e2 with e2; injection e2
      subst this
      refine ⟨.ref p, es, .inl ⟨rfl, _, .inl (.inl hq)⟩, tie_e c P ρ De Dn r t h fun d v H1 hd r1 f1 dv => ?_⟩
      have hv1 := f1.st p _ n hq
      have da1 := da.mono (r.wd.fz f1)
      exact ⟨p, vs, v, rfl, rfl, hv1, by rw [da.length, sizeLine_eq]; omega, en.nx _ _ _ _ (r1.app e ep es hv1 (da1.append (.cons dv .nil))) hd.2⟩
    · exact h.elim⟩
end
end DL

set_option Elab.async false
set_option linter.all false
set_option maxRecDepth 100000
set_option maxHeartbeats 2000000
namespace DL
open PySem PySem.Spec PyProof.Rows L2 BT
/-! ### try -/
/-- e.what in a handler: e in slot i -/
def eXc (a x : Addr) (i : Nat) : DE := fun ρ Q _ => match ρ[i]? with
  | some (.exc a' x' d) => (a' = a ∧ x' = x) ∧ Q d
  | _ => False
abbrev Hd := Str × Nat × (Addr → Addr → DS)
def hxD : List Hd → DEnds → DXt → DXt
  | [], De, Ed => Ed
  | (h, i, s) :: r, De, Ed => fun ρ cn d => if cn = h then ∀ a x, s a x { nx := fun ρ2 => De.nx (ρ2.set i .un), ct := fun ρ2 => De.ct (ρ2.set i .un), bk := fun ρ2 => De.bk (ρ2.set i .un), rt := De.rt } (ρ.set i (.exc a x d)) X0 else hxD r De Ed ρ cn d
def sTry (errs : List Str) (g : DS) (hs : List Hd) : DS := fun De ρ Ed => g De ρ fun ρ' cn d => cn ∈ errs ∧ hxD hs De Ed ρ' cn d
/-- the error classes of the package, each its own kind -/
structure ErT (K : PySem.W.Frag) (ad : Str → Addr) (errs : List Str) : Prop where
  ex : ∀ x y, x ∈ errs → y ∈ errs → PySem.W.exmOne K (.ref (ad x)) (.ref (ad y)) = some (decide (x = y))
section
variable {X : Cx} {ad : Str → Addr} {E : L2.St → XK} {Ed : DXt} {errs : List Str}
theorem pdXc {a x : Addr} {C : Addr} {oe : Obj} {pn : List (Addr × Obj)} {i : Nat} {n : Str} {p pos : Pos} {E : L2.St → XK} (T : XfC X.K C) (hno : PySem.W.findIn X.K (.ref C) "what" = some none) (hz : Zc (.ref C) (some x) oe) (hf : ∃ vs, oe.data = .fields vs)
    (he : PE (X.suite a ((a, oe) :: pn)) (.Name n p) (tVar i)) (hb : attributeBase (.Name n p) "what" X.env (eval (.Name n p) X.env) = eval (.Name n p) X.env := by rfl) : PD (X.suite a ((a, oe) :: pn)) ad E Ed (.Attribute (.Name n p) "what" pos) (eXc a x i) :=
  ⟨weakE (pe_xf T hno hz hf he hb) fun σ H Q ⟨B, s, ρ, Qd, W, h, k⟩ => by
    unfold eXc at h
    split at h
    · rename_i a' x' d e
      obtain ⟨⟨rfl, rfl⟩, h⟩ := h
      obtain ⟨v, e1, e2, dv⟩ := W.rep.sl i _ e
      exact ⟨.ref a', e1, rfl, rfl, x', _, v, rfl, e2, rfl, k d v H h W.refl dv⟩
    · exact h.elim⟩
inductive ClD (X : Cx) (ad : Str → Addr) (errs : List Str) : List ExceptHandler → List Hd → Prop
  | nil : ClD X ad errs [] []
  | cons {x n : Str} {i : Nat} {s : Addr → Addr → DS} {b₀ : Stmt} {suite : List Stmt} {np pos' : Pos} {hds : List ExceptHandler} {hs : List Hd} (hi : X.N[i]? = some n) (hln : X.env.kindOf n = some .local) (hc : Names X x (.ref (ad x))) (hx : x ∈ errs)
      (hsu : ∀ (a : Addr) (oe : Obj) (x' : Addr) (pn : List (Addr × Obj)), Zc (.ref (ad x)) (some x') oe → (∃ vs, oe.data = .fields vs) → BS (X.suite a ((a, oe) :: pn)) ad (fun _ => E0) X0 (b₀ :: suite) (s a x')) (r : ClD X ad errs hds hs) :
      ClD X ad errs (.ExceptHandler (some (.Name x np)) (some n) (b₀ :: suite) pos' :: hds) ((x, i, s) :: hs)
theorem ClD.low (T : ErT X.K ad errs) : ∀ {hds : List ExceptHandler} {hs : List Hd}, ClD X ad errs hds hs → ∃ W : Ends → WX, Clauses X (fun cls d σ H => E σ cls d H) hds W ∧
    ∀ (Dn : Ends) (De : DEnds) (c : Ct) (Ed : DXt), EnT ad c De Dn → TieC ad E Ed c → ∀ P σ ρ H cn d v x, Rep ad c P H σ ρ → Dx ad (Fz (Bl c P) H) v d → H x = none → cn ∈ errs → hxD hs De Ed ρ cn d → W Dn (.ref (ad cn)) (some x) σ (upd H x (.xd [("what", v)]))
  | _, _, .nil => ⟨_, .nil, fun Dn De c Ed en t P σ ρ H cn d v x r dv hx _ q => t.t P σ ρ H cn d v x r dv hx q⟩
  | _, _, .cons (x := y) (i := i) (s := s) hi hln hc hy hsu r => by
    obtain ⟨W, h1, h2⟩ := ClD.low T r
    refine ⟨_, .cons (i := i) (ts := fun a cls d Dn σ H => ∃ x', cls = .ref (ad y) ∧ d = some x' ∧ tsD ad (fun _ => E0) X0 (s a x') Dn σ H) hi hln hc (fun a oe cls d pn hz hf => ⟨fun pins s σ H Dn I ⟨x', e1, e2, h⟩ => ?_⟩) h1, fun Dn De c Ed en t P σ ρ H cn d v x r dv hx he q => ?_⟩
    · subst e1 e2
      exact (hsu a oe x' pn hz hf).ps.run pins s σ H Dn I h
    · have ex := T.ex cn y he hy
      have r1 := r.frm (r.wd.new (o := .xd [("what", v)]) hx)
      have dv1 := r.wd.dx (r.wd.new (o := .xd [("what", v)]) hx) dv
      refine ⟨decide (cn = y), ex, fun e a ha => ?_, fun e => ?_⟩
      · have e := of_decide_eq_true e
        subst e
        have q : ∀ a x, s a x { nx := fun ρ2 => De.nx (ρ2.set i .un), ct := fun ρ2 => De.ct (ρ2.set i .un), bk := fun ρ2 => De.bk (ρ2.set i .un), rt := De.rt } (ρ.set i (.exc a x d)) X0 := by
          have q' := q
          unfold hxD at q'
          rw [if_pos rfl] at q'
          exact q'
        have r2 := r1.setS (i := i) (v := some (.ref a)) (sl := .exc a x d) (fun _ e => (nomatch e)) (fun _ e => (nomatch e)) ⟨v, rfl, upd_same, dv1.mono (fz_rm i)⟩
        refine ⟨x, rfl, rfl, c, _, _, { nx := fun ρ2 => De.nx (ρ2.set i .un), ct := fun ρ2 => De.ct (ρ2.set i .un), bk := fun ρ2 => De.bk (ρ2.set i .un), rt := De.rt }, r2, ⟨fun P σ ρ H cn d v x _ _ _ q => q.elim⟩, ⟨fun P3 σ3 ρ3 H3 r3 q3 => ?_, fun P3 σ3 ρ3 H3 r3 q3 => ?_, fun P3 σ3 ρ3 H3 r3 q3 => ?_, fun P3 σ3 ρ3 H3 d3 v3 r3 dv3 q3 => en.rt _ _ _ _ _ _ r3 dv3 q3⟩, q a x⟩
        · exact en.nx _ _ _ _ (r3.setS (i := i) (v := none) (sl := .un) (fun _ e => (nomatch e)) (fun _ e => (nomatch e)) trivial) q3
        · exact en.ct _ _ _ _ (r3.setS (i := i) (v := none) (sl := .un) (fun _ e => (nomatch e)) (fun _ e => (nomatch e)) trivial) q3
        · exact en.bk _ _ _ _ (r3.setS (i := i) (v := none) (sl := .un) (fun _ e => (nomatch e)) (fun _ e => (nomatch e)) trivial) q3
      · have e := of_decide_eq_false e
        have q' := q
        unfold hxD at q'
        rw [if_neg e] at q'
        exact h2 Dn De c Ed en t P σ ρ H cn d v x r dv hx he q'
theorem sdTry {body : List Stmt} {h₀ : ExceptHandler} {hds : List ExceptHandler} {hs : List Hd} {pos : Pos} {g : DS} (T : ErT X.K ad errs) (hs' : X.stack = X.env :: X.outer) (hf : X.env.frame = some X.env.locals) (hN : X.N.Nodup) (tk : Takes X (fun cls d σ H => E σ cls d H))
    (hb : ∀ (W : WX) (Ed' : DXt) (pn : List (Addr × Obj)) (xe : Value → Shared → Prop), Takes (X.tr pn xe) W → BS (X.tr pn xe) ad (WE W) Ed' body g) (hh : ClD X ad errs (h₀ :: hds) hs) : SD X ad E Ed (.Try body (h₀ :: hds) [] [] pos) (sTry errs g hs) := by
  obtain ⟨W, h1, h2⟩ := ClD.low (E := E) T hh
  refine ⟨weakS (ps_tryAs (tb := fun W Dn σ H => ∃ Ed', tsD ad (WE W) Ed' g Dn σ H) hs' hf hN tk (fun W pn xe tk' _ => ⟨fun pins s σ H Dn I ⟨Ed', h⟩ => (hb W Ed' pn xe tk').ps.run pins s σ H Dn I h⟩) h1) fun Dn σ H ⟨c, P, ρ, De, r, t, en, h⟩ => ?_⟩
  exact ⟨_, c, P, ρ, De, r, ⟨fun P' σ' ρ' H' cn d v x r' dv hx q => h2 Dn De c Ed en t P' σ' ρ' H' cn d v x r' dv hx q.1 q.2⟩, en, h⟩
end
/-! ### defs -/
section
variable {P : Program} {w : World} {K : PySem.W.Frag} {mg : Str → Option Value} {base : Heap} {ad : Str → Addr}
theorem ArA.sl {ad : Str → Addr} {B : Addr → Prop} {s : SO} {H : Hp} : ∀ {vs : List V} {as : List Sl}, ArA ad B s H vs as → ∀ (i : Nat) (sl : Sl), as[i]? = some sl → SlR ad B s H ((vs.map some)[i]?) sl ∧ (∀ xs, sl ≠ .own xs) ∧ ∀ xs, sl ≠ .ownD xs
  | _, _, .nil, i, sl, e => by simp at e
  | _, _, .cons (v := v) (a := a) h r, 0, sl, e => by
    have e : a = sl := Option.some.inj e
    subst e
    cases a with
    | dat d => exact ⟨⟨v, rfl, h⟩, fun _ e => (nomatch e), fun _ e => (nomatch e)⟩
    | src =>
      obtain ⟨l, b, e1, e2⟩ := h
      exact ⟨⟨l, b, e1, by rw [e2]; rfl⟩, fun _ e => (nomatch e), fun _ e => (nomatch e)⟩
    | _ => exact h.elim
  | _, _, .cons h r, i + 1, sl, e => ArA.sl r i sl e
/-- the body's beginning -/
theorem body_start {B : Addr → Prop} {s : SO} {H : Hp} {vs : List V} {as : List Sl} {N : List Str} (w : Wd B s H) (a : ArA ad B s H vs as) :
    Rep ad ⟨B, s, fun b o => (∀ l a, s = some (l, a) → b ≠ a) ∧ H b = some o⟩ (fun _ => none) H (L2.start N vs) (as ++ List.replicate (N.length - as.length) .un) := by
  have hB : ∀ b, Bl ⟨B, s, fun b o => (∀ l a, s = some (l, a) → b ≠ a) ∧ H b = some o⟩ (fun _ => none) b ↔ B b := fun b => ⟨fun h => h.elim id fun ⟨i, e⟩ => (nomatch e), .inl⟩
  have hl := a.length
  have sl : ∀ (i : Nat) (sl : Sl), (as ++ List.replicate (N.length - as.length) Sl.un)[i]? = some sl → sl = .un ∨ (as[i]? = some sl ∧ (L2.start N vs)[i]? = (vs.map some)[i]?) := fun i sl e => by
    by_cases q : i < as.length
    · rw [List.getElem?_append_left q] at e
      refine .inr ⟨e, ?_⟩
      unfold L2.start
      rw [List.getElem?_append_left (by rw [List.length_map, hl]; exact q)]
    · rw [List.getElem?_append_right (by omega), List.getElem?_replicate] at e
      split at e
      · exact .inl (Option.some.inj e).symm
      · cases e
  refine ⟨⟨fun b h => w.al b ((hB b).mp h), fun l a e => ⟨(w.sr l a e).1, .inl (w.sr l a e).2.1, .inl (w.sr l a e).2.2⟩⟩, fun l a e => ⟨(w.sr l a e).2.1, (w.sr l a e).2.2, fun o q => q.1 l a e rfl⟩, fun b o q => q.2, fun i p e => (nomatch e), fun i j p e => (nomatch e), fun i sl' e => ?_, fun i xs e => ?_, fun i xs e => ?_, ?_⟩
  · rcases sl i sl' e with rfl | ⟨e1, e2⟩
    · trivial
    · rw [e2]
      have q := (a.sl i sl' e1).1
      exact q.up w (fun b h => .inl h) (fun b o h => ⟨fun z => h.1 ((hB b).mp z), h.2⟩) (fun b o _ h => h)
  · rcases sl i _ e with e | ⟨e1, e2⟩
    · cases e
    · exact absurd rfl ((a.sl i _ e1).2.1 xs)
  · rcases sl i _ e with e | ⟨e1, e2⟩
    · cases e
    · exact absurd rfl ((a.sl i _ e1).2.2 xs)
  · unfold L2.start
    rw [List.length_append, List.length_map, List.length_replicate, List.length_append, List.length_replicate, hl]
theorem body_end {B : Addr → Prop} {s : SO} {H H' : Hp} {σ : L2.St} {ρ : List Sl} {Q : Nat → Option Addr} (r : Rep ad ⟨B, s, fun b o => (∀ l a, s = some (l, a) → b ≠ a) ∧ H b = some o⟩ Q H' σ ρ) : Frm s H H' := ⟨fun b o n h => r.z b o ⟨n, h⟩, fun l a e => (r.wd.sr l a e).1⟩
theorem body_fz {B : Addr → Prop} {s : SO} {Z : Addr → HO → Prop} {H' : Hp} {Q : Nat → Option Addr} : ∀ b o, Fz (Bl ⟨B, s, Z⟩ Q) H' b o → Fz B H' b o := fun b o h => ⟨fun q => h.1 (.inl q), h.2⟩
theorem body_low {E : XK} {g : DS} {dsp : DSp} {N ps : List Str} {vs : List V} {H : Hp} {Q : VK} (sem : ∀ as Qd Xd, dsp as Qd Xd → as.length = ps.length ∧ g { nx := fun _ => Qd .non, rt := Qd } (as ++ List.replicate (N.length - as.length) .un) fun _ => Xd)
    (h : spD ad dsp vs H Q E) : vs.length = ps.length ∧ ∃ Ed, tsD ad (fun _ => E) Ed g { nx := fun _ H' => Q .non H', rt := Q } (L2.start N vs) H := by
  obtain ⟨B, s, as, Qd, Xd, wd, da, hd, hq, hx⟩ := h
  obtain ⟨hl, hg⟩ := sem as Qd Xd hd
  refine ⟨by rw [da.length, hl], fun _ => Xd, _, _, _, { nx := fun _ => Qd .non, rt := Qd }, body_start wd da, ⟨fun P σ ρ H' cn d v x r dv hx' q => hx cn d v x H' q (body_end r) (dv.mono body_fz) hx'⟩, ⟨fun P σ ρ H' r q => hq .non .non H' q (body_end r) .non, fun P σ ρ H' r q => q.elim, fun P σ ρ H' r q => q.elim, fun P σ ρ H' d v r dv q => hq d v H' q (body_end r) (dv.mono body_fz)⟩, hg⟩
theorem fnX {x qual : Str} {pr : Arguments} {body : List Stmt} {sc : Scope} {f : Addr} {fd : FuncData} {N ps : List Str} {k : Nat} {dsp : DSp} {g : DS} (F : FunD K x qual pr body sc [] [] f fd) (S : FnScope N ps sc)
    (rd : ∀ (cdv : Value) (A : Around) (outer : List Env) (s : Shared) (H : Hp) (E : XK) (Ed : DXt), Room k (A.deeper (envOfC qual sc s.heap.objs.size f cdv)) → BS (cxOf (L2.CX P w) P w K mg base N qual sc f cdv A outer s H E) ad (fun _ => E) Ed body g)
    (sem : ∀ as Qd Xd, dsp as Qd Xd → as.length = ps.length ∧ g { nx := fun _ => Qd .non, rt := Qd } (as ++ List.replicate (N.length - as.length) .un) fun _ => Xd) : FnOk P w K mg base (L2.CX P w) (k + 1) f fd ps (spD ad dsp) := by
  refine F.ok S (fun vs H Q E h => (body_low (N := N) sem h).1) (fun cdv A outer s H vs Q E hr h => ?_)
  obtain ⟨_, Ed, h⟩ := body_low (N := N) sem h
  exact ⟨_, (rd cdv A outer s H E Ed hr).ps, h⟩
theorem fnY {x : Str} {st : Stmt} {f : Addr} {fd : FuncData} {N ps : List Str} {k : Nat} {dsp : DSp} {g : DS} (F : FnP K x st f fd) (S : FnScope N ps (defScope st))
    (rd : ∀ (cdv : Value) (A : Around) (outer : List Env) (s : Shared) (H : Hp) (Ed : DXt), Room k (A.deeper (envOfC x (defScope st) s.heap.objs.size f cdv)) → A.guards = some [] → BS (cxOf CX0 P w K mg base N x (defScope st) f cdv A outer s H E0).nox ad (fun _ => E0) Ed (defBody st) g)
    (sem : ∀ as Qd Xd, dsp as Qd Xd → as.length = ps.length ∧ g { nx := fun _ => Qd .non, rt := Qd } (as ++ List.replicate (N.length - as.length) .un) fun _ => Xd) : FnG P w K mg base (k + 1) f fd ps (spD ad dsp) := by
  refine okG_of F S (fun vs H Q E h => (body_low (N := N) sem h).1) (fun cdv A outer s H vs Q hr gd h => ?_)
  obtain ⟨_, Ed, h⟩ := body_low (N := N) sem h
  exact ⟨_, (rd cdv A outer s H Ed hr gd).ps, h⟩
theorem FnOk.wide {k : Nat} {f : Addr} {fd : FuncData} {ps : List Str} {sp : Sp} (F : FnOk P w K mg base CX0 k f fd ps sp) : FnOk P w K mg base (L2.CX P w) k f fd ps sp :=
  ⟨F.len, fun A outer s H args us vs Q E hr e0 bt r q => codeAny_mono (F.run A outer s H args us vs Q E hr e0 bt r q) fun res s' out => by
    cases res with
    | error er => exact False.elim out
    | ok fl => cases fl with
      | ret u => exact out
      | _ => exact False.elim out⟩
end
end DL

set_option Elab.async false
set_option linter.all false
set_option maxRecDepth 100000
set_option maxHeartbeats 2000000
namespace DL
open PySem PySem.Spec PyProof.Rows L2 BT
section
variable {X : Cx} {ad : Str → Addr} {E : L2.St → XK} {Ed : DXt} {a b c e e' o : Expr} {fa fb fc : DE} {p pos apos p1 p2 p3 : Pos} {n i : Nat} {ga : DA} {x : Str} {rest : List Expr} {tc : DT}
/-! ### truth as a value -/
def eNot (f : DE) : DE := fun ρ Q Ed => f ρ (fun d => match d with
  | .bl c => Q (.bl (!c))
  | _ => False) Ed
theorem pdNot (h : PD X ad E Ed a fa) : PD X ad E Ed (.UnaryOp .Not a pos) (eNot fa) := ⟨weakE (pe_not h.pe) fun σ H Q ⟨B, s, ρ, Qd, W, h, k⟩ => ⟨B, s, ρ, _, W, h, fun d v H1 hd f1 dv => by
    cases d with
    | bl c => cases dv; exact ⟨c, rfl, k _ _ _ hd f1 (.bl _)⟩
    | _ => exact hd.elim⟩⟩
theorem pdOne {op : BoolOp} (h : PD X ad E Ed a fa) : PD X ad E Ed (.BoolOp op [a] pos) fa := ⟨pe_one h.pe⟩
def eAn (f g : DE) : DE := fun ρ Q Ed => f ρ (fun d => match d with
  | .bl c => if c = true then g ρ Q Ed else Q (.bl false)
  | _ => False) Ed
def eOo (f g : DE) : DE := fun ρ Q Ed => f ρ (fun d => match d with
  | .bl c => if c = true then Q (.bl true) else g ρ Q Ed
  | _ => False) Ed
theorem pdAn (h : PD X ad E Ed a fa) (h2 : PD X ad E Ed (.BoolOp .And (b :: rest) pos) fb) : PD X ad E Ed (.BoolOp .And (a :: b :: rest) pos) (eAn fa fb) := ⟨weakE (pe_and h.pe h2.pe) fun σ H Q ⟨B, s, ρ, Qd, W, h, k⟩ => ⟨B, s, ρ, _, W, h, fun d v H1 hd f1 dv => by
    cases d with
    | bl c =>
      cases dv
      cases c with
      | true => exact ⟨true, rfl, iteT ⟨B, s, ρ, Qd, W.frm f1, hd, fun d v H2 hd f2 dv => k d v H2 hd (f1.trans f2) dv⟩⟩
      | false => exact ⟨false, rfl, iteF (k _ _ H1 hd f1 (.bl _))⟩
    | _ => exact hd.elim⟩⟩
theorem pdOo (h : PD X ad E Ed a fa) (h2 : PD X ad E Ed (.BoolOp .Or (b :: rest) pos) fb) : PD X ad E Ed (.BoolOp .Or (a :: b :: rest) pos) (eOo fa fb) := ⟨weakE (pe_or h.pe h2.pe) fun σ H Q ⟨B, s, ρ, Qd, W, h, k⟩ => ⟨B, s, ρ, _, W, h, fun d v H1 hd f1 dv => by
    cases d with
    | bl c =>
      cases dv
      cases c with
      | true => exact ⟨true, rfl, iteT (k _ _ H1 hd f1 (.bl _))⟩
      | false => exact ⟨false, rfl, iteF ⟨B, s, ρ, Qd, W.frm f1, hd, fun d v H2 hd f2 dv => k d v H2 hd (f1.trans f2) dv⟩⟩
    | _ => exact hd.elim⟩⟩
def eIf (t : DT) (f g : DE) : DE := fun ρ Q Ed => t ρ (fun c => if c = true then f ρ Q Ed else g ρ Q Ed) Ed
theorem pdIf (hc : TD X ad E Ed c tc) (ha : PD X ad E Ed a fa) (hb : PD X ad E Ed b fb) : PD X ad E Ed (.IfExp c a b pos) (eIf tc fa fb) := ⟨weakE (pe_ifExp hc.pt ha.pe hb.pe) fun σ H Q ⟨B, s, ρ, Qd, W, h, k⟩ => ⟨B, s, ρ, _, W, h, fun c H1 hc f1 => by
    cases c with
    | true => exact iteT ⟨B, s, ρ, Qd, W.frm f1, hc, fun d v H2 hd f2 dv => k d v H2 hd (f1.trans f2) dv⟩
    | false => exact iteF ⟨B, s, ρ, Qd, W.frm f1, hc, fun d v H2 hd f2 dv => k d v H2 hd (f1.trans f2) dv⟩⟩⟩
/-! ### kinds -/
def tyS : D → Option String
  | .non => some "NoneType"
  | .bl _ => some "bool"
  | .int _ => some "int"
  | .str _ => some "str"
  | .lst _ => some "list"
  | .tup _ => some "tuple"
  | .dct _ => some "dict"
  | .obj _ _ => none
theorem Dx.ty {K : PySem.W.Frag} {B : Addr → Prop} {H : Hp} {v : V} {d : D} {t : String} (h : Dx ad (Fz B H) v d) (e : tyS d = some t) : TyX K H v (.type t) := by
  cases h with
  | non => cases e; exact .base .non
  | bl b => cases e; exact .base (.bl b)
  | int i => cases e; exact .base (.int i)
  | str x => cases e; exact .base (.str x)
  | lst ea _ => cases e; exact .base (.lst ea.2)
  | tup ea _ => cases e; exact .base (.tup ea.2)
  | dct ea _ => cases e; exact .base (.dK ea.2)
  | obj ea _ => cases e
/-- isinstance(x, T), x no object of the package's -/
def eIs (T : String) (f : DE) : DE := fun ρ Q Ed => f ρ (fun d => match tyS d with
  | some t => Q (.bl (isS T t))
  | none => False) Ed
theorem pdIs {T : String} {y : Str} (hg : Gl X "isinstance") (hm : X.mg "isinstance" = none) (gT : Gl X y) (mT : X.mg y = none) (bT : bootBuiltins y = some (.type T)) (hk : (kinds.all fun t => decide (kitB t T = some (isS T t))) = true) (ha : PD X ad E Ed e fa)
    (hn : y ≠ "__name__" := by decide) (hdb : (y == ("__debug__" : Str)) = false := by decide)
    (hs : starEach [e, .Name y p2] X.env = (false, eval e X.env) :: starEach [.Name y p2] X.env := by rfl) (hs2 : starEach [.Name y p2] X.env = (false, eval (.Name y p2) X.env) :: starEach [] X.env := by rfl) (hpl : (backTo pos (starEach [.Name y p2] X.env)).any (·.1) = false := by rfl) :
    PD X ad E Ed (.Call (.Name "isinstance" p) [e, .Name y p2] [] pos) (eIs T fa) :=
  ⟨weakE (pe_callB call_isi hg hm PyProof.Rows.boot_isinstance (pa_cons ha.pe (pa_cons (pe_bltn (v := .ty T) gT mT bT rfl hn hdb) pa_nil hs2) hs) (by decide) (by decide) hs hpl) fun σ H Q ⟨B, s, ρ, Qd, W, h, k⟩ => ⟨B, s, ρ, _, W, h, fun d v H1 hd f1 dv => by
    split at hd
    · rename_i t et
      have mem : t ∈ kinds := by cases d <;> cases et <;> simp [kinds]
      exact ⟨v, .ty T, _, _, _, rfl, .ty T, dv.ty et, kit_ty (of_decide_eq_true (List.all_eq_true.mp hk _ mem)), k _ _ H1 hd f1 (.bl _)⟩
    · exact hd.elim⟩⟩
/-! ### bits, texts of bits -/
theorem pdBits (ho : PD X ad E Ed o fa) (hbase : attributeBase o "bit_length" X.env (eval o X.env) = eval o X.env := by rfl) (hline : (apos.endLine == pos.line) = true := by rfl) : PD X ad E Ed (.Call (.Attribute o "bit_length" apos) [] [] pos) (e1 (oI1 fun i => .int (Builtin.Int.intBits i : Nat)) fa) :=
  ⟨weakE (pe_bits ho.pe hbase hline) fun σ H Q ⟨B, s, ρ, Qd, W, h, k⟩ => ⟨B, s, ρ, _, W, h, fun d v H1 hd f1 dv => by
    unfold oI1 at hd
    split at hd
    · cases dv; exact ⟨_, rfl, k _ _ _ hd f1 (.int _)⟩
    · exact hd.elim⟩⟩
/-! ### lists of whole numbers, of flags -/
def intsD : List D → Option (List Int)
  | [] => some []
  | .int i :: r => (intsD r).map (i :: ·)
  | _ => none
def blsD : List D → Option (List Bool)
  | [] => some []
  | .bl i :: r => (blsD r).map (i :: ·)
  | _ => none
theorem DxA.intsD {F : Addr → HO → Prop} : ∀ {vs : List V} {ds : List D} {ns : List Int}, DxA ad F vs ds → DL.intsD ds = some ns → vs = ns.map V.int
  | _, _, _, .nil, e => by
    simp only [DL.intsD] at e
    cases Option.some.inj e; rfl
  | _, _, _, .cons a r, e => by
    cases a with
    | int i =>
      simp only [DL.intsD] at e
      obtain ⟨ns, e1, e2⟩ := Option.map_eq_some_iff.mp e
      subst e2
      rw [DxA.intsD r e1]; rfl
    | _ => simp [DL.intsD] at e
theorem DxA.blsD {F : Addr → HO → Prop} : ∀ {vs : List V} {ds : List D} {ns : List Bool}, DxA ad F vs ds → DL.blsD ds = some ns → vs = ns.map V.bl
  | _, _, _, .nil, e => by
    simp only [DL.blsD] at e
    cases Option.some.inj e; rfl
  | _, _, _, .cons a r, e => by
    cases a with
    | bl i =>
      simp only [DL.blsD] at e
      obtain ⟨ns, e1, e2⟩ := Option.map_eq_some_iff.mp e
      subst e2
      rw [DxA.blsD r e1]; rfl
    | _ => simp [DL.blsD] at e
theorem ints_of : ∀ ns : List Int, intsD (ns.map D.int) = some ns
  | [] => rfl
  | n :: ns => by simp only [List.map_cons, intsD, ints_of ns, Option.map_some]
theorem bools_of : ∀ ns : List Bool, blsD (ns.map D.bl) = some ns
  | [] => rfl
  | n :: ns => by simp only [List.map_cons, blsD, bools_of ns, Option.map_some]
theorem dx_ints {F : Addr → HO → Prop} : ∀ ns : List Int, DxA ad F (ns.map V.int) (ns.map D.int)
  | [] => .nil
  | n :: ns => .cons (.int n) (dx_ints ns)
def oSum : List D → (D → Prop) → Prop
  | [.lst xs], Q => (match intsD xs with | some ns => Q (.int ns.sum) | none => False)
  | _, _ => False
theorem pdSum (hc : X.calm = true) (hg : Gl X "sum") (hm : X.mg "sum" = none) (ha : AD X ad E Ed [e] n ga) (he : starEach [e] X.env = (false, eval e X.env) :: starEach [] X.env := by rfl) (hpl : (backTo pos (starEach [] X.env)).any (·.1) = false := by rfl) : PD X ad E Ed (.Call (.Name "sum" p) [e] [] pos) (eB oSum ga) :=
  pdB (cr_sum hc) (fun B s H vs ds Qd Q w da h k => by
    unfold oSum at h
    split at h
    · split at h
      · rename_i ns e
        cases da with
        | cons a r => cases r; cases a with
          | lst ea ra =>
            have ev := ra.intsD e
            subst ev
            exact ⟨_, ns, rfl, .inl (.inl ea.2), k _ _ H h w.refl (.int _)⟩
      · exact h.elim
    · exact h.elim) hg hm (by decide +kernel) ha (by decide) (by decide) he hpl
def oAny : List D → (D → Prop) → Prop
  | [.lst xs], Q => (match blsD xs with
    | some bs => Q (.bl (bs.any id))
    | none => match intsD xs with
      | some ns => Q (.bl (ns.any (· != 0)))
      | none => False)
  | _, _ => False
theorem pdAny (hc : X.calm = true) (hg : Gl X "any") (hm : X.mg "any" = none) (ha : AD X ad E Ed [e] n ga) (he : starEach [e] X.env = (false, eval e X.env) :: starEach [] X.env := by rfl) (hpl : (backTo pos (starEach [] X.env)).any (·.1) = false := by rfl) : PD X ad E Ed (.Call (.Name "any" p) [e] [] pos) (eB oAny ga) :=
  pdB (CallR.or (cr_any hc) (cr_anyI hc)) (fun B s H vs ds Qd Q w da h k => by
    unfold oAny at h
    split at h
    · split at h
      · rename_i ns e
        cases da with
        | cons a r => cases r; cases a with
          | lst ea ra =>
            have ev := ra.blsD e
            subst ev
            exact .inl ⟨_, ns, rfl, .inl (.inl ea.2), k _ _ H h w.refl (.bl _)⟩
      · split at h
        · rename_i ns e
          cases da with
          | cons a r => cases r; cases a with
            | lst ea ra =>
              have ev := ra.intsD e
              subst ev
              exact .inr ⟨_, ns, rfl, .inl (.inl ea.2), k _ _ H h w.refl (.bl _)⟩
        · exact h.elim
    · exact h.elim) hg hm (by decide +kernel) ha (by decide) (by decide) he hpl
def oAll : List D → (D → Prop) → Prop
  | [.lst xs], Q => (match blsD xs with | some bs => Q (.bl (bs.all id)) | none => False)
  | _, _ => False
theorem pdAll (hc : X.calm = true) (hg : Gl X "all") (hm : X.mg "all" = none) (ha : AD X ad E Ed [e] n ga) (he : starEach [e] X.env = (false, eval e X.env) :: starEach [] X.env := by rfl) (hpl : (backTo pos (starEach [] X.env)).any (·.1) = false := by rfl) : PD X ad E Ed (.Call (.Name "all" p) [e] [] pos) (eB oAll ga) :=
  pdB (cr_all hc) (fun B s H vs ds Qd Q w da h k => by
    unfold oAll at h
    split at h
    · split at h
      · rename_i ns e
        cases da with
        | cons a r => cases r; cases a with
          | lst ea ra =>
            have ev := ra.blsD e
            subst ev
            exact ⟨_, ns, rfl, .inl (.inl ea.2), k _ _ H h w.refl (.bl _)⟩
      · exact h.elim
    · exact h.elim) hg hm (by decide +kernel) ha (by decide) (by decide) he hpl
/-- sorted, of whole numbers -/
def oSrtI : List D → (D → Prop) → Prop
  | [.lst xs], Q => ∃ ns, intsD xs = some ns ∧ ∀ ns' : List Int, ns'.Perm ns → ns'.Pairwise (· ≤ ·) → Q (.lst (ns'.map D.int))
  | _, _ => False
theorem pdSrtI (hg : Gl X "sorted") (hm : X.mg "sorted" = none) (ha : AD X ad E Ed [e] n ga) (he : starEach [e] X.env = (false, eval e X.env) :: starEach [] X.env := by rfl) (hpl : (backTo pos (starEach [] X.env)).any (·.1) = false := by rfl) : PD X ad E Ed (.Call (.Name "sorted" p) [e] [] pos) (eB oSrtI ga) :=
  pdB cr_sortedI (fun B s H vs ds Qd Q w da h k => by
    unfold oSrtI at h
    split at h
    · obtain ⟨ns, e, h⟩ := h
      cases da with
      | cons a r => cases r; cases a with
        | lst ea ra =>
          have ev := ra.intsD e
          subst ev
          exact ⟨_, ns, rfl, .inl (.inl ea.2), fun ns' p hp hs hn => k _ _ _ (h ns' hp hs) (w.new hn) (.lst ⟨w.nb hn, upd_same⟩ (dx_ints ns'))⟩
    · exact h.elim) hg hm (by decide +kernel) ha (by decide) (by decide) he hpl
/-- xs[::-1] -/
def eRev (f : DE) : DE := fun ρ Q Ed => f ρ (fun d => match d with
  | .lst xs => Q (.lst xs.reverse)
  | _ => False) Ed
theorem DxA.reverse {F : Addr → HO → Prop} : ∀ {vs : List V} {ds : List D}, DxA ad F vs ds → DxA ad F vs.reverse ds.reverse
  | _, _, .nil => .nil
  | _, _, .cons a r => by
    rw [List.reverse_cons, List.reverse_cons]
    exact (DxA.reverse r).append (.cons a .nil)
theorem pdRev {k : Nat} (h : PD X ad E Ed e fa) : PD X ad E Ed (.Subscript e (.Slice none none (some (.UnaryOp .USub (.Constant (.int 1) k p1) p2)) p3) pos) (eRev fa) :=
  ⟨weakE (pe_revL h.pe) fun σ H Q ⟨B, s, ρ, Qd, W, h, k⟩ => ⟨B, s, ρ, _, W, h, fun d v H1 hd f1 dv => by
    cases dv with
    | lst ea ra => exact ⟨_, _, rfl, .inl (.inl ea.2), fun p hp => k _ _ _ hd (f1.trans ((W.frm f1).wd.new hp)) (.lst ⟨(W.frm f1).wd.nb hp, upd_same⟩ (ra.reverse.mono ((W.frm f1).wd.fz ((W.frm f1).wd.new hp))))⟩
    | _ => exact hd.elim⟩⟩
/-- x in xs -/
def oIn (neg : Bool) : D → D → (D → Prop) → Prop
  | x, .lst ys, Q => ∃ d ds, pyN x = some d ∧ pyNs ys = some ds ∧ SeqAt.shaped d = true ∧ SeqAt.shaped (.list ds) = true ∧ Q (.bl (ng neg (ds.any fun z => PyData.eqv z d)))
  | _, _, _ => False
theorem dIn {K : PySem.W.Frag} : OpD ad (rInD K) (oIn false) := fun B s H x y dx dy Qd Q w da db h k => by
  unfold oIn at h
  split at h
  · obtain ⟨d, ds, e1, e2, e3, e4, h⟩ := h
    rw [xor_f] at h
    exact ⟨d, ds, da.dp e1, db.dp (by simp only [pyN, e2, Option.map_some]), e3, e4, k _ _ H h w.refl (.bl _)⟩
  · exact h.elim
theorem dNotIn {K : PySem.W.Frag} : OpD ad (rNotInD K) (oIn true) := fun B s H x y dx dy Qd Q w da db h k => by
  unfold oIn at h
  split at h
  · obtain ⟨d, ds, e1, e2, e3, e4, h⟩ := h
    rw [xor_t] at h
    exact ⟨d, ds, da.dp e1, db.dp (by simp only [pyN, e2, Option.map_some]), e3, e4, k _ _ H h w.refl (.bl _)⟩
  · exact h.elim
end
/-! ### lists that are being written, looked at -/
def seqO : Sl → Option (List D)
  | .own xs => some xs
  | .dat (.lst xs) => some xs
  | _ => none
theorem seqO_at {ad : Str → Addr} {B : Addr → Prop} {s : SO} {H : Hp} {o : Option (Option V)} {sl : Sl} {xs : List D} (w : Wd B s H) (h : SlR ad B s H o sl) (e : seqO sl = some xs) : ∃ p vs, o = some (some (.ref p)) ∧ ∀ H1, Frm s H H1 → H1 p = some (.lst vs) ∧ DxA ad (Fz B H1) vs xs := by
  cases sl with
  | own ys =>
    cases Option.some.inj e
    obtain ⟨p, vs, e1, _, n, hv, da⟩ := h
    exact ⟨p, vs, e1, fun H1 f => ⟨f.st _ _ n hv, da.mono (w.fz f)⟩⟩
  | dat d =>
    obtain ⟨v, e1, dv⟩ := h
    cases dv with
    | lst ea ra =>
      cases Option.some.inj e
      exact ⟨_, _, e1, fun H1 f => ⟨(w.fz f _ _ ea).2, ra.mono (w.fz f)⟩⟩
    | _ => cases e
  | _ => cases e
section
variable {X : Cx} {ad : Str → Addr} {E : L2.St → XK} {Ed : DXt} {e o b : Expr} {fa fb : DE} {p pos pos' pos2 apos : Pos} {i j : Nat} {x : Str} {n : Nat} {ga : DA}
/-- len(x) -/
def eLenO (i : Nat) : DE := fun ρ Q _ => match (ρ[i]?).bind seqO with
  | some xs => Q (.int xs.length)
  | none => False
theorem pdLenO (hg : Gl X "len") (hm : X.mg "len" = none) (hv : PE X (.Name x pos') (tVar i)) (he : starEach [.Name x pos'] X.env = (false, eval (.Name x pos') X.env) :: starEach [] X.env := by rfl) (hpl : (backTo pos (starEach [] X.env)).any (·.1) = false := by rfl) :
    PD X ad E Ed (.Call (.Name "len" p) [.Name x pos'] [] pos) (eLenO i) :=
  ⟨weakE (pe_callB call_len_seq hg hm PySem.boot_len (pa_cons hv pa_nil he) (by decide) (by decide) he hpl) fun σ H Q ⟨B, s, ρ, Qd, W, h, k⟩ => by
    unfold eLenO at h
    split at h
    · rename_i xs e
      obtain ⟨sl, e1, e2⟩ := Option.bind_eq_some_iff.mp e
      obtain ⟨q, vs, e3, hh⟩ := seqO_at W.wd (W.rep.sl i _ e1) e2
      obtain ⟨h1, da⟩ := hh H W.refl
      exact ⟨.ref q, e3, q, vs, rfl, .inl (.inl (.inl h1)), k _ _ H h W.refl (by rw [da.length]; exact .int _)⟩
    · exact h.elim⟩
/-- x[e] -/
def eIxO (i : Nat) (f : DE) : DE := fun ρ Q Ed => match (ρ[i]?).bind seqO with
  | some xs => f ρ (fun d => match d with
    | .int k => (match atI xs k with | some d => Q d | none => False)
    | _ => False) Ed
  | none => False
theorem pdIxO (hv : PE X (.Name x pos') (tVar i)) (hb : PD X ad E Ed b fb) (hs : PlainIx b) : PD X ad E Ed (.Subscript (.Name x pos') b pos) (eIxO i fb) :=
  ⟨weakE (pe_ix ix_list hv hb.pe hs) fun σ H Q ⟨B, s, ρ, Qd, W, h, k⟩ => by
    unfold eIxO at h
    split at h
    · rename_i xs e
      obtain ⟨sl, e1, e2⟩ := Option.bind_eq_some_iff.mp e
      obtain ⟨q, vs, e3, hh⟩ := seqO_at W.wd (W.rep.sl i _ e1) e2
      refine ⟨.ref q, e3, B, s, ρ, _, W, h, fun d v H1 hd f1 dv => ?_⟩
      obtain ⟨h1, da⟩ := hh H1 f1
      cases dv with
      | int j =>
        dsimp only at hd
        split at hd
        · rename_i y ey
          obtain ⟨u, hu, du⟩ := da.at_ ey
          exact ⟨q, vs, j, u, rfl, rfl, .inl (.inl h1), hu, k y u H1 hd f1 du⟩
        · exact hd.elim
      | _ => exact hd.elim
    · exact h.elim⟩
/-- x[e] = value, x a list of its own -/
def sPut (i : Nat) (fk fv : DE) : DS := fun De ρ Ed => fv ρ (fun d => match ρ[i]? with
  | some (.own xs) => fk ρ (fun k => match k with
    | .int z => (match ixN xs.length z with | some j => De.nx (ρ.set i (.own (xs.set j d))) | none => False)
    | _ => False) Ed
  | _ => False) Ed
theorem DxA.set {F : Addr → HO → Prop} {v : V} {d : D} (h : Dx ad F v d) : ∀ {vs : List V} {ds : List D} (j : Nat), DxA ad F vs ds → DxA ad F (vs.set j v) (ds.set j d)
  | _, _, _, .nil => .nil
  | _, _, 0, .cons a r => .cons h r
  | _, _, j + 1, .cons a r => .cons a (DxA.set h j r)
theorem sdPut (hv : PE X (.Name x pos') (tVar i)) (hk : PD X ad E Ed b fb) (h : PD X ad E Ed e fa) (hs : swapsWithSole [.Subscript (.Name x pos') b pos2] e pos.line X.env = pure false := by rfl) (hw : swappedStores [.Subscript (.Name x pos') b pos2] e X.env = pure none := by rfl)
    (h1 : (assignEach [.Subscript (.Name x pos') b pos2] X.env).map (·.2) = [assign (.Subscript (.Name x pos') b pos2) X.env] := by rfl) (ha : ∀ {to ti : TE} {t : TSet}, PE X (.Name x pos') to → PE X b ti → PSet X t → PG X (.Subscript (.Name x pos') b pos2) (gSub to ti t)) :
    SD X ad E Ed (.Assign [.Subscript (.Name x pos') b pos2] e pos) (sPut i fb fa) :=
  ⟨weakS (ps_asg h.pe (ha hv hk.pe set_list) hs hw h1) fun Dn σ H ⟨c, P, ρ, De, r, t, en, h⟩ => tie_e c P ρ De Dn r t h fun d v H1 hd r1 f1 dv => by
    split at hd
    · rename_i xs e
      obtain ⟨q, ep, es⟩ := r1.own i xs e
      obtain ⟨q', vs, e2, b, nn, hq, da⟩ := r1.sl i _ e
      rw [es] at e2
      have : q = q' := by injection e2 with e2; injection e2 with e2; injection e2
      subst this
      refine ⟨.ref q, es, tie_e c P ρ De Dn r1 t hd fun kd kv H2 hk r2 f2 dk => ?_⟩
      have hv2 := f2.st _ _ nn hq
      have da2 := da.mono (r1.wd.fz f2)
      cases dk with
      | int z =>
        dsimp only at hk
        split at hk
        · rename_i j ej
          refine ⟨q, vs, z, j, rfl, rfl, hv2, by rw [da2.length]; exact ej, en.nx _ _ _ _ (r2.app e ep es hv2 (DxA.set (r1.wd.dx f2 dv) j da2)) hk⟩
        · exact hk.elim
      | _ => exact hk.elim
    · exact hd.elim⟩
/-- list(x), x * k: new lists -/
def fList (f : DE) : DF := fun ρ Q Ed => f ρ (fun d => match seqD d with
  | some xs => Q xs
  | none => False) Ed
theorem none_back {s : SO} {H H1 : Hp} {p : Addr} (f : Frm s H H1) (hp : H1 p = none) : H p = none := by
  cases q : H p with
  | none => rfl
  | some o =>
    by_cases z : ∃ l, s = some (l, p)
    · obtain ⟨l, z⟩ := z
      obtain ⟨i, x, c, cl, n, y, _, h1⟩ := (f.sr l p z).at_
      rw [hp] at h1; cases h1
    · have := f.st p o (fun l a e1 e2 => z ⟨l, e2 ▸ e1⟩) q
      rw [hp] at this; cases this
theorem fin_new {B : Addr → Prop} {s : SO} {H H1 : Hp} {p : Addr} {vs : List V} {xs : List D} {Qd : List D → Prop} {Q : VK} (w1 : Wd B s H1) (f1 : Frm s H H1) (hp : H1 p = none) (da : DxA ad (Fz B H1) vs xs) (hx : Qd xs)
    (k : ∀ xs p vs H', Qd xs → H p = none → Frm s H H' → H' p = some (.lst vs) → DxA ad (Fz (fun b => B b ∨ b = p) H') vs xs → Q (.ref p) H') : Q (.ref p) (upd H1 p (.lst vs)) :=
  k _ _ _ _ hx (none_back f1 hp) (f1.trans (w1.new hp)) upd_same (da.mono fun b o q => ⟨fun z => z.elim q.1 (fun e => by
    have z := q.2
    rw [e, hp] at z
    cases z), (w1.fz (w1.new hp) b o q).2⟩)
theorem pfList (hg : Gl X "list") (hm : X.mg "list" = none) (h : PD X ad E Ed e fa) (he : starEach [e] X.env = (false, eval e X.env) :: starEach [] X.env := by rfl) (hpl : (backTo pos (starEach [] X.env)).any (·.1) = false := by rfl) : PF X ad E Ed (.Call (.Name "list" p) [e] [] pos) (fList fa) :=
  ⟨weakE (pe_callTy call_list_of hg hm PyProof.Rows.boot_list (pa_cons h.pe pa_nil he) (by decide) (by decide) he hpl) fun σ H Q ⟨B, s, ρ, Qd, W, h, k⟩ => ⟨B, s, ρ, _, W, h, fun d v H1 hd f1 dv => by
    cases dv with
    | lst ea ra => exact ⟨_, _, rfl, .inl (.inl (.inl ea.2)), fun l hl => fin_new (W.frm f1).wd f1 hl ra hd k⟩
    | tup ea ra => exact ⟨_, _, rfl, .inr (.inl (.inl ea.2)), fun l hl => fin_new (W.frm f1).wd f1 hl ra hd k⟩
    | _ => exact hd.elim⟩⟩
def fRep (f g : DE) : DF := fun ρ Q Ed => f ρ (fun x => g ρ (fun y => match x, y with
  | .lst xs, .int k => 0 ≤ k ∧ k ≤ 1000000 ∧ xs.length * k.toNat ≤ 1000000 ∧ Q (rep xs k.toNat)
  | _, _ => False) Ed) Ed
theorem pfRep (ha : PD X ad E Ed e fa) (hb : PD X ad E Ed b fb) : PF X ad E Ed (.BinOp e .Mult b pos) (fRep fa fb) :=
  ⟨weakE (pe_op op_rep ha.pe hb.pe) fun σ H Q ⟨B, s, ρ, Qd, W, h, k⟩ => ⟨B, s, ρ, _, W, h, fun x v H1 hx f1 dx => ⟨B, s, ρ, _, W.frm f1, hx, fun y u H2 hy f2 dy => by
    split at hy
    · obtain ⟨h1, h2, h3, hy⟩ := hy
      cases dy
      cases dx with
      | lst ea ra =>
        have la := ra.length
        exact ⟨_, _, _, rfl, rfl, ((W.frm f1).wd.fz f2 _ _ ea).2, by omega, by omega, by rw [la, sizeLine_eq]; omega, fun p hp => fin_new ((W.frm f1).frm f2).wd (f1.trans f2) hp ((ra.rep _).mono ((W.frm f1).wd.fz f2)) hy k⟩
    · exact hy.elim⟩⟩⟩
/-- xs + ys: a new list -/
def fCat (f g : DE) : DF := fun ρ Q Ed => f ρ (fun x => g ρ (fun y => match x, y with
  | .lst xs, .lst ys => xs.length + ys.length ≤ 1000000 ∧ Q (xs ++ ys)
  | _, _ => False) Ed) Ed
theorem pfCat (ha : PD X ad E Ed e fa) (hb : PD X ad E Ed b fb) : PF X ad E Ed (.BinOp e .Add b pos) (fCat fa fb) :=
  ⟨weakE (pe_op op_cat ha.pe hb.pe) fun σ H Q ⟨B, s, ρ, Qd, W, h, k⟩ => ⟨B, s, ρ, _, W, h, fun x v H1 hx f1 dx => ⟨B, s, ρ, _, W.frm f1, hx, fun y u H2 hy f2 dy => by
    have w1 := (W.frm f1).wd
    split at hy
    · cases dx with
      | lst ea ra => cases dy with
        | lst eb rb =>
          have la := ra.length
          have lb := rb.length
          exact ⟨_, _, _, _, rfl, rfl, (w1.fz f2 _ _ ea).2, eb.2, by rw [la, lb, sizeLine_eq]; omega, fun p hp => fin_new ((W.frm f1).frm f2).wd (f1.trans f2) hp ((ra.mono (w1.fz f2)).append rb) hy.2 k⟩
    · exact hy.elim⟩⟩⟩
/-- name = [..] on one line, a list of its own -/
theorem sdSetLcO {tg elt iter : Expr} {ifs : List Expr} {scope : Scope} {own : List (Str × Nat)} {fi : DI} {tt : DT} {te : DE} {i j : Nat} {y : Str} {py spos : Pos} (hc : X.calm = true) (hN : X.N.Nodup) (hy : X.N[j]? = some y) (hyl : X.env.scope.names.lookup y = some .local) (hsw : swapsWith (.ListComp elt [⟨tg, iter, ifs, 0⟩] scope pos) (some (.Name y py)) spos.line X.env = pure true)
    (hi : ID X ad E Ed tg iter fi) (ok : BlkOk X.N X.env.scope scope own)
    (hg : ∀ (s : Shared) (H : Hp) (C : Addr) (cl : List (Str × Addr)) (fp : List Addr), PG (X.blk s H scope (compEnvC scope cl C X.env) fp) tg (gName i)) (ht : ∀ (s : Shared) (H : Hp) (C : Addr) (cl : List (Str × Addr)) (fp : List Addr), FD (X.blk s H scope (compEnvC scope cl C X.env) fp) ad (fun _ => E0) X0 ifs tt)
    (he : ∀ (s : Shared) (H : Hp) (C : Addr) (cl : List (Str × Addr)) (fp : List Addr), PD (X.blk s H scope (compEnvC scope cl C X.env) fp) ad (fun _ => E0) X0 elt te) (him : i ∈ own.map (·.2) := by decide) (hs : ∀ x, foldedSetIterable iter X.env x = pure x := by intro _; rfl) :
    SD X ad E Ed (.Assign [.Name y py] (.ListComp elt [⟨tg, iter, ifs, 0⟩] scope pos) spos) (sSetO j (fLc fi (own.map (·.2)) i tt te)) :=
  ⟨weakS (ps_setLc hc hN hy hyl hsw hi.pi ok hg (fun s H C cl fp => (ht s H C cl fp).pts) (fun s H C cl fp => (he s H C cl fp).pe) hs) fun Dn σ H ⟨c, P, ρ, De, r, t, en, h⟩ =>
    ⟨Bl c P, c.s, ρ, _, r.wl t, h, fun xs H1 J hx f1 io => lc_low (Q := fun x H1 => gName j x σ H1 Dn.nx) him (r.wl t) f1 io hx fun xs p vs H' hd hp f hv da => en.nx _ _ _ _ (r.setO f hp hv da) hd⟩⟩
end
/-! ### comprehensions that are maps -/
theorem take_snocD {α : Type _} {l : List α} {i : Nat} {x : α} (h : l[i]? = some x) : l.take (i + 1) = l.take i ++ [x] := by
  rw [List.take_add_one, h]; rfl
theorem lcMap {fi : DI} {vs : List Nat} {i : Nat} {te : DE} {ρ : List Sl} {Q : List D → Prop} {Ed : DXt} (xs : List D) (f : D → D) (hf : ∀ R : List D → Prop, R xs → fi ρ R Ed) (hl : xs.length ≤ 1000000)
    (hs : ∀ x ∈ xs, ∀ Q' : D → Prop, Q' (f x) → te ((wipeD ρ vs).set i (.dat x)) Q' X0) (q : Q (xs.map f)) : fLc fi vs i tYs te ρ Q Ed := by
  refine hf _ ⟨hl, fun j acc => acc = (xs.take j).map f, rfl, ?_, ?_⟩
  · rintro j x acc hj rfl
    dsimp only [tYs]
    rw [if_pos rfl]
    refine hs x (List.mem_of_getElem? hj) _ ?_
    rw [take_snocD hj, List.map_append]; rfl
  · rintro acc rfl
    rw [List.take_length]; exact q
theorem lcFilter {fi : DI} {vs : List Nat} {i : Nat} {tt : DT} {te : DE} {ρ : List Sl} {Q : List D → Prop} {Ed : DXt} (xs : List D) (p : D → Bool) (f : D → D) (hf : ∀ R : List D → Prop, R xs → fi ρ R Ed) (hl : xs.length ≤ 1000000)
    (ht : ∀ x ∈ xs, ∀ Q' : Bool → Prop, Q' (p x) → tt ((wipeD ρ vs).set i (.dat x)) Q' X0) (hs : ∀ x ∈ xs, p x = true → ∀ Q' : D → Prop, Q' (f x) → te ((wipeD ρ vs).set i (.dat x)) Q' X0) (q : Q ((xs.filter p).map f)) : fLc fi vs i tt te ρ Q Ed := by
  refine hf _ ⟨hl, fun j acc => acc = ((xs.take j).filter p).map f, rfl, ?_, ?_⟩
  · rintro j x acc hj rfl
    refine ht x (List.mem_of_getElem? hj) _ ?_
    dsimp only
    rw [take_snocD hj, List.filter_append]
    cases h : p x with
    | true =>
      rw [if_pos rfl]
      refine hs x (List.mem_of_getElem? hj) h _ ?_
      try dsimp only
      rw [List.map_append, List.filter_cons_of_pos h]; rfl
    | false =>
      rw [if_neg (by decide), List.filter_cons_of_neg (by rw [h]; decide)]
      simp
  · rintro acc rfl
    rw [List.take_length]; exact q
/-! ### enumerate -/
section
variable {X : Cx} {ad : Str → Addr} {E : L2.St → XK} {Ed : DXt} {e : Expr} {p pos tpos : Pos} {n : Nat} {ga : DA}
def enD (xs : List D) : List D := (List.range xs.length).zip xs |>.map fun q => .tup [.int (q.1 : Nat), q.2]
theorem enD_len (xs : List D) : (enD xs).length = xs.length := by unfold enD; rw [List.length_map, List.length_zip, List.length_range, Nat.min_self]
theorem enD_get {xs : List D} {i : Nat} {y : D} (h : (enD xs)[i]? = some y) : ∃ x, xs[i]? = some x ∧ y = .tup [.int (i : Nat), x] := by
  have hl : i < xs.length := by
    have := (List.getElem?_eq_some_iff.mp h).1
    rw [enD_len] at this; exact this
  unfold enD at h
  have z : ((List.range xs.length).zip xs)[i]? = some (i, xs[i]) := List.getElem?_zip_eq_some.mpr ⟨List.getElem?_range hl, List.getElem?_eq_getElem hl⟩
  rw [List.getElem?_map, z] at h
  exact ⟨_, List.getElem?_eq_getElem hl, (Option.some.inj h).symm⟩
theorem ite_ok {K : PySem.W.Frag} {B : Addr → Prop} {H : Hp} {p : Addr} {vs : List V} {xs : List D} (h : Fz B H p (.lst vs)) (da : DxA ad (Fz B H) vs xs) : ItOk ad B H (Ite K p) (enD xs) := fun i H' B' s w k =>
  ⟨fun hi => ⟨vs, .inl (.inl (k _ _ h).2), by rw [da.length, hi, enD_len]; exact Nat.le_refl _⟩, fun y hy => by
    obtain ⟨x, hx, rfl⟩ := enD_get hy
    obtain ⟨v, hv, dv⟩ := da.getD hx
    refine ⟨⟨vs, v, .inl (.inl (k _ _ h).2), hv⟩, fun u H'' ⟨T, z, e, hT, eH, q⟩ => ?_⟩
    subst e eH
    have q := q vs (.inl (.inl (k _ _ h).2))
    rw [hv] at q
    cases Option.some.inj q
    exact ⟨Same.new (Same.refl _) hT, .tup ⟨w.nb hT, upd_same⟩ (.cons (.int _) (.cons ((dv.mono k).mono (w.fz (w.new hT))) .nil))⟩⟩
theorem itet_ok {K : PySem.W.Frag} {B : Addr → Prop} {H : Hp} {p : Addr} {vs : List V} {xs : List D} (h : Fz B H p (.tup vs)) (da : DxA ad (Fz B H) vs xs) : ItOk ad B H (IteT K p) (enD xs) := fun i H' B' s w k =>
  ⟨fun hi => ⟨vs, .inl (.inl (k _ _ h).2), by rw [da.length, hi, enD_len]⟩, fun y hy => by
    obtain ⟨x, hx, rfl⟩ := enD_get hy
    obtain ⟨v, hv, dv⟩ := da.getD hx
    refine ⟨⟨vs, v, .inl (.inl (k _ _ h).2), hv⟩, fun u H'' ⟨T, z, e, hT, eH, q⟩ => ?_⟩
    subst e eH
    have q := q vs (.inl (.inl (k _ _ h).2))
    rw [hv] at q
    cases Option.some.inj q
    exact ⟨Same.new (Same.refl _) hT, .tup ⟨w.nb hT, upd_same⟩ (.cons (.int _) (.cons ((dv.mono k).mono (w.fz (w.new hT))) .nil))⟩⟩
def iEn (g : DA) : DI := fun ρ Q Ed => g ρ (fun as => match as with
  | [.dat (.lst xs)] => Q (enD xs)
  | [.dat (.tup xs)] => Q (enD xs)
  | _ => False) Ed
theorem idEn {elts : List Expr} {kk : Nat} (hg : Gl X "enumerate") (hm : X.mg "enumerate" = none) (ha : AD X ad E Ed [e] n ga) (hs : starEach [e] X.env = [(false, eval e X.env)] := by rfl) : ID X ad E Ed (.Tuple elts kk tpos) (.Call (.Name "enumerate" p) [e] [] pos) (iEn ga) :=
  ⟨weakI (pi_enumA hg hm ha.pa hs) fun σ H R ⟨B, s, ρ, Qd, W, h, k⟩ => ⟨B, s, ρ, _, W, h, fun as vs H1 hd hl f1 da => by
    split at hd
    · cases da with
      | cons a r =>
        cases r
        cases a with
        | lst ea ra => exact ⟨_, _, rfl, .inl ⟨.inl (.inl ea.2), k _ H1 _ hd f1 (ite_ok ea ra)⟩⟩
    · cases da with
      | cons a r =>
        cases r
        cases a with
        | tup ea ra => exact ⟨_, _, rfl, .inr ⟨.inl (.inl ea.2), k _ H1 _ hd f1 (itet_ok ea ra)⟩⟩
    · exact hd.elim⟩⟩
end
end DL

set_option Elab.async false
set_option linter.all false
set_option maxRecDepth 100000
set_option maxHeartbeats 2000000
namespace DL
open PySem PySem.Spec PyProof.Rows L2 BT
/-! ### != by an own __eq__ -/
section
variable {prog : Program} {w : World} {A : Around} {E : Value → Shared → Prop} {s : Shared} {K : PySem.W.Frag} {x C L f : Addr} {h₀ : Heap} {m : Str → Option Value} {ox : Obj} {od : Option Obj} {b tb : Value}
theorem ne_ifBound {M : Model} {args : List Value} {Q : Option Value → Shared → Prop} (X : K.In s.heap) (I : PySem.W.InstAt s.heap x ox C od) (hs : PySem.W.findIn K (.ref C) "__ne__" = some (some (.builtin "object.__ne__")))
    (h : wpAny M A (call (.builtin "object.__ne__") (.ref x :: args)) (fun v => Q (some v)) E s) : wpAny M A (callSpecialIfBound? (.ref x) "__ne__" args) Q E s := by
  simp only [callSpecialIfBound?, bindSpecialIfBound?]
  refine wpAny_holding (wpAny_bind (wpAny_bind (wpAny_bind (I.type.here ((PySem.W.looks_findIn X hs).here ?_)))))
  refine wpAny_bind (wpAny_askSetting (wpAny_ite ?_))
  have fin : wpAny M A (call (.builtin "object.__ne__") ([.ref x] ++ args) >>= fun v => pure (some v)) Q E s := wpAny_bind (wpAny_mono h (fun v s' h' => wpAny_pure h') fun _ _ h' => h')
  rw [PySem.F.cmp_object.ne.bind]
  split
  · exact wpAny_bind (wpAny_pure (wpAny_pure fin))
  · exact wpAny_tryCatch (wpAny_bind (wpAny_pure (wpAny_pure fin)))
theorem ne_entry {Q : Fin → Shared → Prop} (hu : A.units < cLine) (X : K.In s.heap) (I : PySem.W.InstAt s.heap x ox C od) (hs : PySem.W.findIn K (.ref C) "__eq__" = some (some (.ref f))) (hf : PySem.W.isFn K (.ref f) = true)
    (h : wpAny (model prog w) A (call (.ref f) [.ref x, b]) (fun v s' => ∃ r, v = .bool r ∧ Q (.done (.ret (.bool (!r)))) s') E s) : wpAny (model prog w) A (Builtin.«object.__ne__» ⟨[.ref x, b], []⟩) Q E s := by
  unfold Builtin.«object.__ne__»
  repeat (first
    | with_reducible refine wpAny_cRoomFor hu ?_
    | (refine wpAny_bind (m := callSpecialIfBound? (.ref x) (Str.ofString "__eq__") [b])
        (PySem.W.ifBound_K X I hs hf (wpAny_mono h (fun r s' hr => by
          obtain ⟨b, rfl, hq⟩ := hr
          repeat (first | exact hq | exact wpAny_pure hq | exact wpAny_truthy_bool hq | (refine wpAny_bind (m := truthy (.bool _)) (wpAny_truthy_bool ?_)) | wp_step)) fun _ _ e => e)))
    | wp_step)
theorem ne_K {Q : Value → Shared → Prop} (hu : A.units + 1 < cLine) (X : K.In s.heap) (I : PySem.W.InstAt s.heap x ox C od) (hb : PySem.W.Looks (model prog w) s.heap (typeOf b) tb) (hn : PySem.W.notFirst K C tb = true)
    (hne : PySem.W.findIn K (.ref C) "__ne__" = some (some (.builtin "object.__ne__"))) (hm : PySem.W.mroIn K C (.type "object") = some true) (hs : PySem.W.findIn K (.ref C) "__eq__" = some (some (.ref f))) (hf : PySem.W.isFn K (.ref f) = true)
    (h : wpAny (model prog w) A.in1 (call (.ref f) [.ref x, b]) (fun v s' => ∃ r, v = .bool r ∧ Q (.bool (!r)) s') E s) : wpAny (model prog w) A (richCompare .NotEq (.ref x) b) Q E s := by
  have sub : PySem.W.Looks (model prog w) s.heap (isInstance (.ref x) (.type "object")) true := I.type.andThen (PySem.W.looks_mroIn X hm)
  have one : wpAny (model prog w) A (tryCompare (.ref x) "__ne__" b) (fun r s' => ∃ v, r = some v ∧ Q v s') E s := by
    unfold tryCompare
    refine wpAny_bind (ne_ifBound X I hne (wpAny_call (codeAny_call_builtin PySem.F.cmp_object.ne.plain PySem.F.cmpEntry_ne (PySem.W.check_slot PySem.F.cmpKind_ne PySem.F.cmpSplit_ne sub (PySem.F.cmpArgs_ne _ _) (ne_entry (A := A.in1) hu X I hs hf (wpAny_mono h (fun v s' hv => ?_) fun _ _ e => e))))))
    obtain ⟨r, rfl, hq⟩ := hv
    first | exact ⟨r, rfl, wpAny_pure ⟨_, rfl, hq⟩⟩ | exact ⟨r, rfl, wpAny_pure (wpAny_pure ⟨_, rfl, hq⟩)⟩
  unfold richCompare
  simp only [oneThing_ref]
  refine wpAny_holding (wpAny_bind (wpAny_cRoomFor (Nat.lt_of_succ_lt hu) ?_))
  refine wpAny_bind (I.type.here (wpAny_bind (hb.here ?_)))
  split
  · rename_i q
    have e : PySem.W.subIn K tb (.ref C) = some false := by
      rcases Bool.or_eq_true_iff.mp hn with e | e
      · rw [beq_iff_eq.mp e] at q; simp at q
      · exact beq_iff_eq.mp e
    refine wpAny_bind ((PySem.W.looks_subIn X e).here ?_)
    simp only [Bool.false_eq_true, if_false]
    refine wpAny_bind (wpAny_mono one (fun r s' z => ?_) fun _ _ e => e)
    obtain ⟨v, rfl, hq⟩ := z
    exact wpAny_pure hq
  · refine wpAny_bind (wpAny_pure ?_)
    simp only [Bool.false_eq_true, if_false]
    refine wpAny_bind (wpAny_mono one (fun r s' z => ?_) fun _ _ e => e)
    obtain ⟨v, rfl, hq⟩ := z
    exact wpAny_pure hq
end
/-! ### == and != of the package's own objects -/
/-- what ==, != and isinstance ask of the class at C -/
structure OwEq (K : PySem.W.Frag) (C : Addr) : Prop where
  cl : Cls K C
  ne : PySem.W.findIn K (.ref C) "__ne__" = some (some (.builtin "object.__ne__"))
  nf : ∀ t ∈ kinds, PySem.W.subIn K (.type t) (.ref C) = some false
  ha : PySem.W.findIn K (.ref C) "__class__" = some (some (.builtin "object.__class__"))
  hn : PySem.W.specialIn K (.builtin "object.__class__") "__get__" = some (some (.builtin "getset_descriptor.__get__"))
  ht : PySem.W.takesIn K (.builtin "object.__class__") = some true
  mo : PySem.W.mroIn K C (.type "object") = some true
  me : PySem.W.kitOne K (.ref C) (.ref C) = some true
  no : ∀ t ∈ kinds, PySem.W.kitOne K (.type t) (.ref C) = some false
/-- a value of a built-in kind, or an object of the class -/
def kdC (c : Str) : D → Bool
  | .obj c' _ => decide (c' = c)
  | d => (tyS d).isSome
section
variable {X : Cx} {ad : Str → Addr} {E : L2.St → XK} {Ed : DXt} {a b e : Expr} {fa fb : DE} {pos : Pos} {c : Str} {C : Addr} {dsp : DSp} {n k j : Nat} {ps : List Str}
theorem kd_ty {K : PySem.W.Frag} {B : Addr → Prop} {H : Hp} {v : V} {d : D} (o : OwEq K (ad c)) (h : Dx ad (Fz B H) v d) (e : kdC c d = true) : ∃ t, TyX K H v t ∧ PySem.W.notFirst K (ad c) t = true ∧ PySem.W.kitOne K t (.ref (ad c)) = some (tyS d).isNone := by
  have key : ∀ t, tyS d = some t → ∃ t, TyX K H v t ∧ PySem.W.notFirst K (ad c) t = true ∧ PySem.W.kitOne K t (.ref (ad c)) = some (tyS d).isNone := fun t et => by
    have mem : t ∈ kinds := by cases d <;> cases et <;> simp [kinds]
    refine ⟨_, h.ty et, ?_, by rw [et]; exact o.no t mem⟩
    unfold PySem.W.notFirst
    rw [o.nf t mem]; simp
  cases h with
  | obj ea ra =>
    have e := of_decide_eq_true e
    subst e
    exact ⟨_, .base (.ins ea.2 o.cl o.ha o.hn o.ht o.mo), by unfold PySem.W.notFirst; simp, o.me⟩
  | _ => exact key _ rfl
def rOwnD (K : PySem.W.Frag) (C : Addr) (sp : Sp) (neg : Bool) : R2 := fun x y H Q => ∃ a dx fs t, x = .ref a ∧ H a = some (.ins C dx fs) ∧ TyX K H y t ∧ PySem.W.notFirst K C t = true ∧ sp [x, y] H (fun v H' => ∃ r, v = .bl r ∧ Q (.bl (ng neg r)) H') E0
theorem pass0 : Passes (L2.CX X.prog X.w) X E0 := fun _ _ _ _ _ _ _ ⟨_, _, _, _, _, _, _, _, _, _, _, _, h⟩ => h.elim
theorem op_ownEq {sp : Sp} {g : Addr} (F : FnR X.prog X.w X.K X.mg X.base (L2.CX X.prog X.w) n g sp) (hr : Room n X.A) (m : Meth X.K C "__eq__" g) : OpR X (compareOp .Eq) (rOwnD X.K C sp false) := by
  intro pins s σ H x y v u Q I rx ry h
  obtain ⟨a, dx, fs, t, rfl, ha, ty, hn, q⟩ := h
  cases (show v = Value.ref a from rx)
  obtain ⟨mA, J, _⟩ := ins_get I.hok ha
  obtain ⟨od, J, _⟩ := J.look
  obtain ⟨P, Z, p, _⟩ := kit_of I ry ty
  obtain ⟨mf, hF⟩ := I.fr
  refine PySem.W.cmp_K (op := .Eq) (tb := t) hr.units0 hF I.ok.mod.kin J (Z.ty _ _ I.kIn p) hn m.at_ m.fn ?_
  refine wpAny_mono (wpAny_call (run_fnR (us := [.ref a, u]) (vs := [.ref a, y]) F hr pass0 I (.cons rfl (.cons ry .nil)) q)) (fun w s' z => ?_) fun _ _ x => x
  obtain ⟨z', H', I', rz, r, e, qz⟩ := z
  subst e
  refine SlX.cmpback rz ⟨.bl r, H', I', rz, qz⟩
theorem op_ownNe {sp : Sp} {g : Addr} (F : FnR X.prog X.w X.K X.mg X.base (L2.CX X.prog X.w) n g sp) (hr : Room (n + 1) X.A) (m : Meth X.K C "__eq__" g) (o : OwEq X.K C) : OpR X (compareOp .NotEq) (rOwnD X.K C sp true) := by
  intro pins s σ H x y v u Q I rx ry h
  obtain ⟨a, dx, fs, t, rfl, ha, ty, hn, q⟩ := h
  cases (show v = Value.ref a from rx)
  obtain ⟨mA, J, _⟩ := ins_get I.hok ha
  obtain ⟨od, J, _⟩ := J.look
  obtain ⟨P, Z, p, _⟩ := kit_of I ry ty
  have hu := hr.units5
  refine ne_K (tb := t) (by omega) I.kIn J (Z.ty _ _ I.kIn p) hn o.ne o.mo m.at_ m.fn ?_
  refine wpAny_mono (wpAny_call (SlX.run_at (A := X.A.in1) (us := [.ref a, u]) (ws := [.ref a, y]) F hr.in1 I.env0.in1 pass0 I (.cons rfl (.cons ry .nil)) q)) (fun w s' z => ?_) fun _ _ x => x
  obtain ⟨z', H', I', rz, r, e, qz⟩ := z
  subst e
  cases (show w = Value.bool r from rz)
  exact ⟨r, rfl, .bl (!r), H', I', rfl, qz⟩
def oOwn (neg : Bool) (c : Str) (f : DSp) : D → D → (D → Prop) → Prop := fun x y Q => match x with
  | .obj c' fs => c' = c ∧ kdC c y = true ∧ f [.dat (.obj c' fs), .dat y] (fun d => ∃ b, d = .bl b ∧ Q (.bl (ng neg b))) fun _ _ => False
  | _ => False
theorem dOwn {K : PySem.W.Frag} {neg : Bool} (o : OwEq K (ad c)) : OpD ad (rOwnD K (ad c) (spD ad dsp) neg) (oOwn neg c dsp) := fun B s H x y dx dy Qd Q w da db h k => by
  unfold oOwn at h
  cases da with
  | obj ea ra =>
    obtain ⟨rfl, hk, h⟩ := h
    obtain ⟨t, ty, hn, _⟩ := kd_ty o db hk
    refine ⟨_, _, _, t, rfl, ea.2, ty, hn, B, s, _, _, _, w, .cons (a := .dat _) (.obj ea ra) (.cons (a := .dat _) db .nil), h, fun d v H' ⟨r, e, q⟩ f dv => ?_, fun cn d v x H' hd => hd.elim⟩
    subst e
    cases dv
    exact ⟨r, rfl, k _ _ H' q f (.bl _)⟩
  | _ => exact h.elim
theorem pdOwnEq (D : MetX X.prog X.w X.K X.mg X.base ad k c "__eq__" ps dsp) (o : OwEq X.K (ad c)) (hr : Room j X.A) (ha : PD X ad E Ed a fa) (hb : PD X ad E Ed b fb) (hm : behindInMarks .Eq b = false) (hk : k ≤ j := by decide) : PD X ad E Ed (.Compare a [.Eq] [b] pos) (e2 (oOwn false c dsp) fa fb) := by
  obtain ⟨g, fd, F, m, hb'⟩ := D.ex
  have F := (F.raw hb' .nil).imp (sp' := spD ad dsp) fun vs H Q E h => by rw [List.append_nil]; exact h
  exact pdCmp (op_ownEq F (hr.mono hk) m) (dOwn o) ha hb hm
theorem tdOwnEq (D : MetX X.prog X.w X.K X.mg X.base ad k c "__eq__" ps dsp) (o : OwEq X.K (ad c)) (hr : Room j X.A) (ha : PD X ad E Ed a fa) (hb : PD X ad E Ed b fb) (hm : behindInMarks .Eq b = false) (hk : k ≤ j := by decide) : TD X ad E Ed (.Compare a [.Eq] [b] pos) (t2 (oOwn false c dsp) fa fb) := by
  obtain ⟨g, fd, F, m, hb'⟩ := D.ex
  have F := (F.raw hb' .nil).imp (sp' := spD ad dsp) fun vs H Q E h => by rw [List.append_nil]; exact h
  exact tdCmp (op_ownEq F (hr.mono hk) m) (dOwn o) ha hb hm
theorem pdOwnNe (D : MetX X.prog X.w X.K X.mg X.base ad k c "__eq__" ps dsp) (o : OwEq X.K (ad c)) (hr : Room j X.A) (ha : PD X ad E Ed a fa) (hb : PD X ad E Ed b fb) (hm : behindInMarks .NotEq b = false) (hk : k + 1 ≤ j := by decide) : PD X ad E Ed (.Compare a [.NotEq] [b] pos) (e2 (oOwn true c dsp) fa fb) := by
  obtain ⟨g, fd, F, m, hb'⟩ := D.ex
  have F := (F.raw hb' .nil).imp (sp' := spD ad dsp) fun vs H Q E h => by rw [List.append_nil]; exact h
  exact pdCmp (op_ownNe F (hr.mono hk) m o) (dOwn o) ha hb hm
theorem tdOwnNe (D : MetX X.prog X.w X.K X.mg X.base ad k c "__eq__" ps dsp) (o : OwEq X.K (ad c)) (hr : Room j X.A) (ha : PD X ad E Ed a fa) (hb : PD X ad E Ed b fb) (hm : behindInMarks .NotEq b = false) (hk : k + 1 ≤ j := by decide) : TD X ad E Ed (.Compare a [.NotEq] [b] pos) (t2 (oOwn true c dsp) fa fb) := by
  obtain ⟨g, fd, F, m, hb'⟩ := D.ex
  have F := (F.raw hb' .nil).imp (sp' := spD ad dsp) fun vs H Q E h => by rw [List.append_nil]; exact h
  exact tdCmp (op_ownNe F (hr.mono hk) m o) (dOwn o) ha hb hm
/-- isinstance(x, C), C a class of the package's -/
def eIsO (c : Str) (f : DE) : DE := fun ρ Q Ed => f ρ (fun d => kdC c d = true ∧ Q (.bl (tyS d).isNone)) Ed
theorem pdIsO {p p2 : Pos} (o : OwEq X.K (ad c)) (hg : Gl X "isinstance") (hm : X.mg "isinstance" = none) (gT : Gl X c) (mT : X.mg c = some (.ref (ad c))) (ha : PD X ad E Ed e fa)
    (hdb : (c == ("__debug__" : Str)) = false := by decide)
    (hs : starEach [e, .Name c p2] X.env = (false, eval e X.env) :: starEach [.Name c p2] X.env := by rfl) (hs2 : starEach [.Name c p2] X.env = (false, eval (.Name c p2) X.env) :: starEach [] X.env := by rfl) (hpl : (backTo pos (starEach [.Name c p2] X.env)).any (·.1) = false := by rfl) :
    PD X ad E Ed (.Call (.Name "isinstance" p) [e, .Name c p2] [] pos) (eIsO c fa) :=
  ⟨weakE (pe_callB call_isi hg hm PyProof.Rows.boot_isinstance (pa_cons ha.pe (pa_cons (pe_glob (v := .ref (ad c)) gT mT rfl hdb) pa_nil hs2) hs) (by decide) (by decide) hs hpl) fun σ H Q ⟨B, s, ρ, Qd, W, h, k⟩ => ⟨B, s, ρ, _, W, h, fun d v H1 hd f1 dv => by
    obtain ⟨hk, hd⟩ := hd
    obtain ⟨t, ty, _, hki⟩ := kd_ty o dv hk
    exact ⟨v, .ref (ad c), t, _, _, rfl, .own _, ty, hki, k _ _ H1 hd f1 (.bl _)⟩⟩⟩
end
end DL

set_option Elab.async false
set_option linter.all false
set_option maxRecDepth 100000
set_option maxHeartbeats 4000000
namespace DL
open PySem PySem.Spec PySem.W PySem.SeqAt PySem.Calls PyProof.Rows L2 BT
/-! ### sorted, of tuples of whole numbers -/
def tupI (l : List Int) : D := .tup (l.map .int)
def pyI (l : List Int) : PyData := .tuple (l.map .int)
theorem le_ints (a b : List Int) : sortLe (listOrd itemOrd) false keyToks (pyI a) (pyI b) = !decide (b < a) := by
  show (!PyProof.Rows.lexLt itemOrd (keyToks (pyI b)) (keyToks (pyI a))) = _
  rw [← dataLt_ints]
  rfl
theorem pyI_inj : ∀ {a b : List Int}, pyI a = pyI b → a = b := by
  have key : ∀ {a b : List Int}, a.map PyData.int = b.map PyData.int → a = b := by
    intro a
    induction a with
    | nil => intro b h; cases b with
      | nil => rfl
      | cons => cases h
    | cons x a ih =>
      intro b h
      cases b with
      | nil => cases h
      | cons y b =>
        injection h with h1 h2
        injection h1 with h1
        rw [h1, ih h2]
  intro a b h
  injection h with h
  exact key h
/-- the order in which sorted tells them -/
def SrtT (ls : List (List Int)) : Prop := ls.Pairwise fun a b => ¬ b < a
theorem sortD_ints (ls : List (List Int)) : ∃ ls' : List (List Int), sortD (ls.map pyI) = ls'.map pyI ∧ ls'.Perm ls ∧ SrtT ls' := by
  refine ⟨ls.mergeSort fun a b => !decide (b < a), ?_, List.mergeSort_perm _ _, ?_⟩
  · unfold sortD
    rw [← sort_maps (f := pyI) (r := fun a b => !decide (b < a))]
    exact fun a _ b _ => (le_ints a b).symm
  · unfold SrtT
    refine List.Pairwise.imp (R := fun a b => (fun a b => !decide (b < a)) a b = true) (fun h => by simpa using h) (List.pairwise_mergeSort (fun a b c h1 h2 => ?_) (fun a b => ?_) ls)
    · have := (sortLe_total (listOrd itemOrd) false keyToks).trans (pyI a) (pyI b) (pyI c) (by rw [le_ints]; exact h1) (by rw [le_ints]; exact h2)
      rw [le_ints] at this; exact this
    · have := (sortLe_total (listOrd itemOrd) false keyToks).total (pyI a) (pyI b)
      rw [le_ints, le_ints] at this
      simpa using this
theorem srtT_one {a b : List (List Int)} (p : a.Perm b) (ha : SrtT a) (hb : SrtT b) : a = b :=
  List.Perm.eq_of_pairwise (le := fun a b => ¬ b < a) (fun x y _ _ h1 h2 => List.le_antisymm h1 h2) ha hb p
section
variable {X : Cx}
def rSortedG (K : PySem.W.Frag) : List V → Hp → VK → Prop := fun vs H Q => ∃ (a : Addr) (xs : List V) (ds : List PyData) (G : V → PyData → Prop), vs = [V.ref a] ∧ H a = some (.lst xs) ∧ EachIs G xs ds ∧ (∀ x d, G x d → Dv H x d) ∧ (∀ d ∈ ds, TupD d) ∧ ∀ (ys : List V) (p : Addr), EachIs G ys (sortD ds) → H p = none → Q (.ref p) (upd H p (.lst ys))
theorem eachG_of {G : V → PyData → Prop} : ∀ {xs : List V} {ds : List PyData} {vs : List Value}, EachIs G xs ds → Vals xs vs → EachIs (fun v d => ∃ x, RelV x v ∧ G x d) vs ds
  | _, _, _, .nil, .nil => .nil
  | _, _, _, .cons h1 h2, .cons r1 r2 => .cons ⟨_, r1, h1⟩ (eachG_of h2 r2)
theorem of_eachG {G : V → PyData → Prop} : ∀ {ds : List PyData} {vs : List Value}, EachIs (fun v d => ∃ x, RelV x v ∧ G x d) vs ds → ∃ xs, Vals xs vs ∧ EachIs G xs ds
  | _, _, .nil => ⟨[], .nil, .nil⟩
  | _, _, .cons h t => by
    obtain ⟨x, r, d⟩ := h
    obtain ⟨xs, rs, ds⟩ := of_eachG t
    exact ⟨x :: xs, .cons r rs, .cons d ds⟩
theorem cr_sortedG (hu : X.A.units + 64 < cLine) : CallR X (.builtin "sorted") (rSortedG X.K) := by
  intro pins s σ H vs us Q I r h
  obtain ⟨a, xs, ds, G, rfl, ha, hA, hG, ht, q⟩ := h
  obtain ⟨u, rfl, r1⟩ := vals1 r
  cases (show u = Value.ref a from r1)
  obtain ⟨its, rv, pl, hz⟩ := I.list (.inl (.inl ha))
  have lv := rv.length
  have I2 : Inv X pins σ H { s with heap := sortingHeap (copyHeap s.heap its) (s.heap.objs.size + 1) its, toks := s.toks } := I.kept fun b o e => sorting_copy_old e
  have each := eachG_of hA rv
  have reads : EachIs (fun v d => ∃ as, Reads (sortingHeap (copyHeap s.heap its) (s.heap.objs.size + 1) its) v d as) its ds := each.mono fun v d h => by
    obtain ⟨x, rx, dx⟩ := h
    obtain ⟨as, h1, _⟩ := Dv.reads I2 d x v (hG _ _ dx) rx
    exact ⟨as, h1⟩
  have hal := tups_alike ht
  have S : SortsAt X.prog X.w X.A.in1.in1 { s with heap := sortingHeap (copyHeap s.heap its) (s.heap.objs.size + 1) its } (dataKind (sortingHeap (copyHeap s.heap its) (s.heap.objs.size + 1) its) ds) its :=
    sorts_tups (s := { s with heap := sortingHeap (copyHeap s.heap its) (s.heap.objs.size + 1) its }) reads hal (fun d hd => by obtain ⟨ns, e⟩ := ht d hd; exact ⟨_, e⟩) fun d hd => by
      have := tup_depth (ht d hd)
      show X.A.units + 1 + 1 + d.depth < cLine
      omega
  refine sorted_vals pl.isList S (by rw [← lv]; exact hz) ?_
  have keys : EachIs (fun v d => (dataKind (sortingHeap (copyHeap s.heap its) (s.heap.objs.size + 1) its) ds).keyOf v = some (keyToks d)) its ds := (each_and reads (S := fun d => d ∈ ds) fun d hd => hd).mono fun v d h => by
    obtain ⟨⟨as, r⟩, hd⟩ := h
    exact dataKind_some hal hd r
  have out := sortVals_each (κ := dataKind (sortingHeap (copyHeap s.heap its) (s.heap.objs.size + 1) its) ds) (rev := false) keyToks each keys
  obtain ⟨ys, ry, hy⟩ := of_eachG out
  obtain ⟨ep, he⟩ := PyProof.Rows.sortedAll_at s.heap its (sortVals (dataKind (sortingHeap (copyHeap s.heap its) (s.heap.objs.size + 1) its) ds) false its its).toArray
  refine ⟨.ref _, upd H (s.heap.objs.size + 1) (.lst ys), I.laid (t' := s.toks) (fun _ _ => PyProof.Rows.sortedAll_old) (Nat.le_succ _) ⟨?_, _, ep, ry, he⟩, rfl, q ys _ hy (I.hok.fresh (Nat.le_succ _))⟩
  rw [ry.length, sortVals_length false rfl, ← lv]
  exact hz
end
section
variable {X : Cx} {ad : Str → Addr} {E : L2.St → XK} {Ed : DXt} {e : Expr} {ga : DA} {n : Nat} {p : Pos} {pos : Pos}
def oSrtT : List D → (D → Prop) → Prop
  | [.lst xs], Q => ∃ ls : List (List Int), xs = ls.map tupI ∧ ∀ ls' : List (List Int), ls'.Perm ls → SrtT ls' → Q (.lst (ls'.map tupI))
  | _, _ => False
theorem pyR_ints (l : List Int) : pyR (tupI l) = some (pyI l) := by
  have key : ∀ l : List Int, pyRs (l.map D.int) = some (l.map PyData.int) := by
    intro l
    induction l with
    | nil => rfl
    | cons x l ih =>
      rw [List.map_cons]
      simp only [pyRs, pyR, ih]
      rfl
  unfold tupI pyI
  simp only [pyR, key]
  rfl
theorem each_tups {F : Addr → HO → Prop} : ∀ {xs : List V} {ls : List (List Int)}, DxA ad F xs (ls.map tupI) → EachIs (fun x d => ∃ l, d = pyI l ∧ Dx ad F x (tupI l)) xs (ls.map pyI)
  | _, [], h => by cases h; exact .nil
  | _, l :: ls, h => by
    cases h with
    | cons a r => exact .cons ⟨l, rfl, a⟩ (each_tups r)
theorem of_tups {F : Addr → HO → Prop} : ∀ {xs : List V} {ls : List (List Int)}, EachIs (fun x d => ∃ l, d = pyI l ∧ Dx ad F x (tupI l)) xs (ls.map pyI) → DxA ad F xs (ls.map tupI)
  | _, [], h => by cases h; exact .nil
  | _, l :: ls, h => by
    cases h with
    | cons a r =>
      obtain ⟨l', e, d⟩ := a
      cases pyI_inj e
      exact .cons d (of_tups r)
theorem pdSrtT (hu : X.A.units + 64 < cLine) (hg : Gl X "sorted") (hm : X.mg "sorted" = none) (ha : AD X ad E Ed [e] n ga) (he : starEach [e] X.env = (false, eval e X.env) :: starEach [] X.env := by rfl) (hpl : (backTo pos (starEach [] X.env)).any (·.1) = false := by rfl) : PD X ad E Ed (.Call (.Name "sorted" p) [e] [] pos) (eB oSrtT ga) :=
  pdB (cr_sortedG hu) (fun B s H vs ds Qd Q w da h k => by
    unfold oSrtT at h
    split at h
    · obtain ⟨ls, e, h⟩ := h
      subst e
      cases da with
      | cons a r => cases r; cases a with
        | lst ea ra =>
          refine ⟨_, _, ls.map pyI, fun x d => ∃ l, d = pyI l ∧ Dx ad (Fz B H) x (tupI l), rfl, ea.2, each_tups ra, ?_, ?_, fun ys p hy hp => ?_⟩
          · rintro x d ⟨l, rfl, dx⟩
            exact dx.dv (pyR_ints l)
          · intro d hd
            obtain ⟨l, _, rfl⟩ := List.mem_map.mp hd
            exact ⟨l, rfl⟩
          · obtain ⟨ls', e, hp', hs⟩ := sortD_ints ls
            rw [e] at hy
            exact k _ _ _ (h ls' hp' hs) (w.new hp) (.lst ⟨w.nb hp, upd_same⟩ ((of_tups hy).mono (w.fz (w.new hp))))
    · exact h.elim) hg hm (by decide +kernel) ha (by decide) (by decide) he hpl
end
section
variable {X : Cx} {ad : Str → Addr} {E : L2.St → XK} {Ed : DXt} {pos : Pos}
theorem pdDct0 : PD X ad E Ed (.Dict [] [] pos) (eC (.dct [])) :=
  ⟨weakE pe_dnewK fun σ H Q ⟨B, s, ρ, Qd, W, h, k⟩ => fun p hp => k _ _ _ h (W.wd.new hp) (.dct ⟨W.wd.nb hp, upd_same⟩ .nil)⟩
end
end DL

set_option Elab.async false
set_option linter.all false
set_option maxRecDepth 100000
set_option maxHeartbeats 4000000
namespace DL
open PySem PySem.Spec PyProof.Rows L2 BT
/-! ### the law's own def: from its source on -/
def spLaw (K : PySem.W.Frag) : Sp := fun vs H Q _ => ∃ (a : Addr) (ns : List Int), vs = [.ref a] ∧ SqL K H a (ns.map V.int) ∧ ∀ H', Q (.bl true) H'
theorem law_rep {ad : Str → Addr} {l p : Addr} {H : Hp} {σ : L2.St} {n : Nat} (src : Src l p H) (h1 : σ[1]? = some (some (.ref p))) (hl : σ.length = n + 2) :
    Rep ad ⟨fun b => b = p ∨ b = l, some (l, p), fun b o => False⟩ (fun _ => none) H σ (.un :: .src :: List.replicate n .un) := by
  have hB : ∀ b, Bl ⟨fun b => b = p ∨ b = l, some (l, p), fun b o => False⟩ (fun _ => none) b ↔ b = p ∨ b = l := fun b => ⟨fun h => h.elim id fun ⟨i, e⟩ => (nomatch e), .inl⟩
  have sl : ∀ (i : Nat) (sl : Sl), (Sl.un :: Sl.src :: List.replicate n Sl.un)[i]? = some sl → sl = .un ∨ (i = 1 ∧ sl = .src) := fun i sl e => by
    match i, e with
    | 0, e => exact .inl (Option.some.inj e).symm
    | 1, e => exact .inr ⟨rfl, (Option.some.inj e).symm⟩
    | i + 2, e =>
      have e : (List.replicate n Sl.un)[i]? = some sl := e
      rw [List.getElem?_replicate] at e
      split at e
      · exact .inl (Option.some.inj e).symm
      · cases e
  refine ⟨⟨fun b h => ?_, fun l' a' e => ?_⟩, fun l' a' e => ?_, fun b o q => q.elim, fun i p e => (nomatch e), fun i j p e => (nomatch e), fun i sl' e => ?_, fun i xs e => ?_, fun i xs e => ?_, ?_⟩
  · rcases (hB b).mp h with rfl | rfl
    · obtain ⟨i, x, c, cl, n, y, _, h1⟩ := src.at_
      exact ⟨_, h1, fun _ e => (nomatch e)⟩
    · obtain ⟨ns, h2⟩ := src.nums
      exact ⟨_, h2, fun _ e => (nomatch e)⟩
  · cases e
    exact ⟨src, .inl (.inl rfl), .inl (.inr rfl)⟩
  · cases e
    exact ⟨.inl rfl, .inr rfl, fun o q => q.elim⟩
  · rcases sl i sl' e with rfl | ⟨rfl, rfl⟩
    · trivial
    · exact ⟨l, p, rfl, h1⟩
  · rcases sl i _ e with e | ⟨_, e⟩ <;> cases e
  · rcases sl i _ e with e | ⟨_, e⟩ <;> cases e
  · rw [hl]; simp
theorem law_go {ad : Str → Addr} {l p : Addr} {H : Hp} {σ : L2.St} {n : Nat} {g : DS} {Q : VK} (src : Src l p H) (h1 : σ[1]? = some (some (.ref p))) (hl : σ.length = n + 2) (k : ∀ H', Q (.bl true) H')
    (sem : g { nx := fun _ => False, rt := fun d => d = .bl true } (.un :: .src :: List.replicate n .un) fun _ _ _ => False) : tsD ad (fun _ => E0) (fun _ _ _ => False) g { nx := fun _ H' => Q .non H', rt := Q } σ H :=
  ⟨_, _, _, { nx := fun _ => False, rt := fun d => d = .bl true }, law_rep src h1 hl, ⟨fun P σ ρ H cn d v x _ _ _ q => q.elim⟩, ⟨fun P σ ρ H _ q => q.elim, fun P σ ρ H _ q => q.elim, fun P σ ρ H _ q => q.elim, fun P σ ρ H d v _ dv q => by
    subst q
    cases dv
    exact k H⟩, sem⟩
end DL

set_option Elab.async false
set_option linter.all false
set_option maxRecDepth 100000
set_option maxHeartbeats 2000000
namespace DL
open PySem PySem.Spec PyProof.Rows L2 BT
/-! ### the head: classes with an own == -/
def owB (K : PySem.W.Frag) (c : Str) : Bool :=
  He.eqO (PySem.W.findIn K (.ref (He.ga K c)) "__ne__") (some (some (.builtin "object.__ne__"))) && (kinds.all (fun t => decide (PySem.W.subIn K (.type t) (.ref (He.ga K c)) = some false)) && (He.eqO (PySem.W.findIn K (.ref (He.ga K c)) "__class__") (some (some (.builtin "object.__class__"))) &&
  (He.eqO (PySem.W.specialIn K (.builtin "object.__class__") "__get__") (some (some (.builtin "getset_descriptor.__get__"))) && (decide (PySem.W.takesIn K (.builtin "object.__class__") = some true) && (decide (PySem.W.mroIn K (He.ga K c) (.type "object") = some true) &&
  (decide (PySem.W.kitOne K (.ref (He.ga K c)) (.ref (He.ga K c)) = some true) && kinds.all (fun t => decide (PySem.W.kitOne K (.type t) (.ref (He.ga K c)) = some false))))))))
theorem owB_ok {K : PySem.W.Frag} {c : Str} (cl : Cls K (He.ga K c)) (b : owB K c = true) : OwEq K (He.ga K c) := by
  unfold owB at b
  simp only [Bool.and_eq_true, decide_eq_true_eq, List.all_eq_true] at b
  obtain ⟨b1, b2, b3, b4, b5, b6, b7, b8⟩ := b
  exact ⟨cl, He.eqO_ok b1, b2, He.eqO_ok b3, He.eqO_ok b4, b5, b6, b7, b8⟩
def obsZ (fa : List He.Fa) (fn : List He.DefD) (xs os : List Str) (K : PySem.W.Frag) : AlX := (xs.all (errB K) && os.all (owB K), He.obsD fa fn K)
def obsZG (n : Nat) (fa : List He.Fa) (fn : List He.DefD) (xs os : List Str) (g : Addr → Option Obj) : AlX := obsZ fa fn xs os (He.frG g (He.asD g n))
def hookZ (n : Nat) (fa : List He.Fa) (fn : List He.DefD) (xs os : List Str) : PySem.W.Hook where
  α := AlX
  obs := fun s => obsZG n fa fn xs os s.heap.get?
  val := fun _ => (true, He.valD fn)
  says := fun _ h => ∃ K : PySem.W.Frag, K.In h ∧ (xs.all (errB K) && os.all (owB K)) = true ∧ He.SaysD fa fn K
  of := fun _ _ e => ⟨_, He.frG_in, congrArg (fun z : AlX => z.1) e, congrArg (fun z : AlX => z.2) e⟩
  keeps := fun _ _ _ h k => by
    obtain ⟨K, h1, h2, h3⟩ := h
    exact ⟨K, PySem.W.Frag.In.keeps h1 k, h2, h3⟩
theorem obsZG_eq {n : Nat} {fa : List He.Fa} {fn : List He.DefD} {xs os : List Str} {g : Addr → Option Obj} {s : Shared} (h : ∀ a, g a = s.heap.get? a) : obsZG n fa fn xs os g = (hookZ n fa fn xs os).obs s := by
  cases (show g = s.heap.get? from funext h)
  rfl
theorem ow_of {K : PySem.W.Frag} {xs : List Str} (c : xs.all (owB K) = true) (i : Nat) {x : Str} (h : xs[i]? = some x := by rfl) : owB K x = true := List.all_eq_true.mp c x (List.mem_of_getElem? h)
/-- one class -/
theorem tab_one {K : PySem.W.Frag} {ad : Str → Addr} {c : Str} {fs : List Str} (cl : Cls K (ad c)) (no : ∀ f ∈ fs, NoAttr K (ad c) f) : ClsTab K ad [(c, fs)] := by
  have one : ∀ (c' : Str) (fs' : List Str), List.lookup c' [(c, fs)] = some fs' → c' = c ∧ fs' = fs := fun c' fs' h => by
    rw [List.lookup_cons] at h
    split at h
    · rename_i q
      exact ⟨by simpa using q, (Option.some.inj h).symm⟩
    · simp at h
  exact ⟨fun c' fs' h => by obtain ⟨rfl, rfl⟩ := one c' fs' h; exact cl, fun c' fs' h => by obtain ⟨rfl, rfl⟩ := one c' fs' h; exact no⟩
end DL

set_option Elab.async false
set_option linter.all false
set_option maxRecDepth 100000
namespace BT
open PySem PySem.Spec PyProof.Rows L2
def top (i : Nat) : Stmt := PySem.Challenge.pw_blindtwins_k03_whole_words.main.body.getD i (.Pass ⟨0, 0, 0, 0⟩)
abbrev s_wall : Stmt := top 0
abbrev s_BlindError_init : Stmt := inClass (top 2) 0
abbrev s_mask_of : Stmt := top 9
abbrev s_lot_of : Stmt := top 10
abbrev s_lowest : Stmt := top 11
abbrev s_picked : Stmt := top 12
abbrev s_cleared : Stmt := top 13
abbrev s_sweep : Stmt := top 14
abbrev s_reduce_rows : Stmt := top 15
abbrev s_span : Stmt := top 16
abbrev s_is_number : Stmt := top 20
abbrev s_is_lot : Stmt := top 21
abbrev s_need_lot : Stmt := top 22
abbrev s_need_each_lot : Stmt := top 23
abbrev s_need_lots : Stmt := top 24
abbrev s_Book_init : Stmt := inClass (top 28) 0
abbrev s_Book_eq : Stmt := inClass (top 28) 1
abbrev s_Book_rows : Stmt := inClass (top 28) 2
abbrev s_Book_checks : Stmt := inClass (top 28) 3
abbrev s_Book_holds : Stmt := inClass (top 28) 4
abbrev s_Book_is_check : Stmt := inClass (top 28) 5
abbrev s_Book_tell_same : Stmt := inClass (top 28) 6
abbrev s_Book_turned : Stmt := inClass (top 28) 7
abbrev s_Book_within : Stmt := inClass (top 28) 8
abbrev s_Book_shown : Stmt := inClass (top 28) 9
abbrev s_Book_on : Stmt := inClass (top 28) 10
abbrev s_Book_under : Stmt := inClass (top 28) 11
abbrev s_Book_join : Stmt := inClass (top 28) 12
abbrev s_Book_meet : Stmt := inClass (top 28) 13
abbrev s_Book_beside : Stmt := inClass (top 28) 14
abbrev s_Book_moved : Stmt := inClass (top 28) 15
abbrev s_Book_with_sum : Stmt := inClass (top 28) 16
abbrev s_Book_words : Stmt := inClass (top 28) 17
abbrev s_Book_word_of : Stmt := inClass (top 28) 18
abbrev s_Book_need_places : Stmt := inClass (top 28) 19
abbrev s_told : Stmt := top 29
abbrev s_law_source : Stmt := top 31
abbrev s_law_next : Stmt := top 32
abbrev s_law_mixed : Stmt := top 33
abbrev s_law_draw : Stmt := top 34
abbrev s_law_lot : Stmt := top 35
abbrev s_law_integer : Stmt := top 36
abbrev s_law_flag : Stmt := top 37
abbrev s_law_same : Stmt := top 38
abbrev s_law_lots_equal : Stmt := top 39
abbrev s_law_copied : Stmt := top 40
abbrev s_law_rolled : Stmt := top 41
abbrev s_law_rows : Stmt := top 42
abbrev s_law_words : Stmt := top 43
abbrev s_law_dim : Stmt := top 44
abbrev s_law_reduced : Stmt := top 45
abbrev s_law_told : Stmt := top 46
abbrev s_law_words_hold : Stmt := top 47
abbrev s_law_sums_hold : Stmt := top 48
abbrev s_law_equal_holds : Stmt := top 49
abbrev s_law : Stmt := top 50
end BT

set_option Elab.async false
set_option linter.all false
set_option maxRecDepth 100000
set_option maxHeartbeats 4000000
namespace BT
open PySem PySem.Spec PyProof.Rows L2
/-- the built-in names that the text leaves alone -/
structure Bi (mg : Str → Option Value) : Prop where
  int : mg "int" = none
  bool : mg "bool" = none
  tuple : mg "tuple" = none
  list : mg "list" = none
  range : mg "range" = none
  len : mg "len" = none
  isinstance : mg "isinstance" = none
  enumerate : mg "enumerate" = none
  abs : mg "abs" = none
  min : mg "min" = none
  repr : mg "repr" = none
theorem lotV_get {l : List Nat} {i : Nat} {x : V} (h : (lotV l)[i]? = some x) : ∃ p, l[i]? = some p ∧ x = .int (p : Int) := by
  unfold lotV at h
  rw [List.getElem?_map] at h
  cases e : l[i]? with
  | none => rw [e] at h; cases h
  | some p => rw [e] at h; exact ⟨p, rfl, (Option.some.inj h).symm⟩
theorem take_snoc {α : Type} {l : List α} {i : Nat} {x : α} (h : l[i]? = some x) : l.take (i + 1) = l.take i ++ [x] := by
  rw [List.take_add_one, h]; rfl
theorem lotV_len (l : List Nat) : (lotV l).length = l.length := List.length_map ..
section
variable {P : Program} {w : World} {K : PySem.W.Frag} {mg : Str → Option Value} {base : Heap}
/-! ### mask_of -/
def spMaskOf : Sp := fun vs H Q _ => ∃ (t : Addr) (l : List Nat), vs = [.ref t] ∧ H t = some (.tup (lotV l)) ∧ (∀ p ∈ l, p < 1000) ∧ Q (.int (maskN l : Nat)) H
theorem bitOr_nat (a b : Nat) : Builtin.bitOr (a : Int) (b : Int) = ((a ||| b : Nat) : Int) := by
  rw [bitOr_and, bitAnd_pp (Int.natCast_nonneg _) (Int.natCast_nonneg _), Int.toNat_natCast, Int.toNat_natCast]
  have := or_and_add a b
  omega
theorem scMaskOf : FnScope ["lot", "mask", "place"] ["lot"] (defScope s_mask_of) := ⟨rfl, rfl, rfl, by decide +kernel, rfl, by decide +kernel, by decide +kernel⟩
theorem ok_mask_of {f : Addr} {fd : FuncData} (F : FnP K "mask_of" s_mask_of f fd) : FnOk P w K mg base CX0 1 f fd ["lot"] spMaskOf := by
  refine F.ok scMaskOf (fun vs H Q E h => ?_) (fun cdv A outer s H vs Q E hr h => ?_)
  · obtain ⟨t, l, rfl, _⟩ := h
    rfl
  · obtain ⟨t, l, rfl, ht, hb, k⟩ := h
    refine ⟨_, PSs.nox (pss_cons (ps_set (i := 1) scMaskOf.nd rfl (Or.inl rfl) pe_int)
      (pss_cons (ps_for PassesOwn.never rfl (pi_tup (pv 0)) (pg_name (i := 2) scMaskOf.nd rfl (Or.inl rfl)) (pss_one (ps_aug (i := 1) scMaskOf.nd rfl (Or.inl rfl) (pe_op op_shl pe_int (pv 2)) iop_or)))
      (pss_one (ps_ret (pv 1))))), ?_⟩
    refine ⟨_, rfl, t, rfl, ⟨_, .inl (.inl ht)⟩, for_tup (K := K) (a := t) (xs := lotV l) (fun i σ H' => H' = H ∧ ∃ v : Option V, σ = [some (.ref t), some (.int (maskN (l.take i) : Nat)), v])
      ⟨rfl, none, rfl⟩ (fun i σ H' _ ⟨e, _⟩ => e ▸ .inl (.inl ht)) ?_ ?_⟩
    · rintro i x σ H' hi ⟨rfl, v, rfl⟩
      obtain ⟨p, hp, rfl⟩ := lotV_get hi
      have hpl := hb p (List.mem_of_getElem? hp)
      refine ⟨_, rfl, _, rfl, 1, (p : Int), rfl, rfl, ⟨by omega, by omega, by decide⟩, _, _, rfl, rfl, ?_⟩
      refine ⟨rfl, some (.int (p : Int)), ?_⟩
      rw [take_snoc hp, maskN_snoc, ← bitOr_nat]
      simp
    · rintro σ H' ⟨rfl, v, rfl⟩
      refine ⟨_, rfl, ?_⟩
      rw [lotV_len, List.take_length]
      exact k
end
end BT

set_option Elab.async false
set_option linter.all false
set_option maxRecDepth 100000
set_option maxHeartbeats 4000000
namespace BT
open PySem PySem.Spec PyProof.Rows L2
theorem intBits_nat (m : Nat) : Builtin.Int.intBits (m : Int) = bitsN m := by
  unfold Builtin.Int.intBits bitsN
  by_cases h : m = 0
  · subst h; rfl
  · rw [if_neg (by simpa using h), if_neg h]; rfl
theorem shr_bit (m p : Nat) : (Builtin.bitAnd ((m : Int) / 2 ^ ((p : Int).toNat)) 1 != 0) = m.testBit p := by
  rw [bitAnd_m1, Int.toNat_natCast, Nat.testBit_eq_decide_div_mod_eq]
  have e : ((m : Int) / 2 ^ p) % 2 = ((m / 2 ^ p % 2 : Nat) : Int) := by
    rw [Int.natCast_emod, Int.natCast_ediv, Int.natCast_pow]; rfl
  rw [e]
  rcases Nat.mod_two_eq_zero_or_one (m / 2 ^ p) with h | h <;> rw [h] <;> rfl
theorem lotB_step (m i : Nat) : lotB (i + 1) m = if m.testBit i = true then lotB i m ++ [i] else lotB i m := by
  unfold lotB
  rw [List.range_succ, List.filter_append]
  by_cases h : m.testBit i = true <;> simp [h]
theorem lotB_yes {m i : Nat} (h : m.testBit i = true) : lotB (i + 1) m = lotB i m ++ [i] := by rw [lotB_step, if_pos h]
theorem lotB_no {m i : Nat} (h : m.testBit i = false) : lotB (i + 1) m = lotB i m := by rw [lotB_step, h]; rfl
theorem lotB_len (n m : Nat) : (lotB n m).length ≤ n := by
  unfold lotB
  exact Nat.le_trans (List.length_filter_le _ _) (by rw [List.length_range]; exact Nat.le_refl _)
section
variable {P : Program} {w : World} {K : PySem.W.Frag} {mg : Str → Option Value} {base : Heap}
/-! ### lot_of -/
def spLotOf : Sp := fun vs H Q _ => ∃ m : Nat, vs = [.int (m : Int)] ∧ m < 2 ^ 1000 ∧ ∀ (p : Addr) (H' : Hp), H p = none → Same H H' → H' p = some (.tup (lotV (lotN m))) → Q (.ref p) H'
/-- mask >> place & 1, as a test -/
def tBitAt (K : PySem.W.Frag) (i j : Nat) : TT := fun σ H Q => (tOp (rI0 fun i j => .int (Builtin.bitAnd i j)) (tOp (rI (fun _ j => 0 ≤ j) fun i j => .int (i / 2 ^ j.toNat)) (tVar i) (tVar j)) (tC (.int 1))) σ H fun x H' => ∃ k, TruV K x H' k ∧ Q k H'
theorem scLotOf : FnScope ["mask", "place"] ["mask"] (defScope s_lot_of) := ⟨rfl, rfl, rfl, by decide +kernel, rfl, by decide +kernel, by decide +kernel⟩
theorem ok_lot_of {f : Addr} {fd : FuncData} (T : Bi mg) (F : FnP K "lot_of" s_lot_of f fd) : FnOk P w K mg base CX0 1 f fd ["mask"] spLotOf := by
  refine F.ok scLotOf (fun vs H Q E h => ?_) (fun cdv A outer s H vs Q E hr h => ?_)
  · obtain ⟨m, rfl, _⟩ := h
    rfl
  · obtain ⟨m, rfl, hm, k⟩ := h
    refine ⟨_, PSs.nox (pss_one (ps_ret (pe_tupleOf rfl T.tuple (pe_lc (own := [("place", 1)]) (g := gName 1) (tt := tBitAt K 0 1) (te := tVar 1) rfl scLotOf.nd (pi_range1 rfl T.range (pa_cons (pe_bits (pv 0)) pa_nil))
      (blkOk_by (N := ["mask", "place"]) (sc := defScope s_lot_of) (by decide +kernel)) (fun _ _ _ _ _ => pg_name (i := 1) scLotOf.nd rfl (Or.inl rfl))
      (fun _ _ _ _ _ => pts_one (by exact pt_truth (pe_op op_and (pe_op op_shr (pv 0) (pv 1)) pe_int) (fun _ => rfl))) (fun _ _ _ _ _ => pv 1))))), ?_⟩
    have hb : bitsN m ≤ 1000 := bitsN_le hm
    refine ⟨_, rfl, (m : Int), rfl, _, rfl, by omega, ?_, fun D hD => ?_⟩
    · rw [intBits_nat]; omega
    rw [intBits_nat, Int.toNat_natCast]
    refine lc_range (lo := 0) (n := bitsN m) (fun i H' => Same H H' ∧ H' D = some (.lst (lotV (lotB i m)))) ⟨Same.new (Same.refl H) hD, upd_same⟩ ?_ ?_
    · rintro i H' hi ⟨s5, hd⟩
      refine ⟨rfl, _, rfl, _, rfl, (m : Int), 0 + (i : Int), rfl, rfl, (by omega), _, _, rfl, rfl, _, rfl, ?_⟩
      rw [Int.zero_add, shr_bit]
      rcases Bool.eq_false_or_eq_true (m.testBit i) with hb | hb
      · rw [hb, lotB_yes hb]
        refine iteT ⟨_, rfl, _, hd, ?_, Same.own s5 hD, ?_⟩
        · rw [lotV_len]
          exact Nat.lt_of_le_of_lt (lotB_len i m) (by rw [sizeLine_eq]; omega)
        · rw [upd_same]
          unfold lotV
          rw [List.map_append]; rfl
      · rw [hb, lotB_no hb]
        exact iteF ⟨s5, hd⟩
    · rintro H' ⟨s5, hd⟩
      refine .inl ⟨D, _, rfl, .inl (.inl hd), fun p hp => ?_⟩
      exact k p _ (s5.free hp) (Same.new s5 hp) upd_same
end
end BT

set_option Elab.async false
set_option linter.all false
set_option maxRecDepth 100000
set_option maxHeartbeats 4000000
namespace BT
open PySem PySem.Spec PyProof.Rows L2
theorem cnt_list (c : Nat) : ∀ l : List Nat, PyProof.Rows.cnt c l = ((l.count c : Nat) : Int)
  | [] => rfl
  | n :: r => by
    rw [PyProof.Rows.cnt_cons, cnt_list c r, List.count_cons]
    by_cases h : n = c <;> simp [h] <;> omega
theorem count_bin (m : Nat) : (Txt.count (binText m) (Str.ofString "1") : Int) = ((pop m : Nat) : Int) := by
  have e : Str.ofString "1" = ⟨#[49]⟩ := rfl
  rw [e, count_cnt, cnt_list]
  congr 1
  show ((Nat.toDigits 2 m).map Char.toNat).count 49 = pop m
  rw [← count_digits m]
  induction Nat.toDigits 2 m with
  | nil => rfl
  | cons c l ih =>
    rw [List.map_cons, List.count_cons, List.count_cons, ih]
    have e2 : (c.toNat == 49) = (c == '1') := by
      by_cases h : c = '1'
      · subst h; rfl
      · have h2 : c.toNat ≠ 49 := fun q => h (by
          apply Char.ext
          apply UInt32.toNat_inj.mp
          exact q)
        rw [beq_eq_false_iff_ne.mpr h, beq_eq_false_iff_ne.mpr h2]
    rw [e2]
section
variable {P : Program} {w : World} {K : PySem.W.Frag} {mg : Str → Option Value} {base : Heap} {tM : Tok}
/-! ### is_number -/
def numD : PyData → Bool
  | .int _ => true
  | _ => false
theorem numD_eq (d : PyData) : (isD "int" d && !isD "bool" d) = numD d := by cases d <;> rfl
def spIsNumber : Sp := fun vs H Q _ => ∃ (v : V) (d : PyData), vs = [v] ∧ Dv H v d ∧ Q (.bl (numD d)) H
theorem scIsNumber : FnScope ["value"] ["value"] (defScope s_is_number) := ⟨rfl, rfl, rfl, by decide +kernel, rfl, by decide +kernel, by decide +kernel⟩
theorem ok_is_number {f : Addr} {fd : FuncData} (T : Bi mg) (F : FnP K "is_number" s_is_number f fd) : FnOk P w K mg base CX0 1 f fd ["value"] spIsNumber := by
  refine F.ok scIsNumber (fun vs H Q E h => ?_) (fun cdv A outer s H vs Q E hr h => ?_)
  · obtain ⟨v, d, rfl, _⟩ := h
    rfl
  · obtain ⟨v, d, rfl, hd, k⟩ := h
    refine ⟨_, PSs.nox (pss_one (ps_ret (pe_and (pe_isD rfl T.isinstance rfl T.int PyProof.Rows.boot_int kit_int (pv 0))
      (pe_one (pe_not (pe_isD rfl T.isinstance rfl T.bool PyProof.Rows.boot_bool kit_bool (pv 0))))))), ?_⟩
    refine ⟨_, rfl, v, d, rfl, hd, _, rfl, ?_⟩
    have e := numD_eq d
    cases hi : isD "int" d with
    | true =>
      rw [hi, Bool.true_and] at e
      refine iteT ⟨_, rfl, v, d, rfl, hd, _, rfl, ?_⟩
      rw [e]
      exact k
    | false =>
      rw [hi, Bool.false_and] at e
      refine iteF ?_
      show Q (.bl false) H
      rw [e]
      exact k
/-! ### is_lot -/
def lotFrom (n : Int) : Int → List PyData → Bool
  | _, [] => true
  | low, .int i :: r => decide (low ≤ i) && decide (i < n) && lotFrom n (i + 1) r
  | _, _ :: _ => false
def isLotD (n : Int) : PyData → Bool
  | .tuple ds => lotFrom n 0 ds
  | _ => false
def sizeD : PyData → Bool
  | .int i => decide (0 ≤ i) && decide (i ≤ 60)
  | _ => false
def spIsLot (C : Addr) : Sp := fun vs H Q E => ∃ (v : V) (d : PyData) (z : V) (e : PyData), vs = [v, z] ∧ Dv H v d ∧ Dv H z e ∧
  (∀ i, e = .int i → 0 ≤ i → i ≤ 60 → Q (.bl (isLotD i d)) H) ∧ (sizeD e = false → ∀ x, H x = none → E (.ref C) (some x) (upd H x (.xd [("what", z)])))
theorem scIsLot : FnScope ["value", "size", "least", "place"] ["value", "size"] (defScope s_is_lot) := ⟨rfl, rfl, rfl, by decide +kernel, rfl, by decide +kernel, by decide +kernel⟩
theorem lotFrom_cons {n low : Int} {d : PyData} {r : List PyData} : lotFrom n low (d :: r) = (numD d && (match d with | .int i => decide (low ≤ i) && decide (i < n) && lotFrom n (i + 1) r | _ => false)) := by
  cases d <;> simp [lotFrom, numD]
theorem ok_is_lot {f C : Addr} {fd : FuncData} (T : Bi mg) (hM : mg "MOST_PLACES" = some (.int 60 tM)) (EC : ErrC P w K mg base "BadSize" C) (DN : DefOk P w K mg base CX0 1 "is_number" ["value"] spIsNumber) (F : FnP K "is_lot" s_is_lot f fd) :
    FnOk P w K mg base (L2.CX P w) 3 f fd ["value", "size"] (spIsLot C) := by
  refine F.ok scIsLot (fun vs H Q E h => ?_) (fun cdv A outer s H vs Q E hr h => ?_)
  · obtain ⟨v, d, z, e, rfl, _⟩ := h
    rfl
  · obtain ⟨v, d, z, e, rfl, hd, he, kY, kN⟩ := h
    have tk : Takes (cxOf (L2.CX P w) P w K mg base ["value", "size", "least", "place"] "is_lot" (defScope s_is_lot) f cdv A outer s H E) (fun cls d _ H => E cls d H) := takes_of rfl rfl rfl rfl
    refine ⟨_, pss_cons (ps_if (PW.pt (pw_or (pt_not (pt_val (pe_d DN hr rfl (pa_cons (pv 1) pa_nil)))) (pw_or1 (pt_not (pt_chain op_le op_le pe_int (pv 1) (pe_glob (v := .int 60) rfl hM ⟨_, rfl⟩))))))
        (pss_one (ps_err EC hr rfl tk rfl (pv 1) (mono_var 1))) pss_nil)
      (pss_cons (ps_if (pt_not (pt_val (pe_isD rfl T.isinstance rfl T.tuple PyProof.Rows.boot_tuple kit_tuple (pv 0)))) (pss_one (ps_ret pe_bl)) pss_nil)
      (pss_cons (ps_set (i := 2) scIsLot.nd rfl (Or.inl rfl) pe_int)
      (pss_cons (ps_for (passes_of rfl) rfl (pi_tup (pv 0)) (pg_name (i := 3) scIsLot.nd rfl (Or.inl rfl))
        (pss_cons (ps_if (PW.pt (pw_or (pt_not (pt_val (pe_d DN hr rfl (pa_cons (pv 3) pa_nil)))) (pw_or1 (pt_not (pt_chain op_le op_lt (pv 2) (pv 3) (pv 1)))))) (pss_one (ps_ret pe_bl)) pss_nil)
          (pss_one (ps_set (i := 2) scIsLot.nd rfl (Or.inl rfl) (pe_op op_add (pv 3) pe_int)))))
      (pss_one (ps_ret pe_bl))))), ?_⟩
    -- the body behind the size's test
    have rest : ∀ i : Int, e = .int i → 0 ≤ i → i ≤ 60 → z = .int i → (∀ D' : Ends, D'.rt = Q → tSeq (tIfS (tNot (tB (tCB (rIsD "tuple") (tCons (tVar 0) (tCons (tC (.ty "tuple")) tNil))))) (tRet (tC (.bl false))) tNext)
        (tSeq (tAsg (tC (.int 0)) (gName 2)) (tSeq (tFor (iTup K (tVar 0)) (gName 3) (tSeq (tIfS (tOr (tNot (tB (tCall spIsNumber [] E0 (tCons (tVar 3) tNil)))) (tNot (tTest (tChain (rI0 fun i j => .bl (decide (i ≤ j))) (rI0 fun i j => .bl (decide (i < j))) (tVar 2) (tVar 3) (tVar 1))))) (tRet (tC (.bl false))) tNext)
          (tAsg (tOp (rI0 fun i j => .int (i + j)) (tVar 3) (tC (.int 1))) (gName 2)))) (tRet (tC (.bl true))))) D' [some v, some z, none, none] H) := by
      intro i ei h0 h1 ez D' hD'
      subst ei ez
      refine ⟨_, rfl, v, d, rfl, hd, _, rfl, ?_⟩
      have kk := kY i rfl h0 h1
      rw [← hD'] at kk
      cases hd with
      | tup ha hds =>
        rename_i a xs ds
        refine iteF ⟨_, rfl, a, rfl, ⟨_, .inl (.inl ha)⟩, ?_⟩
        refine for_tup (K := K) (a := a) (xs := xs) (fun j σ H' => H' = H ∧ ∃ (low : Int) (y : Option V), σ = [some (.ref a), some (.int i), some (.int low), y] ∧ lotFrom i 0 ds = lotFrom i low (ds.drop j))
          ⟨rfl, 0, none, rfl, rfl⟩ (fun j σ H' _ ⟨e, _⟩ => e ▸ .inl (.inl ha)) ?_ ?_
        · rintro j x σ H' hj ⟨rfl, low, y, rfl, el⟩
          obtain ⟨dj, hdj, hx⟩ := hds.get hj
          have edrop : ds.drop j = dj :: ds.drop (j + 1) := by
            obtain ⟨hlt, hget⟩ := List.getElem?_eq_some_iff.mp hdj
            rw [List.drop_eq_getElem_cons hlt, hget]
          rw [edrop] at el
          refine ⟨_, rfl, x, dj, rfl, hx, _, rfl, ?_⟩
          cases hx with
          | int p =>
            refine iteF ⟨_, rfl, _, rfl, _, _, rfl, rfl, _, rfl, ?_⟩
            have el2 : lotFrom i 0 ds = (decide (low ≤ p) && decide (p < i) && lotFrom i (p + 1) (ds.drop (j + 1))) := el
            cases h2 : decide (low ≤ p) with
            | false =>
              refine iteF ⟨_, rfl, iteT ?_⟩
              rw [h2] at el2
              have e3 : isLotD i (.tuple ds) = false := by
                show lotFrom i 0 ds = false
                rw [el2]; rfl
              rw [e3] at kk
              exact kk
            | true =>
              refine iteT ⟨_, rfl, _, _, rfl, rfl, _, rfl, ?_⟩
              rw [h2] at el2
              cases h3 : decide (p < i) with
              | false =>
                refine iteT ?_
                rw [h3] at el2
                have e3 : isLotD i (.tuple ds) = false := by
                  show lotFrom i 0 ds = false
                  rw [el2]; rfl
                rw [e3] at kk
                exact kk
              | true =>
                rw [h3] at el2
                refine iteF ⟨_, rfl, _, _, rfl, rfl, rfl, p + 1, some (.int p), rfl, ?_⟩
                rw [el2]; rfl
          | _ =>
            refine iteT (iteT ?_)
            have e3 : isLotD i (.tuple ds) = false := by
              show lotFrom i 0 ds = false
              rw [el]; rfl
            rw [e3] at kk
            exact kk
        · rintro σ H' ⟨rfl, low, y, rfl, el⟩
          have e3 : isLotD i (.tuple ds) = true := by
            show lotFrom i 0 ds = true
            rw [el, DvA.length hds, List.drop_length]; rfl
          rw [e3] at kk
          exact kk
      | _ =>
        refine iteT ?_
        exact kk
    refine ⟨_, rfl, z, e, rfl, he, _, rfl, ?_⟩
    cases he with
    | int i =>
      refine iteF ⟨_, rfl, _, _, rfl, rfl, _, rfl, ?_⟩
      by_cases h0 : 0 ≤ i
      · rw [decide_eq_true h0]
        refine iteT ⟨_, _, rfl, rfl, _, rfl, ?_⟩
        by_cases h1 : i ≤ 60
        · rw [decide_eq_true h1]
          exact iteF (rest i rfl h0 h1 rfl _ rfl)
        · rw [decide_eq_false h1]
          refine iteT ⟨_, rfl, fun x hx => kN ?_ x hx⟩
          show (decide (0 ≤ i) && decide (i ≤ 60)) = false
          rw [decide_eq_false h1, Bool.and_false]
      · rw [decide_eq_false h0]
        refine iteF ⟨_, rfl, iteT ⟨_, rfl, fun x hx => kN ?_ x hx⟩⟩
        show (decide (0 ≤ i) && decide (i ≤ 60)) = false
        rw [decide_eq_false h0, Bool.false_and]
    | _ => exact iteT (iteT ⟨_, rfl, fun x hx => kN rfl x hx⟩)
end
end BT

set_option Elab.async false
set_option linter.all false
set_option maxRecDepth 100000
set_option maxHeartbeats 4000000
namespace BT
open PySem PySem.Spec PyProof.Rows L2
/-! ### lots as data -/
/-- a lot of size n -/
structure IsLot (n : Nat) (l : List Nat) : Prop where
  asc : l.Pairwise (· < ·)
  lt : ∀ p ∈ l, p < n
theorem lotFrom_inv {n : Nat} : ∀ {ds : List PyData} {low : Int}, 0 ≤ low → lotFrom (n : Int) low ds = true → ∃ l : List Nat, ds = l.map (fun p : Nat => PyData.int (p : Int)) ∧ l.Pairwise (· < ·) ∧ ∀ p ∈ l, low ≤ (p : Int) ∧ p < n
  | [], _, _, _ => ⟨[], rfl, .nil, fun _ h => nomatch h⟩
  | d :: r, low, h0, h => by
    cases d with
    | int i =>
      have h' : (decide (low ≤ i) && decide (i < (n : Int)) && lotFrom (n : Int) (i + 1) r) = true := h
      simp only [Bool.and_eq_true, decide_eq_true_eq] at h'
      obtain ⟨⟨h1, h2⟩, h3⟩ := h'
      obtain ⟨l, e, hp, hm⟩ := lotFrom_inv (by omega) h3
      obtain ⟨p, rfl⟩ := Int.eq_ofNat_of_zero_le (show 0 ≤ i by omega)
      refine ⟨p :: l, by rw [e]; rfl, List.pairwise_cons.mpr ⟨fun q hq => by have := (hm q hq).1; omega, hp⟩, fun q hq => ?_⟩
      rcases List.mem_cons.mp hq with rfl | hq
      · exact ⟨h1, by omega⟩
      · have := hm q hq
        exact ⟨by omega, this.2⟩
    | _ => exact absurd (show false = true from h) (by decide)
theorem lotFrom_of {n : Nat} : ∀ {l : List Nat} {low : Int}, l.Pairwise (· < ·) → (∀ p ∈ l, low ≤ (p : Int) ∧ p < n) → lotFrom (n : Int) low (l.map fun p : Nat => PyData.int (p : Int)) = true
  | [], _, _, _ => rfl
  | p :: l, low, hp, hm => by
    have hp' := List.pairwise_cons.mp hp
    have h1 := hm p (List.mem_cons_self ..)
    show (decide (low ≤ (p : Int)) && decide ((p : Int) < (n : Int)) && lotFrom (n : Int) ((p : Int) + 1) (l.map fun p : Nat => PyData.int (p : Int))) = true
    rw [decide_eq_true h1.1, decide_eq_true (show (p : Int) < (n : Int) by omega), Bool.true_and, Bool.true_and]
    exact lotFrom_of hp'.2 fun q hq => ⟨by have := hp'.1 q hq; omega, (hm q (List.mem_cons_of_mem _ hq)).2⟩
theorem isLotD_inv {n : Nat} {d : PyData} (h : isLotD (n : Int) d = true) : ∃ l, d = lotD l ∧ IsLot n l := by
  cases d with
  | tuple ds =>
    obtain ⟨l, e, hp, hm⟩ := lotFrom_inv (by omega) (show lotFrom (n : Int) 0 ds = true from h)
    exact ⟨l, by rw [e]; rfl, hp, fun p hq => (hm p hq).2⟩
  | _ => exact absurd (show false = true from h) (by decide)
theorem isLotD_of {n : Nat} {l : List Nat} (h : IsLot n l) : isLotD (n : Int) (lotD l) = true := lotFrom_of h.asc fun p hp => ⟨by omega, h.lt p hp⟩
theorem DvA.lot_inv {H : Hp} : ∀ {l : List Nat} {xs : List V}, DvA H xs (l.map fun p : Nat => PyData.int (p : Int)) → xs = lotV l
  | [], xs, h => by cases h; rfl
  | p :: l, xs, h => by
    cases h with
    | cons h1 h2 =>
      cases h1
      rw [DvA.lot_inv h2]; rfl
theorem Dv.lot_inv {H : Hp} {v : V} {l : List Nat} (h : Dv H v (lotD l)) : ∃ a, v = .ref a ∧ H a = some (.tup (lotV l)) := by
  cases h with
  | tup ha hd => exact ⟨_, rfl, by rw [DvA.lot_inv hd] at ha; exact ha⟩
section
variable {P : Program} {w : World} {K : PySem.W.Frag} {mg : Str → Option Value} {base : Heap} {tM : Tok}
/-! ### need_lot -/
def spNeedLot (C : Addr) : Sp := fun vs H Q E => ∃ (v : V) (d : PyData) (n : Nat), vs = [v, .int (n : Int)] ∧ Dv H v d ∧ n ≤ 60 ∧ (isLotD (n : Int) d = true → Q .non H) ∧
  (isLotD (n : Int) d = false → ∀ x, H x = none → E (.ref C) (some x) (upd H x (.xd [("what", v)])))
theorem scNeedLot : FnScope ["value", "size"] ["value", "size"] (defScope s_need_lot) := ⟨rfl, rfl, rfl, by decide +kernel, rfl, by decide +kernel, by decide +kernel⟩
theorem ok_need_lot {f C CS : Addr} {fd : FuncData} (EC : ErrC P w K mg base "BadLot" C) (DL : DefOk P w K mg base (L2.CX P w) 3 "is_lot" ["value", "size"] (spIsLot CS)) (F : FnP K "need_lot" s_need_lot f fd) :
    FnOk P w K mg base (L2.CX P w) 4 f fd ["value", "size"] (spNeedLot C) := by
  refine F.ok scNeedLot (fun vs H Q E h => ?_) (fun cdv A outer s H vs Q E hr h => ?_)
  · obtain ⟨v, d, n, rfl, _⟩ := h
    rfl
  · obtain ⟨v, d, n, rfl, hd, hn, kY, kN⟩ := h
    have tk : Takes (cxOf (L2.CX P w) P w K mg base ["value", "size"] "need_lot" (defScope s_need_lot) f cdv A outer s H E) (fun cls d _ H => E cls d H) := takes_of rfl rfl rfl rfl
    refine ⟨_, pss_one (ps_if (pt_not (pt_val (pe_dX DL hr rfl (passes_call tk (fun _ _ _ _ h => h)) (pa_cons (pv 0) (pa_cons (pv 1) pa_nil))))) (pss_one (ps_err EC hr rfl tk rfl (pv 0) (mono_var 0))) pss_nil), ?_⟩
    refine ⟨_, rfl, _, rfl, v, d, .int (n : Int), .int (n : Int), rfl, hd, .int _, fun i ei h0 h1 => ⟨_, rfl, ?_⟩, fun hs => ?_⟩
    · injection ei with ei
      subst ei
      cases e : isLotD (n : Int) d with
      | true => exact iteF (kY e)
      | false => exact iteT ⟨_, rfl, fun x hx => kN e x hx⟩
    · have e : (decide (0 ≤ (n : Int)) && decide ((n : Int) ≤ 60)) = true := by
        rw [decide_eq_true (by omega), decide_eq_true (by omega)]; rfl
      have e2 : (decide (0 ≤ (n : Int)) && decide ((n : Int) ≤ 60)) = false := hs
      rw [e] at e2; cases e2
/-! ### need_each_lot -/
def spNeedEach (C : Addr) : Sp := fun vs H Q E => ∃ (a : Addr) (xs : List V) (ds : List PyData) (n : Nat), vs = [.ref a, .int (n : Int)] ∧ H a = some (.lst xs) ∧ DvA H xs ds ∧ n ≤ 60 ∧
  ((∀ (j : Nat) (d : PyData), ds[j]? = some d → isLotD (n : Int) d = true) → ∀ H', Same H H' → Q .non H') ∧
  (∀ (j : Nat) (d : PyData), ds[j]? = some d → isLotD (n : Int) d = false → (∀ (m : Nat) (d' : PyData), m < j → ds[m]? = some d' → isLotD (n : Int) d' = true) →
    ∀ (H' : Hp) (x : Addr), Same H H' → H' x = none → E (.ref C) (some x) (upd H' x (.xd [("what", .int (j : Nat))])))
theorem scNeedEach : FnScope ["values", "size", "index", "value"] ["values", "size"] (defScope s_need_each_lot) := ⟨rfl, rfl, rfl, by decide +kernel, rfl, by decide +kernel, by decide +kernel⟩
theorem ok_need_each_lot {f C CS : Addr} {fd : FuncData} (T : Bi mg) (EC : ErrC P w K mg base "BadLots" C) (DL : DefOk P w K mg base (L2.CX P w) 3 "is_lot" ["value", "size"] (spIsLot CS)) (F : FnP K "need_each_lot" s_need_each_lot f fd) :
    FnOk P w K mg base (L2.CX P w) 4 f fd ["values", "size"] (spNeedEach C) := by
  refine F.ok scNeedEach (fun vs H Q E h => ?_) (fun cdv A outer s H vs Q E hr h => ?_)
  · obtain ⟨a, xs, ds, n, rfl, _⟩ := h
    rfl
  · obtain ⟨a, xs, ds, n, rfl, ha, hds, hn, kY, kN⟩ := h
    have tk : Takes (cxOf (L2.CX P w) P w K mg base ["values", "size", "index", "value"] "need_each_lot" (defScope s_need_each_lot) f cdv A outer s H E) (fun cls d _ H => E cls d H) := takes_of rfl rfl rfl rfl
    refine ⟨_, pss_one (ps_for (passes_of rfl) rfl (pi_enum rfl T.enumerate (pa_cons (pv 0) pa_nil)) (pg_tup rfl (pgs_cons (pg_name (i := 2) scNeedEach.nd rfl (Or.inl rfl)) (pgs_cons (pg_name (i := 3) scNeedEach.nd rfl (Or.inl rfl)) pgs_nil)))
      (pss_one (ps_if (pt_not (pt_val (pe_dX DL hr rfl (passes_call tk (fun _ _ _ _ h => h)) (pa_cons (pv 3) (pa_cons (pv 1) pa_nil))))) (pss_one (ps_err EC hr rfl tk rfl (pv 2) (mono_var 2))) pss_nil))), ?_⟩
    have hlen := DvA.length hds
    refine ⟨_, rfl, a, xs, rfl, .inl (.inl ha), for_it (walk_enum (K := K) (a := a) (xs := xs)) (fun j σ H' => Same H H' ∧ (∃ y z : Option V, σ = [some (.ref a), some (.int (n : Int)), y, z]) ∧ ∀ (m : Nat) (d' : PyData), m < j → ds[m]? = some d' → isLotD (n : Int) d' = true)
      ⟨Same.refl H, ⟨none, none, rfl⟩, fun m d' hm => absurd hm (Nat.not_lt_zero _)⟩ (fun j σ H' _ ⟨s5, _⟩ => s5.seq (.inl (.inl ha))) ?_ ?_⟩
    · rintro j v σ H1 H2 hj ⟨s5, ⟨y, z, rfl⟩, hall⟩ ⟨T1, x, u, rfl, hT, rfl, hx, hu⟩
      have ex : V.int (j : Nat) = x := Option.some.inj hx
      subst ex
      obtain ⟨d, hd, hdv⟩ := hds.get hu
      have s6 : Same H (upd H1 T1 (.tup [.int (j : Nat), u])) := Same.new s5 hT
      have hdv2 : Dv (upd H1 T1 (.tup [.int (j : Nat), u])) u d := Dv.mono s6 d u hdv
      refine ⟨T1, _, rfl, .inl (.inl upd_same), rfl, _, _, rfl, _, _, rfl, rfl, ?_⟩
      refine ⟨_, rfl, _, rfl, u, d, .int (n : Int), .int (n : Int), rfl, hdv2, .int _, fun i ei h0 h1 => ⟨_, rfl, ?_⟩, fun hs => ?_⟩
      · injection ei with ei
        subst ei
        cases e : isLotD (n : Int) d with
        | true =>
          refine iteF ⟨s6, ⟨_, _, rfl⟩, fun m d' hm hd' => ?_⟩
          by_cases hmj : m < j
          · exact hall m d' hmj hd'
          · have em : m = j := by omega
            rw [em, hd] at hd'
            rw [← Option.some.inj hd']; exact e
        | false => exact iteT ⟨_, rfl, fun x hx => kN j d hd e hall _ x s6 hx⟩
      · have e : (decide (0 ≤ (n : Int)) && decide ((n : Int) ≤ 60)) = true := by
          rw [decide_eq_true (by omega), decide_eq_true (by omega)]; rfl
        have e2 : (decide (0 ≤ (n : Int)) && decide ((n : Int) ≤ 60)) = false := hs
        rw [e] at e2; cases e2
    · rintro σ H' ⟨s5, _, hall⟩
      refine kY (fun j d hd => hall j d ?_ hd) H' s5
      have := (List.getElem?_eq_some_iff.mp hd).1
      omega
end
end BT

set_option Elab.async false
set_option linter.all false
set_option maxRecDepth 100000
set_option maxHeartbeats 4000000
namespace BT
open PySem PySem.Spec PyProof.Rows L2
theorem bitXor_nat (a b : Nat) : Builtin.bitXor (a : Int) (b : Int) = ((a ^^^ b : Nat) : Int) := by
  rw [bitXor_and, bitAnd_pp (Int.natCast_nonneg _) (Int.natCast_nonneg _), Int.toNat_natCast, Int.toNat_natCast]
  have := xor_and_add a b
  omega
theorem bitAnd_nat (a b : Nat) : Builtin.bitAnd (a : Int) (b : Int) = ((a &&& b : Nat) : Int) := by
  rw [bitAnd_pp (Int.natCast_nonneg _) (Int.natCast_nonneg _), Int.toNat_natCast, Int.toNat_natCast]
theorem IsLot.small {n : Nat} {l : List Nat} (h : IsLot n l) (hn : n ≤ 1000) : ∀ p ∈ l, p < 1000 := fun p hp => Nat.lt_of_lt_of_le (h.lt p hp) hn
theorem IsLot.mask {n : Nat} {l : List Nat} (h : IsLot n l) (hn : n ≤ 1000) : maskN l < 2 ^ 1000 := maskN_lt (h.small hn)
section
variable {P : Program} {w : World} {K : PySem.W.Frag} {mg : Str → Option Value} {base : Heap} {tM : Tok}
/-! ### BlindError.__init__ -/
theorem scInit : FnScope ["self", "what"] ["self", "what"] (defScope s_BlindError_init) := ⟨rfl, rfl, rfl, by decide +kernel, rfl, by decide +kernel, by decide +kernel⟩
theorem ok_init {f : Addr} {fd : FuncData} {dvs : List V} {kws : List (Str × V)} (F : FunD K "__init__" "BlindError.__init__" (defArgs s_BlindError_init) (defBody s_BlindError_init) (defScope s_BlindError_init) dvs kws f fd) :
    FnOk P w K mg base CX0 1 f fd ["self", "what"] (spInit K) := by
  refine F.ok scInit (fun vs H Q E h => ?_) (fun cdv A outer s H vs Q E hr h => ?_)
  · obtain ⟨a, C, y, rfl, _⟩ := h
    rfl
  · obtain ⟨a, C, y, rfl, oc, nw, ha, k⟩ := h
    refine ⟨_, PSs.nox (pss_one (ps_ost (pv 0) (pv 1))), ?_⟩
    exact ⟨_, rfl, _, rfl, a, C, rfl, oc, nw, .inl ⟨ha, fun dx hd hne => k dx hd hne⟩⟩
end
end BT

set_option Elab.async false
set_option linter.all false
set_option maxRecDepth 100000
set_option maxHeartbeats 4000000
namespace BT
open PySem PySem.Spec PyProof.Rows L2
/-! ### the law's source of draws -/
/-- the seven items of a source -/
def srcL (l : Addr) (i b c cl n w : Int) : List V := [.ref l, .int i, .int b, .int c, .int cl, .int n, .int w]
theorem Src.put {l a : Addr} {H : Hp} (s : Src l a H) {i b c cl n w : Int} (h : 0 ≤ i) : Keeps l a H (upd H a (.lst (srcL l i b c cl n w))) := by
  obtain ⟨ns, h2⟩ := s.nums
  exact ⟨⟨⟨i, b, c, cl, n, w, h, upd_same⟩, ⟨ns, by rw [upd_ne s.ne]; exact h2⟩⟩, fun p o hp e => by rw [upd_ne hp]; exact e⟩
section
variable {P : Program} {w : World} {K : PySem.W.Frag} {mg : Str → Option Value} {base : Heap}
def spSource (K : PySem.W.Frag) : Sp := fun vs H Q _ => ∃ (a : Addr) (ns : List Int), vs = [.ref a] ∧ SqL K H a (ns.map V.int) ∧ ∀ (p l : Addr) (H' : Hp), H p = none → Same H H' → Src l p H' → Q (.ref p) H'
theorem scSource : FnScope ["_law_script", "_law_whole", "_law_cell"] ["_law_script"] (defScope s_law_source) := ⟨rfl, rfl, rfl, by decide +kernel, rfl, by decide +kernel, by decide +kernel⟩
theorem ints_get {ns : List Int} {i : Nat} {x : V} (h : (ns.map V.int)[i]? = some x) : ∃ z, ns[i]? = some z ∧ x = .int z := by
  rw [List.getElem?_map] at h
  cases e : ns[i]? with
  | none => rw [e] at h; cases h
  | some z => rw [e] at h; exact ⟨z, rfl, (Option.some.inj h).symm⟩
theorem ok_law_source {f : Addr} {fd : FuncData} (T : Bi mg) (F : FnP K "_law_source" s_law_source f fd) : FnOk P w K mg base CX0 1 f fd ["_law_script"] (spSource K) := by
  refine F.ok scSource (fun vs H Q E h => ?_) (fun cdv A outer s H vs Q E hr h => ?_)
  · obtain ⟨a, ns, rfl, _⟩ := h
    rfl
  · obtain ⟨a, ns, rfl, hS, k⟩ := h
    refine ⟨_, PSs.nox (pss_cons (ps_set (i := 1) scSource.nd rfl (Or.inl rfl) pe_int)
      (pss_cons (ps_for PassesOwn.never rfl (pi_list (pv 0)) (pg_name (i := 2) scSource.nd rfl (Or.inl rfl)) (pss_one (ps_set (i := 1) scSource.nd rfl (Or.inl rfl) (pe_op op_add (pv 1) (pv 2)))))
      (pss_one (ps_ret (pe_lst (pa_cons (pe_callTy call_list_of rfl T.list PyProof.Rows.boot_list (pa_cons (pv 0) pa_nil)) (pa_cons pe_int (pa_cons pe_int (pa_cons pe_int (pa_cons pe_int (pa_cons pe_int (pa_cons (pv 1) pa_nil)))))))))))), ?_⟩
    refine ⟨_, rfl, a, rfl, ⟨_, hS⟩, for_list (K := K) (a := a) (xs := ns.map V.int) (fun i σ H' => H' = H ∧ ∃ (z : Int) (y : Option V), σ = [some (.ref a), some (.int z), y]) ⟨rfl, 0, none, rfl⟩ (fun i σ H' _ ⟨e, _⟩ => e ▸ hS) ?_ ?_⟩
    · rintro i x σ H' hi ⟨rfl, z, y, rfl⟩
      obtain ⟨u, _, rfl⟩ := ints_get hi
      exact ⟨_, rfl, _, rfl, _, _, rfl, rfl, rfl, z + u, some (.int u), rfl⟩
    · rintro σ H' ⟨rfl, z, y, rfl⟩
      refine ⟨_, rfl, a, _, rfl, .inl hS, fun l hl => ⟨_, rfl, (by show 7 ≤ sizeLine; decide), fun p hp => ?_⟩⟩
      have hlp : l ≠ p := fun e => by rw [← e, upd_same] at hp; cases hp
      have hp0 : H' p = none := by rw [upd_ne (Ne.symm hlp)] at hp; exact hp
      refine k p l _ hp0 (Same.new (Same.new (Same.refl H') hl) hp) ⟨⟨0, 0, 0, 0, 0, z, by decide, upd_same⟩, ⟨ns, ?_⟩⟩
      rw [upd_ne hlp, upd_same]
/-! ### next -/
def spNext : Sp := fun vs H Q _ => ∃ (l a : Addr), vs = [.ref a] ∧ Src l a H ∧ ∀ H', Keeps l a H H' → Q .non H'
theorem scNext : FnScope ["_law_source_here", "_law_cell"] ["_law_source_here"] (defScope s_law_next) := ⟨rfl, rfl, rfl, by decide +kernel, rfl, by decide +kernel, by decide +kernel⟩
theorem ok_law_next {f : Addr} {fd : FuncData} (T : Bi mg) (F : FnP K "_law_next" s_law_next f fd) : FnOk P w K mg base CX0 1 f fd ["_law_source_here"] spNext := by
  refine F.ok scNext (fun vs H Q E h => ?_) (fun cdv A outer s H vs Q E hr h => ?_)
  · obtain ⟨l, a, rfl, _⟩ := h
    rfl
  · obtain ⟨l, a, rfl, hS, k⟩ := h
    refine ⟨_, PSs.nox (pss_cons (ps_set (i := 1) scNext.nd rfl (Or.inl rfl) (pe_ix ix_list (pv 0) pe_int (fun _ _ => rfl)))
      (pss_cons (ps_asg pe_int (pg_sub (pv 0) pe_int set_list))
      (pss_cons (ps_if (pt_cmpR op_lt (pe_ix ix_list (pv 0) pe_int (fun _ _ => rfl)) (pe_callB call_len_seq (by rfl) T.len PySem.boot_len (pa_cons (pe_ix ix_list (pv 0) pe_int (fun _ _ => rfl)) pa_nil)) (nomark _))
        (pss_cons (ps_set (i := 1) scNext.nd rfl (Or.inl rfl) (pe_ix ix_list (pe_ix ix_list (pv 0) pe_int (fun _ _ => rfl)) (pe_ix ix_list (pv 0) pe_int (fun _ _ => rfl)) (fun _ _ => rfl)))
          (pss_one (ps_if (pt_cmpR op_ge (pe_callB call_abs (by rfl) T.abs PyProof.Rows.boot_abs (pa_cons (pv 1) pa_nil)) (pe_op op_pow pe_int pe_int) (nomark _))
            (pss_cons (ps_asg (pe_callB call_abs (by rfl) T.abs PyProof.Rows.boot_abs (pa_cons (pv 1) pa_nil)) (pg_sub (pv 0) pe_int set_list))
              (pss_one (ps_asg pe_int (pg_sub (pv 0) pe_int set_list)))) pss_nil))) pss_nil)
      (pss_cons (ps_asg (pe_op op_add (pe_ix ix_list (pv 0) pe_int (fun _ _ => rfl)) pe_int) (pg_sub (pv 0) pe_int set_list))
      (pss_one (ps_asg (pv 1) (pg_sub (pv 0) pe_int set_list))))))), ?_⟩
    obtain ⟨i, b, c, cl, n, z, h0, h1⟩ := hS.at_
    obtain ⟨ns, h2⟩ := hS.nums
    have ne := hS.ne
    -- the last two rows, from any state in which the source stands as srcL l i b' c' cl n z
    have fin : ∀ (H1 : Hp) (b' c' y : Int), H1 a = some (.lst (srcL l i b' c' cl n z)) → (∀ p, p ≠ a → H1 p = H p) →
        tSeq (tAsg (tOp (rI0 fun i j => .int (i + j)) (tOp (rIxL K) (tVar 0) (tC (.int 1))) (tC (.int 1))) (gSub (tVar 0) (tC (.int 1)) rSetL)) (tAsg (tVar 1) (gSub (tVar 0) (tC (.int 4)) rSetL)) { nx := fun _ H' => Q .non H', rt := Q } [some (.ref a), some (.int y)] H1 := by
      intro H1 b' c' y e1 e2
      refine ⟨_, rfl, a, _, 1, .int i, rfl, rfl, .inl (.inl e1), rfl, _, _, rfl, rfl, _, rfl, a, _, 1, 1, rfl, rfl, e1, rfl, ?_⟩
      refine ⟨_, rfl, _, rfl, a, _, 4, 4, rfl, rfl, upd_same, rfl, ?_⟩
      refine k _ ?_
      have q := hS.put (i := i + 1) (b := b') (c := c') (cl := y) (n := n) (w := z) (by omega)
      have e : upd (upd H1 a (.lst ((srcL l i b' c' cl n z).set 1 (.int (i + 1))))) a (.lst (((srcL l i b' c' cl n z).set 1 (.int (i + 1))).set 4 (.int y))) = upd H a (.lst (srcL l (i + 1) b' c' y n z)) := by
        rw [upd_upd]
        funext p
        by_cases hp : p = a
        · rw [hp, upd_same, upd_same]; rfl
        · rw [upd_ne hp, upd_ne hp, e2 p hp]
      show Keeps l a H (upd (upd H1 a (.lst ((srcL l i b' c' cl n z).set 1 (.int (i + 1))))) a (.lst (((srcL l i b' c' cl n z).set 1 (.int (i + 1))).set 4 (.int y))))
      rw [e]
      exact q
    refine ⟨_, rfl, a, _, 6, .int z, rfl, rfl, .inl (.inl h1), rfl, _, rfl, a, _, 3, 3, rfl, rfl, h1, rfl, ?_⟩
    have g1 : (upd H a (.lst (srcL l i b 6 cl n z))) a = some (.lst (srcL l i b 6 cl n z)) := upd_same
    have g2 : (upd H a (.lst (srcL l i b 6 cl n z))) l = some (.lst (ns.map V.int)) := by rw [upd_ne ne]; exact h2
    show tSeq _ _ _ _ (upd H a (.lst (srcL l i b 6 cl n z)))
    refine ⟨_, rfl, a, _, 1, .int i, rfl, rfl, .inl (.inl g1), rfl, _, rfl, a, _, 0, .ref l, rfl, rfl, .inl (.inl g1), rfl, l, _, rfl, .inl (.inl (.inl g2)), _, _, rfl, rfl, _, rfl, ?_⟩
    rw [List.length_map]
    by_cases hlt : i < (ns.length : Int)
    · rw [decide_eq_true hlt]
      obtain ⟨j, rfl⟩ := Int.eq_ofNat_of_zero_le h0
      have hj : j < ns.length := by omega
      have hget : ((ns.map V.int))[j]? = some (.int ns[j]) := by rw [List.getElem?_map, List.getElem?_eq_getElem hj]; rfl
      refine iteT ⟨_, rfl, a, _, 0, .ref l, rfl, rfl, .inl (.inl g1), rfl, _, rfl, a, _, 1, .int (j : Nat), rfl, rfl, .inl (.inl g1), rfl, l, _, (j : Nat), _, rfl, rfl, .inl (.inl g2), atI_nat hget, ?_⟩
      refine ⟨_, rfl, _, rfl, _, _, rfl, rfl, ⟨by decide, by decide, by decide⟩, _, _, rfl, rfl, _, rfl, ?_⟩
      refine ite2 (fun _ => ?_) (fun _ => ?_)
      · refine ⟨_, rfl, _, rfl, _, rfl, a, _, 2, 2, rfl, rfl, g1, rfl, ?_⟩
        refine ⟨_, rfl, a, _, 3, 3, rfl, rfl, upd_same, rfl, ?_⟩
        refine fin _ (if ns[j] < 0 then -ns[j] else ns[j]) 0 ns[j] ?_ fun p hp => ?_
        · rw [upd_same]; rfl
        · rw [upd_ne hp, upd_ne hp, upd_ne hp]
      · exact fin _ b 6 ns[j] g1 fun p hp => upd_ne hp
    · rw [decide_eq_false hlt]
      exact iteF (fin _ b 6 z g1 fun p hp => upd_ne hp)
/-! ### mixed -/
def spMixed : Sp := fun vs H Q _ => ∃ x y z : Int, vs = [.int x, .int y, .int z] ∧ ∀ v : Int, Q (.int v) H
theorem scMixed : FnScope ["_law_cell", "_law_whole", "_law_count", "_law_number"] ["_law_cell", "_law_whole", "_law_count"] (defScope s_law_mixed) := ⟨rfl, rfl, rfl, by decide +kernel, rfl, by decide +kernel, by decide +kernel⟩
theorem ok_law_mixed {f : Addr} {fd : FuncData} (T : Bi mg) (F : FnP K "_law_mixed" s_law_mixed f fd) : FnOk P w K mg base CX0 1 f fd ["_law_cell", "_law_whole", "_law_count"] spMixed := by
  refine F.ok scMixed (fun vs H Q E h => ?_) (fun cdv A outer s H vs Q E hr h => ?_)
  · obtain ⟨x, y, z, rfl, _⟩ := h
    rfl
  · obtain ⟨x, y, z, rfl, k⟩ := h
    refine ⟨_, PSs.nox (pss_cons (ps_set (i := 3) scMixed.nd rfl (Or.inl rfl) (pe_op op_add (pe_op op_add (pe_op op_add
        (pe_op op_mul (pe_op op_mod (pe_callTy call_int1 rfl T.int PyProof.Rows.boot_int (pa_cons (pe_callB call_abs (by rfl) T.abs PyProof.Rows.boot_abs (pa_cons (pv 0) pa_nil)) pa_nil)) pe_int) pe_int)
        (pe_op op_mul (pe_op op_mod (pe_callTy call_int1 rfl T.int PyProof.Rows.boot_int (pa_cons (pe_callB call_abs (by rfl) T.abs PyProof.Rows.boot_abs (pa_cons (pv 1) pa_nil)) pa_nil)) pe_int) pe_int))
        (pe_op op_mul pe_int (pv 2))) pe_int))
      (pss_cons (ps_set (i := 3) scMixed.nd rfl (Or.inl rfl) (pe_op op_mod (pe_callTy call_int1 rfl T.int PyProof.Rows.boot_int (pa_cons (pe_op op_mul (pv 3) pe_int) pa_nil)) pe_int))
      (pss_cons (ps_set (i := 3) scMixed.nd rfl (Or.inl rfl) (pe_op op_mod (pe_callTy call_int1 rfl T.int PyProof.Rows.boot_int (pa_cons (pe_op op_mul (pv 3) (pe_op op_add (pe_op op_fdiv (pv 3) pe_int) pe_int)) pa_nil)) pe_int))
      (pss_cons (ps_set (i := 3) scMixed.nd rfl (Or.inl rfl) (pe_op op_mod (pe_callTy call_int1 rfl T.int PyProof.Rows.boot_int (pa_cons (pe_op op_mul (pv 3) (pe_op op_add (pe_op op_fdiv (pv 3) pe_int) pe_int)) pa_nil)) pe_int))
      (pss_one (ps_ret (pe_op op_fdiv (pv 3) pe_int))))))), ?_⟩
    have cm : ∀ {u m t : Int}, 0 < m → m < 2 ^ 64 → CMul (u % m) t := fun {u m t} h1 h2 => .inl ⟨by have := Int.emod_nonneg u (Int.ne_of_gt h1); omega, by have := Int.emod_lt_of_pos u h1; omega⟩
    refine ⟨_, rfl, _, rfl, .inl ⟨_, rfl, _, _, rfl, rfl, (by show (0 : Int) < 2147483647; decide), _, _, rfl, rfl, cm (by decide) (by decide), ?_⟩⟩
    refine ⟨_, rfl, _, rfl, .inl ⟨_, rfl, _, _, rfl, rfl, (by show (0 : Int) < 2147483647; decide), _, _, rfl, rfl, cm (by decide) (by decide), _, _, rfl, rfl, ?_⟩⟩
    refine ⟨_, rfl, _, _, rfl, rfl, .inl ⟨by decide, by decide⟩, _, _, rfl, rfl, _, _, rfl, rfl, ?_⟩
    refine ⟨_, rfl, _, _, rfl, rfl, .inr ⟨by decide, by decide⟩, .inl ⟨_, rfl, _, _, rfl, rfl, (by show (0 : Int) < 2147483647; decide), ?_⟩⟩
    refine ⟨_, rfl, _, rfl, _, _, rfl, rfl, ⟨by decide, by decide⟩, _, _, rfl, rfl, _, _, rfl, rfl, cm (by decide) (by decide), .inl ⟨_, rfl, _, _, rfl, rfl, (by show (0 : Int) < 2147483647; decide), ?_⟩⟩
    refine ⟨_, rfl, _, rfl, _, _, rfl, rfl, ⟨by decide, by decide⟩, _, _, rfl, rfl, _, _, rfl, rfl, cm (by decide) (by decide), .inl ⟨_, rfl, _, _, rfl, rfl, (by show (0 : Int) < 2147483399; decide), ?_⟩⟩
    exact ⟨_, rfl, _, _, rfl, rfl, ⟨by decide, by decide⟩, k _⟩
end
end BT

set_option Elab.async false
set_option linter.all false
set_option maxRecDepth 100000
set_option maxHeartbeats 4000000
set_option exponentiation.threshold 2000
namespace BT
open PySem PySem.Spec PyProof.Rows L2
section
variable {P : Program} {w : World} {K : PySem.W.Frag} {mg : Str → Option Value} {base : Heap}
/-! ### draw -/
def spDraw : Sp := fun vs H Q _ => ∃ (l a : Addr) (m : Int), vs = [.ref a, .int m] ∧ 0 < m ∧ m < 1073741824 ∧ Src l a H ∧ ∀ (v : Int) (H' : Hp), 0 ≤ v → v < m → Keeps l a H H' → Q (.int v) H'
theorem scDraw : FnScope ["_law_source_here", "_law_many", "_law_value"] ["_law_source_here", "_law_many"] (defScope s_law_draw) := ⟨rfl, rfl, rfl, by decide +kernel, rfl, by decide +kernel, by decide +kernel⟩
theorem ok_law_draw {f : Addr} {fd : FuncData} (T : Bi mg) (DN : DefOk P w K mg base CX0 1 "_law_next" ["_law_source_here"] spNext) (DM : DefOk P w K mg base CX0 1 "_law_mixed" ["_law_cell", "_law_whole", "_law_count"] spMixed)
    (F : FnP K "_law_draw" s_law_draw f fd) : FnOk P w K mg base CX0 2 f fd ["_law_source_here", "_law_many"] spDraw := by
  refine F.ok scDraw (fun vs H Q E h => ?_) (fun cdv A outer s H vs Q E hr h => ?_)
  · obtain ⟨l, a, m, rfl, _⟩ := h
    rfl
  · obtain ⟨l, a, m, rfl, m0, m1, hS, k⟩ := h
    refine ⟨_, PSs.nox (pss_cons (ps_asg (pe_op op_add (pe_ix ix_list (pv 0) pe_int (fun _ _ => rfl)) pe_int) (pg_sub (pv 0) pe_int set_list))
      (pss_cons (ps_if (PW.pt (pw_and (pt_cmpR op_eq (pe_ix ix_list (pv 0) pe_int (fun _ _ => rfl)) pe_int (nomark _)) (pw_and1 (pt_cmpR op_eq (pe_ix ix_list (pv 0) pe_int (fun _ _ => rfl)) pe_int (nomark _)))))
        (pss_one (ps_expr (pe_d DN hr rfl (pa_cons (pv 0) pa_nil)))) pss_nil)
      (pss_cons (ps_if (pt_cmpR op_gt (pe_ix ix_list (pv 0) pe_int (fun _ _ => rfl)) pe_int (nomark _))
        (pss_cons (ps_set (i := 2) scDraw.nd rfl (Or.inl rfl) (pe_op op_mod (pe_callTy call_int1 rfl T.int PyProof.Rows.boot_int (pa_cons (pe_ix ix_list (pv 0) pe_int (fun _ _ => rfl)) pa_nil)) (pv 1)))
          (pss_cons (ps_asg (pe_op op_fdiv (pe_ix ix_list (pv 0) pe_int (fun _ _ => rfl)) (pv 1)) (pg_sub (pv 0) pe_int set_list))
            (pss_one (ps_ret (pv 2))))) pss_nil)
      (pss_cons (ps_asg (pe_op op_sub (pe_ix ix_list (pv 0) pe_int (fun _ _ => rfl)) pe_int) (pg_sub (pv 0) pe_int set_list))
      (pss_one (ps_ret (pe_op op_mod (pe_callTy call_int1 rfl T.int PyProof.Rows.boot_int (pa_cons (pe_d DM hr rfl (pa_cons (pe_ix ix_list (pv 0) pe_int (fun _ _ => rfl)) (pa_cons (pe_ix ix_list (pv 0) pe_int (fun _ _ => rfl)) (pa_cons (pe_ix ix_list (pv 0) pe_int (fun _ _ => rfl)) pa_nil)))) pa_nil)) (pv 1)))))))), ?_⟩
    obtain ⟨i, b, c, cl, n, z, h0, h1⟩ := hS.at_
    -- count + 1
    refine ⟨_, rfl, a, _, 5, .int n, rfl, rfl, .inl (.inl h1), rfl, _, _, rfl, rfl, _, rfl, a, _, 5, 5, rfl, rfl, h1, rfl, ?_⟩
    have k1 : Keeps l a H (upd H a (.lst (srcL l i b c cl (n + 1) z))) := hS.put h0
    have g1 : (upd H a (.lst (srcL l i b c cl (n + 1) z))) a = some (.lst (srcL l i b c cl (n + 1) z)) := upd_same
    show tSeq _ _ _ _ (upd H a (.lst (srcL l i b c cl (n + 1) z)))
    generalize upd H a (.lst (srcL l i b c cl (n + 1) z)) = H1 at k1 g1
    -- the rest, from any source
    have rest : ∀ H2 : Hp, Keeps l a H H2 → (tSeq (tIfS (tTest (tOp (rI0 fun i j => .bl (decide (j < i))) (tOp (rIxL K) (tVar 0) (tC (.int 2))) (tC (.int 0))))
        (tSeq (tAsg (tOp (rI (fun _ j => 0 < j) fun i j => .int (i % j)) (tCB (fun xs H Q => (∃ i, xs = [.int i] ∧ Q (.int i) H) ∨ ∃ k, xs = [.bl k] ∧ Q (.int (if k then 1 else 0)) H) (tCons (tOp (rIxL K) (tVar 0) (tC (.int 2))) tNil)) (tVar 1)) (gName 2))
          (tSeq (tAsg (tOp (rI CDiv fun i j => .int (i / j)) (tOp (rIxL K) (tVar 0) (tC (.int 2))) (tVar 1)) (gSub (tVar 0) (tC (.int 2)) rSetL)) (tRet (tVar 2)))) tNext)
        (tSeq (tAsg (tOp (rI0 fun i j => .int (i - j)) (tOp (rIxL K) (tVar 0) (tC (.int 3))) (tC (.int 1))) (gSub (tVar 0) (tC (.int 3)) rSetL))
          (tRet (tOp (rI (fun _ j => 0 < j) fun i j => .int (i % j)) (tCB (fun xs H Q => (∃ i, xs = [.int i] ∧ Q (.int i) H) ∨ ∃ k, xs = [.bl k] ∧ Q (.int (if k then 1 else 0)) H) (tCons (tCall spMixed [] E0 (tCons (tOp (rIxL K) (tVar 0) (tC (.int 4))) (tCons (tOp (rIxL K) (tVar 0) (tC (.int 6))) (tCons (tOp (rIxL K) (tVar 0) (tC (.int 5))) tNil)))) tNil)) (tVar 1)))))
        { nx := fun _ H' => Q .non H', rt := Q } [some (.ref a), some (.int m), none] H2 := by
      intro H2 k2
      obtain ⟨i, b, c, cl, n, z, h0, h1⟩ := k2.src.at_
      refine ⟨_, rfl, a, _, 2, .int b, rfl, rfl, .inl (.inl h1), rfl, _, _, rfl, rfl, _, rfl, ?_⟩
      refine ite2 (fun _ => ?_) (fun _ => ?_)
      · refine ⟨_, rfl, a, _, 2, .int b, rfl, rfl, .inl (.inl h1), rfl, .inl ⟨_, rfl, _, rfl, _, _, rfl, rfl, m0, ?_⟩⟩
        refine ⟨_, rfl, a, _, 2, .int b, rfl, rfl, .inl (.inl h1), rfl, _, rfl, _, _, rfl, rfl, ⟨m0, m1⟩, _, rfl, a, _, 2, 2, rfl, rfl, h1, rfl, ?_⟩
        refine ⟨_, rfl, k (b % m) _ (Int.emod_nonneg _ (Int.ne_of_gt m0)) (Int.emod_lt_of_pos _ m0) (k2.trans ?_)⟩
        exact k2.src.put (i := i) (b := b / m) (c := c) (cl := cl) (n := n) (w := z) h0
      · refine ⟨_, rfl, a, _, 3, .int c, rfl, rfl, .inl (.inl h1), rfl, _, _, rfl, rfl, _, rfl, a, _, 3, 3, rfl, rfl, h1, rfl, ?_⟩
        have k3 : Keeps l a H2 (upd H2 a (.lst (srcL l i b (c - 1) cl n z))) := k2.src.put h0
        have g3 : (upd H2 a (.lst (srcL l i b (c - 1) cl n z))) a = some (.lst (srcL l i b (c - 1) cl n z)) := upd_same
        refine ⟨_, rfl, a, _, 4, .int cl, rfl, rfl, .inl (.inl g3), rfl, _, rfl, a, _, 6, .int z, rfl, rfl, .inl (.inl g3), rfl, _, rfl, a, _, 5, .int n, rfl, rfl, .inl (.inl g3), rfl, cl, z, n, rfl, fun v => ?_⟩
        refine .inl ⟨_, rfl, _, rfl, _, _, rfl, rfl, m0, ?_⟩
        exact k (v % m) _ (Int.emod_nonneg _ (Int.ne_of_gt m0)) (Int.emod_lt_of_pos _ m0) (k2.trans k3)
    refine ⟨_, rfl, a, _, 2, .int b, rfl, rfl, .inl (.inl g1), rfl, rfl, _, rfl, ?_⟩
    refine ite2 (fun _ => ?_) (fun _ => ?_)
    · refine ⟨_, rfl, a, _, 3, .int c, rfl, rfl, .inl (.inl g1), rfl, rfl, _, rfl, ?_⟩
      refine ite2 (fun _ => ?_) (fun _ => rest H1 k1)
      exact ⟨_, rfl, l, a, rfl, k1.src, fun H2 k2 => rest H2 (k1.trans k2)⟩
    · exact iteF (rest H1 k1)
/-! ### the law's lot of a mask -/
theorem scLawLot : FnScope ["_law_mask", "_law_places", "_law_place"] ["_law_mask"] (defScope s_law_lot) := ⟨rfl, rfl, rfl, by decide +kernel, rfl, by decide +kernel, by decide +kernel⟩
theorem bit_one (m p : Nat) : decide (V.int (Builtin.bitAnd ((m : Int) / 2 ^ ((p : Int).toNat)) 1) = V.int 1) = m.testBit p := by
  rw [dec_int, bitAnd_m1, Int.toNat_natCast, Nat.testBit_eq_decide_div_mod_eq]
  have e : ((m : Int) / 2 ^ p) % 2 = ((m / 2 ^ p % 2 : Nat) : Int) := by
    rw [Int.natCast_emod, Int.natCast_ediv, Int.natCast_pow]; rfl
  rw [e]
  rcases Nat.mod_two_eq_zero_or_one (m / 2 ^ p) with h | h <;> rw [h] <;> rfl
theorem ok_law_lot {f : Addr} {fd : FuncData} (T : Bi mg) (F : FnP K "_law_lot" s_law_lot f fd) : FnOk P w K mg base CX0 1 f fd ["_law_mask"] spLotOf := by
  refine F.ok scLawLot (fun vs H Q E h => ?_) (fun cdv A outer s H vs Q E hr h => ?_)
  · obtain ⟨m, rfl, _⟩ := h
    rfl
  · obtain ⟨m, rfl, hm, k⟩ := h
    refine ⟨_, PSs.nox (pss_cons (ps_set (i := 1) scLawLot.nd rfl (Or.inl rfl) (pe_lst pa_nil))
      (pss_cons (ps_for PassesOwn.never rfl (pi_range1 rfl T.range (pa_cons (pe_bits (pv 0)) pa_nil)) (pg_name (i := 2) scLawLot.nd rfl (Or.inl rfl))
        (pss_one (ps_if (pt_cmpR op_eq (pe_op op_and (pe_op op_shr (pv 0) (pv 2)) pe_int) pe_int (nomark _))
          (pss_one (ps_expr (pe_bm PySem.F.plainAttrs_list PySem.F.slot_list_append PySem.F.type_list_append mt_append (pv 1) (pa_cons (pv 2) pa_nil)))) pss_nil)))
      (pss_one (ps_ret (pe_tupleOf rfl T.tuple (pv 1)))))), ?_⟩
    have hb : bitsN m ≤ 1000 := bitsN_le hm
    refine ⟨Nat.zero_le _, fun D hD => ⟨_, rfl, (m : Int), rfl, _, rfl, ?_, ?_, ?_⟩⟩
    · rw [intBits_nat]; omega
    · rw [intBits_nat]; omega
    rw [intBits_nat, Int.toNat_natCast]
    refine for_range (lo := 0) (n := bitsN m) (fun i σ H' => Same H H' ∧ H' D = some (.lst (lotV (lotB i m))) ∧ ∃ y : Option V, σ = [some (.int (m : Int)), some (.ref D), y]) ⟨Same.new (Same.refl H) hD, upd_same, none, rfl⟩ ?_ ?_
    · rintro i σ H' hi ⟨s5, hd, y, rfl⟩
      refine ⟨_, rfl, _, rfl, (m : Int), 0 + (i : Int), rfl, rfl, (by omega), _, _, rfl, rfl, rfl, _, rfl, ?_⟩
      rw [Int.zero_add, bit_one]
      rcases Bool.eq_false_or_eq_true (m.testBit i) with hb | hb
      · rw [hb, lotB_yes hb]
        refine iteT ⟨_, rfl, .inl ⟨rfl, _, SqL.of hd⟩, _, rfl, D, _, _, rfl, rfl, hd, ?_, Same.own s5 hD, ?_, _, rfl⟩
        · rw [lotV_len]
          exact Nat.lt_of_le_of_lt (lotB_len i m) (by rw [sizeLine_eq]; omega)
        · rw [upd_same]
          unfold lotV
          rw [List.map_append]; rfl
      · rw [hb, lotB_no hb]
        exact iteF ⟨s5, hd, _, rfl⟩
    · rintro σ H' ⟨s5, hd, y, rfl⟩
      refine ⟨_, rfl, .inl ⟨D, _, rfl, .inl (.inl hd), fun p hp => ?_⟩⟩
      exact k p _ (s5.free hp) (Same.new s5 hp) upd_same
end
end BT

set_option Elab.async false
set_option linter.all false
set_option maxRecDepth 100000
set_option maxHeartbeats 4000000
namespace BT
open PySem PySem.Spec PyProof.Rows L2
/-! ### short data -/
theorem dWA_le {n : Nat} : ∀ {ds : List PyData}, (∀ d ∈ ds, dW d + 2 ≤ n) → dWA ds ≤ n * ds.length
  | [], _ => Nat.le_refl _
  | d :: ds, h => by
    have h1 := h d (List.mem_cons_self ..)
    have h2 := dWA_le (n := n) (ds := ds) fun e he => h e (List.mem_cons_of_mem _ he)
    simp only [dWA, List.length_cons]
    rw [Nat.mul_succ]
    omega
theorem okIA_of : ∀ {ds : List PyData}, (∀ d ∈ ds, okI d = true) → okIA ds = true
  | [], _ => rfl
  | d :: ds, h => by
    simp only [okIA, Bool.and_eq_true]
    exact ⟨h d (List.mem_cons_self ..), okIA_of fun e he => h e (List.mem_cons_of_mem _ he)⟩
theorem depthA_le {n : Nat} : ∀ {ds : List PyData}, (∀ d ∈ ds, d.depth ≤ n) → PyData.depthAll ds ≤ n
  | [], _ => by simp [PyData.depthAll]
  | d :: ds, h => by
    simp only [PyData.depthAll]
    exact Nat.max_le.mpr ⟨h d (List.mem_cons_self ..), depthA_le fun e he => h e (List.mem_cons_of_mem _ he)⟩
theorem hasDictA_no : ∀ {ds : List PyData}, (∀ d ∈ ds, d.hasDict = false) → PyData.hasDictAll ds = false
  | [], _ => by simp [PyData.hasDictAll]
  | d :: ds, h => by
    simp only [PyData.hasDictAll, Bool.or_eq_false_iff]
    exact ⟨h d (List.mem_cons_self ..), hasDictA_no fun e he => h e (List.mem_cons_of_mem _ he)⟩
/-- one item of a short tuple -/
structure It1 (d : PyData) : Prop where
  ok : okI d = true
  w : dW d ≤ 41
  dp : d.depth = 0
  nd : d.hasDict = false
theorem it_int {z : Int} (h : z.natAbs < 10 ^ 40) : It1 (.int z) := ⟨by simp only [okI]; exact decide_eq_true h, by simp [dW], by simp [PyData.depth], by simp [PyData.hasDict]⟩
theorem it_none : It1 .none := ⟨rfl, by decide, by simp [PyData.depth], by simp [PyData.hasDict]⟩
theorem it_bool (b : Bool) : It1 (.bool b) := ⟨by simp [okI], by simp [dW], by simp [PyData.depth], by simp [PyData.hasDict]⟩
theorem it_str {x : Str} (h : strOk x = true) (hl : x.length ≤ 3) : It1 (.str x) := ⟨by simpa only [okI] using h, by simp only [dW]; omega, by simp [PyData.depth], by simp [PyData.hasDict]⟩
theorem It1.sm {d : PyData} (h : It1 d) : Sm 41 d := ⟨h.ok, h.w, by rw [h.dp]; omega, fun e => by rw [h.nd] at e; cases e⟩
theorem sm_items {ds : List PyData} {n : Nat} (hl : ds.length ≤ n) (h : ∀ d ∈ ds, It1 d) : Sm (43 * n + 3) (.tuple ds) ∧ Sm (43 * n + 3) (.list ds) := by
  have h1 := okIA_of fun d hd => (h d hd).ok
  have h2 := dWA_le (n := 43) fun d hd => by have := (h d hd).w; omega
  have h3 : 43 * ds.length ≤ 43 * n := Nat.mul_le_mul_left _ hl
  have h4 := depthA_le (n := 0) fun d hd => by rw [(h d hd).dp]; omega
  have h5 := hasDictA_no fun d hd => (h d hd).nd
  refine ⟨⟨by simpa only [okI] using h1, by simp only [dW]; omega, by simp only [PyData.depth]; omega, fun e => ?_⟩, ⟨by simpa only [okI] using h1, by simp only [dW]; omega, by simp only [PyData.depth]; omega, fun e => ?_⟩⟩
  · simp only [PyData.hasDict] at e; rw [h5] at e; cases e
  · simp only [PyData.hasDict] at e; rw [h5] at e; cases e
theorem nat_small {p : Nat} (h : p < 1000) : ((p : Int)).natAbs < 10 ^ 40 := Nat.lt_trans (show p < 1000 from h) (by decide)
theorem it_lot {l : List Nat} {n : Nat} (h : IsLot n l) (hn : n ≤ 1000) : ∀ d ∈ l.map (fun p : Nat => PyData.int (p : Int)), It1 d := fun d hd => by
  obtain ⟨p, hp, rfl⟩ := List.mem_map.mp hd
  exact it_int (nat_small (h.small hn p hp))
theorem asc_len {n : Nat} {l : List Nat} (h : IsLot n l) : l.length ≤ n := by
  have e : lotB n (maskN l) = l := lotB_maskN h.asc h.lt
  have := lotB_len n (maskN l)
  rw [e] at this
  exact this
theorem sm_lot {l : List Nat} {n : Nat} (h : IsLot n l) (hn : n ≤ 60) : Sm 3000 (lotD l) := by
  have q := (sm_items (n := 60) (by rw [List.length_map]; have := asc_len h; omega) (it_lot h (by omega))).1
  exact q.mono (by decide)
theorem noList_lot : ∀ l : List Nat, hasList (lotD l) = false
  | [] => rfl
  | p :: l => by
    have q := noList_lot l
    simp only [lotD, hasList, List.map_cons, hasListA, Bool.false_or] at q ⊢
    exact q
/-- a pair of a short text and short data -/
theorem sr_pair {x : Str} {d : PyData} {n : Nat} (hx : strOk x = true) (hl : x.length ≤ 10) (h : Sm n d) (hn : n ≤ 900000) : Sr (.tuple [.str x, d]) := by
  refine ⟨?_, ?_, ?_, fun e => ?_⟩
  · simp only [okI, okIA, Bool.and_eq_true]; exact ⟨hx, h.ok, trivial⟩
  · simp only [dW, dWA]; have := h.w; omega
  · simp only [PyData.depth, PyData.depthAll]; have := h.dp; omega
  · simp only [PyData.hasDict, PyData.hasDictAll, Bool.false_or, Bool.or_false] at e
    simp only [hasList, hasListA, Bool.false_or, Bool.or_false]
    exact h.dl e
/-! ### what is no lot -/
theorem lot_mem {n : Nat} {ds : List PyData} (h : isLotD (n : Int) (.tuple ds) = true) : ∀ d ∈ ds, ∃ p : Nat, d = .int (p : Int) ∧ p < n := fun d hd => by
  obtain ⟨l, e, hl⟩ := isLotD_inv h
  injection e with e
  rw [e] at hd
  obtain ⟨p, hp, rfl⟩ := List.mem_map.mp hd
  exact ⟨p, rfl, hl.lt p hp⟩
theorem no_lot {n : Nat} {ds : List PyData} {d : PyData} (hd : d ∈ ds) (h : ∀ p : Nat, p < n → d ≠ .int (p : Int)) : isLotD (n : Int) (.tuple ds) = false := by
  cases e : isLotD (n : Int) (.tuple ds) with
  | false => rfl
  | true =>
    obtain ⟨p, h1, h2⟩ := lot_mem e d hd
    exact absurd h1 (h p h2)
theorem twice_no_lot {n : Nat} {l : List Nat} {j : Nat} (hj : j < l.length) : isLotD (n : Int) (.tuple ((l.take (j + 1) ++ l.drop j).map fun p : Nat => PyData.int (p : Int))) = false := by
  cases e : isLotD (n : Int) (.tuple ((l.take (j + 1) ++ l.drop j).map fun p : Nat => PyData.int (p : Int))) with
  | false => rfl
  | true =>
    obtain ⟨m, em, hm⟩ := isLotD_inv e
    injection em with em
    have e2 : l.take (j + 1) ++ l.drop j = m := by
      have inj : ∀ {a b : List Nat}, a.map (fun p : Nat => PyData.int (p : Int)) = b.map (fun p : Nat => PyData.int (p : Int)) → a = b := by
        intro a
        induction a with
        | nil => intro b h; cases b with
          | nil => rfl
          | cons y b => cases h
        | cons x a ih => intro b h; cases b with
          | nil => cases h
          | cons y b =>
            rw [List.map_cons, List.map_cons] at h
            injection h with h1 h2
            injection h1 with h1
            rw [Int.ofNat.inj h1, ih h2]
      exact inj em
    have pw := hm.asc
    rw [← e2] at pw
    have hp := (List.pairwise_append.mp pw).2.2
    have h1 : l[j] ∈ l.take (j + 1) := by
      rw [take_snoc (List.getElem?_eq_getElem hj)]
      exact List.mem_append_right _ (List.mem_singleton.mpr rfl)
    have h2 : l[j] ∈ l.drop j := by
      rw [List.drop_eq_getElem_cons hj]; exact List.mem_cons_self ..
    exact absurd (hp _ h1 _ h2) (Nat.lt_irrefl _)
/-! ### tuples: concatenated, cut -/
theorem cat_any {K : PySem.W.Frag} {H : Hp} {a b : Addr} {xs ys : List V} {Q : VK} (ha : H a = some (.tup xs)) (hb : H b = some (.tup ys)) (hz : xs.length + ys.length ≤ 1000)
    (k : ∀ (p : Addr) (H' : Hp), Same H H' → H' p = some (.tup (xs ++ ys)) → Q (.ref p) H') : rCatA K (.ref a) (.ref b) H Q := by
  refine ⟨a, b, xs, ys, rfl, rfl, .inl (.inl ha), .inl (.inl hb), by rw [sizeLine_eq]; omega, fun e => ?_, fun _ e => ?_, fun _ _ p hp => ?_⟩
  · subst e; exact k b H (Same.refl H) hb
  · subst e; exact k a H (Same.refl H) (by rw [List.append_nil]; exact ha)
  · exact k p _ (Same.new (Same.refl H) hp) upd_same
theorem cut_to {K : PySem.W.Frag} {H : Hp} {a : Addr} {xs : List V} {j : Nat} {Q : VK} (ha : H a = some (.tup xs)) (hj : j ≤ xs.length)
    (k : ∀ (p : Addr) (H' : Hp), Same H H' → H' p = some (.tup (xs.take j)) → Q (.ref p) H') : rSlA K (.ref a) none (some (j : Int)) H Q := by
  have e1 : HT.sIx xs.length 0 none = 0 := rfl
  have e2 : HT.sIx xs.length xs.length (some (j : Int)) = j := by rw [HT.sIx_nat]; omega
  refine ⟨a, xs, rfl, .inl (.inl ha), fun h => ?_, fun _ p hp => ?_⟩
  · rw [e2] at h
    exact k a H (Same.refl H) (by rw [h.2, List.take_length]; exact ha)
  · refine k p _ (Same.new (Same.refl H) hp) ?_
    rw [upd_same]
    unfold cutV
    rw [e1, e2]; rfl
theorem cut_from {K : PySem.W.Frag} {H : Hp} {a : Addr} {xs : List V} {j : Nat} {z : Int} {Q : VK} (ha : H a = some (.tup xs)) (ez : z = (j : Int)) (hj : j ≤ xs.length)
    (k : ∀ (p : Addr) (H' : Hp), Same H H' → H' p = some (.tup (xs.drop j)) → Q (.ref p) H') : rSlA K (.ref a) (some z) none H Q := by
  subst ez
  have e1 : HT.sIx xs.length xs.length none = xs.length := rfl
  have e2 : HT.sIx xs.length 0 (some (j : Int)) = j := by rw [HT.sIx_nat]; omega
  refine ⟨a, xs, rfl, .inl (.inl ha), fun h => ?_, fun _ p hp => ?_⟩
  · rw [e2] at h
    exact k a H (Same.refl H) (by rw [h.1]; exact ha)
  · refine k p _ (Same.new (Same.refl H) hp) ?_
    rw [upd_same]
    unfold cutV
    rw [e1, e2, List.take_of_length_le (by rw [List.length_drop]; omega)]
/-! ### data behind draws -/
theorem Src.ne_tup {l a t : Addr} {H : Hp} {xs : List V} (s : Src l a H) (h : H t = some (.tup xs)) : t ≠ a := fun e => by
  obtain ⟨i, b, c, cl, n, w, _, h1⟩ := s.at_
  rw [e, h1] at h; cases h
theorem Src.del_tup {l a t : Addr} {H : Hp} {xs : List V} (s : Src l a H) (h : H t = some (.tup xs)) : L2.del H a t = some (.tup xs) := by rw [del_ne (s.ne_tup h)]; exact h
theorem Src.dv_tup {l a t : Addr} {H : Hp} {xs : List V} {ds : List PyData} (s : Src l a H) (h : H t = some (.tup xs)) (A : DvA (L2.del H a) xs ds) : Dv (L2.del H a) (.ref t) (.tuple ds) := .tup (s.del_tup h) A
theorem lotV_take (l : List Nat) (j : Nat) : (lotV l).take j = lotV (l.take j) := by unfold lotV; rw [List.map_take]
theorem lotV_drop (l : List Nat) (j : Nat) : (lotV l).drop j = lotV (l.drop j) := by unfold lotV; rw [List.map_drop]
theorem lotV_app (l m : List Nat) : lotV l ++ lotV m = lotV (l ++ m) := by unfold lotV; rw [List.map_append]
end BT

set_option Elab.async false
set_option linter.all false
set_option maxRecDepth 100000
set_option maxHeartbeats 4000000
namespace BT
open PySem PySem.Spec PyProof.Rows L2
section
variable {P : Program} {w : World} {K : PySem.W.Frag} {mg : Str → Option Value} {base : Heap}
/-! ### integer -/
theorem scInteger : FnScope ["_law_value"] ["_law_value"] (defScope s_law_integer) := ⟨rfl, rfl, rfl, by decide +kernel, rfl, by decide +kernel, by decide +kernel⟩
theorem ok_law_integer {f : Addr} {fd : FuncData} (T : Bi mg) (F : FnP K "_law_integer" s_law_integer f fd) : FnOk P w K mg base CX0 1 f fd ["_law_value"] spIsNumber := by
  refine F.ok scInteger (fun vs H Q E h => ?_) (fun cdv A outer s H vs Q E hr h => ?_)
  · obtain ⟨v, d, rfl, _⟩ := h
    rfl
  · obtain ⟨v, d, rfl, hd, k⟩ := h
    refine ⟨_, PSs.nox (pss_one (ps_ret (pe_and (pe_isD rfl T.isinstance rfl T.int PyProof.Rows.boot_int kit_int (pv 0)) (pe_one (pe_not (pe_isD rfl T.isinstance rfl T.bool PyProof.Rows.boot_bool kit_bool (pv 0))))))), ?_⟩
    refine ⟨_, rfl, v, d, rfl, hd, _, rfl, ?_⟩
    have e := numD_eq d
    cases hi : isD "int" d with
    | true =>
      rw [hi, Bool.true_and] at e
      refine iteT ⟨_, rfl, v, d, rfl, hd, _, rfl, ?_⟩
      rw [e]
      exact k
    | false =>
      rw [hi, Bool.false_and] at e
      refine iteF ?_
      show Q (.bl false) H
      rw [e]
      exact k
/-! ### same -/
def spSame : Sp := fun vs H Q _ => ∃ (a b : Addr) (d : PyData), vs = [.ref a, .ref b] ∧ Dv H (.ref a) d ∧ Dv H (.ref b) d ∧ Sr d ∧ Q (.bl true) H
theorem scSame : FnScope ["_law_actual", "_law_expected"] ["_law_actual", "_law_expected"] (defScope s_law_same) := ⟨rfl, rfl, rfl, by decide +kernel, rfl, by decide +kernel, by decide +kernel⟩
theorem ok_law_same {f : Addr} {fd : FuncData} (T : Bi mg) (F : FnP K "_law_same" s_law_same f fd) : FnG P w K mg base 1 f fd ["_law_actual", "_law_expected"] spSame := by
  refine okG_of F scSame (fun vs H Q E h => ?_) (fun cdv A outer s H vs Q hr gd h => ?_)
  · obtain ⟨a, b, d, rfl, _⟩ := h
    rfl
  · obtain ⟨a, b, d, rfl, ha, hb, sm, k⟩ := h
    have hu := hr.units
    refine ⟨_, PSs.nox (pss_one (ps_ret (pe_cmpR op_eq (pe_callB (call_repr gd hu) (by rfl) T.repr PyProof.Rows.boot_repr (pa_cons (pv 0) pa_nil)) (pe_callB (call_repr gd hu) (by rfl) T.repr PyProof.Rows.boot_repr (pa_cons (pv 1) pa_nil)) (nomark _)))), ?_⟩
    refine ⟨_, rfl, a, d, rfl, ha, sm, _, rfl, b, d, rfl, hb, sm, rfl, ?_⟩
    rw [decide_eq_true rfl]
    exact k
end
end BT

set_option Elab.async false
set_option linter.all false
set_option maxRecDepth 100000
set_option maxHeartbeats 4000000
namespace BT
open PySem PySem.Spec PyProof.Rows L2
theorem dec_ne0 (n : Nat) : ((n : Int) != 0) = decide (n ≠ 0) := by
  by_cases h : n = 0
  · subst h; rfl
  · rw [decide_eq_true h, bne_iff_ne]; omega
theorem lotV_snoc (l : List Nat) (x : Nat) : lotV (l ++ [x]) = lotV l ++ [V.int (x : Int)] := by unfold lotV; rw [List.map_append]; rfl
section
variable {P : Program} {w : World} {K : PySem.W.Frag} {mg : Str → Option Value} {base : Heap} {tA : Tok}
/-! ### lowest -/
def spLowest : Sp := fun vs H Q _ => ∃ m : Nat, vs = [.int (m : Int)] ∧ Q (.int (lowN m : Nat)) H
theorem scLowest : FnScope ["mask"] ["mask"] (defScope s_lowest) := ⟨rfl, rfl, rfl, by decide +kernel, rfl, by decide +kernel, by decide +kernel⟩
theorem ok_lowest {f : Addr} {fd : FuncData} (F : FnP K "lowest" s_lowest f fd) : FnOk P w K mg base CX0 1 f fd ["mask"] spLowest := by
  refine F.ok scLowest (fun vs H Q E h => ?_) (fun cdv A outer s H vs Q E hr h => ?_)
  · obtain ⟨m, rfl, _⟩ := h
    rfl
  · obtain ⟨m, rfl, k⟩ := h
    refine ⟨_, PSs.nox (pss_one (ps_ret (pe_op op_and (pv 0) (pe_un un_neg (pv 0))))), ?_⟩
    refine ⟨_, rfl, _, rfl, _, rfl, _, _, rfl, rfl, ?_⟩
    show Q (.int (Builtin.bitAnd (m : Int) (-(m : Int)))) H
    rw [bitAnd_low]
    exact k
/-! ### cleared -/
def spCleared : Sp := fun vs H Q _ => ∃ (m : Nat) (a : Addr) (rs : List Nat) (part : Int), vs = [.int (m : Int), .ref a, .int part] ∧ NatsAt H a rs ∧ Q (.int (clearedF part m rs : Nat)) H
theorem scCleared : FnScope ["mask", "rows", "part", "row"] ["mask", "rows", "part"] (defScope s_cleared) := ⟨rfl, rfl, rfl, by decide +kernel, rfl, by decide +kernel, by decide +kernel⟩
theorem ok_cleared {f : Addr} {fd : FuncData} (DL : DefOk P w K mg base CX0 1 "lowest" ["mask"] spLowest) (F : FnP K "cleared" s_cleared f fd) : FnOk P w K mg base CX0 2 f fd ["mask", "rows", "part"] spCleared := by
  refine F.ok scCleared (fun vs H Q E h => ?_) (fun cdv A outer s H vs Q E hr h => ?_)
  · obtain ⟨m, a, rs, part, rfl, _⟩ := h
    rfl
  · obtain ⟨m, a, rs, part, rfl, ha, k⟩ := h
    refine ⟨_, PSs.nox (pss_cons (ps_for PassesOwn.never rfl (pi_seq (pv 1)) (pg_name (i := 3) scCleared.nd rfl (Or.inl rfl))
        (pss_one (ps_if (pt_truth (pe_op op_and (pv 0) (pe_d DL hr rfl (pa_cons (pe_op op_and (pv 3) (pv 2)) pa_nil))) (by intro _; rfl)) (pss_one (ps_aug (i := 0) scCleared.nd rfl (Or.inl rfl) (pv 3) iop_xor)) pss_nil)))
      (pss_one (ps_ret (pv 0)))), ?_⟩
    refine ⟨_, rfl, a, lotV rs, rfl, for_seq (K := K) (fun i σ H' => H' = H ∧ ∃ y : Option V, σ = [some (.int (clearedF part m (rs.take i) : Nat)), some (.ref a), some (.int part), y]) ⟨rfl, none, rfl⟩
      (ha.imp (fun q i σ H' _ p => p.1 ▸ q) (fun q i σ H' _ p => p.1 ▸ q)) ?_ ?_⟩
    · rintro i x σ H' hi ⟨rfl, y, rfl⟩
      obtain ⟨r, hr, rfl⟩ := lotV_get hi
      refine ⟨_, rfl, _, rfl, _, rfl, _, _, rfl, rfl, andN r part, congrArg (fun z => [V.int z]) (bitAnd_andN r part), _, _, rfl, rfl, _, rfl, ?_⟩
      rw [bitAnd_nat, dec_ne0, take_snoc hr, clearedF_snoc]
      unfold clearStep
      refine ite2 (fun c => ?_) (fun c => ?_)
      · rw [if_pos (of_decide_eq_true c)]
        refine ⟨_, rfl, _, rfl, _, _, rfl, rfl, rfl, some (.int (r : Int)), ?_⟩
        rw [← bitXor_nat]; rfl
      · rw [if_neg (fun q => c (decide_eq_true q))]
        exact ⟨rfl, _, rfl⟩
    · rintro σ H' ⟨rfl, y, rfl⟩
      refine ⟨_, rfl, ?_⟩
      rw [lotV_len, List.take_length]
      exact k
/-! ### sweep -/
def spSweep : Sp := fun vs H Q _ => ∃ (a : Addr) (ms : List Nat) (part : Int), vs = [.ref a, .int part] ∧ NatsAt H a ms ∧ ms.length ≤ 1000 ∧
  ∀ (p s h : Addr) (H' : Hp), Same H H' → H p = none → H s = none → H h = none → H' p = some (.tup [.ref s, .ref h]) → H' s = some (.lst (lotV (sweepF part ms).1)) → H' h = some (.lst (lotV (sweepF part ms).2)) → Q (.ref p) H'
theorem scSweep : FnScope ["masks", "part", "seen", "hidden", "mask", "rest", "low", "row"] ["masks", "part"] (defScope s_sweep) := ⟨rfl, rfl, rfl, by decide +kernel, rfl, by decide +kernel, by decide +kernel⟩
theorem sweep_len (part : Int) : ∀ (ms : List Nat) (st : List Nat × List Nat), (ms.foldl (sweepStep part) st).1.length + (ms.foldl (sweepStep part) st).2.length = st.1.length + st.2.length + ms.length
  | [], st => rfl
  | m :: ms, st => by
    rw [List.foldl_cons, sweep_len part ms]
    unfold sweepStep
    split
    · simp only [List.length_append, List.length_map, List.length_cons, List.length_nil]; omega
    · simp only [List.length_append, List.length_cons, List.length_nil]; omega
theorem sweepF_len (part : Int) (ms : List Nat) : (sweepF part ms).1.length + (sweepF part ms).2.length = ms.length := by
  have := sweep_len part ms ([], [])
  simp only [List.length_nil, Nat.zero_add] at this
  exact this
theorem ok_sweep {f : Addr} {fd : FuncData} (DL : DefOk P w K mg base CX0 1 "lowest" ["mask"] spLowest) (DC : DefOk P w K mg base CX0 2 "cleared" ["mask", "rows", "part"] spCleared) (F : FnP K "sweep" s_sweep f fd) : FnOk P w K mg base CX0 3 f fd ["masks", "part"] spSweep := by
  refine F.ok scSweep (fun vs H Q E h => ?_) (fun cdv A outer s H vs Q E hr h => ?_)
  · obtain ⟨a, ms, part, rfl, _⟩ := h
    rfl
  · obtain ⟨a, ms, part, rfl, ha, hz, k⟩ := h
    refine ⟨_, PSs.nox (pss_cons (ps_set (i := 2) scSweep.nd rfl (Or.inl rfl) (pe_lst pa_nil))
      (pss_cons (ps_set (i := 3) scSweep.nd rfl (Or.inl rfl) (pe_lst pa_nil))
      (pss_cons (ps_for PassesOwn.never rfl (pi_seq (pv 0)) (pg_name (i := 4) scSweep.nd rfl (Or.inl rfl))
        (pss_cons (ps_set (i := 5) scSweep.nd rfl (Or.inr rfl) (pe_d DC hr rfl (pa_cons (pv 4) (pa_cons (pv 2) (pa_cons (pv 1) pa_nil)))))
        (pss_cons (ps_set (i := 6) scSweep.nd rfl (Or.inr rfl) (pe_d DL hr rfl (pa_cons (pe_op op_and (pv 5) (pv 1)) pa_nil)))
        (pss_one (ps_if (pt_truth (pv 6) (by intro _; rfl))
          (pss_one (ps_set (i := 2) scSweep.nd rfl (Or.inl rfl) (pe_op op_cat (pe_lc (own := [("row", 7)]) (g := gName 7) (tt := tYes)
              (te := tIf (fun σ H Q => (tOp (rI0 fun i j => .int (Builtin.bitAnd i j)) (tVar 7) (tVar 6)) σ H fun x H' => ∃ k, TruV K x H' k ∧ Q k H') (tOp (rI0 fun i j => .int (Builtin.bitXor i j)) (tVar 7) (tVar 5)) (tVar 7)) rfl scSweep.nd (pi_list (pv 2))
              (blkOk_by (N := ["masks", "part", "seen", "hidden", "mask", "rest", "low", "row"]) (sc := defScope s_sweep) (by decide +kernel)) (fun _ _ _ _ _ => pg_name (i := 7) scSweep.nd rfl (Or.inl rfl)) (fun _ _ _ _ _ => pts_nil)
              (fun _ _ _ _ _ => by exact (pe_ifExp (pt_truth (pe_op op_and (pv 7) (pv 6)) (by intro _; rfl)) (pe_op op_xor (pv 7) (pv 5)) (pv 7)))) (pe_lst (pa_cons (pv 5) pa_nil)))))
          (pss_one (ps_expr (pe_bm PySem.F.plainAttrs_list PySem.F.slot_list_append PySem.F.type_list_append mt_append (pv 3) (pa_cons (pv 5) pa_nil)))))))))
      (pss_one (ps_ret (pe_tup (pa_cons (pv 2) (pa_cons (pv 3) pa_nil)))))))), ?_⟩
    refine ⟨Nat.zero_le _, fun s0 hs0 => ⟨Nat.zero_le _, fun h0 hh0 => ?_⟩⟩
    have fs0 : H s0 = none := hs0
    have fh0 : H h0 = none := Same.free (Same.new (Same.refl H) hs0) hh0
    have ne0 : s0 ≠ h0 := fun e => by rw [← e, upd_same] at hh0; cases hh0
    have s2 : Same H (upd (upd H s0 (.lst [])) h0 (.lst [])) := Same.new (Same.new (Same.refl H) hs0) hh0
    refine ⟨_, rfl, a, lotV ms, rfl, for_seq (K := K) (fun j σ H' => Same H H' ∧ ∃ (s1 h1 : Addr) (y z u v : Option V), σ = [some (.ref a), some (.int part), some (.ref s1), some (.ref h1), y, z, u, v] ∧ H s1 = none ∧ H h1 = none ∧ s1 ≠ h1 ∧
        H' s1 = some (.lst (lotV (sweepF part (ms.take j)).1)) ∧ H' h1 = some (.lst (lotV (sweepF part (ms.take j)).2)))
      ⟨s2, s0, h0, none, none, none, none, rfl, fs0, fh0, ne0, by rw [upd_ne ne0, upd_same]; rfl, upd_same⟩ (ha.imp (fun q i σ H' _ p => p.1 _ _ q) (fun q i σ H' _ p => p.1 _ _ q)) ?_ ?_⟩
    · rintro j x σ H' hj ⟨s3, s1, h1, y, z, u, v, rfl, fs, fh, ne, gs, gh⟩
      obtain ⟨m, hm, rfl⟩ := lotV_get hj
      have hjl : j < ms.length := (List.getElem?_eq_some_iff.mp hm).1
      rw [take_snoc hm, sweepF_snoc]
      have hlen := sweepF_len part (ms.take j)
      rw [List.length_take] at hlen
      generalize sweepF part (ms.take j) = st at gs gh hlen
      refine ⟨_, rfl, _, rfl, _, rfl, m, s1, st.1, part, rfl, .inl gs, _, rfl, _, rfl, _, _, rfl, rfl, andN (clearedF part m st.1) part, congrArg (fun z => [V.int z]) (bitAnd_andN _ part), _, rfl, _, rfl, ?_⟩
      rw [dec_ne0]
      unfold sweepStep
      generalize hrest : clearedF part m st.1 = rest
      generalize hlow : lowN (andN rest part) = low
      refine ite2 (fun c => ?_) (fun c => ?_)
      · rw [if_pos (of_decide_eq_true c)]
        refine ⟨_, rfl, s1, rfl, ⟨_, .inl (.inl gs)⟩, fun D hD => ?_⟩
        have sD := Same.new s3 (o := .lst []) hD
        have nD : D ≠ s1 := fun e => by rw [e, gs] at hD; cases hD
        have nDh : D ≠ h1 := fun e => by rw [e, gh] at hD; cases hD
        have fD : H D = none := s3.free hD
        refine lc_list (K := K) (a := s1) (xs := lotV st.1) (fun i H2 => Same H H2 ∧ H2 s1 = some (.lst (lotV st.1)) ∧ H2 h1 = some (.lst (lotV st.2)) ∧ H2 D = some (.lst (lotV ((st.1.take i).map fun row => if row &&& low ≠ 0 then row ^^^ rest else row))))
          ⟨sD, by rw [upd_ne (Ne.symm nD)]; exact gs, by rw [upd_ne (Ne.symm nDh)]; exact gh, upd_same⟩ (fun i H2 _ p => .inl (.inl p.2.1)) ?_ ?_
        · rintro i x H2 hi ⟨t1, t2, t3, t4⟩
          obtain ⟨row, hrow, rfl⟩ := lotV_get hi
          refine ⟨rfl, _, rfl, _, rfl, _, _, rfl, rfl, _, rfl, ?_⟩
          rw [bitAnd_nat, dec_ne0, take_snoc hrow, List.map_append]
          have acc : ((st.1.take i).map fun row => if row &&& low ≠ 0 then row ^^^ rest else row).length < sizeLine := by
            rw [List.length_map, List.length_take, sizeLine_eq]; omega
          have fin : ∀ y : Nat, y = (if row &&& low ≠ 0 then row ^^^ rest else row) → Same H (upd H2 D (.lst (lotV ((st.1.take i).map fun row => if row &&& low ≠ 0 then row ^^^ rest else row) ++ [V.int (y : Int)]))) ∧
              (upd H2 D (.lst (lotV ((st.1.take i).map fun row => if row &&& low ≠ 0 then row ^^^ rest else row) ++ [V.int (y : Int)]))) s1 = some (.lst (lotV st.1)) ∧ (upd H2 D (.lst (lotV ((st.1.take i).map fun row => if row &&& low ≠ 0 then row ^^^ rest else row) ++ [V.int (y : Int)]))) h1 = some (.lst (lotV st.2)) ∧
              (upd H2 D (.lst (lotV ((st.1.take i).map fun row => if row &&& low ≠ 0 then row ^^^ rest else row) ++ [V.int (y : Int)]))) D = some (.lst (lotV (((st.1.take i).map fun row => if row &&& low ≠ 0 then row ^^^ rest else row) ++ [row].map fun row => if row &&& low ≠ 0 then row ^^^ rest else row))) := fun y hy => by
            refine ⟨Same.own t1 fD, by rw [upd_ne (Ne.symm nD)]; exact t2, by rw [upd_ne (Ne.symm nDh)]; exact t3, ?_⟩
            rw [upd_same, List.map_singleton, lotV_snoc, ← hy]
          refine ite2 (fun c => ?_) (fun c => ?_)
          · refine ⟨_, rfl, _, rfl, _, _, rfl, rfl, _, t4, (by rw [lotV_len]; exact acc), ?_⟩
            have q := fin (row ^^^ rest) (by rw [if_pos (of_decide_eq_true c)])
            rw [← bitXor_nat] at q
            exact q
          · exact ⟨_, rfl, _, t4, (by rw [lotV_len]; exact acc), fin row (by rw [if_neg fun q => c (decide_eq_true q)])⟩
        · rintro H2 ⟨t1, t2, t3, t4⟩
          rw [lotV_len, List.take_length] at t4
          refine ⟨_, rfl, (by show 1 ≤ sizeLine; decide), fun p hp => ⟨D, p, _, _, rfl, rfl, (Same.new (Same.refl H2) hp) _ _ t4, upd_same, (by rw [lotV_len, List.length_map, List.length_singleton, sizeLine_eq]; omega), fun p2 hp2 => ?_⟩⟩
          have w := Same.new (Same.new t1 hp) (o := .lst (lotV (st.1.map fun row => if row &&& low ≠ 0 then row ^^^ rest else row) ++ [V.int (rest : Int)])) hp2
          have g1 : (upd H2 p (.lst [V.int (rest : Int)])) h1 = some (.lst (lotV st.2)) := (Same.new (Same.refl H2) hp) _ _ t3
          refine ⟨w, p2, h1, _, _, _, _, rfl, (Same.new t1 hp).free hp2, fh, fun e => ?_, ?_, ?_⟩
          · rw [e, g1] at hp2; cases hp2
          · rw [upd_same, lotV_snoc]
          · exact (Same.new (Same.refl _) hp2) _ _ g1
      · rw [if_neg (fun q => c (decide_eq_true q))]
        refine ⟨_, rfl, .inl ⟨rfl, _, SqL.of gh⟩, _, rfl, h1, _, _, rfl, rfl, gh, ?_, Same.own s3 fh, s1, h1, _, _, _, _, rfl, fs, fh, ne, by rw [upd_ne ne]; exact gs, ?_⟩
        · rw [lotV_len, sizeLine_eq]; omega
        · rw [upd_same, lotV_snoc]
    · rintro σ H' ⟨s3, s1, h1, y, z, u, v, rfl, fs, fh, ne, gs, gh⟩
      rw [lotV_len, List.take_length] at gs gh
      refine ⟨_, rfl, _, rfl, (by show 2 ≤ sizeLine; decide), fun p hp => ?_⟩
      exact k p s1 h1 _ (Same.new s3 hp) (s3.free hp) fs fh upd_same ((Same.new (Same.refl H') hp) _ _ gs) ((Same.new (Same.refl H') hp) _ _ gh)
end
end BT

set_option Elab.async false
set_option linter.all false
set_option maxRecDepth 100000
set_option maxHeartbeats 4000000
namespace BT
open PySem PySem.Spec PyProof.Rows L2
/-- more built-in names that the text leaves alone -/
structure Bi2 (mg : Str → Option Value) : Prop where
  sorted : mg "sorted" = none
  any : mg "any" = none
  all : mg "all" = none
  sum : mg "sum" = none
/-! ### the rows that the checks are made of -/
def checkRaw (rows : List Nat) (n : Nat) : List Nat := (List.range n).filterMap fun p => if rows.any (fun r => decide (lowN r = 2 ^ p)) then none else some (2 ^ p ||| ((rows.filter fun r => decide (r &&& 2 ^ p ≠ 0)).map lowN).sum)
def checkF (rows : List Nat) (n : Nat) : List Nat := reduceF (checkRaw rows n)
def spanF (ms : List Nat) : List Nat := ms.foldl (fun sums m => sums ++ sums.map (m ^^^ ·)) [0]
def pickedF (m : Nat) (places : List Nat) : Nat := (places.zipIdx.foldl (fun r x => r ||| ((m >>> x.1 &&& 1) <<< x.2)) 0)
def bitsAtF (m : Nat) (ats : List Nat) : Nat := (ats.zipIdx.foldl (fun r x => r ||| ((pop (m &&& x.1) % 2) <<< x.2)) 0)
theorem checkRaw_succ (rows : List Nat) (n : Nat) : checkRaw rows (n + 1) = checkRaw rows n ++ (if rows.any (fun r => decide (lowN r = 2 ^ n)) then [] else [2 ^ n ||| ((rows.filter fun r => decide (r &&& 2 ^ n ≠ 0)).map lowN).sum]) := by
  unfold checkRaw
  rw [List.range_succ, List.filterMap_append]
  congr 1
  simp only [List.filterMap_cons, List.filterMap_nil]
  by_cases h : rows.any (fun r => decide (lowN r = 2 ^ n)) = true
  · rw [h]; rfl
  · rw [Bool.not_eq_true] at h
    rw [h]; rfl
theorem checkRaw_len (rows : List Nat) (n : Nat) : (checkRaw rows n).length ≤ n := by
  unfold checkRaw
  refine Nat.le_trans (List.length_filterMap_le _ _) ?_
  rw [List.length_range]; exact Nat.le_refl _
theorem zipIdx_snoc (l : List Nat) (x : Nat) : (l ++ [x]).zipIdx = l.zipIdx ++ [(x, l.length)] := by
  rw [List.zipIdx_append]; simp
theorem spanF_snoc (ms : List Nat) (m : Nat) : spanF (ms ++ [m]) = spanF ms ++ (spanF ms).map (m ^^^ ·) := by unfold spanF; rw [List.foldl_append]; rfl
theorem span_len : ∀ (ms acc : List Nat), (ms.foldl (fun sums m => sums ++ sums.map (m ^^^ ·)) acc).length = acc.length * 2 ^ ms.length
  | [], acc => by simp
  | m :: ms, acc => by
    rw [List.foldl_cons, span_len ms, List.length_append, List.length_map, List.length_cons, Nat.pow_succ]
    rw [← Nat.two_mul, Nat.mul_comm 2, Nat.mul_assoc, Nat.mul_comm 2]
theorem spanF_len (ms : List Nat) : (spanF ms).length = 2 ^ ms.length := by
  have := span_len ms [0]
  simpa [spanF] using this
theorem cast_sum : ∀ l : List Nat, (l.map fun p : Nat => (p : Int)).sum = ((l.sum : Nat) : Int)
  | [] => rfl
  | x :: l => by rw [List.map_cons, List.sum_cons, List.sum_cons, cast_sum l]; omega
theorem lotV_ints (l : List Nat) : lotV l = (l.map fun p : Nat => (p : Int)).map V.int := by unfold lotV; rw [List.map_map]; rfl
theorem shl_nat (a p : Nat) : (a : Int) * 2 ^ ((p : Int).toNat) = ((a <<< p : Nat) : Int) := by
  rw [Int.toNat_natCast, Nat.shiftLeft_eq, Int.natCast_mul, Int.natCast_pow]; rfl
theorem shr_nat (a p : Nat) : (a : Int) / 2 ^ ((p : Int).toNat) = ((a >>> p : Nat) : Int) := by
  rw [Int.toNat_natCast, Nat.shiftRight_eq_div_pow, Int.natCast_ediv, Int.natCast_pow]; rfl
section
variable {P : Program} {w : World} {K : PySem.W.Frag} {mg : Str → Option Value} {base : Heap} {tA : Tok}
/-! ### reduce_rows -/
def spReduce : Sp := fun vs H Q _ => ∃ (a : Addr) (ms : List Nat), vs = [.ref a] ∧ NatsAt H a ms ∧ ms.length < 64 ∧ ∀ (p : Addr) (H' : Hp), H p = none → Same H H' → H' p = some (.lst (lotV (reduceF ms))) → Q (.ref p) H'
theorem scReduce : FnScope ["masks", "seen", "_"] ["masks"] (defScope s_reduce_rows) := ⟨rfl, rfl, rfl, by decide +kernel, rfl, by decide +kernel, by decide +kernel⟩
theorem ok_reduce_rows {f : Addr} {fd : FuncData} (T2 : Bi2 mg) (hA : mg "ALL_PLACES" = some (.int (-1) tA)) (DL : DefOk P w K mg base CX0 1 "lowest" ["mask"] spLowest) (DS : DefOk P w K mg base CX0 3 "sweep" ["masks", "part"] spSweep) (F : FnP K "reduce_rows" s_reduce_rows f fd) :
    FnOk P w K mg base CX0 4 f fd ["masks"] spReduce := by
  refine F.ok scReduce (fun vs H Q E h => ?_) (fun cdv A outer s H vs Q E hr h => ?_)
  · obtain ⟨a, ms, rfl, _⟩ := h
    rfl
  · obtain ⟨a, ms, rfl, ha, hz, k⟩ := h
    obtain ⟨fL, _, _, hmL, _, _⟩ := DL.ex
    refine ⟨_, PSs.nox (pss_cons (ps_asg (pe_d DS hr rfl (pa_cons (pv 0) (pa_cons (pe_glob (v := .int (-1)) rfl hA ⟨_, rfl⟩) pa_nil))) (pg_tup rfl (pgs_cons (pg_name (i := 1) scReduce.nd rfl (Or.inl rfl)) (pgs_cons (pg_name (i := 2) scReduce.nd rfl (Or.inl rfl)) pgs_nil))))
      (pss_one (ps_ret (pe_sortedKey DL hr rfl T2.sorted rfl (pv 1))))), ?_⟩
    refine ⟨_, rfl, a, ms, -1, rfl, ha, by omega, fun p s h H1 s1 fp fs fh gp gs gh => ?_⟩
    refine ⟨p, _, rfl, .inl (.inl gp), rfl, _, _, rfl, _, _, rfl, rfl, fL, hmL, _, rfl, s, _, (sweepF (-1) ms).1.map fun m => ((lowN m : Nat) : Int), rfl, rfl, .inl (.inl gs), by rw [List.length_map, lotV_len], ?_, fun i x kk hx hk => ?_, fun ys q hy hq => ?_⟩
    · have := sweepF_len (-1) ms
      rw [lotV_len]; omega
    · obtain ⟨m, hm, rfl⟩ := lotV_get hx
      rw [List.getElem?_map, hm] at hk
      have e := Option.some.inj hk
      subst e
      exact ⟨m, rfl, rfl, rfl⟩
    · have e := key_reduce hy
      subst e
      exact k q _ (s1.free hq) (Same.new s1 hq) upd_same
/-! ### picked -/
def spPicked : Sp := fun vs H Q _ => ∃ (m : Nat) (a : Addr) (ps : List Nat), vs = [.int (m : Int), .ref a] ∧ NatsAt H a ps ∧ (∀ p ∈ ps, p < 1000) ∧ ps.length ≤ 1000 ∧ ∀ H', Same H H' → Q (.int (pickedF m ps : Nat)) H'
theorem scPicked : FnScope ["mask", "places", "result", "number", "place"] ["mask", "places"] (defScope s_picked) := ⟨rfl, rfl, rfl, by decide +kernel, rfl, by decide +kernel, by decide +kernel⟩
theorem ok_picked {f : Addr} {fd : FuncData} (T : Bi mg) (F : FnP K "picked" s_picked f fd) : FnOk P w K mg base CX0 1 f fd ["mask", "places"] spPicked := by
  refine F.ok scPicked (fun vs H Q E h => ?_) (fun cdv A outer s H vs Q E hr h => ?_)
  · obtain ⟨m, a, ps, rfl, _⟩ := h
    rfl
  · obtain ⟨m, a, ps, rfl, ha, hb, hz, k⟩ := h
    refine ⟨_, PSs.nox (pss_cons (ps_set (i := 2) scPicked.nd rfl (Or.inl rfl) pe_int)
      (pss_cons (ps_for PassesOwn.never rfl (pi_enumA rfl T.enumerate (pa_cons (pv 1) pa_nil)) (pg_tup rfl (pgs_cons (pg_name (i := 3) scPicked.nd rfl (Or.inl rfl)) (pgs_cons (pg_name (i := 4) scPicked.nd rfl (Or.inl rfl)) pgs_nil)))
        (pss_one (ps_aug (i := 2) scPicked.nd rfl (Or.inl rfl) (pe_op op_shl (pe_op op_and (pe_op op_shr (pv 0) (pv 4)) pe_int) (pv 3)) iop_or)))
      (pss_one (ps_ret (pv 2))))), ?_⟩
    refine ⟨_, rfl, a, lotV ps, rfl, for_enumA (K := K) ha (fun i σ H' => Same H H' ∧ ∃ y z : Option V, σ = [some (.int (m : Int)), some (.ref a), some (.int (pickedF m (ps.take i) : Nat)), y, z]) ⟨Same.refl H, none, none, rfl⟩ (fun i σ H' _ p o e => p.1 _ _ e) ?_ ?_⟩
    · rintro i x σ H' D hx ⟨s1, y, z, rfl⟩ hD
      obtain ⟨p, hp, rfl⟩ := lotV_get hx
      have hpl := hb p (List.mem_of_getElem? hp)
      have hi : i < ps.length := (List.getElem?_eq_some_iff.mp hp).1
      refine ⟨D, _, rfl, .inl (.inl upd_same), rfl, _, _, rfl, _, _, rfl, rfl, _, rfl, _, rfl, _, rfl, _, _, rfl, rfl, by omega, _, _, rfl, rfl, _, rfl, _, _, rfl, rfl, ⟨by omega, by omega, ?_⟩, _, _, rfl, rfl, Same.new s1 hD, some (.int (i : Int)), some (.int (p : Int)), ?_⟩
      · have e : Builtin.bitAnd ((m : Int) / 2 ^ ((p : Int).toNat)) 1 = ((m >>> p &&& 1 : Nat) : Int) := by
          rw [shr_nat]
          exact bitAnd_nat (m >>> p) 1
        show (Builtin.bitAnd ((m : Int) / 2 ^ ((p : Int).toNat)) 1).natAbs < 2 ^ 64
        rw [e, Int.natAbs_natCast]
        exact Nat.lt_of_le_of_lt Nat.and_le_right (by decide)
      · have e : Builtin.bitAnd ((m : Int) / 2 ^ ((p : Int).toNat)) 1 = ((m >>> p &&& 1 : Nat) : Int) := by
          rw [shr_nat]
          exact bitAnd_nat (m >>> p) 1
        have e2 : pickedF m (ps.take (i + 1)) = pickedF m (ps.take i) ||| ((m >>> p &&& 1) <<< i) := by
          rw [take_snoc hp]
          unfold pickedF
          rw [zipIdx_snoc, List.foldl_append, List.length_take, Nat.min_eq_left (Nat.le_of_lt hi)]
          rfl
        show _ = [some (V.int (m : Int)), some (V.ref a), some (V.int (pickedF m (ps.take (i + 1)) : Nat)), some (V.int (i : Int)), some (V.int (p : Int))]
        rw [e2, ← bitOr_nat, ← shl_nat, ← e]
        rfl
    · rintro σ H' ⟨s1, y, z, rfl⟩
      rw [lotV_len, List.take_length]
      exact ⟨_, rfl, k H' s1⟩
/-! ### span -/
def spSpan : Sp := fun vs H Q _ => ∃ (a : Addr) (ms : List Nat), vs = [.ref a] ∧ NatsAt H a ms ∧ ms.length ≤ 12 ∧ ∀ (p : Addr) (H' : Hp), H p = none → Same H H' → H' p = some (.lst (lotV (spanF ms))) → Q (.ref p) H'
theorem scSpan : FnScope ["masks", "sums", "mask", "other"] ["masks"] (defScope s_span) := ⟨rfl, rfl, rfl, by decide +kernel, rfl, by decide +kernel, by decide +kernel⟩
theorem ok_span {f : Addr} {fd : FuncData} (F : FnP K "span" s_span f fd) : FnOk P w K mg base CX0 1 f fd ["masks"] spSpan := by
  refine F.ok scSpan (fun vs H Q E h => ?_) (fun cdv A outer s H vs Q E hr h => ?_)
  · obtain ⟨a, ms, rfl, _⟩ := h
    rfl
  · obtain ⟨a, ms, rfl, ha, hz, k⟩ := h
    refine ⟨_, PSs.nox (pss_cons (ps_set (i := 1) scSpan.nd rfl (Or.inl rfl) (pe_lst (pa_cons pe_int pa_nil)))
      (pss_cons (ps_for PassesOwn.never rfl (pi_seq (pv 0)) (pg_name (i := 2) scSpan.nd rfl (Or.inr rfl))
        (pss_one (ps_set (i := 1) scSpan.nd rfl (Or.inl rfl) (pe_op op_cat (pv 1) (pe_lc (own := [("other", 3)]) (g := gName 3) (tt := tYes) (te := tOp (rI0 fun i j => .int (Builtin.bitXor i j)) (tVar 2) (tVar 3)) rfl scSpan.nd (pi_list (pv 1))
              (blkOk_by (N := ["masks", "sums", "mask", "other"]) (sc := defScope s_span) (by decide +kernel)) (fun _ _ _ _ _ => pg_name (i := 3) scSpan.nd rfl (Or.inl rfl)) (fun _ _ _ _ _ => pts_nil)
              (fun _ _ _ _ _ => by exact (pe_op op_xor (pv 2) (pv 3))))))))
      (pss_one (ps_ret (pv 1))))), ?_⟩
    refine ⟨(by show 1 ≤ sizeLine; decide), fun s0 hs0 => ?_⟩
    refine ⟨_, rfl, a, lotV ms, rfl, for_seq (K := K) (fun j σ H' => Same H H' ∧ ∃ (s1 : Addr) (y z : Option V), σ = [some (.ref a), some (.ref s1), y, z] ∧ H s1 = none ∧ H' s1 = some (.lst (lotV (spanF (ms.take j)))))
      ⟨Same.new (Same.refl H) hs0, s0, none, none, rfl, hs0, upd_same⟩ (ha.imp (fun q i σ H' _ p => p.1 _ _ q) (fun q i σ H' _ p => p.1 _ _ q)) ?_ ?_⟩
    · rintro j x σ H' hj ⟨s3, s1, y, z, rfl, fs, gs⟩
      obtain ⟨m, hm, rfl⟩ := lotV_get hj
      have hjl : j < ms.length := (List.getElem?_eq_some_iff.mp hm).1
      have hlen := spanF_len (ms.take j)
      have hlen2 : (spanF (ms.take j)).length ≤ 2 ^ 11 := by
        rw [hlen]
        refine Nat.pow_le_pow_right (by decide) ?_
        rw [List.length_take]; omega
      rw [take_snoc hm, spanF_snoc]
      generalize spanF (ms.take j) = st at gs hlen2
      refine ⟨_, rfl, _, rfl, s1, rfl, ⟨_, .inl (.inl gs)⟩, fun D hD => ?_⟩
      have nD : D ≠ s1 := fun e => by rw [e, gs] at hD; cases hD
      have fD : H D = none := s3.free hD
      refine lc_list (K := K) (a := s1) (xs := lotV st) (fun i H2 => Same H H2 ∧ H2 s1 = some (.lst (lotV st)) ∧ H2 D = some (.lst (lotV ((st.take i).map (m ^^^ ·))))) ⟨Same.new s3 hD, by rw [upd_ne (Ne.symm nD)]; exact gs, upd_same⟩ (fun i H2 _ p => .inl (.inl p.2.1)) ?_ ?_
      · rintro i x H2 hi ⟨t1, t2, t4⟩
        obtain ⟨o, ho, rfl⟩ := lotV_get hi
        refine ⟨rfl, _, rfl, _, rfl, _, _, rfl, rfl, _, t4, ?_, Same.own t1 fD, by rw [upd_ne (Ne.symm nD)]; exact t2, ?_⟩
        · rw [lotV_len, List.length_map, List.length_take, sizeLine_eq]; omega
        · rw [upd_same, take_snoc ho, List.map_append, List.map_singleton, lotV_snoc, ← bitXor_nat]
      · rintro H2 ⟨t1, t2, t4⟩
        rw [lotV_len, List.take_length] at t4
        refine ⟨s1, D, _, _, rfl, rfl, t2, t4, (by rw [lotV_len, lotV_len, List.length_map, sizeLine_eq]; omega), fun p hp => ?_⟩
        refine ⟨Same.new t1 hp, p, _, _, rfl, t1.free hp, ?_⟩
        rw [upd_same]
        unfold lotV
        rw [List.map_append]
    · rintro σ H' ⟨s3, s1, y, z, rfl, fs, gs⟩
      rw [lotV_len, List.take_length] at gs
      exact ⟨_, rfl, k s1 _ fs s3 gs⟩
end
end BT

set_option Elab.async false
set_option linter.all false
set_option maxRecDepth 100000
set_option maxHeartbeats 4000000
set_option exponentiation.threshold 2000
namespace BT
open PySem PySem.Spec PyProof.Rows L2
abbrev sz (x : String) : V := .str (Str.ofString x)
def listD : PyData → Bool
  | .list _ => true
  | _ => false
theorem lots_get {H : Hp} {xs : List V} {ls : List (List Nat)} {j : Nat} {x : V} (h : DvA H xs (ls.map lotD)) (e : xs[j]? = some x) : ∃ l t, ls[j]? = some l ∧ x = .ref t ∧ H t = some (.tup (lotV l)) := by
  obtain ⟨d, hd, hx⟩ := h.get e
  rw [List.getElem?_map] at hd
  cases el : ls[j]? with
  | none => rw [el] at hd; cases hd
  | some l =>
    rw [el] at hd
    have ed : lotD l = d := Option.some.inj hd
    subst ed
    obtain ⟨t, rfl, g⟩ := hx.lot_inv
    exact ⟨l, t, rfl, rfl, g⟩
theorem lots_inj {x y : List Nat} (h : lotD x = lotD y) : x = y := by
  injection h with h
  induction x generalizing y with
  | nil => cases y with
    | nil => rfl
    | cons b y => cases h
  | cons c x ih => cases y with
    | nil => cases h
    | cons b y =>
      rw [List.map_cons, List.map_cons] at h
      injection h with h1 h2
      injection h1 with h1
      rw [Int.ofNat.inj h1, ih h2]
theorem del_upd {H : Hp} {a D : Addr} {o : HO} (h : D ≠ a) : L2.del (upd H D o) a = upd (L2.del H a) D o := by
  funext b
  by_cases hb : b = a
  · rw [hb, del_same, upd_ne (Ne.symm h), del_same]
  · rw [del_ne hb]
    by_cases hc : b = D
    · rw [hc, upd_same, upd_same]
    · rw [upd_ne hc, upd_ne hc, del_ne hb]
theorem lots_upd {H : Hp} {D : Addr} {o : HO} {acc : List V} (hD : H D = some (.lst acc)) : ∀ {ls : List (List Nat)} {xs : List V}, DvA H xs (ls.map lotD) → DvA (upd H D o) xs (ls.map lotD)
  | [], xs, h => by cases h; exact .nil
  | l :: ls, xs, h => by
    rw [List.map_cons] at h ⊢
    cases h with
    | cons h1 h2 =>
      obtain ⟨t, rfl, g⟩ := h1.lot_inv
      refine .cons (Dv.lot ?_) (lots_upd hD h2)
      rw [upd_ne fun e => ?_]
      · exact g
      · rw [e, hD] at g
        cases g
/-- a list of lots that is no part of the source -/
structure LotsAt (a : Addr) (H : Hp) (L : Addr) (xs : List V) (ls : List (List Nat)) : Prop where
  ne : L ≠ a
  at_ : H L = some (.lst xs)
  all : DvA (L2.del H a) xs (ls.map lotD)
theorem LotsAt.keeps {l a : Addr} {H H' : Hp} {L : Addr} {xs : List V} {ls : List (List Nat)} (h : LotsAt a H L xs ls) (k : Keeps l a H H') : LotsAt a H' L xs ls := ⟨h.ne, k.same _ _ h.ne h.at_, DvA.mono k.del _ _ h.all⟩
theorem LotsAt.dv {a : Addr} {H : Hp} {L : Addr} {xs : List V} {ls : List (List Nat)} (h : LotsAt a H L xs ls) : Dv (L2.del H a) (.ref L) (.list (ls.map lotD)) := .lst (by rw [del_ne h.ne]; exact h.at_) h.all
theorem LotsAt.all' {a : Addr} {H : Hp} {L : Addr} {xs : List V} {ls : List (List Nat)} (h : LotsAt a H L xs ls) : DvA H xs (ls.map lotD) := DvA.mono (fun b o e => (del_get e).2) _ _ h.all
theorem LotsAt.len {a : Addr} {H : Hp} {L : Addr} {xs : List V} {ls : List (List Nat)} (h : LotsAt a H L xs ls) : xs.length = ls.length := by
  have := DvA.length h.all
  rw [List.length_map] at this; exact this
theorem lots_list_inj : ∀ {x y : List (List Nat)}, x.map lotD = y.map lotD → x = y
  | [], [], _ => rfl
  | [], _ :: _, h => by cases h
  | _ :: _, [], h => by cases h
  | a :: x, b :: y, h => by
    rw [List.map_cons, List.map_cons] at h
    injection h with h1 h2
    rw [lots_inj h1, lots_list_inj h2]
theorem lots_dp {K : PySem.W.Frag} {H : Hp} : ∀ {ls : List (List Nat)} {xs : List V}, DvA H xs (ls.map lotD) → DpAll K H xs (ls.map lotD)
  | [], xs, h => by cases h; exact .nil
  | l :: ls, xs, h => by
    rw [List.map_cons] at h ⊢
    cases h with
    | cons h1 h2 =>
      obtain ⟨t, rfl, g⟩ := h1.lot_inv
      refine .cons (.tup (.inl (.inl g)) ?_) (lots_dp h2)
      clear g h1
      induction l with
      | nil => exact .nil
      | cons p l ih => exact .cons (.int _) ih
theorem lay_lot : ∀ l : List Nat, PyData.canLayAll0 (l.map fun p : Nat => PyData.int (p : Int)) = true
  | [] => rfl
  | p :: l => by
    rw [List.map_cons]
    simp only [PyData.canLayAll0, PyData.canLay0, Bool.true_and]
    exact lay_lot l
theorem lay_lots : ∀ ls : List (List Nat), PyData.canLayAll0 (ls.map lotD) = true
  | [] => rfl
  | l :: ls => by
    rw [List.map_cons]
    simp only [PyData.canLayAll0, Bool.and_eq_true]
    exact ⟨by simp only [lotD, PyData.canLay0]; exact lay_lot l, lay_lots ls⟩
theorem shaped_lots (ls : List (List Nat)) : SeqAt.shaped (.list (ls.map lotD)) = true := by
  unfold SeqAt.shaped
  rw [Bool.and_eq_true]
  refine ⟨by simp only [PyData.canLay0]; exact lay_lots ls, decide_eq_true ?_⟩
  simp only [PyData.depth]
  have : PyData.depthAll (ls.map lotD) ≤ 1 := depthA_le fun d hd => by
    obtain ⟨l, _, rfl⟩ := List.mem_map.mp hd
    simp only [lotD, PyData.depth]
    have := depthA_le (n := 0) (ds := l.map fun p : Nat => PyData.int (p : Int)) fun d hd => by
      obtain ⟨p, _, rfl⟩ := List.mem_map.mp hd
      simp [PyData.depth]
    omega
  omega
theorem eqv_lots (ls : List (List Nat)) : PyData.eqv (.list (ls.map lotD)) (.list (ls.map lotD)) = true := SeqAt.eqv_refl _ (by simp only [PyData.canLay0]; exact lay_lots ls)
/-- the first item that is no lot is one alone -/
theorem first_one {ds : List PyData} {j k : Nat} {d e : PyData} (hj : ds[j]? = some d) (nb : isLotD ((60 : Nat) : Int) d = false) (hm : ∀ (m : Nat) (x : PyData), m < j → ds[m]? = some x → isLotD ((60 : Nat) : Int) x = true)
    (hk : ds[k]? = some e) (ne : isLotD ((60 : Nat) : Int) e = false) (hn : ∀ (m : Nat) (x : PyData), m < k → ds[m]? = some x → isLotD ((60 : Nat) : Int) x = true) : k = j := by
  rcases Nat.lt_trichotomy k j with h | h | h
  · rw [hm k e h hk] at ne; cases ne
  · exact h
  · rw [hn j d h hj] at nb; cases nb
theorem not_all {ds : List PyData} {j : Nat} {d : PyData} (hj : ds[j]? = some d) (nb : isLotD ((60 : Nat) : Int) d = false) {us : List (List Nat)} (e : PyData.list ds = .list (us.map lotD)) (hu : ∀ l ∈ us, IsLot 60 l) : False := by
  injection e with e
  rw [e, List.getElem?_map] at hj
  cases h : us[j]? with
  | none => rw [h] at hj; cases hj
  | some l =>
    rw [h] at hj
    have e2 : lotD l = d := Option.some.inj hj
    rw [← e2, isLotD_of (hu l (List.mem_of_getElem? h))] at nb
    cases nb
theorem lots_all {ls : List (List Nat)} (hl : ∀ l ∈ ls, IsLot 60 l) {j : Nat} {e : PyData} (hj : (ls.map lotD)[j]? = some e) : isLotD ((60 : Nat) : Int) e = true := by
  rw [List.getElem?_map] at hj
  cases h : ls[j]? with
  | none => rw [h] at hj; cases hj
  | some l =>
    rw [h] at hj
    have e2 : lotD l = e := Option.some.inj hj
    rw [← e2]; exact isLotD_of (hl l (List.mem_of_getElem? h))
theorem join_else {c : Bool} {A : Prop} {R0 : L2.St → Hp → Prop} {σ : L2.St} {H : Hp} (J : L2.St → Hp → Prop) (h2 : ∀ σ' H', J σ' H' → R0 σ' H') (h1 : c = true → (∀ σ' H', J σ' H' → R0 σ' H') → A) (h0 : c = false → J σ H) : if c = true then A else R0 σ H := by
  cases c with
  | true => exact iteT (h1 rfl h2)
  | false => exact iteF (h2 _ _ (h0 rfl))
theorem flat_map7 {ls : List (List Nat)} : (List.replicate 7 ls).flatten.map lotD = (List.replicate 7 (ls.map lotD)).flatten := by simp [List.replicate_succ]
theorem DvA.flat7 {H : Hp} {xs : List V} {ds : List PyData} (h : DvA H xs ds) : DvA H (List.replicate 7 xs).flatten (List.replicate 7 ds).flatten := by
  show DvA H (xs ++ (xs ++ (xs ++ (xs ++ (xs ++ (xs ++ (xs ++ []))))))) (ds ++ (ds ++ (ds ++ (ds ++ (ds ++ (ds ++ (ds ++ [])))))))
  exact h.append (h.append (h.append (h.append (h.append (h.append (h.append .nil))))))
theorem cutl_to {K : PySem.W.Frag} {H : Hp} {a : Addr} {xs : List V} {j : Nat} {Q : VK} (ha : H a = some (.lst xs)) (hj : j ≤ xs.length) (k : ∀ p, H p = none → Q (.ref p) (upd H p (.lst (xs.take j)))) : rSlL K (.ref a) none (some (j : Int)) H Q := by
  refine ⟨a, xs, rfl, .inl (.inl ha), fun p hp => ?_⟩
  have e1 : HT.sIx xs.length 0 none = 0 := rfl
  have e2 : HT.sIx xs.length xs.length (some (j : Int)) = j := by rw [HT.sIx_nat]; omega
  have q := k p hp
  unfold cutV
  rw [e1, e2]
  exact q
theorem cutl_from {K : PySem.W.Frag} {H : Hp} {a : Addr} {xs : List V} {j : Nat} {Q : VK} (ha : H a = some (.lst xs)) (hj : j ≤ xs.length) (k : ∀ p, H p = none → Q (.ref p) (upd H p (.lst (xs.drop j)))) : rSlL K (.ref a) (some (j : Int)) none H Q := by
  refine ⟨a, xs, rfl, .inl (.inl ha), fun p hp => ?_⟩
  have e1 : HT.sIx xs.length xs.length none = xs.length := rfl
  have e2 : HT.sIx xs.length 0 (some (j : Int)) = j := by rw [HT.sIx_nat]; omega
  have q := k p hp
  unfold cutV
  rw [e1, e2, List.take_of_length_le (by rw [List.length_drop]; omega)]
  exact q
theorem DvA.take {H : Hp} : ∀ {xs : List V} {ds : List PyData} (j : Nat), DvA H xs ds → DvA H (xs.take j) (ds.take j)
  | _, _, 0, _ => .nil
  | _, _, _ + 1, .nil => .nil
  | _, _, j + 1, .cons a r => .cons a (DvA.take j r)
theorem DvA.drop {H : Hp} : ∀ {xs : List V} {ds : List PyData} (j : Nat), DvA H xs ds → DvA H (xs.drop j) (ds.drop j)
  | _, _, 0, h => h
  | _, _, _ + 1, .nil => .nil
  | _, _, j + 1, .cons _ r => DvA.drop j r
def tagOk (x : String) : Prop := strOk (Str.ofString x) = true ∧ (Str.ofString x).length ≤ 10
theorem tag_told : tagOk "told" := ⟨by decide +kernel, by decide +kernel⟩
theorem tag_size : tagOk "size" := ⟨by decide +kernel, by decide +kernel⟩
theorem tag_lot : tagOk "lot" := ⟨by decide +kernel, by decide +kernel⟩
theorem tag_lots : tagOk "lots" := ⟨by decide +kernel, by decide +kernel⟩
/-- a pair of a tag and a value -/
theorem pairD {H : Hp} {p : Addr} {x : String} {v : V} {d : PyData} (g : H p = some (.tup [sz x, v])) (h : Dv H v d) : Dv H (.ref p) (.tuple [.str (Str.ofString x), d]) := .tup g (.cons (.str _) (.cons h .nil))
theorem tagR {x : String} {d : PyData} {n : Nat} (hx : tagOk x) (sm : Sm n d) (hn : n ≤ 900000) : Sr (.tuple [.str (Str.ofString x), d]) := sr_pair hx.1 hx.2 sm hn
theorem sm_bool (b : Bool) : Sm 41 (.bool b) := (it_bool b).sm
theorem keepS {l a : Addr} {G H : Hp} (k : Keeps l a G H) {H' : Hp} (s : Same H H') : Keeps l a G H' := k.trans (Keeps.of_same k.src s)
end BT

set_option Elab.async false
set_option linter.all false
set_option maxRecDepth 100000
set_option maxHeartbeats 4000000
set_option exponentiation.threshold 2000
namespace BT
open PySem PySem.Spec PyProof.Rows L2
/-! ### reduced rows: their bounds -/
theorem xor_lt {a b n : Nat} (ha : a < 2 ^ n) (hb : b < 2 ^ n) : a ^^^ b < 2 ^ n := Nat.xor_lt_two_pow ha hb
theorem cleared_lt {part : Int} {n : Nat} : ∀ (rows : List Nat) (m : Nat), (∀ r ∈ rows, r < 2 ^ n) → m < 2 ^ n → clearedF part m rows < 2 ^ n
  | [], m, _, hm => hm
  | r :: rows, m, h, hm => by
    unfold clearedF
    rw [List.foldl_cons]
    refine cleared_lt rows _ (fun z hz => h z (List.mem_cons_of_mem _ hz)) ?_
    unfold clearStep
    split
    · exact xor_lt hm (h r (List.mem_cons_self ..))
    · exact hm
theorem sweep_lt {part : Int} {n : Nat} {ms : List Nat} (h : ∀ m ∈ ms, m < 2 ^ n) : (∀ r ∈ (sweepF part ms).1, r < 2 ^ n) ∧ ∀ r ∈ (sweepF part ms).2, r < 2 ^ n := by
  have key : ∀ (ms : List Nat) (st : List Nat × List Nat), (∀ m ∈ ms, m < 2 ^ n) → ((∀ r ∈ st.1, r < 2 ^ n) ∧ ∀ r ∈ st.2, r < 2 ^ n) → (∀ r ∈ (ms.foldl (sweepStep part) st).1, r < 2 ^ n) ∧ ∀ r ∈ (ms.foldl (sweepStep part) st).2, r < 2 ^ n := by
    intro ms
    induction ms with
    | nil => intro st _ h; exact h
    | cons m ms ih =>
      intro st hm h
      rw [List.foldl_cons]
      refine ih _ (fun z hz => hm z (List.mem_cons_of_mem _ hz)) ?_
      have hc := cleared_lt (part := part) st.1 m h.1 (hm m (List.mem_cons_self ..))
      unfold sweepStep
      split
      · refine ⟨fun r hr => ?_, h.2⟩
        rcases List.mem_append.mp hr with hr | hr
        · obtain ⟨z, hz, rfl⟩ := List.mem_map.mp hr
          split
          · exact xor_lt (h.1 z hz) hc
          · exact h.1 z hz
        · rw [List.mem_singleton.mp hr]; exact hc
      · refine ⟨h.1, fun r hr => ?_⟩
        rcases List.mem_append.mp hr with hr | hr
        · exact h.2 r hr
        · rw [List.mem_singleton.mp hr]; exact hc
  exact key ms ([], []) h ⟨fun r hr => (nomatch hr), fun r hr => (nomatch hr)⟩
/-- reduced rows of a size -/
def Red (n : Nat) (ms : List Nat) : Prop := ∃ gs : List Nat, (∀ g ∈ gs, g < 2 ^ n) ∧ ms = reduceF gs
theorem Red.lt {n : Nat} {ms : List Nat} (h : Red n ms) : ∀ m ∈ ms, m < 2 ^ n := by
  obtain ⟨gs, h1, rfl⟩ := h
  intro m hm
  exact (sweep_lt h1).1 m ((sortLow_perm _).mem_iff.mp hm)
theorem nodup_len : ∀ (n : Nat) (l : List Nat), l.Nodup → (∀ k ∈ l, k < n) → l.length ≤ n
  | 0, [], _, _ => Nat.le_refl _
  | 0, k :: l, _, h => absurd (h k (List.mem_cons_self ..)) (Nat.not_lt_zero _)
  | n + 1, l, hd, h => by
    have h1 := nodup_len n (l.erase n) (hd.erase n) fun k hk => by
      have h2 := h k (List.mem_of_mem_erase hk)
      have h3 : k ≠ n := fun e => by
        subst e
        exact hd.not_mem_erase hk
      omega
    have h4 : l.length ≤ (l.erase n).length + 1 := by
      rw [List.length_erase]
      split <;> omega
    omega
theorem alone_len {n : Nat} {rows : List Nat} (A : Alone (-1) rows) (h : ∀ r ∈ rows, r < 2 ^ n) : rows.length ≤ n := by
  obtain ⟨ks, hl, hk⟩ := A
  have h1 : ∀ k ∈ ks, k < n := fun k hm => by
    obtain ⟨i, hi, rfl⟩ := List.getElem_of_mem hm
    obtain ⟨e1, e2⟩ := hk i _ ks[i] (List.getElem?_eq_getElem (by omega)) (List.getElem?_eq_getElem hi)
    have hb := (e2 i _ (List.getElem?_eq_getElem (by omega))).mpr rfl
    refine Nat.lt_of_not_le fun q => ?_
    have := h rows[i] (List.getElem_mem _)
    rw [Nat.testBit_lt_two_pow (Nat.lt_of_lt_of_le this (Nat.pow_le_pow_right (by decide) q))] at hb
    cases hb
  have h2 : ks.Nodup := by
    rw [List.nodup_iff_pairwise_ne, List.pairwise_iff_getElem]
    intro i j hi hj hij e
    obtain ⟨_, e2⟩ := hk i _ ks[i] (List.getElem?_eq_getElem (by omega)) (List.getElem?_eq_getElem hi)
    obtain ⟨_, f2⟩ := hk j _ ks[j] (List.getElem?_eq_getElem (by omega)) (List.getElem?_eq_getElem hj)
    have q := (f2 j _ (List.getElem?_eq_getElem (by omega))).mpr rfl
    have z := (e2 j _ (List.getElem?_eq_getElem (by omega))).mp (by rw [e]; exact q)
    omega
  rw [← hl]
  exact nodup_len n ks h2 h1
theorem Red.len {n : Nat} {ms : List Nat} (h : Red n ms) : ms.length ≤ n := by
  obtain ⟨gs, h1, rfl⟩ := h
  unfold reduceF
  rw [(sortLow_perm _).length_eq]
  exact alone_len (sweep_alone _ _) (sweep_lt h1).1
end BT

set_option Elab.async false
set_option linter.all false
set_option maxRecDepth 100000
set_option maxHeartbeats 4000000
set_option exponentiation.threshold 2000
namespace BT
open PySem PySem.Spec PyProof.Rows L2
/-- a book: its object, its tuple of rows -/
def BookAt (C : Addr) (H : Hp) (b : Addr) (n : Nat) (ms : List Nat) : Prop := ∃ dx t : Addr, H b = some (.ins C dx [("size", .int (n : Int)), ("masks", .ref t), ("dim", .int (ms.length : Nat))]) ∧ H t = some (.tup (lotV ms))
theorem BookAt.same {C : Addr} {H H' : Hp} {b : Addr} {n : Nat} {ms : List Nat} (s : Same H H') (h : BookAt C H b n ms) : BookAt C H' b n ms := by
  obtain ⟨dx, t, h1, h2⟩ := h
  exact ⟨dx, t, s _ _ h1, s _ _ h2⟩
structure BookC (K : PySem.W.Frag) (C : Addr) : Prop where
  cls : Cls K C
  nSize : NoAttr K C "size"
  nMasks : NoAttr K C "masks"
  nDim : NoAttr K C "dim"
theorem maskN_lt' {n : Nat} {l : List Nat} (h : IsLot n l) : maskN l < 2 ^ n := maskN_lt h.lt
section
variable {P : Program} {w : World} {K : PySem.W.Frag} {mg : Str → Option Value} {base : Heap} {tM tL tZ tW : Tok}
/-! ### need_lots -/
def spNeedLots (C : Addr) : Sp := fun vs H Q E => ∃ (v : V) (d : PyData) (n : Nat), vs = [v, .int (n : Int)] ∧ Dv H v d ∧ n ≤ 60 ∧
  (∀ ls : List (List Nat), d = .list (ls.map lotD) → (∀ l ∈ ls, IsLot n l) → ls.length ≤ 60 → ∀ H', Same H H' → Q .non H') ∧
  ((∀ ds, d = .list ds → 60 < ds.length) → ∀ x, H x = none → E (.ref C) (some x) (upd H x (.xd [("what", .int (-1))]))) ∧
  (∀ ds, d = .list ds → ds.length ≤ 60 → ∀ (j : Nat) (e : PyData), ds[j]? = some e → isLotD (n : Int) e = false → (∀ (m : Nat) (e' : PyData), m < j → ds[m]? = some e' → isLotD (n : Int) e' = true) →
    ∀ (H' : Hp) (x : Addr), Same H H' → H' x = none → E (.ref C) (some x) (upd H' x (.xd [("what", .int (j : Nat))])))
theorem scNeedLots : FnScope ["value", "size"] ["value", "size"] (defScope s_need_lots) := ⟨rfl, rfl, rfl, by decide +kernel, rfl, by decide +kernel, by decide +kernel⟩
theorem all_lots' {n : Nat} : ∀ {ds : List PyData}, (∀ (j : Nat) (e : PyData), ds[j]? = some e → isLotD (n : Int) e = true) → ∃ ls : List (List Nat), ds = ls.map lotD ∧ ∀ l ∈ ls, IsLot n l
  | [], _ => ⟨[], rfl, fun _ h => (nomatch h)⟩
  | d :: ds, h => by
    obtain ⟨l, rfl, hl⟩ := isLotD_inv (h 0 d rfl)
    obtain ⟨ls, rfl, hls⟩ := all_lots' (ds := ds) fun j e he => h (j + 1) e he
    exact ⟨l :: ls, rfl, fun k hk => by
      rcases List.mem_cons.mp hk with rfl | hk
      · exact hl
      · exact hls k hk⟩
theorem ok_need_lots {f C : Addr} {fd : FuncData} (T : Bi mg) (hL : mg "MOST_LOTS" = some (.int 60 tL)) (EC : ErrC P w K mg base "BadLots" C) (DE : DefOk P w K mg base (L2.CX P w) 4 "need_each_lot" ["values", "size"] (spNeedEach C)) (F : FnP K "need_lots" s_need_lots f fd) :
    FnOk P w K mg base (L2.CX P w) 5 f fd ["value", "size"] (spNeedLots C) := by
  refine F.ok scNeedLots (fun vs H Q E h => ?_) (fun cdv A outer s H vs Q E hr h => ?_)
  · obtain ⟨v, d, n, rfl, _⟩ := h
    rfl
  · obtain ⟨v, d, n, rfl, hd, hn, k1, k2, k3⟩ := h
    have tk : Takes (cxOf (L2.CX P w) P w K mg base ["value", "size"] "need_lots" (defScope s_need_lots) f cdv A outer s H E) (fun cls d _ H => E cls d H) := takes_of rfl rfl rfl rfl
    have px := passes_call tk (E := E) (fun _ _ _ _ h => h)
    refine ⟨_, pss_cons (ps_if (PW.pt (pw_or (pt_not (pt_val (pe_isD rfl T.isinstance rfl T.list PyProof.Rows.boot_list kit_list (pv 0)))) (pw_or1 (pt_cmpR op_gt (pe_callB call_len_seq (by rfl) T.len PySem.boot_len (pa_cons (pv 0) pa_nil)) (pe_glob (v := .int 60) rfl hL ⟨_, rfl⟩) (nomark _)))))
        (pss_one (ps_err EC hr rfl tk rfl (pe_un un_neg pe_int) (mono_neg 1))) pss_nil)
      (pss_one (ps_expr (pe_dX DE hr rfl px (pa_cons (pv 0) (pa_cons (pv 1) pa_nil))))), ?_⟩
    refine ⟨_, rfl, v, d, rfl, hd, _, rfl, ?_⟩
    cases hd with
    | lst ha hds =>
      rename_i a xs ds
      have hlen := DvA.length hds
      refine iteF ⟨_, rfl, a, xs, rfl, .inl (.inl (.inl ha)), _, _, rfl, rfl, _, rfl, ?_⟩
      refine ite2 (fun c => ?_) (fun c => ?_)
      · have c2 : (60 : Int) < (xs.length : Int) := of_decide_eq_true c
        exact ⟨_, rfl, fun x hx => k2 (fun ds' e => by injection e with e; subst e; omega) x hx⟩
      · have c2 : ¬ (60 : Int) < (xs.length : Int) := fun q => c (decide_eq_true q)
        refine ⟨_, rfl, _, rfl, a, xs, ds, n, rfl, ha, hds, hn, fun hall H' s5 => ?_, fun j e he hb hm H' x s5 hx => k3 ds rfl (by omega) j e he hb hm H' x s5 hx⟩
        obtain ⟨ls, rfl, hls⟩ := all_lots' hall
        rw [List.length_map] at hlen
        exact k1 ls rfl hls (by omega) H' s5
    | _ => exact iteT ⟨_, rfl, fun x hx => k2 (fun ds e => by cases e) x hx⟩
/-! ### Book.__init__ -/
def bsizeD : PyData → Bool
  | .int i => decide (1 ≤ i) && decide (i ≤ 24)
  | _ => false
def spBookInit (K : PySem.W.Frag) (C CS CL : Addr) : Sp := fun vs H Q E => ∃ (b dx : Addr) (z : V) (e : PyData) (v : V) (d : PyData), vs = [.ref b, z, v] ∧ H b = some (.ins C dx []) ∧ Dv H z e ∧ Dv (L2.del H b) v d ∧
  (∀ n : Nat, e = .int (n : Int) → 1 ≤ n → n ≤ 24 →
    (∀ ls : List (List Nat), d = .list (ls.map lotD) → (∀ l ∈ ls, IsLot n l) → ls.length ≤ 60 → ∀ (H' : Hp), Same (L2.del H b) H' → BookAt C H' b n (reduceF (ls.map maskN)) → Q .non H') ∧
    ((∀ ds, d = .list ds → 60 < ds.length) → ∀ x, H x = none → E (.ref CL) (some x) (upd H x (.xd [("what", .int (-1))]))) ∧
    (∀ ds, d = .list ds → ds.length ≤ 60 → ∀ (j : Nat) (e : PyData), ds[j]? = some e → isLotD (n : Int) e = false → (∀ (m : Nat) (e' : PyData), m < j → ds[m]? = some e' → isLotD (n : Int) e' = true) →
      ∀ (H' : Hp) (x : Addr), Same H H' → H' x = none → E (.ref CL) (some x) (upd H' x (.xd [("what", .int (j : Nat))])))) ∧
  (bsizeD e = false → ∀ x, H x = none → E (.ref CS) (some x) (upd H x (.xd [("what", z)])))
theorem scBookInit : FnScope ["self", "size", "rows", "row"] ["self", "size", "rows"] (defScope s_Book_init) := ⟨rfl, rfl, rfl, by decide +kernel, rfl, by decide +kernel, by decide +kernel⟩
theorem ok_Book_init {f C CS CL : Addr} {fd : FuncData} (T : Bi mg) (BC : BookC K C) (hZ : mg "MOST_SIZE" = some (.int 24 tZ)) (ES : ErrC P w K mg base "BadSize" CS) (DN : DefOk P w K mg base CX0 1 "is_number" ["value"] spIsNumber) (DNL : DefOk P w K mg base (L2.CX P w) 5 "need_lots" ["value", "size"] (spNeedLots CL))
    (DM : DefOk P w K mg base CX0 1 "mask_of" ["lot"] spMaskOf) (DR : DefOk P w K mg base CX0 4 "reduce_rows" ["masks"] spReduce) (F : FnM K "__init__" "Book.__init__" s_Book_init f fd) :
    FnOk P w K mg base (L2.CX P w) 6 f fd ["self", "size", "rows"] (spBookInit K C CS CL) := by
  refine F.ok scBookInit (fun vs H Q E h => ?_) (fun cdv A outer s H vs Q E hr h => ?_)
  · obtain ⟨b, dx, z, e, v, d, rfl, _⟩ := h
    rfl
  · obtain ⟨b, dx, z, e, v, d, rfl, hb, he, hd, kY, kN⟩ := h
    have tk : Takes (cxOf (L2.CX P w) P w K mg base ["self", "size", "rows", "row"] "Book.__init__" (defScope s_Book_init) f cdv A outer s H E) (fun cls d _ H => E cls d H) := takes_of rfl rfl rfl rfl
    have px := passes_call tk (E := E) (fun _ _ _ _ h => h)
    refine ⟨_, pss_cons (ps_if (PW.pt (pw_or (pt_not (pt_val (pe_d DN hr rfl (pa_cons (pv 1) pa_nil)))) (pw_or1 (pt_not (pt_chain op_le op_le pe_int (pv 1) (pe_glob (v := .int 24) rfl hZ ⟨_, rfl⟩))))))
        (pss_one (ps_err ES hr rfl tk rfl (pv 1) (mono_var 1))) pss_nil)
      (pss_cons (ps_expr (pe_dX DNL hr rfl px (pa_cons (pv 2) (pa_cons (pv 1) pa_nil))))
      (pss_cons (ps_fld (pv 0) (pv 1) rfl)
      (pss_cons (ps_fld (pv 0) (pe_tupleOf rfl T.tuple (pe_d DR hr rfl (pa_cons (pe_lc (own := [("row", 3)]) (g := gName 3) (tt := tYes) (te := tCall spMaskOf [] E0 (tCons (tVar 3) tNil)) rfl scBookInit.nd (pi_list (pv 2))
          (blkOk_by (N := ["self", "size", "rows", "row"]) (sc := defScope s_Book_init) (by decide +kernel)) (fun _ _ _ _ _ => pg_name (i := 3) scBookInit.nd rfl (Or.inl rfl)) (fun _ _ _ _ _ => pts_nil)
          (fun _ _ _ _ _ => by exact (pe_d DM hr rfl (pa_cons (pv 3) pa_nil)))) pa_nil))) rfl)
      (pss_one (ps_fld (pv 0) (pe_callB call_len_seq (by rfl) T.len PySem.boot_len (pa_cons (pe_fld (pv 0) rfl) pa_nil)) rfl))))), ?_⟩
    refine ⟨_, rfl, z, e, rfl, he, _, rfl, ?_⟩
    cases he with
    | int i =>
      refine iteF ⟨_, rfl, _, _, rfl, rfl, _, rfl, ?_⟩
      cases h1 : decide ((1 : Int) ≤ i) with
      | false =>
        refine iteF ⟨_, rfl, iteT ⟨_, rfl, fun x hx => kN ?_ x hx⟩⟩
        show (decide ((1 : Int) ≤ i) && decide (i ≤ 24)) = false
        rw [h1]; rfl
      | true =>
        refine iteT ⟨_, _, rfl, rfl, _, rfl, ?_⟩
        cases h2 : decide (i ≤ (24 : Int)) with
        | false =>
          refine iteT ⟨_, rfl, fun x hx => kN ?_ x hx⟩
          show (decide ((1 : Int) ≤ i) && decide (i ≤ 24)) = false
          rw [h1, h2]; rfl
        | true =>
          have b1 : (1 : Int) ≤ i := of_decide_eq_true h1
          have b2 : i ≤ (24 : Int) := of_decide_eq_true h2
          obtain ⟨n, rfl⟩ := Int.eq_ofNat_of_zero_le (show 0 ≤ i by omega)
          obtain ⟨kG, kL, kE⟩ := kY n rfl (by omega) (by omega)
          refine iteF ⟨_, rfl, _, rfl, v, d, n, rfl, hd.undel, by omega, fun ls ed hls hl H1 s1 => ?_, kL, fun ds ed hl j e hj nb hm H' x s5 hx => kE ds ed hl j e hj nb hm H' x s5 hx⟩
          subst ed
          cases hd with
          | lst ha hds =>
            rename_i a xs
            obtain ⟨nab, ha0⟩ := del_get ha
            have hlen := DvA.length hds
            rw [List.length_map] at hlen
            refine ⟨_, rfl, _, rfl, b, C, dx, _, rfl, s1 _ _ hb, BC.cls, BC.nSize, (by show 0 < 1000; decide), ?_⟩
            have s2 : Same (L2.del H b) (upd H1 b (.ins C dx (putF "size" (.int (n : Int)) []))) := fun c o hc => by
              obtain ⟨nc, hc0⟩ := del_get hc
              rw [upd_ne nc]; exact s1 _ _ hc0
            have g2 : (upd H1 b (.ins C dx (putF "size" (.int (n : Int)) []))) b = some (.ins C dx (putF "size" (.int (n : Int)) [])) := upd_same
            generalize upd H1 b (.ins C dx (putF "size" (.int (n : Int)) [])) = H2 at s2 g2
            refine ⟨_, rfl, a, rfl, ⟨_, .inl (.inl (s2 _ _ ha))⟩, fun D hD => ?_⟩
            have nDb : D ≠ b := fun q => by rw [q, g2] at hD; cases hD
            refine lc_list (K := K) (a := a) (xs := xs) (fun j H3 => Same H2 H3 ∧ H3 D = some (.lst (lotV ((ls.take j).map maskN)))) ⟨Same.new (Same.refl H2) hD, upd_same⟩ (fun j H3 _ p => .inl (.inl (p.1 _ _ (s2 _ _ ha)))) ?_ ?_
            · rintro j x H3 hj ⟨t1, t2⟩
              obtain ⟨l, t, el, rfl, gl⟩ := lots_get (DvA.mono (s2.trans t1) _ _ hds) hj
              have il := hls l (List.mem_of_getElem? el)
              refine ⟨rfl, _, rfl, t, l, rfl, gl, il.small (by omega), _, t2, ?_, Same.own t1 hD, ?_⟩
              · rw [lotV_len, List.length_map, List.length_take, sizeLine_eq]; omega
              · rw [upd_same, take_snoc el, List.map_append, List.map_singleton, lotV_snoc]
            · rintro H3 ⟨t1, t2⟩
              rw [hlen, List.take_length] at t2
              refine ⟨D, ls.map maskN, rfl, .inl t2, by rw [List.length_map]; omega, fun p H4 hp s4 g4 => .inl ⟨p, _, rfl, .inl (.inl g4), fun t ht => ?_⟩⟩
              have gb4 := s4 _ _ (t1 _ _ g2)
              have ntb : t ≠ b := fun q => by rw [q, gb4] at ht; cases ht
              have s5 : Same H4 (upd H4 t (.tup (lotV (reduceF (ls.map maskN))))) := Same.new (Same.refl H4) ht
              refine ⟨_, rfl, b, C, dx, _, rfl, s5 _ _ gb4, BC.cls, BC.nMasks, (by show 1 < 1000; decide), ?_⟩
              have k5 : Same (L2.del H b) (upd (upd H4 t (.tup (lotV (reduceF (ls.map maskN))))) b (.ins C dx (putF "masks" (.ref t) (putF "size" (.int (n : Int)) [])))) := fun c o hc => by
                obtain ⟨nc, _⟩ := del_get hc
                rw [upd_ne nc]
                exact s5 _ _ (s4 _ _ (t1 _ _ (s2 _ _ hc)))
              have g5 : (upd (upd H4 t (.tup (lotV (reduceF (ls.map maskN))))) b (.ins C dx (putF "masks" (.ref t) (putF "size" (.int (n : Int)) [])))) b = some (.ins C dx (putF "masks" (.ref t) (putF "size" (.int (n : Int)) []))) := upd_same
              have gt5 : (upd (upd H4 t (.tup (lotV (reduceF (ls.map maskN))))) b (.ins C dx (putF "masks" (.ref t) (putF "size" (.int (n : Int)) [])))) t = some (.tup (lotV (reduceF (ls.map maskN)))) := by rw [upd_ne ntb, upd_same]
              generalize upd (upd H4 t (.tup (lotV (reduceF (ls.map maskN))))) b (.ins C dx (putF "masks" (.ref t) (putF "size" (.int (n : Int)) []))) = H5 at k5 g5 gt5
              refine ⟨_, rfl, b, C, dx, _, _, rfl, g5, BC.cls, BC.nMasks, rfl, t, _, rfl, .inr (.inl (.inl gt5)), _, rfl, b, C, dx, _, rfl, g5, BC.cls, BC.nDim, (by show 2 < 1000; decide), ?_⟩
              refine kG ls rfl hls hl _ (fun c o hc => ?_) ⟨dx, t, ?_, ?_⟩
              · obtain ⟨nc, _⟩ := del_get hc
                rw [upd_ne nc]; exact k5 _ _ hc
              · rw [upd_same, lotV_len]; rfl
              · rw [upd_ne ntb]; exact gt5
    | _ => exact iteT (iteT ⟨_, rfl, fun x hx => kN rfl x hx⟩)
end
end BT

set_option Elab.async false
set_option linter.all false
set_option maxRecDepth 100000
set_option maxHeartbeats 4000000
set_option exponentiation.threshold 2000
namespace BT
open PySem PySem.Spec PyProof.Rows L2
/-! ### readings that come again -/
theorem lc_lots {K : PySem.W.Frag} {a : Addr} {i : Nat} {ms : List Nat} {σ : L2.St} {H0 : Hp} {Qd : Addr → Hp → Prop} (hσ : ∀ x : V, ((wipe σ [i]).set i (some x))[i]? = some (some x)) (hw : ∀ x : V, wipe ((wipe σ [i]).set i (some x)) [i] = wipe σ [i]) (hn : NatsAt H0 a ms) (hb : ∀ m ∈ ms, m < 2 ^ 1000) (hz : ms.length ≤ 5000)
    (hd : ∀ (D : Addr) (H : Hp) (xs : List V), H0 D = none → Same H0 H → H D = some (.lst xs) → DvA H xs ((ms.map lotN).map lotD) → Qd D H) :
    (SqL K H0 a (lotV ms) ∧ ∀ D, H0 D = none → ∃ W : Nat → Nat → Hp → Prop, (∃ m, W 0 m (upd H0 D (.lst []))) ∧ ∀ k m H, W k m H → ((Itl K a).stop k H ∧ Qd D H) ∨ ((Itl K a).go k H ∧ ∃ Nx : Hp → Prop, (∀ H', Nx H' → ∃ m', m' < m ∧ W (k + 1) m' H') ∧ ∀ x H', (Itl K a).yld k H x H' → gName i x (wipe σ [i]) H' fun σ2 H2 => wipe σ2 [i] = wipe σ [i] ∧ tYes σ2 H2 fun b H3 => if b = true then tCall spLotOf [] E0 (tCons (tVar i) tNil) σ2 H3 fun y H4 => ∃ acc, H4 D = some (.lst acc) ∧ acc.length < sizeLine ∧ Nx (upd H4 D (.lst (acc ++ [y]))) else Nx H3)) ∨
    (SqT K H0 a (lotV ms) ∧ ∀ D, H0 D = none → ∃ W : Nat → Nat → Hp → Prop, (∃ m, W 0 m (upd H0 D (.lst []))) ∧ ∀ k m H, W k m H → ((Itt K a).stop k H ∧ Qd D H) ∨ ((Itt K a).go k H ∧ ∃ Nx : Hp → Prop, (∀ H', Nx H' → ∃ m', m' < m ∧ W (k + 1) m' H') ∧ ∀ x H', (Itt K a).yld k H x H' → gName i x (wipe σ [i]) H' fun σ2 H2 => wipe σ2 [i] = wipe σ [i] ∧ tYes σ2 H2 fun b H3 => if b = true then tCall spLotOf [] E0 (tCons (tVar i) tNil) σ2 H3 fun y H4 => ∃ acc, H4 D = some (.lst acc) ∧ acc.length < sizeLine ∧ Nx (upd H4 D (.lst (acc ++ [y]))) else Nx H3)) := by
  refine lc_seq (K := K) (g := gName i) (tt := tYes) (te := tCall spLotOf [] E0 (tCons (tVar i) tNil)) (vs := [i]) (σ := σ) hn (fun D j H => Same H0 H ∧ ∃ xs, H D = some (.lst xs) ∧ DvA H xs (((ms.take j).map lotN).map lotD)) (fun D hD => ⟨Same.new (Same.refl H0) hD, [], upd_same, .nil⟩) (fun D j H _ _ p o e => p.1 _ _ e) ?_ ?_
  · rintro D j x H hD hj ⟨s1, xs, g, hA⟩
    obtain ⟨m, hm, rfl⟩ := lotV_get hj
    have hmm := hb m (List.mem_of_getElem? hm)
    have hlen : xs.length = min j ms.length := by
      have := DvA.length hA
      rw [List.length_map, List.length_map, List.length_take] at this; exact this
    refine ⟨hw _, _, hσ _, m, rfl, hmm, fun t H' ht s2 gt => ?_⟩
    have g2 := s2 _ _ g
    refine ⟨xs, g2, by rw [hlen, sizeLine_eq]; omega, Same.own (s1.trans s2) hD, xs ++ [.ref t], upd_same, ?_⟩
    rw [take_snoc hm, List.map_append, List.map_append]
    have hA2 := DvA.mono s2 _ _ hA
    have h3 : DvA H' (xs ++ [.ref t]) (((ms.take j).map lotN ++ [lotN m]).map lotD) := by
      rw [List.map_append]
      exact hA2.append (.cons (Dv.lot gt) .nil)
    have h4 := lots_upd (o := .lst (xs ++ [.ref t])) g2 h3
    rw [List.map_append] at h4
    exact h4
  · rintro D H hD ⟨s1, xs, g, hA⟩
    rw [lotV_len, List.take_length] at hA
    exact hd D H xs hD s1 g hA
theorem map_mask {ms : List Nat} : (ms.map lotN).map maskN = ms := by
  rw [List.map_map]
  conv => rhs; rw [← List.map_id ms]
  exact List.map_congr_left fun m _ => maskN_lotN m
theorem lots_of {n : Nat} {ms : List Nat} (h : ∀ m ∈ ms, m < 2 ^ n) : ∀ l ∈ ms.map lotN, IsLot n l := fun l hl => by
  obtain ⟨m, hm, rfl⟩ := List.mem_map.mp hl
  exact ⟨lotN_asc m, lotN_lt (h m hm)⟩
/-- Book(size, rows), rows right -/
theorem mk_book {K : PySem.W.Frag} {C CS CL : Addr} {H : Hp} {n : Nat} {a : Addr} {xs : List V} {ls : List (List Nat)} {Q : VK} {E : XK} (h1 : 1 ≤ n) (h2 : n ≤ 24) (ha : H a = some (.lst xs)) (hds : DvA H xs (ls.map lotD)) (hls : ∀ l ∈ ls, IsLot n l) (hl : ls.length ≤ 60)
    (k : ∀ (x : Addr) (H2 : Hp), H x = none → Same H H2 → BookAt C H2 x n (reduceF (ls.map maskN)) → Q (.ref x) H2) :
    ∀ x dx, H x = none → H dx = none → dx ≠ x → spBookInit K C CS CL (.ref x :: [.int (n : Int), .ref a]) (upd (upd H dx (.own x)) x (.ins C dx [])) (fun v H2 => v = .non ∧ Q (.ref x) H2) E := by
  intro x dx hx hdx ne
  have sm : Same H (L2.del (upd (upd H dx (.own x)) x (.ins C dx [])) x) := fun c o hc => by
    have n1 : c ≠ x := ne_of_none hc hx
    have n2 : c ≠ dx := ne_of_none hc hdx
    rw [del_ne n1, upd_ne n1, upd_ne n2]; exact hc
  refine ⟨x, dx, _, .int (n : Int), .ref a, .list (ls.map lotD), rfl, upd_same, .int _, .lst (sm _ _ ha) (DvA.mono sm _ _ hds), fun n' e h1' h2' => ?_, fun e => ?_⟩
  · injection e with e
    have e := Int.ofNat.inj e
    subst e
    refine ⟨fun ls' e hls' hl' H' s' bk => ⟨rfl, ?_⟩, fun h => ?_, fun ds e hz j d hj nb _ => ?_⟩
    · injection e with e
      have e := lots_list_inj e
      subst e
      exact k x H' hx (fun c o hc => s' _ _ (sm _ _ hc)) bk
    · have := h _ rfl
      rw [List.length_map] at this; omega
    · injection e with e
      subst e
      rw [List.getElem?_map] at hj
      cases q : ls[j]? with
      | none => rw [q] at hj; cases hj
      | some l =>
        rw [q] at hj
        have e2 : lotD l = d := Option.some.inj hj
        rw [← e2, isLotD_of (hls l (List.mem_of_getElem? q))] at nb
        cases nb
  · have e2 : (decide ((1 : Int) ≤ (n : Int)) && decide ((n : Int) ≤ 24)) = false := e
    rw [decide_eq_true (by omega), decide_eq_true (by omega)] at e2; cases e2
section
variable {P : Program} {w : World} {K : PySem.W.Frag} {mg : Str → Option Value} {base : Heap} {tM tL tZ tW : Tok}
/-! ### told -/
def spToldB (C : Addr) : Sp := fun vs H Q _ => ∃ (n : Nat) (a : Addr) (ms : List Nat), vs = [.int (n : Int), .ref a] ∧ NatsAt H a ms ∧ (∀ m ∈ ms, m < 2 ^ n) ∧ ms.length ≤ 60 ∧ 1 ≤ n ∧ n ≤ 24 ∧ ∀ (b : Addr) (H' : Hp), H b = none → Same H H' → BookAt C H' b n (reduceF ms) → Q (.ref b) H'
theorem scToldB : FnScope ["size", "masks", "mask"] ["size", "masks"] (defScope s_told) := ⟨rfl, rfl, rfl, by decide +kernel, rfl, by decide +kernel, by decide +kernel⟩
theorem ok_told {f C CS CL : Addr} {fd : FuncData} (DMk : MakeOk P w K mg base (L2.CX P w) 6 C "Book" ["self", "size", "rows"] (spBookInit K C CS CL)) (DL : DefOk P w K mg base CX0 1 "lot_of" ["mask"] spLotOf) (F : FnP K "_told" s_told f fd) :
    FnOk P w K mg base CX0 8 f fd ["size", "masks"] (spToldB C) := by
  refine F.ok scToldB (fun vs H Q E h => ?_) (fun cdv A outer s H vs Q E hr h => ?_)
  · obtain ⟨n, a, ms, rfl, _⟩ := h
    rfl
  · obtain ⟨n, a, ms, rfl, ha, hb, hz, h1, h2, k⟩ := h
    refine ⟨_, PSs.nox (pss_one (ps_ret (pe_mkX DMk hr rfl passL (pa_cons (pv 0) (pa_cons (pe_lc (own := [("mask", 2)]) (g := gName 2) (tt := tYes) (te := tCall spLotOf [] E0 (tCons (tVar 2) tNil)) rfl scToldB.nd (pi_seq (pv 1))
          (blkOk_by (N := ["size", "masks", "mask"]) (sc := defScope s_told) (by decide +kernel)) (fun _ _ _ _ _ => pg_name (i := 2) scToldB.nd rfl (Or.inl rfl)) (fun _ _ _ _ _ => pts_nil)
          (fun _ _ _ _ _ => by exact (pe_d DL hr rfl (pa_cons (pv 2) pa_nil)))) pa_nil))))), ?_⟩
    refine ⟨_, rfl, _, rfl, a, lotV ms, rfl, lc_lots (fun _ => rfl) (fun _ => rfl) ha (fun m hm => Nat.lt_of_lt_of_le (hb m hm) (Nat.pow_le_pow_right (by decide) (by omega))) (by omega) fun D H1 xs hD s1 g hA => ?_⟩
    refine mk_book h1 h2 g hA (lots_of hb) (by rw [List.length_map]; exact hz) fun x H2 hx s2 bk => ?_
    rw [map_mask] at bk
    exact k x H2 (s1.free hx) (s1.trans s2) bk
end
end BT

set_option Elab.async false
set_option linter.all false
set_option maxRecDepth 100000
set_option maxHeartbeats 4000000
set_option exponentiation.threshold 2000
namespace BT
open PySem PySem.Spec PyProof.Rows L2
theorem sum_pows : ∀ (n : Nat) (l : List Nat), l.Nodup → (∀ k ∈ l, k < n) → (l.map (2 ^ ·)).sum < 2 ^ n
  | 0, [], _, _ => by decide
  | 0, k :: l, _, h => absurd (h k (List.mem_cons_self ..)) (Nat.not_lt_zero _)
  | n + 1, l, hd, h => by
    have h1 := sum_pows n (l.erase n) (hd.erase n) fun k hk => by
      have h2 := h k (List.mem_of_mem_erase hk)
      have h3 : k ≠ n := fun e => by
        subst e
        exact hd.not_mem_erase hk
      omega
    have h4 : (l.map (2 ^ ·)).sum ≤ ((l.erase n).map (2 ^ ·)).sum + 2 ^ n := by
      by_cases hm : n ∈ l
      · have p := (List.perm_cons_erase hm).map (2 ^ ·)
        rw [p.sum_nat, List.map_cons, List.sum_cons]; omega
      · rw [List.erase_of_not_mem hm]; omega
    rw [Nat.pow_succ]; omega
theorem lows_sum {n : Nat} {rows : List Nat} (A : Alone (-1) rows) (h : ∀ r ∈ rows, r < 2 ^ n) (f : Nat → Bool) : ((rows.filter f).map lowN).sum < 2 ^ n := by
  have key : ∃ ks : List Nat, (rows.filter f).map lowN = ks.map (2 ^ ·) ∧ ks.Nodup ∧ ∀ k ∈ ks, k < n := by
    have inj := alone_inj A
    have low : ∀ r ∈ rows, ∃ k, lowN r = 2 ^ k ∧ k < n := fun r hr => by
      obtain ⟨ks, hl, hk⟩ := A
      obtain ⟨i, hi, rfl⟩ := List.getElem_of_mem hr
      obtain ⟨e1, e2⟩ := hk i _ ks[i] (List.getElem?_eq_getElem hi) (List.getElem?_eq_getElem (by omega))
      rw [andN_neg1] at e1
      refine ⟨_, e1, ?_⟩
      have hb := (e2 i _ (List.getElem?_eq_getElem hi)).mpr rfl
      refine Nat.lt_of_not_le fun q => ?_
      have := h rows[i] (List.getElem_mem _)
      rw [Nat.testBit_lt_two_pow (Nat.lt_of_lt_of_le this (Nat.pow_le_pow_right (by decide) q))] at hb
      cases hb
    have nd : rows.Nodup := by
      obtain ⟨ks, hl, hk⟩ := A
      rw [List.nodup_iff_pairwise_ne, List.pairwise_iff_getElem]
      intro i j hi hj hij e
      obtain ⟨_, e2⟩ := hk i _ ks[i] (List.getElem?_eq_getElem hi) (List.getElem?_eq_getElem (by omega))
      have q := (e2 i _ (List.getElem?_eq_getElem hi)).mpr rfl
      have z := (e2 j _ (List.getElem?_eq_getElem hj)).mp (by rw [← e]; exact q)
      omega
    clear h A
    induction rows with
    | nil => exact ⟨[], rfl, .nil, fun k hk => (nomatch hk)⟩
    | cons r rows ih =>
      have nd' := List.nodup_cons.mp nd
      obtain ⟨ks, e1, e2, e3⟩ := ih (fun x hx y hy => inj x (List.mem_cons_of_mem _ hx) y (List.mem_cons_of_mem _ hy)) (fun x hx => low x (List.mem_cons_of_mem _ hx)) nd'.2
      by_cases hf : f r = true
      · obtain ⟨k, hk, hkn⟩ := low r (List.mem_cons_self ..)
        rw [List.filter_cons, if_pos hf, List.map_cons]
        refine ⟨k :: ks, by rw [List.map_cons, e1, hk], List.nodup_cons.mpr ⟨fun hm => ?_, e2⟩, fun z hz => ?_⟩
        · have h2 : 2 ^ k ∈ ks.map (2 ^ ·) := List.mem_map.mpr ⟨k, hm, rfl⟩
          rw [← e1] at h2
          obtain ⟨s, hs, es⟩ := List.mem_map.mp h2
          have hs2 := (List.mem_filter.mp hs).1
          have := inj r (List.mem_cons_self ..) s (List.mem_cons_of_mem _ hs2) (by rw [hk, es])
          rw [this] at nd'
          exact nd'.1 hs2
        · rcases List.mem_cons.mp hz with rfl | hz
          · exact hkn
          · exact e3 z hz
      · rw [List.filter_cons, if_neg hf]
        exact ⟨ks, e1, e2, e3⟩
  obtain ⟨ks, e1, e2, e3⟩ := key
  rw [e1]
  exact sum_pows n ks e2 e3
theorem Red.alone {n : Nat} {ms : List Nat} (h : Red n ms) : Alone (-1) ms := by
  obtain ⟨gs, _, rfl⟩ := h
  obtain ⟨ks, hl, hk⟩ := sweep_alone (-1) gs
  -- a permutation of rows that stand alone
  have key : ∀ {a b : List Nat}, a.Perm b → Alone (-1) a → Alone (-1) b := by
    intro a b p
    induction p with
    | nil => exact id
    | cons x p ih =>
      rintro ⟨ks, hl, hk⟩
      cases ks with
      | nil => simp at hl
      | cons k0 ks =>
        rename_i l1 l2
        have hl' : ks.length = l1.length := by simpa using hl
        have A1 : Alone (-1) l1 := ⟨ks, hl', fun i r k hr hk2 => by
          obtain ⟨e1, e2⟩ := hk (i + 1) r k hr hk2
          exact ⟨e1, fun j s hs => by
            have := e2 (j + 1) s hs
            rw [this]; omega⟩⟩
        obtain ⟨ks2, hl2, hk2⟩ := ih A1
        obtain ⟨x1, x2⟩ := hk 0 x k0 rfl rfl
        refine ⟨k0 :: ks2, by simp [hl2], fun i r k hr hkk => ?_⟩
        have memL : ∀ s, s ∈ l2 → s ∈ l1 := fun s hs => p.mem_iff.mpr hs
        cases i with
        | zero =>
          cases Option.some.inj hr
          cases Option.some.inj hkk
          refine ⟨x1, fun j s hs => ?_⟩
          cases j with
          | zero =>
            cases Option.some.inj hs
            exact ⟨fun _ => rfl, fun _ => (x2 0 x rfl).mpr rfl⟩
          | succ j =>
            refine ⟨fun hb => ?_, fun e => by cases e⟩
            obtain ⟨m, hm⟩ := List.getElem?_of_mem (memL s (List.mem_of_getElem? hs))
            have := (x2 (m + 1) s hm).mp hb
            omega
        | succ i =>
          obtain ⟨e1, e2⟩ := hk2 i r k hr hkk
          refine ⟨e1, fun j s hs => ?_⟩
          cases j with
          | zero =>
            cases Option.some.inj hs
            refine ⟨fun hb => ?_, fun e => by cases e⟩
            -- x has the first of r, which stands in the tail
            obtain ⟨m, hm⟩ := List.getElem?_of_mem (memL r (List.mem_of_getElem? hr))
            obtain ⟨km, hkm⟩ : ∃ km, ks[m]? = some km := ⟨_, List.getElem?_eq_getElem (by have := (List.getElem?_eq_some_iff.mp hm).1; omega)⟩
            obtain ⟨f1, f2⟩ := hk (m + 1) r km hm hkm
            have ek : km = k := two_pow_inj (f1.symm.trans e1)
            subst ek
            have := (f2 0 x rfl).mp hb
            omega
          | succ j =>
            rw [e2 j s hs]
            omega
    | swap x y l =>
      rintro ⟨ks, hl, hk⟩
      match ks, hl, hk with
      | k1 :: k2 :: ks, hl, hk =>
        have sw : ∀ (i : Nat) (z : Nat), (x :: y :: l)[i]? = some z → ∃ i', (y :: x :: l)[i']? = some z ∧ ((i = 0 ∧ i' = 1) ∨ (i = 1 ∧ i' = 0) ∨ (i = i' ∧ 2 ≤ i)) := fun i z h => by
          match i, h with
          | 0, h => exact ⟨1, h, by omega⟩
          | 1, h => exact ⟨0, h, by omega⟩
          | i + 2, h => exact ⟨i + 2, h, by omega⟩
        refine ⟨k2 :: k1 :: ks, by simpa using hl, fun i r k hr hkk => ?_⟩
        obtain ⟨i', hi', ci⟩ := sw i r hr
        have hk' : (k1 :: k2 :: ks)[i']? = some k := by
          match i, hkk, ci with
          | 0, hkk, ci =>
            obtain rfl : i' = 1 := by omega
            exact hkk
          | 1, hkk, ci =>
            obtain rfl : i' = 0 := by omega
            exact hkk
          | i + 2, hkk, ci =>
            obtain rfl : i' = i + 2 := by omega
            exact hkk
        obtain ⟨e1, e2⟩ := hk i' r k hi' hk'
        refine ⟨e1, fun j s hs => ?_⟩
        obtain ⟨j', hj', cj⟩ := sw j s hs
        rw [e2 j' s hj']
        omega
    | trans _ _ ih1 ih2 => exact fun h => ih2 (ih1 h)
  exact key (sortLow_perm _).symm ⟨ks, hl, hk⟩
theorem checkRaw_lt {n : Nat} {ms : List Nat} (h : Red n ms) : ∀ m ∈ checkRaw ms n, m < 2 ^ n := fun m hm => by
  unfold checkRaw at hm
  obtain ⟨p, hp, e⟩ := List.mem_filterMap.mp hm
  have hpn := List.mem_range.mp hp
  split at e
  · cases e
  · rw [← Option.some.inj e]
    exact Nat.or_lt_two_pow (Nat.pow_lt_pow_right (by decide) hpn) (lows_sum h.alone h.lt _)
theorem check_red {n : Nat} {ms : List Nat} (h : Red n ms) : Red n (checkF ms n) := ⟨checkRaw ms n, checkRaw_lt h, rfl⟩
/-- the turned book's rows -/
def turnF (n : Nat) (ms : List Nat) : List Nat := reduceF (checkF ms n)
theorem turn_red {n : Nat} {ms : List Nat} (h : Red n ms) : Red n (turnF n ms) := ⟨checkF ms n, (check_red h).lt, rfl⟩
theorem Red.small {n : Nat} {ms : List Nat} (h : Red n ms) (hn : n ≤ 1000) : ∀ m ∈ ms, m < 2 ^ 1000 := fun m hm => Nat.lt_of_lt_of_le (h.lt m hm) (Nat.pow_le_pow_right (by decide) hn)
end BT

set_option Elab.async false
set_option linter.all false
set_option maxRecDepth 100000
set_option maxHeartbeats 4000000
set_option exponentiation.threshold 2000
namespace BT
open PySem PySem.Spec PyProof.Rows L2
section
variable {P : Program} {w : World} {K : PySem.W.Frag} {mg : Str → Option Value} {base : Heap} {tM tL tZ tW tA : Tok}
/-! ### Book.rows -/
def spRows (C : Addr) : Sp := fun vs H Q _ => ∃ (b : Addr) (n : Nat) (ms : List Nat), vs = [.ref b] ∧ BookAt C H b n ms ∧ Red n ms ∧ n ≤ 24 ∧ ∀ (D : Addr) (H' : Hp) (xs : List V), H D = none → Same H H' → H' D = some (.lst xs) → DvA H' xs ((ms.map lotN).map lotD) → Q (.ref D) H'
theorem scRows : FnScope ["self", "mask"] ["self"] (defScope s_Book_rows) := ⟨rfl, rfl, rfl, by decide +kernel, rfl, by decide +kernel, by decide +kernel⟩
theorem ok_Book_rows {f C : Addr} {fd : FuncData} (BC : BookC K C) (DL : DefOk P w K mg base CX0 1 "lot_of" ["mask"] spLotOf) (F : FnM K "rows" "Book.rows" s_Book_rows f fd) : FnOk P w K mg base CX0 2 f fd ["self"] (spRows C) := by
  refine F.ok scRows (fun vs H Q E h => ?_) (fun cdv A outer s H vs Q E hr h => ?_)
  · obtain ⟨b, n, ms, rfl, _⟩ := h
    rfl
  · obtain ⟨b, n, ms, rfl, hb, hR, hn, k⟩ := h
    refine ⟨_, PSs.nox (pss_one (ps_ret (pe_lc (own := [("mask", 1)]) (g := gName 1) (tt := tYes) (te := tCall spLotOf [] E0 (tCons (tVar 1) tNil)) rfl scRows.nd (pi_seq (pe_fld (pv 0) rfl))
          (blkOk_by (N := ["self", "mask"]) (sc := defScope s_Book_rows) (by decide +kernel)) (fun _ _ _ _ _ => pg_name (i := 1) scRows.nd rfl (Or.inl rfl)) (fun _ _ _ _ _ => pts_nil)
          (fun _ _ _ _ _ => by exact (pe_d DL hr rfl (pa_cons (pv 1) pa_nil)))))), ?_⟩
    obtain ⟨dx, t, g1, g2⟩ := hb
    have hlen := hR.len
    refine ⟨_, rfl, b, C, dx, _, _, rfl, g1, BC.cls, BC.nMasks, rfl, t, lotV ms, rfl, lc_lots (fun _ => rfl) (fun _ => rfl) (.inr g2) (hR.small (by omega)) (by omega) fun D H2 xs hD s2 g hA => ?_⟩
    exact k D H2 xs hD s2 g hA
/-! ### Book.holds -/
def spHoldsB (C CL : Addr) : Sp := fun vs H Q E => ∃ (b : Addr) (n : Nat) (ms : List Nat) (v : V) (d : PyData), vs = [.ref b, v] ∧ BookAt C H b n ms ∧ n ≤ 24 ∧ Dv H v d ∧
  (isLotD (n : Int) d = false → ∀ x, H x = none → E (.ref CL) (some x) (upd H x (.xd [("what", v)]))) ∧ (∀ l, d = lotD l → IsLot n l → Q (.bl (decide (clearedF (-1) (maskN l) ms = 0))) H)
theorem scHolds : FnScope ["self", "word"] ["self", "word"] (defScope s_Book_holds) := ⟨rfl, rfl, rfl, by decide +kernel, rfl, by decide +kernel, by decide +kernel⟩
theorem dec_eq0 (n : Nat) : decide (V.int (n : Int) = V.int 0) = decide (n = 0) := by
  rw [dec_int]
  by_cases h : n = 0
  · subst h; rfl
  · rw [decide_eq_false h, beq_eq_false_iff_ne]; omega
theorem ok_Book_holds {f C CL : Addr} {fd : FuncData} (BC : BookC K C) (hA : mg "ALL_PLACES" = some (.int (-1) tA)) (DN : DefOk P w K mg base (L2.CX P w) 4 "need_lot" ["value", "size"] (spNeedLot CL)) (DM : DefOk P w K mg base CX0 1 "mask_of" ["lot"] spMaskOf)
    (DC : DefOk P w K mg base CX0 2 "cleared" ["mask", "rows", "part"] spCleared) (F : FnM K "holds" "Book.holds" s_Book_holds f fd) : FnOk P w K mg base (L2.CX P w) 5 f fd ["self", "word"] (spHoldsB C CL) := by
  refine F.ok scHolds (fun vs H Q E h => ?_) (fun cdv A outer s H vs Q E hr h => ?_)
  · obtain ⟨b, n, ms, v, d, rfl, _⟩ := h
    rfl
  · obtain ⟨b, n, ms, v, d, rfl, hb, hn, hd, kN, kY⟩ := h
    have tk : Takes (cxOf (L2.CX P w) P w K mg base ["self", "word"] "Book.holds" (defScope s_Book_holds) f cdv A outer s H E) (fun cls d _ H => E cls d H) := takes_of rfl rfl rfl rfl
    have px := passes_call tk (E := E) (fun _ _ _ _ h => h)
    refine ⟨_, pss_cons (ps_expr (pe_dX DN hr rfl px (pa_cons (pv 1) (pa_cons (pe_fld (pv 0) rfl) pa_nil))))
      (pss_one (ps_ret (pe_cmpR op_eq (pe_d DC hr rfl (pa_cons (pe_d DM hr rfl (pa_cons (pv 1) pa_nil)) (pa_cons (pe_fld (pv 0) rfl) (pa_cons (pe_glob (v := .int (-1)) rfl hA ⟨_, rfl⟩) pa_nil)))) pe_int (nomark _)))), ?_⟩
    obtain ⟨dx, t, g1, g2⟩ := hb
    refine ⟨_, rfl, _, rfl, b, C, dx, _, _, rfl, g1, BC.cls, BC.nSize, rfl, v, d, n, rfl, hd, by omega, fun e => ?_, kN⟩
    obtain ⟨l, rfl, il⟩ := isLotD_inv e
    obtain ⟨a, rfl, ga⟩ := hd.lot_inv
    refine ⟨_, rfl, a, l, rfl, ga, il.small (by omega), _, rfl, b, C, dx, _, _, rfl, g1, BC.cls, BC.nMasks, rfl, maskN l, t, ms, -1, rfl, .inr g2, rfl, ?_⟩
    rw [dec_eq0]
    exact kY l rfl il
end
end BT

set_option Elab.async false
set_option linter.all false
set_option maxRecDepth 100000
set_option maxHeartbeats 4000000
set_option exponentiation.threshold 2000
namespace BT
open PySem PySem.Spec PyProof.Rows L2
theorem IsLot.mono {n m : Nat} {l : List Nat} (h : IsLot n l) (hn : n ≤ m) : IsLot m l := ⟨h.asc, fun p hp => Nat.lt_of_lt_of_le (h.lt p hp) hn⟩
theorem IsLot.xor {n : Nat} {l m : List Nat} (h1 : IsLot n l) (h2 : IsLot n m) : IsLot n (lotN (maskN l ^^^ maskN m)) := ⟨lotN_asc _, lotN_lt (Nat.xor_lt_two_pow (maskN_lt h1.lt) (maskN_lt h2.lt))⟩
theorem mono_fld {K : PySem.W.Frag} (i : Nat) (x : Str) : MonoE (tFld K (tVar i) x) := by
  rintro σ H Q Q' h ⟨v, e, a, C, dx, fs, u, h1, h2, h3, h4, h5, q⟩
  exact ⟨v, e, a, C, dx, fs, u, h1, h2, h3, h4, h5, h _ _ q⟩
/-- a comprehension that makes a number of each number -/
theorem lc_map {K : PySem.W.Frag} {a : Addr} {i : Nat} {ms : List Nat} {σ : L2.St} {H0 : Hp} {te : TE} {Qd : Addr → Hp → Prop} (F : Nat → Nat) (hw : ∀ x : V, wipe ((wipe σ [i]).set i (some x)) [i] = wipe σ [i]) (hn : NatsAt H0 a ms) (hz : ms.length ≤ 5000)
    (hte : ∀ (m : Nat), m ∈ ms → ∀ (H : Hp) (Q : VK), Same H0 H → (∀ H', Same H H' → Q (.int (F m : Nat)) H') → te ((wipe σ [i]).set i (some (.int (m : Int)))) H Q)
    (hd : ∀ (D : Addr) (H : Hp), H0 D = none → Same H0 H → H D = some (.lst (lotV (ms.map F))) → Qd D H) :
    (SqL K H0 a (lotV ms) ∧ ∀ D, H0 D = none → ∃ W : Nat → Nat → Hp → Prop, (∃ m, W 0 m (upd H0 D (.lst []))) ∧ ∀ k m H, W k m H → ((Itl K a).stop k H ∧ Qd D H) ∨ ((Itl K a).go k H ∧ ∃ Nx : Hp → Prop, (∀ H', Nx H' → ∃ m', m' < m ∧ W (k + 1) m' H') ∧ ∀ x H', (Itl K a).yld k H x H' → gName i x (wipe σ [i]) H' fun σ2 H2 => wipe σ2 [i] = wipe σ [i] ∧ tYes σ2 H2 fun b H3 => if b = true then te σ2 H3 fun y H4 => ∃ acc, H4 D = some (.lst acc) ∧ acc.length < sizeLine ∧ Nx (upd H4 D (.lst (acc ++ [y]))) else Nx H3)) ∨
    (SqT K H0 a (lotV ms) ∧ ∀ D, H0 D = none → ∃ W : Nat → Nat → Hp → Prop, (∃ m, W 0 m (upd H0 D (.lst []))) ∧ ∀ k m H, W k m H → ((Itt K a).stop k H ∧ Qd D H) ∨ ((Itt K a).go k H ∧ ∃ Nx : Hp → Prop, (∀ H', Nx H' → ∃ m', m' < m ∧ W (k + 1) m' H') ∧ ∀ x H', (Itt K a).yld k H x H' → gName i x (wipe σ [i]) H' fun σ2 H2 => wipe σ2 [i] = wipe σ [i] ∧ tYes σ2 H2 fun b H3 => if b = true then te σ2 H3 fun y H4 => ∃ acc, H4 D = some (.lst acc) ∧ acc.length < sizeLine ∧ Nx (upd H4 D (.lst (acc ++ [y]))) else Nx H3)) := by
  refine lc_seq (K := K) (g := gName i) (tt := tYes) (te := te) (vs := [i]) (σ := σ) hn (fun D j H => Same H0 H ∧ H D = some (.lst (lotV ((ms.take j).map F)))) (fun D hD => ⟨Same.new (Same.refl H0) hD, upd_same⟩) (fun D j H _ _ p o e => p.1 _ _ e) ?_ ?_
  · rintro D j x H hD hj ⟨s1, g⟩
    obtain ⟨m, hm, rfl⟩ := lotV_get hj
    refine ⟨hw _, hte m (List.mem_of_getElem? hm) H _ s1 fun H' s2 => ⟨_, s2 _ _ g, ?_, Same.own (s1.trans s2) hD, ?_⟩⟩
    · rw [lotV_len, List.length_map, List.length_take, sizeLine_eq]; omega
    · rw [upd_same, take_snoc hm, List.map_append, List.map_singleton, lotV_snoc]
  · rintro D H hD ⟨s1, g⟩
    rw [lotV_len, List.take_length] at g
    exact hd D H hD s1 g
theorem pickedF_lt (m : Nat) (ps : List Nat) : pickedF m ps < 2 ^ ps.length := by
  have key : ∀ (l : List (Nat × Nat)) (r k : Nat), r < 2 ^ k → (∀ x ∈ l, x.2 < k) → l.foldl (fun r x => r ||| ((m >>> x.1 &&& 1) <<< x.2)) r < 2 ^ k := by
    intro l
    induction l with
    | nil => intro r k h _; exact h
    | cons x l ih =>
      intro r k h hx
      rw [List.foldl_cons]
      refine ih _ k (Nat.or_lt_two_pow h ?_) fun y hy => hx y (List.mem_cons_of_mem _ hy)
      have h1 := hx x (List.mem_cons_self ..)
      rw [Nat.shiftLeft_eq]
      have h2 : m >>> x.1 &&& 1 ≤ 1 := Nat.and_le_right
      have h3 : 2 ^ x.2 < 2 ^ k := Nat.pow_lt_pow_right (by decide) h1
      calc (m >>> x.1 &&& 1) * 2 ^ x.2 ≤ 1 * 2 ^ x.2 := Nat.mul_le_mul_right _ h2
        _ < 2 ^ k := by rw [Nat.one_mul]; exact h3
  unfold pickedF
  refine key _ 0 _ (Nat.two_pow_pos _) fun x hx => ?_
  have := List.mem_zipIdx hx
  omega
section
variable {P : Program} {w : World} {K : PySem.W.Frag} {mg : Str → Option Value} {base : Heap} {tM tL tZ tW tA : Tok}
end
end BT

set_option Elab.async false
set_option linter.all false
set_option maxRecDepth 100000
set_option maxHeartbeats 4000000
set_option exponentiation.threshold 2000
namespace BT
open PySem PySem.Spec PyProof.Rows L2
section
variable {P : Program} {w : World} {K : PySem.W.Frag} {mg : Str → Option Value} {base : Heap} {tM tL tZ tW tA : Tok}
/-! ### Book._need_places -/
def spNeedPlaces (C CL : Addr) : Sp := fun vs H Q E => ∃ (b : Addr) (n : Nat) (ms : List Nat) (v : V) (d : PyData), vs = [.ref b, v] ∧ BookAt C H b n ms ∧ n ≤ 24 ∧ Dv H v d ∧
  ((isLotD (n : Int) d = false ∨ d = lotD []) → ∀ x, H x = none → E (.ref CL) (some x) (upd H x (.xd [("what", v)]))) ∧ (∀ l, d = lotD l → IsLot n l → l ≠ [] → Q .non H)
theorem scNeedPlaces : FnScope ["self", "part"] ["self", "part"] (defScope s_Book_need_places) := ⟨rfl, rfl, rfl, by decide +kernel, rfl, by decide +kernel, by decide +kernel⟩
theorem ok_Book_need_places {f C CL CS : Addr} {fd : FuncData} (T : Bi mg) (BC : BookC K C) (EL : ErrC P w K mg base "BadLot" CL) (DI : DefOk P w K mg base (L2.CX P w) 3 "is_lot" ["value", "size"] (spIsLot CS)) (F : FnM K "_need_places" "Book._need_places" s_Book_need_places f fd) :
    FnOk P w K mg base (L2.CX P w) 4 f fd ["self", "part"] (spNeedPlaces C CL) := by
  refine F.ok scNeedPlaces (fun vs H Q E h => ?_) (fun cdv A outer s H vs Q E hr h => ?_)
  · obtain ⟨b, n, ms, v, d, rfl, _⟩ := h
    rfl
  · obtain ⟨b, n, ms, v, d, rfl, hb, hn, hd, kN, kY⟩ := h
    have tk : Takes (cxOf (L2.CX P w) P w K mg base ["self", "part"] "Book._need_places" (defScope s_Book_need_places) f cdv A outer s H E) (fun cls d _ H => E cls d H) := takes_of rfl rfl rfl rfl
    have px := passes_call tk (E := E) (fun _ _ _ _ h => h)
    refine ⟨_, pss_one (ps_if (PW.pt (pw_or (pt_not (pt_val (pe_dX DI hr rfl px (pa_cons (pv 1) (pa_cons (pe_fld (pv 0) rfl) pa_nil))))) (pw_or1 (pt_cmpR op_eq (pe_callB call_len_seq (by rfl) T.len PySem.boot_len (pa_cons (pv 1) pa_nil)) pe_int (nomark _)))))
        (pss_one (ps_err EL hr rfl tk rfl (pv 1) (mono_var 1))) pss_nil), ?_⟩
    obtain ⟨dx, t, g1, g2⟩ := hb
    refine ⟨_, rfl, _, rfl, b, C, dx, _, _, rfl, g1, BC.cls, BC.nSize, rfl, v, d, .int (n : Int), .int (n : Int), rfl, hd, .int _, fun i ei h0 h1 => ⟨_, rfl, ?_⟩, fun e => ?_⟩
    · injection ei with ei
      subst ei
      cases e : isLotD (n : Int) d with
      | false => exact iteT ⟨_, rfl, fun x hx => kN (.inl e) x hx⟩
      | true =>
        obtain ⟨l, rfl, il⟩ := isLotD_inv e
        obtain ⟨a, rfl, ga⟩ := hd.lot_inv
        refine iteF ⟨_, rfl, a, _, rfl, .inr (.inl (.inl ga)), rfl, _, rfl, ?_⟩
        rw [lotV_len]
        cases l with
        | nil => exact ⟨_, rfl, fun x hx => kN (.inr rfl) x hx⟩
        | cons p l =>
          refine ite2 (fun c => ?_) (fun c => kY _ rfl il (by simp))
          have := of_decide_eq_true c
          injection this with this
          simp only [List.length_cons] at this
          omega
    · have e2 : (decide (0 ≤ (n : Int)) && decide ((n : Int) ≤ 60)) = false := e
      rw [decide_eq_true (by omega), decide_eq_true (by omega)] at e2; cases e2
/-! ### Book.on -/
def onF (ms l : List Nat) : List Nat := reduceF (ms.map (pickedF · l))
theorem on_red {ms l : List Nat} : Red l.length (onF ms l) := ⟨_, fun m hm => by
  obtain ⟨z, hz, rfl⟩ := List.mem_map.mp hm
  exact pickedF_lt z l, rfl⟩
/-- a method that takes places and gives a book of these alone -/
def spPlacesBook (C CL : Addr) (G : List Nat → List Nat → List Nat) : Sp := fun vs H Q E => ∃ (b : Addr) (n : Nat) (ms : List Nat) (v : V) (d : PyData), vs = [.ref b, v] ∧ BookAt C H b n ms ∧ Red n ms ∧ 1 ≤ n ∧ n ≤ 24 ∧ Dv H v d ∧
  ((isLotD (n : Int) d = false ∨ d = lotD []) → ∀ x, H x = none → E (.ref CL) (some x) (upd H x (.xd [("what", v)]))) ∧ (∀ l, d = lotD l → IsLot n l → l ≠ [] → ∀ (x : Addr) (H' : Hp), H x = none → Same H H' → BookAt C H' x l.length (G ms l) → Q (.ref x) H')
theorem scOn : FnScope ["self", "part", "mask"] ["self", "part"] (defScope s_Book_on) := ⟨rfl, rfl, rfl, by decide +kernel, rfl, by decide +kernel, by decide +kernel⟩
theorem ok_Book_on {f C CL : Addr} {fd : FuncData} (T : Bi mg) (BC : BookC K C) (DN : MethOk P w K mg base (L2.CX P w) 4 C "_need_places" ["self", "part"] (spNeedPlaces C CL)) (DP : DefOk P w K mg base CX0 1 "picked" ["mask", "places"] spPicked)
    (DT : DefOk P w K mg base CX0 8 "_told" ["size", "masks"] (spToldB C)) (F : FnM K "on" "Book.on" s_Book_on f fd) : FnOk P w K mg base (L2.CX P w) 9 f fd ["self", "part"] (spPlacesBook C CL onF) := by
  refine F.ok scOn (fun vs H Q E h => ?_) (fun cdv A outer s H vs Q E hr h => ?_)
  · obtain ⟨b, n, ms, v, d, rfl, _⟩ := h
    rfl
  · obtain ⟨b, n, ms, v, d, rfl, hb, hR, hn1, hn, hd, kN, kY⟩ := h
    have tk : Takes (cxOf (L2.CX P w) P w K mg base ["self", "part", "mask"] "Book.on" (defScope s_Book_on) f cdv A outer s H E) (fun cls d _ H => E cls d H) := takes_of rfl rfl rfl rfl
    have px := passes_call tk (E := E) (fun _ _ _ _ h => h)
    refine ⟨_, pss_cons (ps_expr (pe_mX DN BC.cls (pv 0) hr px (pa_cons (pv 1) pa_nil)))
      (pss_one (ps_ret (pe_d DT hr rfl (pa_cons (pe_callB call_len_seq (by rfl) T.len PySem.boot_len (pa_cons (pv 1) pa_nil)) (pa_cons (pe_lc (own := [("mask", 2)]) (g := gName 2) (tt := tYes) (te := tCall spPicked [] E0 (tCons (tVar 2) (tCons (tVar 1) tNil))) rfl scOn.nd (pi_seq (pe_fld (pv 0) rfl))
          (blkOk_by (N := ["self", "part", "mask"]) (sc := defScope s_Book_on) (by decide +kernel)) (fun _ _ _ _ _ => pg_name (i := 2) scOn.nd rfl (Or.inl rfl)) (fun _ _ _ _ _ => pts_nil)
          (fun _ _ _ _ _ => by exact (pe_d DP hr rfl (pa_cons (pv 2) (pa_cons (pv 1) pa_nil))))) pa_nil))))), ?_⟩
    have hb' := hb
    obtain ⟨dx, t, g1, g2⟩ := hb
    have hlen := hR.len
    refine ⟨_, rfl, b, dx, _, rfl, g1, rfl, _, rfl, b, n, ms, v, d, rfl, hb', hn, hd, kN, fun l e il ne => ?_⟩
    subst e
    obtain ⟨a, rfl, ga⟩ := hd.lot_inv
    refine ⟨_, rfl, a, _, rfl, .inr (.inl (.inl ga)), _, rfl, b, C, dx, _, _, rfl, g1, BC.cls, BC.nMasks, rfl, t, lotV ms, rfl, ?_⟩
    have ll := asc_len il
    refine lc_map (pickedF · l) (fun _ => rfl) (.inr g2) (by omega) (fun m hm H1 Q1 s1 k1 => ⟨_, rfl, _, rfl, m, a, l, rfl, .inr (s1 _ _ ga), fun p hp => Nat.lt_of_lt_of_le (il.lt p hp) (by omega), by omega, k1⟩) fun D H1 hD s1 gD => ?_
    refine ⟨l.length, D, _, by rw [lotV_len]; rfl, .inl gD, fun m hm => ?_, by rw [List.length_map]; omega, ?_, by omega, fun x H2 hx s2 bk => ?_⟩
    · obtain ⟨z, hz, rfl⟩ := List.mem_map.mp hm
      exact pickedF_lt z l
    · cases l with
      | nil => exact absurd rfl ne
      | cons p l => simp
    · exact kY l rfl il ne x H2 (s1.free hx) (s1.trans s2) bk
end
end BT

set_option Elab.async false
set_option linter.all false
set_option maxRecDepth 100000
set_option maxHeartbeats 4000000
set_option exponentiation.threshold 2000
namespace BT
open PySem PySem.Spec PyProof.Rows L2
/-- the numbers of data -/
def intsOf (ds : List PyData) : List Int := ds.map fun d => match d with | .int i => i | _ => 0
def insI (x : Int) : List Int → List Int
  | [] => [x]
  | y :: r => if x ≤ y then x :: y :: r else y :: insI x r
def sortI (l : List Int) : List Int := l.foldr insI []
theorem insI_perm (x : Int) : ∀ l : List Int, (insI x l).Perm (x :: l)
  | [] => .refl _
  | y :: r => by
    unfold insI
    split
    · exact .refl _
    · exact ((insI_perm x r).cons y).trans (List.Perm.swap x y r)
theorem sortI_perm : ∀ l : List Int, (sortI l).Perm l
  | [] => .refl _
  | x :: l => (insI_perm x (sortI l)).trans ((sortI_perm l).cons x)
theorem insI_sorted (x : Int) : ∀ l : List Int, l.Pairwise (· ≤ ·) → (insI x l).Pairwise (· ≤ ·)
  | [], _ => List.pairwise_singleton _ _
  | y :: r, h => by
    have h' := List.pairwise_cons.mp h
    unfold insI
    split
    · rename_i c
      refine List.pairwise_cons.mpr ⟨fun z hz => ?_, h⟩
      rcases List.mem_cons.mp hz with rfl | hz
      · exact c
      · exact Int.le_trans c (h'.1 z hz)
    · rename_i c
      refine List.pairwise_cons.mpr ⟨fun z hz => ?_, insI_sorted x r h'.2⟩
      rcases List.mem_cons.mp ((insI_perm x r).mem_iff.mp hz) with rfl | hz
      · omega
      · exact h'.1 z hz
theorem sortI_sorted : ∀ l : List Int, (sortI l).Pairwise (· ≤ ·)
  | [] => .nil
  | x :: l => insI_sorted x _ (sortI_sorted l)
theorem sorted_int_one : ∀ {a b : List Int}, a.Perm b → a.Pairwise (· ≤ ·) → b.Pairwise (· ≤ ·) → a = b
  | [], b, h, _, _ => h.symm.eq_nil.symm
  | x :: a, [], h, _, _ => by have := h.eq_nil; cases this
  | x :: a, y :: b, h, ha, hb => by
    have ha' := List.pairwise_cons.mp ha
    have hb' := List.pairwise_cons.mp hb
    have e : x = y := by
      rcases List.mem_cons.mp (h.mem_iff.mp (List.mem_cons_self ..)) with e | hx
      · exact e
      · rcases List.mem_cons.mp (h.mem_iff.mpr (List.mem_cons_self ..)) with e | hy
        · exact e.symm
        · exact Int.le_antisymm (ha'.1 y hy) (hb'.1 x hx)
    subst e
    rw [sorted_int_one ((List.perm_cons _).mp h) ha'.2 hb'.2]
theorem eqv_ints : ∀ a b : List Int, PyData.eqvAll (a.map PyData.int) (b.map PyData.int) = decide (a = b)
  | [], [] => rfl
  | [], _ :: _ => rfl
  | _ :: _, [] => rfl
  | x :: a, y :: b => by
    rw [List.map_cons, List.map_cons, PyData.eqvAll, PyData.eqv, eqv_ints a b]
    by_cases h : x = y
    · subst h
      by_cases h2 : a = b <;> simp [h2]
    · simp [h]
theorem dp_ints {K : PySem.W.Frag} {H : Hp} : ∀ ns : List Int, DpAll K H (ns.map V.int) (ns.map PyData.int)
  | [] => .nil
  | n :: ns => .cons (.int n) (dp_ints ns)
theorem shaped_ints (ns : List Int) : SeqAt.shaped (.list (ns.map PyData.int)) = true := by
  unfold SeqAt.shaped
  rw [Bool.and_eq_true]
  constructor
  · simp only [PyData.canLay0]
    induction ns with
    | nil => rfl
    | cons n ns ih =>
      rw [List.map_cons]
      simp only [PyData.canLayAll0, PyData.canLay0, Bool.true_and]
      exact ih
  · refine decide_eq_true ?_
    simp only [PyData.depth]
    have : PyData.depthAll (ns.map PyData.int) ≤ 0 := depthA_le fun d hd => by
      obtain ⟨n, _, rfl⟩ := List.mem_map.mp hd
      simp [PyData.depth]
    omega
theorem nums_of {H : Hp} : ∀ {ds : List PyData} {xs : List V}, DvA H xs ds → ds.all numD = true → xs = (intsOf ds).map V.int
  | [], _, h, _ => by cases h; rfl
  | d :: ds, _, h, hn => by
    rw [List.all_cons, Bool.and_eq_true] at hn
    cases h with
    | cons h1 h2 =>
      rw [nums_of h2 hn.2]
      cases h1 with
      | int i => rfl
      | _ => exact absurd (show false = true from hn.1) (by decide)
/-- an order of n places -/
def isOrdD (n : Nat) : PyData → Bool
  | .tuple ds => ds.all numD && decide (sortI (intsOf ds) = (List.range n).map fun p : Nat => (p : Int))
  | _ => false
section
variable {P : Program} {w : World} {K : PySem.W.Frag} {mg : Str → Option Value} {base : Heap} {tM tL tZ tW tA : Tok}
end
end BT

set_option Elab.async false
set_option linter.all false
set_option maxRecDepth 100000
set_option maxHeartbeats 4000000
set_option exponentiation.threshold 2000
namespace BT
open PySem PySem.Spec PyProof.Rows L2
theorem intsOf_ints : ∀ ns : List Int, intsOf (ns.map PyData.int) = ns
  | [] => rfl
  | n :: ns => by
    have := intsOf_ints ns
    unfold intsOf at this ⊢
    rw [List.map_cons, List.map_cons, this]
theorem ints_data : ∀ {ds : List PyData}, ds.all numD = true → ds = (intsOf ds).map PyData.int
  | [], _ => rfl
  | d :: ds, h => by
    rw [List.all_cons, Bool.and_eq_true] at h
    have := ints_data h.2
    unfold intsOf at this ⊢
    rw [List.map_cons, List.map_cons, ← this]
    cases d with
    | int i => rfl
    | _ => exact absurd (show false = true from h.1) (by decide)
theorem nat_ints : ∀ {ns : List Int}, (∀ i ∈ ns, 0 ≤ i) → ∃ l : List Nat, ns = l.map fun p : Nat => (p : Int)
  | [], _ => ⟨[], rfl⟩
  | i :: ns, h => by
    obtain ⟨l, rfl⟩ := nat_ints fun j hj => h j (List.mem_cons_of_mem _ hj)
    obtain ⟨p, rfl⟩ := Int.eq_ofNat_of_zero_le (h i (List.mem_cons_self ..))
    exact ⟨p :: l, rfl⟩
theorem map_cast_inj : ∀ {a b : List Nat}, (a.map fun p : Nat => (p : Int)).Perm (b.map fun p : Nat => (p : Int)) → a.Perm b := by
  intro a b h
  have := h.map Int.toNat
  rw [List.map_map, List.map_map] at this
  have e : (Int.toNat ∘ fun p : Nat => (p : Int)) = id := by funext p; rfl
  rw [e, List.map_id, List.map_id] at this
  exact this
theorem isOrdD_inv {n : Nat} {d : PyData} (h : isOrdD n d = true) : ∃ l : List Nat, d = lotD l ∧ l.Perm (List.range n) := by
  cases d with
  | tuple ds =>
    have h2 : (ds.all numD && decide (sortI (intsOf ds) = (List.range n).map fun p : Nat => (p : Int))) = true := h
    rw [Bool.and_eq_true] at h2
    have e1 := ints_data h2.1
    have e2 := of_decide_eq_true h2.2
    have p1 := sortI_perm (intsOf ds)
    rw [e2] at p1
    obtain ⟨l, el⟩ := nat_ints (ns := intsOf ds) fun i hi => by
      obtain ⟨p, _, rfl⟩ := List.mem_map.mp (p1.mem_iff.mpr hi)
      omega
    rw [el] at p1
    refine ⟨l, ?_, (map_cast_inj p1).symm⟩
    rw [e1, el, List.map_map]
    rfl
  | _ => cases h
theorem isOrdD_of {n : Nat} {l : List Nat} (h : l.Perm (List.range n)) : isOrdD n (lotD l) = true := by
  show ((l.map fun p : Nat => PyData.int (p : Int)).all numD && decide (sortI (intsOf (l.map fun p : Nat => PyData.int (p : Int))) = _)) = true
  rw [Bool.and_eq_true]
  constructor
  · rw [List.all_map, List.all_eq_true]; intro _ _; rfl
  · refine decide_eq_true ?_
    have e : (l.map fun p : Nat => PyData.int (p : Int)) = (l.map fun p : Nat => (p : Int)).map PyData.int := by rw [List.map_map]; rfl
    rw [e, intsOf_ints]
    refine sorted_int_one ((sortI_perm _).trans (h.map _)) (sortI_sorted _) ?_
    have : (List.range n).Pairwise (· < ·) := List.pairwise_lt_range
    exact List.pairwise_map.mpr (this.imp fun {a b} q => by omega)
section
variable {P : Program} {w : World} {K : PySem.W.Frag} {mg : Str → Option Value} {base : Heap} {tM tL tZ tW tA : Tok}
end
end BT

set_option Elab.async false
set_option linter.all false
set_option maxRecDepth 100000
set_option maxHeartbeats 4000000
set_option exponentiation.threshold 2000
namespace BT
open PySem PySem.Spec PyProof.Rows L2
section
variable {P : Program} {w : World} {K : PySem.W.Frag} {mg : Str → Option Value} {base : Heap} {tM tL tZ tW tA : Tok}
/-! ### Book.words -/
noncomputable def wordsF (ms : List Nat) : List PyData := sortD (((spanF ms).map lotN).map lotD)
theorem wordsF_len (ms : List Nat) : (wordsF ms).length = 2 ^ ms.length := by
  unfold wordsF
  rw [(sortD_perm _).length_eq, List.length_map, List.length_map, spanF_len]
def spWords (C CT : Addr) : Sp := fun vs H Q E => ∃ (b : Addr) (n : Nat) (ms : List Nat), vs = [.ref b] ∧ BookAt C H b n ms ∧ Red n ms ∧ n ≤ 24 ∧
  (12 < ms.length → ∀ x, H x = none → E (.ref CT) (some x) (upd H x (.xd [("what", .int 4096)]))) ∧
  (ms.length ≤ 12 → ∀ (D : Addr) (H' : Hp) (xs : List V), H D = none → Same H H' → H' D = some (.lst xs) → DvA H' xs (wordsF ms) → Q (.ref D) H')
theorem scWords : FnScope ["self", "mask"] ["self"] (defScope s_Book_words) := ⟨rfl, rfl, rfl, by decide +kernel, rfl, by decide +kernel, by decide +kernel⟩
theorem span_lt {n : Nat} {ms : List Nat} (h : ∀ m ∈ ms, m < 2 ^ n) : ∀ z ∈ spanF ms, z < 2 ^ n := by
  have key : ∀ (ms acc : List Nat), (∀ m ∈ ms, m < 2 ^ n) → (∀ z ∈ acc, z < 2 ^ n) → ∀ z ∈ ms.foldl (fun sums m => sums ++ sums.map (m ^^^ ·)) acc, z < 2 ^ n := by
    intro ms
    induction ms with
    | nil => intro acc _ h; exact h
    | cons m ms ih =>
      intro acc hm ha
      rw [List.foldl_cons]
      refine ih _ (fun z hz => hm z (List.mem_cons_of_mem _ hz)) fun z hz => ?_
      rcases List.mem_append.mp hz with hz | hz
      · exact ha z hz
      · obtain ⟨y, hy, rfl⟩ := List.mem_map.mp hz
        exact xor_lt (hm m (List.mem_cons_self ..)) (ha y hy)
  exact key ms [0] h fun z hz => by rw [List.mem_singleton.mp hz]; exact Nat.two_pow_pos _
theorem tup_lots {ls : List (List Nat)} : ∀ d ∈ ls.map lotD, TupD d := fun d hd => by
  obtain ⟨l, _, rfl⟩ := List.mem_map.mp hd
  exact ⟨l.map fun p : Nat => (p : Int), by rw [List.map_map]; rfl⟩
theorem ok_Book_words {f C CT : Addr} {fd : FuncData} (T2 : Bi2 mg) (BC : BookC K C) (hW : mg "MOST_WORDS" = some (.int 4096 tW)) (ET : ErrC P w K mg base "TooMany" CT) (DL : DefOk P w K mg base CX0 1 "lot_of" ["mask"] spLotOf)
    (DS : DefOk P w K mg base CX0 1 "span" ["masks"] spSpan) (F : FnM K "words" "Book.words" s_Book_words f fd) : FnOk P w K mg base (L2.CX P w) 4 f fd ["self"] (spWords C CT) := by
  refine F.ok scWords (fun vs H Q E h => ?_) (fun cdv A outer s H vs Q E hr h => ?_)
  · obtain ⟨b, n, ms, rfl, _⟩ := h
    rfl
  · obtain ⟨b, n, ms, rfl, hb, hR, hn, kT, kY⟩ := h
    have hu : (A.deeper (envOfC "Book.words" (defScope s_Book_words) s.heap.objs.size f cdv)).units + 64 < cLine := hr.units
    have tk : Takes (cxOf (L2.CX P w) P w K mg base ["self", "mask"] "Book.words" (defScope s_Book_words) f cdv A outer s H E) (fun cls d _ H => E cls d H) := takes_of rfl rfl rfl rfl
    refine ⟨_, pss_cons (ps_if (pt_cmpR op_gt (pe_op op_shl pe_int (pe_fld (pv 0) rfl)) (pe_glob (v := .int 4096) rfl hW ⟨_, rfl⟩) (nomark _)) (pss_one (ps_err ET hr rfl tk rfl (pe_glob (v := .int 4096) rfl hW ⟨_, rfl⟩) (mono_int 4096))) pss_nil)
      (pss_one (ps_ret (pe_callB (cr_sortedD hu) (by rfl) T2.sorted (by decide +kernel) (pa_cons (pe_lc (own := [("mask", 1)]) (g := gName 1) (tt := tYes) (te := tCall spLotOf [] E0 (tCons (tVar 1) tNil)) rfl scWords.nd (pi_seq (pe_d DS hr rfl (pa_cons (pe_fld (pv 0) rfl) pa_nil)))
          (blkOk_by (N := ["self", "mask"]) (sc := defScope s_Book_words) (by decide +kernel)) (fun _ _ _ _ _ => pg_name (i := 1) scWords.nd rfl (Or.inl rfl)) (fun _ _ _ _ _ => pts_nil)
          (fun _ _ _ _ _ => by exact (pe_d DL hr rfl (pa_cons (pv 1) pa_nil)))) pa_nil)))), ?_⟩
    obtain ⟨dx, t, g1, g2⟩ := hb
    have hlen := hR.len
    have ep : (1 : Int) * 2 ^ ((ms.length : Int).toNat) = ((2 ^ ms.length : Nat) : Int) := by rw [Int.toNat_natCast, Int.one_mul, Int.natCast_pow]; rfl
    refine ⟨_, rfl, b, C, dx, _, _, rfl, g1, BC.cls, BC.nDim, rfl, _, _, rfl, rfl, ⟨by omega, by omega, by decide⟩, _, _, rfl, rfl, _, rfl, ?_⟩
    refine ite2 (fun q => ?_) (fun q => ?_)
    · have q2 := of_decide_eq_true q
      rw [ep] at q2
      refine fun x hx => kT (Nat.lt_of_not_le fun z => ?_) x hx
      have : 2 ^ ms.length ≤ 2 ^ 12 := Nat.pow_le_pow_right (by decide) z
      omega
    · have h12 : ms.length ≤ 12 := Nat.le_of_not_lt fun z => by
        refine q (decide_eq_true ?_)
        rw [ep]
        have : 2 ^ 13 ≤ 2 ^ ms.length := Nat.pow_le_pow_right (by decide) z
        omega
      refine ⟨_, rfl, b, C, dx, _, _, rfl, g1, BC.cls, BC.nMasks, rfl, t, ms, rfl, .inr g2, h12, fun p H1 hp s1 gp => ?_⟩
      have hs := spanF_len ms
      have hs2 : 2 ^ ms.length ≤ 2 ^ 12 := Nat.pow_le_pow_right (by decide) h12
      refine ⟨p, lotV (spanF ms), rfl, lc_lots (fun _ => rfl) (fun _ => rfl) (.inl gp) (fun m hm => Nat.lt_of_lt_of_le (span_lt hR.lt m hm) (Nat.pow_le_pow_right (by decide) (by omega))) (by omega) fun D H2 xs hD s2 g hA => ?_⟩
      refine ⟨D, xs, _, rfl, g, hA, tup_lots, fun ys q hy hq => ?_⟩
      have s3 := Same.new (Same.refl H2) (o := .lst ys) hq
      exact kY h12 q _ ys (s1.free (s2.free hq)) (s1.trans (s2.trans s3)) upd_same (DvA.mono s3 _ _ hy)
/-! ### Book.word_of -/
def wordF (ms l : List Nat) : Nat := l.foldl (fun w i => w ^^^ ms.getD i 0) 0
theorem wordF_snoc (ms l : List Nat) (i : Nat) : wordF ms (l ++ [i]) = wordF ms l ^^^ ms.getD i 0 := by unfold wordF; rw [List.foldl_append]; rfl
theorem wordF_lt {n : Nat} {ms : List Nat} (h : ∀ m ∈ ms, m < 2 ^ n) (l : List Nat) : wordF ms l < 2 ^ n := by
  have key : ∀ (l : List Nat) (w : Nat), w < 2 ^ n → l.foldl (fun w i => w ^^^ ms.getD i 0) w < 2 ^ n := by
    intro l
    induction l with
    | nil => intro w h; exact h
    | cons i l ih =>
      intro w hw
      rw [List.foldl_cons]
      refine ih _ (xor_lt hw ?_)
      rw [List.getD_eq_getElem?_getD]
      cases e : ms[i]? with
      | none => exact Nat.two_pow_pos _
      | some m => exact h m (List.mem_of_getElem? e)
  exact key l 0 (Nat.two_pow_pos _)
def spWordOf (C CL : Addr) : Sp := fun vs H Q E => ∃ (b : Addr) (n : Nat) (ms : List Nat) (v : V) (d : PyData), vs = [.ref b, v] ∧ BookAt C H b n ms ∧ Red n ms ∧ n ≤ 24 ∧ Dv H v d ∧
  (isLotD (ms.length : Int) d = false → ∀ x, H x = none → E (.ref CL) (some x) (upd H x (.xd [("what", v)]))) ∧
  (∀ l, d = lotD l → IsLot ms.length l → ∀ (p : Addr) (H' : Hp), H p = none → Same H H' → H' p = some (.tup (lotV (lotN (wordF ms l)))) → Q (.ref p) H')
theorem scWordOf : FnScope ["self", "numbers", "word", "number"] ["self", "numbers"] (defScope s_Book_word_of) := ⟨rfl, rfl, rfl, by decide +kernel, rfl, by decide +kernel, by decide +kernel⟩
theorem ok_Book_word_of {f C CL : Addr} {fd : FuncData} (BC : BookC K C) (DN : DefOk P w K mg base (L2.CX P w) 4 "need_lot" ["value", "size"] (spNeedLot CL)) (DL : DefOk P w K mg base CX0 1 "lot_of" ["mask"] spLotOf)
    (F : FnM K "word_of" "Book.word_of" s_Book_word_of f fd) : FnOk P w K mg base (L2.CX P w) 5 f fd ["self", "numbers"] (spWordOf C CL) := by
  refine F.ok scWordOf (fun vs H Q E h => ?_) (fun cdv A outer s H vs Q E hr h => ?_)
  · obtain ⟨b, n, ms, v, d, rfl, _⟩ := h
    rfl
  · obtain ⟨b, n, ms, v, d, rfl, hb, hR, hn, hd, kN, kY⟩ := h
    have tk : Takes (cxOf (L2.CX P w) P w K mg base ["self", "numbers", "word", "number"] "Book.word_of" (defScope s_Book_word_of) f cdv A outer s H E) (fun cls d _ H => E cls d H) := takes_of rfl rfl rfl rfl
    have px := passes_call tk (E := E) (fun _ _ _ _ h => h)
    refine ⟨_, pss_cons (ps_expr (pe_dX DN hr rfl px (pa_cons (pv 1) (pa_cons (pe_fld (pv 0) rfl) pa_nil))))
      (pss_cons (ps_set (i := 2) scWordOf.nd rfl (Or.inl rfl) pe_int)
      (pss_cons (ps_for (passes_of rfl) rfl (pi_tup (pv 1)) (pg_name (i := 3) scWordOf.nd rfl (Or.inl rfl))
        (pss_one (ps_aug (i := 2) scWordOf.nd rfl (Or.inl rfl) (pe_ix ix_tup (pe_fld (pv 0) rfl) (pv 3) (fun _ _ => rfl)) iop_xor)))
      (pss_one (ps_ret (pe_d DL hr rfl (pa_cons (pv 2) pa_nil)))))), ?_⟩
    obtain ⟨dx, t, g1, g2⟩ := hb
    have hlen := hR.len
    refine ⟨_, rfl, _, rfl, b, C, dx, _, _, rfl, g1, BC.cls, BC.nDim, rfl, v, d, ms.length, rfl, hd, by omega, fun e => ?_, kN⟩
    obtain ⟨l, rfl, il⟩ := isLotD_inv e
    obtain ⟨a, rfl, ga⟩ := hd.lot_inv
    refine ⟨_, rfl, a, rfl, ⟨_, .inl (.inl ga)⟩, for_tup (K := K) (a := a) (xs := lotV l) (fun j σ H' => H' = H ∧ ∃ z : Option V, σ = [some (.ref b), some (.ref a), some (.int (wordF ms (l.take j) : Nat)), z]) ⟨rfl, none, rfl⟩ (fun j σ H' _ p => by obtain ⟨rfl, _⟩ := p; exact .inl (.inl ga)) ?_ ?_⟩
    · rintro j x σ H' hj ⟨rfl, z, rfl⟩
      obtain ⟨i, hi, rfl⟩ := lotV_get hj
      have hil := il.lt i (List.mem_of_getElem? hi)
      have em : ms[i]? = some ms[i] := List.getElem?_eq_getElem hil
      have ev : atI (lotV ms) (i : Int) = some (.int (ms[i] : Nat)) := by
        unfold atI ixN
        rw [if_pos (by omega), if_pos (by rw [lotV_len]; omega)]
        show (lotV ms)[((i : Int)).toNat]? = _
        rw [Int.toNat_natCast]
        unfold lotV
        rw [List.getElem?_map, em]; rfl
      refine ⟨_, rfl, _, rfl, b, C, dx, _, _, rfl, g1, BC.cls, BC.nMasks, rfl, _, rfl, t, lotV ms, (i : Int), _, rfl, rfl, .inl (.inl g2), ev, _, _, rfl, rfl, rfl, some (.int (i : Int)), ?_⟩
      rw [take_snoc hi, wordF_snoc, List.getD_eq_getElem?_getD, em, ← bitXor_nat]
      rfl
    · rintro σ H' ⟨rfl, z, rfl⟩
      rw [lotV_len, List.take_length]
      refine ⟨_, rfl, _, rfl, Nat.lt_of_lt_of_le (wordF_lt hR.lt l) (Nat.pow_le_pow_right (by decide) (by omega)), fun p H' hp s1 gp => ?_⟩
      exact kY l rfl il p H' hp s1 gp
end
end BT

set_option Elab.async false
set_option linter.all false
set_option maxRecDepth 100000
set_option maxHeartbeats 4000000
namespace DL
open PySem PySem.Spec PyProof.Rows L2 BT
/-! ### data of lots and books -/
def natX (l : List Nat) : List D := l.map fun p : Nat => .int (p : Int)
def lotX (l : List Nat) : D := .tup (natX l)
def lotsX (ls : List (List Nat)) : D := .lst (ls.map lotX)
def bookX (n : Nat) (ms : List Nat) : D := .obj "Book" [("size", .int (n : Int)), ("masks", .tup (natX ms)), ("dim", .int (ms.length : Nat))]
def intsN (l : List Nat) : List Int := l.map fun p : Nat => (p : Int)
theorem lotX_tup (l : List Nat) : lotX l = tupI (intsN l) := by
  unfold lotX natX tupI intsN; rw [List.map_map]; rfl
theorem intsN_inj {a b : List Nat} (h : intsN a = intsN b) : a = b := (List.map_inj_right fun x y h => Int.ofNat.inj h).mp h
theorem lotD_py (l : List Nat) : lotD l = pyI (intsN l) := by
  unfold lotD pyI intsN; rw [List.map_map]; rfl
theorem lotD_inj {a b : List Nat} (h : lotD a = lotD b) : a = b := by
  rw [lotD_py, lotD_py] at h
  exact intsN_inj (pyI_inj h)
section
variable {ad : Str → Addr} {B : Addr → Prop} {s : SO} {H : Hp} {F : Addr → HO → Prop}
theorem dx_nats : ∀ l : List Nat, DxA ad F (lotV l) (natX l)
  | [] => .nil
  | p :: l => .cons (.int _) (dx_nats l)
theorem nats_dx : ∀ {l : List Nat} {vs : List V}, DxA ad F vs (natX l) → vs = lotV l
  | [], _, h => by cases h; rfl
  | p :: l, _, h => by
    cases h with
    | cons a r => cases a; rw [nats_dx r]; rfl
theorem pyR_lot (l : List Nat) : pyR (lotX l) = some (lotD l) := by rw [lotX_tup, lotD_py]; exact pyR_ints _
theorem pyRs_lots : ∀ ls : List (List Nat), pyRs (ls.map lotX) = some (ls.map lotD)
  | [] => rfl
  | l :: ls => by
    rw [List.map_cons, List.map_cons]
    simp only [pyRs, pyR_lot, pyRs_lots ls]; rfl
theorem pyR_lots (ls : List (List Nat)) : pyR (lotsX ls) = some (.list (ls.map lotD)) := by
  unfold lotsX
  simp only [pyR, pyRs_lots]; rfl
theorem dva_nats : ∀ {l : List Nat} {vs : List V}, DvA H vs (l.map fun p : Nat => PyData.int (p : Int)) → vs = lotV l
  | [], _, h => by cases h; rfl
  | p :: l, _, h => by
    cases h with
    | cons a r => cases a; rw [dva_nats r]; rfl
/-- a lot, as it lies -/
theorem dx_lot (w : Wd B s H) {v : V} {l : List Nat} (h : Dv H v (lotD l)) : Dx ad (Fz B H) v (lotX l) := by
  cases h with
  | tup e a =>
    have := dva_nats a
    subst this
    exact .tup ⟨w.nt e, e⟩ (dx_nats l)
theorem dx_lots (w : Wd B s H) : ∀ {vs : List V} {ls : List (List Nat)}, DvA H vs (ls.map lotD) → DxA ad (Fz B H) vs (ls.map lotX)
  | _, [], h => by cases h; exact .nil
  | _, l :: ls, h => by
    cases h with
    | cons a r => exact .cons (dx_lot w a) (dx_lots w r)
theorem dx_book (w : Wd B s H) {b : Addr} {n : Nat} {ms : List Nat} (hb : ¬ B b) (h : BookAt (ad "Book") H b n ms) : Dx ad (Fz B H) (.ref b) (bookX n ms) := by
  obtain ⟨dx, t, h1, h2⟩ := h
  exact .obj ⟨hb, h1⟩ (.cons (.int _) (.cons (.tup ⟨w.nt h2, h2⟩ (dx_nats ms)) (.cons (.int _) .nil)))
theorem book_dx {v : V} {n : Nat} {ms : List Nat} (h : Dx ad (Fz B H) v (bookX n ms)) : ∃ b, v = .ref b ∧ BookAt (ad "Book") H b n ms := by
  cases h with
  | obj e r =>
    cases r with
    | cons a1 r1 =>
      cases a1
      cases r1 with
      | cons a2 r2 =>
        cases a2 with
        | tup e2 t2 =>
          have := nats_dx t2
          subst this
          cases r2 with
          | cons a3 r3 =>
            cases a3; cases r3
            exact ⟨_, rfl, _, _, e.2, e2.2⟩
end
/-! ### a book's promises, by data -/
def d_law_draw : DSp := fun as Q _ => ∃ m : Int, as = [.src, .dat (.int m)] ∧ 0 < m ∧ m < 1073741824 ∧ ∀ v : Int, 0 ≤ v → v < m → Q (.int v)
def d_Book : DSp := fun as Q _ => ∃ (n : Nat) (ls : List (List Nat)), as = [.dat (.int (n : Int)), .dat (lotsX ls)] ∧ 1 ≤ n ∧ n ≤ 24 ∧ ls.length ≤ 60 ∧ (∀ l ∈ ls, IsLot n l) ∧ Q (bookX n (reduceF (ls.map maskN)))
def d_Book_rows : DSp := fun as Q _ => ∃ (n : Nat) (ms : List Nat), as = [.dat (bookX n ms)] ∧ Red n ms ∧ n ≤ 24 ∧ Q (lotsX (ms.map lotN))
def d_Book_words : DSp := fun as Q _ => ∃ (n : Nat) (ms : List Nat), as = [.dat (bookX n ms)] ∧ Red n ms ∧ n ≤ 24 ∧ ms.length ≤ 12 ∧ ∀ ls : List (List Int), ls.Perm ((spanF ms).map fun m => intsN (lotN m)) → SrtT ls → Q (.lst (ls.map tupI))
def d_Book_holds : DSp := fun as Q _ => ∃ (n : Nat) (ms l : List Nat), as = [.dat (bookX n ms), .dat (lotX l)] ∧ n ≤ 24 ∧ IsLot n l ∧ Q (.bl (decide (clearedF (-1) (maskN l) ms = 0)))
def d_Book_word_of : DSp := fun as Q _ => ∃ (n : Nat) (ms l : List Nat), as = [.dat (bookX n ms), .dat (lotX l)] ∧ Red n ms ∧ n ≤ 24 ∧ IsLot ms.length l ∧ Q (lotX (lotN (wordF ms l)))
/-- == of books: of the same size, with the same rows -/
inductive BookIs (n : Nat) (ms : List Nat) : D → Bool → Prop
  | no {y : D} {t : String} (h : tyS y = some t) : BookIs n ms y false
  | yes (m : Nat) (ks : List Nat) : BookIs n ms (bookX m ks) (decide (n = m ∧ ms = ks))
def d_Book_eq : DSp := fun as Q _ => ∃ (n : Nat) (ms : List Nat) (y : D) (r : Bool), as = [.dat (bookX n ms), .dat y] ∧ BookIs n ms y r ∧ Q (.bl r)
def tab0 : List (Str × List Str) := [("Book", ["size", "masks", "dim"])]
section
variable {P : Program} {w : World} {K : PySem.W.Frag} {mg : Str → Option Value} {base : Heap} {ad : Str → Addr} {k : Nat}
theorem MethOk.wide {C : Addr} {m : Str} {ps : List Str} {sp : Sp} (D : MethOk P w K mg base CX0 k C m ps sp) : MethOk P w K mg base (L2.CX P w) k C m ps sp := by
  obtain ⟨f, fd, F, r⟩ := D.ex
  exact ⟨f, fd, FnOk.wide F, r⟩
theorem MethOk.imp {CX : CXT} {C : Addr} {m : Str} {ps : List Str} {sp sp' : Sp} (D : MethOk P w K mg base CX k C m ps sp) (h : ∀ vs H Q E, sp' vs H Q E → sp vs H Q E) : MethOk P w K mg base CX k C m ps sp' := by
  obtain ⟨f, fd, F, r⟩ := D.ex
  exact ⟨f, fd, F.imp h, r⟩
theorem one_dat {B : Addr → Prop} {s : SO} {H : Hp} {vs : List V} {d : D} (h : ArA ad B s H vs [.dat d]) : ∃ v, vs = [v] ∧ Dx ad (Fz B H) v d := by
  cases h with
  | cons a r => cases r; exact ⟨_, rfl, a⟩
theorem two_dat {B : Addr → Prop} {s : SO} {H : Hp} {vs : List V} {d e : D} (h : ArA ad B s H vs [.dat d, .dat e]) : ∃ v u, vs = [v, u] ∧ Dx ad (Fz B H) v d ∧ Dx ad (Fz B H) u e := by
  cases h with
  | cons a r => cases r with
    | cons b r => cases r; exact ⟨_, _, rfl, a, b⟩
theorem cv_Book_rows (D : MethOk P w K mg base CX0 k (ad "Book") "rows" ["self"] (spRows (ad "Book"))) : MetX P w K mg base ad k "Book" "rows" ["self"] d_Book_rows :=
  MethOk.imp (MethOk.wide D) fun vs H Q E h => by
    obtain ⟨B, s, as, Qd, Xd, W, ar, ⟨n, ms, rfl, hr, hn, q⟩, kk, _⟩ := h
    obtain ⟨v, rfl, dv⟩ := one_dat ar
    obtain ⟨b, rfl, bk⟩ := book_dx dv
    refine ⟨b, n, ms, rfl, bk, hr, hn, fun D H' xs hD hs hl hx => kk _ _ H' q (W.same hs) ?_⟩
    exact .lst ⟨W.nb hD, hl⟩ (dx_lots (W.frm (W.same hs)) hx)
theorem cv_Book_words {CT : Addr} (D : MethOk P w K mg base (L2.CX P w) k (ad "Book") "words" ["self"] (spWords (ad "Book") CT)) : MetX P w K mg base ad k "Book" "words" ["self"] d_Book_words :=
  MethOk.imp D fun vs H Q E h => by
    obtain ⟨B, s, as, Qd, Xd, W, ar, ⟨n, ms, rfl, hr, hn, hm, q⟩, kk, _⟩ := h
    obtain ⟨v, rfl, dv⟩ := one_dat ar
    obtain ⟨b, rfl, bk⟩ := book_dx dv
    refine ⟨b, n, ms, rfl, bk, hr, hn, fun h => by omega, fun _ D H' xs hD hs hl hx => ?_⟩
    have e : wordsF ms = sortD (((spanF ms).map fun m => intsN (lotN m)).map pyI) := by
      unfold wordsF
      rw [List.map_map, List.map_map]
      congr 1
      exact List.map_congr_left fun m _ => lotD_py _
    obtain ⟨ls, e2, hp, hs'⟩ := sortD_ints ((spanF ms).map fun m => intsN (lotN m))
    rw [e, e2] at hx
    have w1 := W.frm (W.same hs)
    refine kk _ _ H' (q ls hp hs') (W.same hs) (.lst ⟨W.nb hD, hl⟩ ?_)
    have key : ∀ {vs : List V} {ls : List (List Int)}, DvA H' vs (ls.map pyI) → DxA ad (Fz B H') vs (ls.map tupI) := by
      intro vs ls
      induction ls generalizing vs with
      | nil => intro h; cases h; exact .nil
      | cons l ls ih =>
        intro h
        cases h with
        | cons a r =>
          refine .cons ?_ (ih r)
          cases a with
          | tup e a =>
            refine .tup ⟨w1.nt e, e⟩ ?_
            have key2 : ∀ {l : List Int} {vs : List V}, DvA H' vs (l.map PyData.int) → DxA ad (Fz B H') vs (l.map DL.D.int) := by
              intro l
              induction l with
              | nil => intro vs h; cases h; exact .nil
              | cons i l ih =>
                intro vs h
                cases h with
                | cons a r => cases a; exact .cons (.int _) (ih r)
            exact key2 a
    exact key hx
theorem cv_Book_holds {CL : Addr} (D : MethOk P w K mg base (L2.CX P w) k (ad "Book") "holds" ["self", "word"] (spHoldsB (ad "Book") CL)) : MetX P w K mg base ad k "Book" "holds" ["self", "word"] d_Book_holds :=
  MethOk.imp D fun vs H Q E h => by
    obtain ⟨B, s, as, Qd, Xd, W, ar, ⟨n, ms, l, rfl, hn, hl, q⟩, kk, _⟩ := h
    obtain ⟨v, u, rfl, dv, du⟩ := two_dat ar
    obtain ⟨b, rfl, bk⟩ := book_dx dv
    refine ⟨b, n, ms, u, lotD l, rfl, bk, hn, du.dv (pyR_lot l), fun h => ?_, fun l' e hl' => ?_⟩
    · rw [isLotD_of hl] at h; cases h
    · cases lotD_inj e
      exact kk _ _ H q W.refl (.bl _)
theorem cv_Book_word_of {CL : Addr} (D : MethOk P w K mg base (L2.CX P w) k (ad "Book") "word_of" ["self", "numbers"] (spWordOf (ad "Book") CL)) : MetX P w K mg base ad k "Book" "word_of" ["self", "numbers"] d_Book_word_of :=
  MethOk.imp D fun vs H Q E h => by
    obtain ⟨B, s, as, Qd, Xd, W, ar, ⟨n, ms, l, rfl, hr, hn, hl, q⟩, kk, _⟩ := h
    obtain ⟨v, u, rfl, dv, du⟩ := two_dat ar
    obtain ⟨b, rfl, bk⟩ := book_dx dv
    refine ⟨b, n, ms, u, lotD l, rfl, bk, hr, hn, du.dv (pyR_lot l), fun h => ?_, fun l' e hl' p H' hp hs hq => ?_⟩
    · rw [isLotD_of hl] at h; cases h
    · cases lotD_inj e
      exact kk _ _ H' q (W.same hs) (.tup ⟨W.nb hp, hq⟩ (dx_nats _))
theorem DefOk.wide {x : Str} {ps : List Str} {sp : Sp} (D : DefOk P w K mg base CX0 k x ps sp) : DefOk P w K mg base (L2.CX P w) k x ps sp := by
  obtain ⟨f, fd, F, r⟩ := D.ex
  exact ⟨f, fd, FnOk.wide F, r⟩
theorem DefOk.imp {CX : CXT} {x : Str} {ps : List Str} {sp sp' : Sp} (D : DefOk P w K mg base CX k x ps sp) (h : ∀ vs H Q E, sp' vs H Q E → sp vs H Q E) : DefOk P w K mg base CX k x ps sp' := by
  obtain ⟨f, fd, F, r⟩ := D.ex
  exact ⟨f, fd, F.imp h, r⟩
theorem MakeOk.imp {CX : CXT} {C : Addr} {x : Str} {ps : List Str} {sp sp' : Sp} (D : MakeOk P w K mg base CX k C x ps sp) (h : ∀ vs H Q E, sp' vs H Q E → sp vs H Q E) : MakeOk P w K mg base CX k C x ps sp' := by
  obtain ⟨f, fd, F, r⟩ := D.ex
  exact ⟨D.g, f, fd, F.imp h, r⟩
theorem frm_keeps {B : Addr → Prop} {l a : Addr} {H H' : Hp} (h : Keeps l a H H') : Frm (some (l, a)) H H' := ⟨fun b o n e => h.same b o (n l a rfl) e, fun l' a' e => by cases e; exact h.src⟩
theorem cv_law_draw (D : DefOk P w K mg base CX0 k "_law_draw" ["_law_source_here", "_law_many"] spDraw) : DefX P w K mg base ad k "_law_draw" ["_law_source_here", "_law_many"] d_law_draw :=
  DefOk.imp (DefOk.wide D) fun vs H Q E h => by
    obtain ⟨B, s, as, Qd, Xd, W, ar, ⟨m, rfl, m0, m1, q⟩, kk, _⟩ := h
    cases ar with
    | cons a1 r1 => cases r1 with
      | cons a2 r2 =>
        cases r2
        obtain ⟨l, b, e1, e2⟩ := a1
        subst e1 e2
        cases a2
        refine ⟨l, b, m, rfl, m0, m1, (W.sr l b rfl).1, fun v H' v0 v1 hk => kk _ _ H' (q v v0 v1) (frm_keeps (B := B) hk) (.int v)⟩
theorem cv_Book {CS CL : Addr} (D : MakeOk P w K mg base (L2.CX P w) k (ad "Book") "Book" ["self", "size", "rows"] (spBookInit K (ad "Book") CS CL)) : MakX P w K mg base ad k "Book" ["self", "size", "rows"] d_Book :=
  MakeOk.imp D fun vs H Q E h => by
    obtain ⟨x, dx, us, H1, B, s, as, Qd, Xd, rfl, rfl, hx, hdx, ne, W, ar, ⟨n, ls, rfl, n1, n24, hl, hls, q⟩, kk, _⟩ := h
    obtain ⟨v, u, rfl, dv, du⟩ := two_dat ar
    cases dv
    have old : Same H1 (L2.del (upd (upd H1 dx (.own x)) x (.ins (ad "Book") dx [])) x) := fun b o e => by
      have b1 : b ≠ x := fun z => by rw [z, hx] at e; cases e
      have b2 : b ≠ dx := fun z => by rw [z, hdx] at e; cases e
      unfold L2.del
      rw [if_neg b1, upd_ne b1, upd_ne b2]; exact e
    refine ⟨x, dx, .int (n : Int), .int (n : Int), u, .list (ls.map lotD), rfl, upd_same, .int _, Dv.mono old _ _ (du.dv (pyR_lots ls)), fun n' e h1 h2 => ?_, fun h => ?_⟩
    · cases Int.ofNat.inj (PyData.int.inj e)
      refine ⟨fun ls' e2 _ _ H' hs bk => ?_, fun h => ?_, fun ds e3 h3 j e4 hj hb _ => ?_⟩
      · have el : ls' = ls := by
          injection e2 with e2
          exact ((List.map_inj_right fun x y h => lotD_inj h).mp e2).symm
        subst el
        refine kk _ H' q (W.same (old.trans hs)) (dx_book (W.frm (W.same (old.trans hs))) (W.nb hx) bk)
      · have := h _ rfl
        rw [List.length_map] at this
        omega
      · injection e3 with e3
        subst e3
        have hm := List.mem_of_getElem? hj
        obtain ⟨l, hl', rfl⟩ := List.mem_map.mp hm
        rw [isLotD_of (hls l hl')] at hb
        cases hb
    · unfold bsizeD at h
      dsimp only at h
      rw [decide_eq_true (by omega), decide_eq_true (by omega)] at h
      cases h
end
end DL

set_option Elab.async false
set_option linter.all false
set_option maxRecDepth 100000
set_option maxHeartbeats 4000000
set_option exponentiation.threshold 2000
namespace DL
open PySem PySem.Spec PyProof.Rows L2 BT
/-! ### sums of rows -/
/-- all sums of the rows -/
def closeF (rs : List Nat) : List Nat := rs.foldl (fun ws r => if r ∈ ws then ws else ws ++ ws.map (· ^^^ r)) [0]
def leadsF (ws : List Nat) : Nat := ws.foldl (fun a w => a ||| lowN w) 0
def redF (ws : List Nat) : List Nat := (List.range (Builtin.Int.intBits (leadsF ws))).flatMap fun p => ws.filter fun w => decide (w &&& leadsF ws = 2 ^ p)
theorem closeF_snoc (rs : List Nat) (r : Nat) : closeF (rs ++ [r]) = if r ∈ closeF rs then closeF rs else closeF rs ++ (closeF rs).map (· ^^^ r) := by
  unfold closeF; rw [List.foldl_append]; rfl
theorem closeF_lt {n : Nat} {rs : List Nat} (h : ∀ r ∈ rs, r < 2 ^ n) : ∀ w ∈ closeF rs, w < 2 ^ n := by
  have key : ∀ (rs ws : List Nat), (∀ r ∈ rs, r < 2 ^ n) → (∀ w ∈ ws, w < 2 ^ n) → ∀ w ∈ rs.foldl (fun ws r => if r ∈ ws then ws else ws ++ ws.map (· ^^^ r)) ws, w < 2 ^ n := by
    intro rs
    induction rs with
    | nil => intro ws _ h; exact h
    | cons r rs ih =>
      intro ws hr hw
      rw [List.foldl_cons]
      refine ih _ (fun z hz => hr z (List.mem_cons_of_mem _ hz)) ?_
      split
      · exact hw
      · intro z hz
        rcases List.mem_append.mp hz with hz | hz
        · exact hw z hz
        · obtain ⟨y, hy, rfl⟩ := List.mem_map.mp hz
          exact Nat.xor_lt_two_pow (hw y hy) (hr r (List.mem_cons_self ..))
  exact key rs [0] h fun w hw => by rw [List.mem_singleton.mp hw]; exact Nat.two_pow_pos _
theorem closeF_nodup (rs : List Nat) : (closeF rs).Nodup ∧ 0 ∈ closeF rs ∧ ∀ a b, a ∈ closeF rs → b ∈ closeF rs → a ^^^ b ∈ closeF rs := by
  have key : ∀ (rs ws : List Nat), (ws.Nodup ∧ 0 ∈ ws ∧ ∀ a b, a ∈ ws → b ∈ ws → a ^^^ b ∈ ws) → let f := rs.foldl (fun ws r => if r ∈ ws then ws else ws ++ ws.map (· ^^^ r)) ws
      f.Nodup ∧ 0 ∈ f ∧ ∀ a b, a ∈ f → b ∈ f → a ^^^ b ∈ f := by
    intro rs
    induction rs with
    | nil => intro ws h; exact h
    | cons r rs ih =>
      intro ws ⟨h1, h2, h3⟩
      rw [List.foldl_cons]
      refine ih _ ?_
      split
      · exact ⟨h1, h2, h3⟩
      · rename_i hr
        have xx : ∀ a b : Nat, a ^^^ b ^^^ b = a := fun a b => by rw [Nat.xor_assoc, Nat.xor_self, Nat.xor_zero]
        refine ⟨List.nodup_append.mpr ⟨h1, ?_, fun a ha b hb e => ?_⟩, List.mem_append_left _ h2, fun a b ha hb => ?_⟩
        · rw [List.nodup_iff_pairwise_ne, List.pairwise_map]
          exact (List.nodup_iff_pairwise_ne.mp h1).imp fun hab e => hab (by
            have z := congrArg (fun t => t ^^^ r) e
            rwa [xx, xx] at z)
        · obtain ⟨y, hy, rfl⟩ := List.mem_map.mp hb
          subst e
          refine hr ?_
          have z := h3 _ _ ha hy
          rw [Nat.xor_comm, ← Nat.xor_assoc, Nat.xor_self, Nat.zero_xor] at z
          exact z
        · rcases List.mem_append.mp ha with ha | ha <;> rcases List.mem_append.mp hb with hb | hb
          · exact List.mem_append_left _ (h3 a b ha hb)
          · obtain ⟨y, hy, rfl⟩ := List.mem_map.mp hb
            exact List.mem_append_right _ (List.mem_map.mpr ⟨a ^^^ y, h3 _ _ ha hy, by rw [Nat.xor_assoc]⟩)
          · obtain ⟨y, hy, rfl⟩ := List.mem_map.mp ha
            exact List.mem_append_right _ (List.mem_map.mpr ⟨y ^^^ b, h3 _ _ hy hb, by rw [Nat.xor_assoc, Nat.xor_assoc, Nat.xor_comm b r]⟩)
          · obtain ⟨y, hy, rfl⟩ := List.mem_map.mp ha
            obtain ⟨z, hz, rfl⟩ := List.mem_map.mp hb
            refine List.mem_append_left _ ?_
            have e : y ^^^ r ^^^ (z ^^^ r) = y ^^^ z := by rw [Nat.xor_comm z r, ← Nat.xor_assoc, xx]
            rw [e]
            exact h3 _ _ hy hz
  exact key rs [0] ⟨by simp, by simp, fun a b ha hb => by rw [List.mem_singleton.mp ha, List.mem_singleton.mp hb]; simp⟩
theorem nodup_len2 {n : Nat} {ws : List Nat} (hd : ws.Nodup) (h : ∀ w ∈ ws, w < 2 ^ n) : ws.length ≤ 2 ^ n := nodup_len _ ws hd h
theorem low_le (m : Nat) : lowN m ≤ m := by
  rcases Nat.eq_zero_or_pos m with h | h
  · subst h; exact Nat.le_refl _
  · obtain ⟨k, e, t, _⟩ := low_spec m (by omega)
    rw [e]
    exact Nat.ge_two_pow_of_testBit t
theorem leadsF_snoc (ws : List Nat) (w : Nat) : leadsF (ws ++ [w]) = leadsF ws ||| lowN w := by
  unfold leadsF; rw [List.foldl_append]; rfl
theorem leadsF_lt {n : Nat} {ws : List Nat} (h : ∀ w ∈ ws, w < 2 ^ n) : leadsF ws < 2 ^ n := by
  have key : ∀ (ws : List Nat) (a : Nat), a < 2 ^ n → (∀ w ∈ ws, w < 2 ^ n) → ws.foldl (fun a w => a ||| lowN w) a < 2 ^ n := by
    intro ws
    induction ws with
    | nil => intro a ha _; exact ha
    | cons w ws ih => intro a ha hw; exact ih _ (Nat.or_lt_two_pow ha (Nat.lt_of_le_of_lt (low_le w) (hw w (List.mem_cons_self ..)))) fun x hx => hw x (List.mem_cons_of_mem _ hx)
  exact key ws 0 (Nat.two_pow_pos n) h
def flatN (ws : List Nat) (L p : Nat) : List Nat := (List.range p).flatMap fun k => ws.filter fun w => decide (w &&& L = 2 ^ k)
theorem flatN_succ (ws : List Nat) (L p : Nat) : flatN ws L (p + 1) = flatN ws L p ++ ws.filter fun w => decide (w &&& L = 2 ^ p) := by
  unfold flatN; rw [List.range_succ, List.flatMap_append]; simp
theorem flatN_len (ws : List Nat) (L : Nat) : ∀ p, (flatN ws L p).length ≤ p * ws.length := by
  intro p
  induction p with
  | zero => exact Nat.zero_le _
  | succ p ih =>
    rw [flatN_succ, List.length_append, Nat.succ_mul]
    exact Nat.add_le_add ih (List.length_filter_le ..)
theorem closeF_min {S : Nat → Prop} (h0 : S 0) (hx : ∀ a b, S a → S b → S (a ^^^ b)) : ∀ (rs ws : List Nat), (∀ r ∈ rs, S r) → (∀ w ∈ ws, S w) → ∀ w ∈ rs.foldl (fun ws r => if r ∈ ws then ws else ws ++ ws.map (· ^^^ r)) ws, S w := by
  intro rs
  induction rs with
  | nil => intro ws _ hw; exact hw
  | cons r rs ih =>
    intro ws hr hw
    refine ih _ (fun x h => hr x (List.mem_cons_of_mem _ h)) ?_
    intro w hm
    dsimp only at hm
    split at hm
    · exact hw w hm
    · rcases List.mem_append.mp hm with h | h
      · exact hw w h
      · obtain ⟨z, hz, rfl⟩ := List.mem_map.mp h
        exact hx _ _ (hw z hz) (hr r (List.mem_cons_self ..))
theorem closeF_mono : ∀ (rs ws : List Nat), ∀ w ∈ ws, w ∈ rs.foldl (fun ws r => if r ∈ ws then ws else ws ++ ws.map (· ^^^ r)) ws := by
  intro rs
  induction rs with
  | nil => intro ws w h; exact h
  | cons r rs ih =>
    intro ws w h
    refine ih _ w ?_
    dsimp only
    split
    · exact h
    · exact List.mem_append_left _ h
theorem closeF_mem {rs : List Nat} : ∀ r ∈ rs, r ∈ closeF rs := by
  have key : ∀ (rs ws : List Nat), 0 ∈ ws → ∀ r ∈ rs, r ∈ rs.foldl (fun ws r => if r ∈ ws then ws else ws ++ ws.map (· ^^^ r)) ws := by
    intro rs
    induction rs with
    | nil => intro ws _ r h; cases h
    | cons a rs ih =>
      intro ws h0 r h
      rcases List.mem_cons.mp h with rfl | h
      · refine closeF_mono rs _ r ?_
        dsimp only
        split
        · assumption
        · exact List.mem_append_right _ (List.mem_map.mpr ⟨0, h0, Nat.zero_xor _⟩)
      · refine ih _ ?_ r h
        dsimp only
        split
        · exact h0
        · exact List.mem_append_left _ h0
  exact key rs [0] (List.mem_singleton.mpr rfl)
theorem closeF_into {rs ts : List Nat} (h : ∀ t ∈ ts, t ∈ closeF rs) : ∀ w ∈ closeF ts, w ∈ closeF rs :=
  closeF_min (S := fun w => w ∈ closeF rs) (closeF_nodup rs).2.1 (closeF_nodup rs).2.2 ts [0] h fun w hw => by
    rw [List.mem_singleton.mp hw]; exact (closeF_nodup rs).2.1
theorem closeF_same {rs ts : List Nat} (h1 : ∀ t ∈ ts, t ∈ closeF rs) (h2 : ∀ r ∈ rs, r ∈ closeF ts) (w : Nat) : w ∈ closeF ts ↔ w ∈ closeF rs := ⟨closeF_into h1 w, closeF_into h2 w⟩
theorem redF_mem {ws : List Nat} : ∀ w ∈ redF ws, w ∈ ws := by
  intro w h
  unfold redF at h
  obtain ⟨k, _, h⟩ := List.mem_flatMap.mp h
  exact (List.mem_filter.mp h).1
theorem leadsF_low : ∀ (ws : List Nat) (a k : Nat), (a.testBit k = true ∨ ∃ w ∈ ws, (lowN w).testBit k = true) ↔ (ws.foldl (fun a w => a ||| lowN w) a).testBit k = true := by
  intro ws
  induction ws with
  | nil => intro a k; exact ⟨fun h => h.elim id (fun ⟨_, h, _⟩ => by cases h), fun h => .inl h⟩
  | cons w ws ih =>
    intro a k
    rw [List.foldl_cons, ← ih, Nat.testBit_or, Bool.or_eq_true]
    constructor
    · rintro (h | ⟨x, hx, h⟩)
      · exact .inl (.inl h)
      · rcases List.mem_cons.mp hx with rfl | hx
        · exact .inl (.inr h)
        · exact .inr ⟨x, hx, h⟩
    · rintro ((h | h) | ⟨x, hx, h⟩)
      · exact .inl h
      · exact .inr ⟨w, List.mem_cons_self .., h⟩
      · exact .inr ⟨x, List.mem_cons_of_mem _ hx, h⟩
/-- a word is told by its bits at the leads -/
theorem word_at_leads {ws : List Nat} (hx : ∀ a b, a ∈ ws → b ∈ ws → a ^^^ b ∈ ws) {a b : Nat} (ha : a ∈ ws) (hb : b ∈ ws) (e : a &&& leadsF ws = b &&& leadsF ws) : a = b := by
  refine Classical.byContradiction fun q => ?_
  have hc := hx a b ha hb
  have hne : a ^^^ b ≠ 0 := fun h => q (by
    have h2 : (a ^^^ b) ^^^ b = b := by rw [h, Nat.zero_xor]
    rwa [Nat.xor_assoc, Nat.xor_self, Nat.xor_zero] at h2)
  obtain ⟨k, e1, t, _⟩ := low_spec _ hne
  have hL : (leadsF ws).testBit k = true := (leadsF_low ws 0 k).mp (.inr ⟨_, hc, by rw [e1, Nat.testBit_two_pow_self]⟩)
  have e2 := congrArg (fun z => z.testBit k) e
  simp only [Nat.testBit_and, hL, Bool.and_true] at e2
  rw [Nat.testBit_xor, e2] at t
  simp at t
theorem nodup_alike {α : Type} {l : List α} (nd : l.Nodup) (h : ∀ a ∈ l, ∀ b ∈ l, a = b) : l.length ≤ 1 := by
  match l, nd, h with
  | [], _, _ => exact Nat.zero_le _
  | [_], _, _ => exact Nat.le_refl _
  | a :: b :: r, nd, h =>
    have := h a (by simp) b (by simp)
    subst this
    exact absurd (List.mem_cons_self ..) (List.nodup_cons.mp nd).1
theorem redF_len {n : Nat} {ws : List Nat} (nd : ws.Nodup) (hx : ∀ a b, a ∈ ws → b ∈ ws → a ^^^ b ∈ ws) (lt : ∀ w ∈ ws, w < 2 ^ n) : (redF ws).length ≤ n := by
  have key : ∀ p, (flatN ws (leadsF ws) p).length ≤ p := by
    intro p
    induction p with
    | zero => exact Nat.le_refl _
    | succ p ih =>
      rw [flatN_succ, List.length_append]
      refine Nat.add_le_add ih (nodup_alike (nd.sublist (List.filter_sublist ..)) ?_)
      intro a ha b hb
      obtain ⟨ha, ea⟩ := List.mem_filter.mp ha
      obtain ⟨hb, eb⟩ := List.mem_filter.mp hb
      exact word_at_leads hx ha hb ((of_decide_eq_true ea).trans (of_decide_eq_true eb).symm)
  refine Nat.le_trans (key _) ?_
  rw [intBits_nat]
  exact bitsN_le (leadsF_lt lt)
/-- each row with the next -/
theorem chain_same {rs ts : List Nat} (hl : ts.length = rs.length) (h1 : ∀ j x y, j + 1 < rs.length → rs[j]? = some x → rs[j + 1]? = some y → ts[j]? = some (x ^^^ y)) (h2 : ∀ j, j + 1 = rs.length → ts[j]? = rs[j]?) (w : Nat) : w ∈ closeF ts ↔ w ∈ closeF rs := by
  have cl := (closeF_nodup rs).2.2
  have ct := (closeF_nodup ts).2.2
  refine closeF_same ?_ ?_ w
  · intro t ht
    obtain ⟨j, hj, rfl⟩ := List.mem_iff_getElem.mp ht
    have g : ts[j]? = some ts[j] := List.getElem?_eq_getElem hj
    by_cases q : j + 1 < rs.length
    · have g1 : rs[j]? = some (rs[j]'(by omega)) := List.getElem?_eq_getElem _
      have g2 : rs[j + 1]? = some (rs[j + 1]'q) := List.getElem?_eq_getElem _
      have := h1 j _ _ q g1 g2
      rw [g] at this
      rw [Option.some.inj this]
      exact cl _ _ (closeF_mem _ (List.getElem_mem _)) (closeF_mem _ (List.getElem_mem _))
    · have := h2 j (by omega)
      rw [g] at this
      exact closeF_mem _ (List.mem_of_getElem? this.symm)
  · have key : ∀ m j, j + m + 1 = rs.length → ∀ x, rs[j]? = some x → x ∈ closeF ts := by
      intro m
      induction m with
      | zero =>
        intro j hj x hx
        have := h2 j hj
        rw [hx] at this
        exact closeF_mem _ (List.mem_of_getElem? this)
      | succ m ih =>
        intro j hj x hx
        have g2 : rs[j + 1]? = some (rs[j + 1]'(by omega)) := List.getElem?_eq_getElem _
        have a := ih (j + 1) (by omega) _ g2
        have b := closeF_mem _ (List.mem_of_getElem? (h1 j _ _ (by omega) hx g2))
        have c := ct _ _ b a
        rwa [Nat.xor_assoc, Nat.xor_self, Nat.xor_zero] at c
    intro r hr
    obtain ⟨j, hj, rfl⟩ := List.mem_iff_getElem.mp hr
    exact key (rs.length - 1 - j) j (by omega) _ (List.getElem?_eq_getElem hj)
end DL

set_option Elab.async false
set_option linter.all false
set_option maxRecDepth 100000
set_option maxHeartbeats 4000000
set_option exponentiation.threshold 2000
namespace DL
open PySem PySem.Spec PyProof.Rows L2 BT
/-! ### the sums of rows and of their reduction -/
theorem snoc_ind {α : Type} {P : List α → Prop} (h0 : P []) (hs : ∀ l x, P l → P (l ++ [x])) : ∀ l, P l := by
  have key : ∀ l : List α, P l.reverse := by
    intro l
    induction l with
    | nil => exact h0
    | cons x l ih => rw [List.reverse_cons]; exact hs _ _ ih
  intro l
  have := key l.reverse
  rwa [List.reverse_reverse] at this
theorem xx (a b : Nat) : a ^^^ b ^^^ b = a := by rw [Nat.xor_assoc, Nat.xor_self, Nat.xor_zero]
theorem close_zero (rs : List Nat) : 0 ∈ closeF rs := (closeF_nodup rs).2.1
theorem close_xor {rs : List Nat} {a b : Nat} (ha : a ∈ closeF rs) (hb : b ∈ closeF rs) : a ^^^ b ∈ closeF rs := (closeF_nodup rs).2.2 a b ha hb
theorem close_ind {rs : List Nat} {S : Nat → Prop} (h0 : S 0) (hx : ∀ a b, S a → S b → S (a ^^^ b)) (h : ∀ r ∈ rs, S r) : ∀ w ∈ closeF rs, S w :=
  closeF_min h0 hx rs [0] h fun w hw => by rw [List.mem_singleton.mp hw]; exact h0
theorem close_app {rs : List Nat} (ts : List Nat) : ∀ w ∈ closeF rs, w ∈ closeF (rs ++ ts) := closeF_into fun t ht => closeF_mem _ (List.mem_append_left _ ht)
/-- the program's span -/
theorem span_mem (ms : List Nat) : ∀ w, w ∈ spanF ms ↔ w ∈ closeF ms := by
  refine snoc_ind (P := fun ms => ∀ w, w ∈ spanF ms ↔ w ∈ closeF ms) (fun w => Iff.rfl) (fun ms m ih w => ?_) ms
  rw [spanF_snoc, List.mem_append]
  constructor
  · rintro (h | h)
    · exact close_app _ _ ((ih w).mp h)
    · obtain ⟨z, hz, rfl⟩ := List.mem_map.mp h
      exact close_xor (closeF_mem _ (List.mem_append_right _ (List.mem_singleton.mpr rfl))) (close_app _ _ ((ih z).mp hz))
  · rw [closeF_snoc]
    intro h
    split at h
    · exact .inl ((ih w).mpr h)
    · rcases List.mem_append.mp h with h | h
      · exact .inl ((ih w).mpr h)
      · obtain ⟨z, hz, rfl⟩ := List.mem_map.mp h
        exact .inr (List.mem_map.mpr ⟨z, (ih z).mpr hz, Nat.xor_comm _ _⟩)
theorem cleared_span (part : Int) (rows : List Nat) (m : Nat) : m ^^^ clearedF part m rows ∈ closeF rows := by
  refine snoc_ind (P := fun rows => m ^^^ clearedF part m rows ∈ closeF rows) ?_ (fun rows r ih => ?_) rows
  · show m ^^^ m ∈ closeF []
    rw [Nat.xor_self]; exact close_zero _
  · rw [clearedF_snoc]
    unfold clearStep
    split
    · rw [← Nat.xor_assoc]
      exact close_xor (close_app _ _ ih) (closeF_mem _ (List.mem_append_right _ (List.mem_singleton.mpr rfl)))
    · exact close_app _ _ ih
theorem sweep_close (ms : List Nat) : ∀ w, w ∈ closeF (sweepF (-1) ms).1 ↔ w ∈ closeF ms := by
  refine snoc_ind (P := fun ms => ∀ w, w ∈ closeF (sweepF (-1) ms).1 ↔ w ∈ closeF ms) (fun w => Iff.rfl) (fun ms m ih => ?_) ms
  rw [sweepF_snoc]
  have hc := cleared_span (-1) (sweepF (-1) ms).1 m
  have hc2 := (ih _).mp hc
  unfold sweepStep
  generalize hr : clearedF (-1) m (sweepF (-1) ms).1 = rest at hc hc2
  have memM : m ∈ closeF (ms ++ [m]) := closeF_mem _ (List.mem_append_right _ (List.mem_singleton.mpr rfl))
  have memR : rest ∈ closeF (ms ++ [m]) := by
    have := close_xor memM (close_app [m] _ hc2)
    rwa [← Nat.xor_assoc, Nat.xor_self, Nat.zero_xor] at this
  have old : ∀ r ∈ (sweepF (-1) ms).1, r ∈ closeF (ms ++ [m]) := fun r h => close_app _ _ ((ih r).mp (closeF_mem _ h))
  split
  · intro w
    dsimp only
    refine closeF_same ?_ ?_ w
    · intro t ht
      rcases List.mem_append.mp ht with h | h
      · obtain ⟨r, h1, rfl⟩ := List.mem_map.mp h
        split
        · exact close_xor (old r h1) memR
        · exact old r h1
      · rw [List.mem_singleton.mp h]; exact memR
    · have hrest : rest ∈ closeF ((sweepF (-1) ms).1.map (fun row => if row &&& lowN (andN rest (-1)) ≠ 0 then row ^^^ rest else row) ++ [rest]) := closeF_mem _ (List.mem_append_right _ (List.mem_singleton.mpr rfl))
      have back : ∀ r ∈ (sweepF (-1) ms).1, r ∈ closeF ((sweepF (-1) ms).1.map (fun row => if row &&& lowN (andN rest (-1)) ≠ 0 then row ^^^ rest else row) ++ [rest]) := fun r h => by
        have q := closeF_mem (rs := (sweepF (-1) ms).1.map (fun row => if row &&& lowN (andN rest (-1)) ≠ 0 then row ^^^ rest else row) ++ [rest]) _ (List.mem_append_left _ (List.mem_map.mpr ⟨r, h, rfl⟩))
        try dsimp only at q
        split at q
        · have z := close_xor q hrest
          rwa [xx] at z
        · exact q
      have all : ∀ w ∈ closeF (sweepF (-1) ms).1, w ∈ closeF ((sweepF (-1) ms).1.map (fun row => if row &&& lowN (andN rest (-1)) ≠ 0 then row ^^^ rest else row) ++ [rest]) := closeF_into back
      intro t ht
      rcases List.mem_append.mp ht with h | h
      · exact all _ ((ih t).mpr (closeF_mem _ h))
      · rw [List.mem_singleton.mp h]
        have z := close_xor (all _ hc) hrest
        rwa [xx] at z
  · rename_i c
    have r0 : rest = 0 := by
      rw [andN_neg1] at c
      exact Classical.byContradiction fun q => c (low_ne q)
    rw [r0, Nat.xor_zero] at hc2
    intro w
    dsimp only
    exact (ih w).trans (closeF_same (rs := ms ++ [m]) (ts := ms) (fun t ht => close_app _ _ (closeF_mem _ ht)) (fun r hr => by
      rcases List.mem_append.mp hr with h | h
      · exact closeF_mem _ h
      · rw [List.mem_singleton.mp h]; exact hc2) w)
theorem perm_close {a b : List Nat} (p : a.Perm b) (w : Nat) : w ∈ closeF a ↔ w ∈ closeF b := closeF_same (fun t ht => closeF_mem _ (p.mem_iff.mp ht)) (fun r hr => closeF_mem _ (p.mem_iff.mpr hr)) w
theorem reduce_close (ms : List Nat) (w : Nat) : w ∈ closeF (reduceF ms) ↔ w ∈ closeF ms := (perm_close (sortLow_perm _) w).trans (sweep_close ms w)
/-! ### rows whose lowest places stand alone -/
def keyN (r : Nat) : Nat := Nat.log2 (lowN r)
theorem key_of {r k : Nat} (h : lowN r = 2 ^ k) : keyN r = k := by unfold keyN; rw [h, Nat.log2_two_pow]
structure AS (ms : List Nat) : Prop where
  nd : ms.Nodup
  low : ∀ r ∈ ms, lowN r = 2 ^ keyN r
  one : ∀ r ∈ ms, ∀ s ∈ ms, (s.testBit (keyN r) = true ↔ s = r)
theorem alone_as {ms : List Nat} (A : Alone (-1) ms) : AS ms := by
  obtain ⟨ks, hl, h⟩ := A
  have get : ∀ {i : Nat} (hi : i < ms.length), lowN ms[i] = 2 ^ keyN ms[i] ∧ ∀ (j : Nat) (s : Nat), ms[j]? = some s → (s.testBit (keyN ms[i]) = true ↔ j = i) := fun {i} hi => by
    obtain ⟨a, b⟩ := h i _ ks[i] (List.getElem?_eq_getElem hi) (List.getElem?_eq_getElem (by omega))
    rw [andN_neg1] at a
    rw [key_of a]
    exact ⟨a, b⟩
  refine ⟨?_, ?_, ?_⟩
  · refine List.nodup_iff_pairwise_ne.mpr (List.pairwise_iff_getElem.mpr fun i j hi hj hij e => ?_)
    have q := (get hi).2 j _ (List.getElem?_eq_getElem hj)
    rw [← e] at q
    have := q.mp (((get hi).2 i _ (List.getElem?_eq_getElem hi)).mpr rfl)
    omega
  · intro r hr
    obtain ⟨i, hi, rfl⟩ := List.getElem_of_mem hr
    exact (get hi).1
  · intro r hr s hs
    obtain ⟨i, hi, rfl⟩ := List.getElem_of_mem hr
    obtain ⟨j, hj, rfl⟩ := List.getElem_of_mem hs
    have q := (get hi).2
    constructor
    · intro z
      have := (q j _ (List.getElem?_eq_getElem hj)).mp z
      subst this; rfl
    · intro e
      rw [e]
      exact (q i _ (List.getElem?_eq_getElem hi)).mpr rfl
theorem AS.init {ms : List Nat} {m : Nat} (h : AS (ms ++ [m])) : AS ms := ⟨(List.nodup_append.mp h.nd).1, fun r hr => h.low r (List.mem_append_left _ hr), fun r hr s hs => h.one r (List.mem_append_left _ hr) s (List.mem_append_left _ hs)⟩
theorem AS.last {ms : List Nat} {m : Nat} (h : AS (ms ++ [m])) : m.testBit (keyN m) = true ∧ ∀ z ∈ closeF ms, z.testBit (keyN m) = false := by
  have hm : m ∈ ms ++ [m] := List.mem_append_right _ (List.mem_singleton.mpr rfl)
  refine ⟨(h.one m hm m hm).mpr rfl, close_ind (S := fun z => z.testBit (keyN m) = false) (Nat.zero_testBit _) (fun a b ha hb => by rw [Nat.testBit_xor, ha, hb]; rfl) fun r hr => ?_⟩
  cases q : r.testBit (keyN m) with
  | false => rfl
  | true =>
    have e := (h.one m hm r (List.mem_append_left _ hr)).mp q
    exact absurd e ((List.nodup_append.mp h.nd).2.2 r hr m (List.mem_singleton.mpr rfl))
/-- a sum of rows and one more: with the last row or without -/
theorem close_snoc {ms : List Nat} {m w : Nat} (h : w ∈ closeF (ms ++ [m])) : w ∈ closeF ms ∨ ∃ z ∈ closeF ms, w = m ^^^ z := by
  rw [← span_mem, spanF_snoc] at h
  rcases List.mem_append.mp h with h | h
  · exact .inl ((span_mem ms w).mp h)
  · obtain ⟨z, hz, rfl⟩ := List.mem_map.mp h
    exact .inr ⟨z, (span_mem ms z).mp hz, rfl⟩
theorem as_zero {ms : List Nat} : AS ms → ∀ w ∈ closeF ms, (∀ r ∈ ms, w.testBit (keyN r) = false) → w = 0 := by
  refine snoc_ind (P := fun ms => AS ms → ∀ w ∈ closeF ms, (∀ r ∈ ms, w.testBit (keyN r) = false) → w = 0) ?_ (fun ms m ih A w hw hb => ?_) ms
  · intro _ w hw _
    have : closeF [] = [0] := rfl
    rw [this] at hw
    exact List.mem_singleton.mp hw
  · rcases close_snoc hw with h | ⟨z, hz, rfl⟩
    · exact ih A.init w h fun r hr => hb r (List.mem_append_left _ hr)
    · have q := hb m (List.mem_append_right _ (List.mem_singleton.mpr rfl))
      rw [Nat.testBit_xor, A.last.1, A.last.2 z hz] at q
      cases q
theorem low_uniq {m k : Nat} (h : m.testBit k = true) (hb : ∀ j, j < k → m.testBit j = false) : lowN m = 2 ^ k := by
  have ne : m ≠ 0 := fun e => by rw [e, Nat.zero_testBit] at h; cases h
  obtain ⟨i, e, t, b⟩ := low_spec m ne
  rcases Nat.lt_trichotomy i k with q | q | q
  · rw [hb i q] at t; cases t
  · rw [e, q]
  · rw [b k q] at h; cases h
theorem low_xor {a b i j : Nat} (ha : lowN a = 2 ^ i) (hb : lowN b = 2 ^ j) (hij : i < j) : lowN (a ^^^ b) = 2 ^ i := by
  have na : a ≠ 0 := fun e => by rw [e] at ha; have := Nat.two_pow_pos i; rw [← ha] at this; exact absurd this (by decide)
  have nb : b ≠ 0 := fun e => by rw [e] at hb; have := Nat.two_pow_pos j; rw [← hb] at this; exact absurd this (by decide)
  obtain ⟨i', ea, ta, ba⟩ := low_spec a na
  obtain ⟨j', eb, tb, bb⟩ := low_spec b nb
  cases two_pow_inj (ha.symm.trans ea)
  cases two_pow_inj (hb.symm.trans eb)
  refine low_uniq (by rw [Nat.testBit_xor, ta, bb i hij]; rfl) fun l hl => by rw [Nat.testBit_xor, ba l hl, bb l (by omega)]; rfl
theorem as_low {ms : List Nat} : AS ms → ∀ w ∈ closeF ms, w ≠ 0 → ∃ r ∈ ms, lowN w = lowN r := by
  refine snoc_ind (P := fun ms => AS ms → ∀ w ∈ closeF ms, w ≠ 0 → ∃ r ∈ ms, lowN w = lowN r) ?_ (fun ms m ih A w hw hb => ?_) ms
  · intro _ w hw h
    have : closeF [] = [0] := rfl
    rw [this] at hw
    exact absurd (List.mem_singleton.mp hw) h
  · have hm : m ∈ ms ++ [m] := List.mem_append_right _ (List.mem_singleton.mpr rfl)
    rcases close_snoc hw with h | ⟨z, hz, rfl⟩
    · obtain ⟨r, hr, e⟩ := ih A.init w h hb
      exact ⟨r, List.mem_append_left _ hr, e⟩
    · by_cases z0 : z = 0
      · subst z0
        exact ⟨m, hm, by rw [Nat.xor_zero]⟩
      · obtain ⟨r, hr, e⟩ := ih A.init z hz z0
        have hr' : r ∈ ms ++ [m] := List.mem_append_left _ hr
        have l1 := A.low m hm
        have l2 := A.low r hr'
        have ne : keyN m ≠ keyN r := fun q => by
          have a := A.last.2 r (closeF_mem _ hr)
          rw [q] at a
          rw [(A.one r hr' r hr').mpr rfl] at a; cases a
        rcases Nat.lt_or_ge (keyN m) (keyN r) with q | q
        · exact ⟨m, hm, by rw [low_xor l1 (e.trans l2) q, l1]⟩
        · refine ⟨r, hr', ?_⟩
          rw [Nat.xor_comm, low_xor (e.trans l2) l1 (by omega), l2]
theorem span_nodup {ms : List Nat} : AS ms → (spanF ms).Nodup := by
  refine snoc_ind (P := fun ms => AS ms → (spanF ms).Nodup) (fun _ => by show ([0] : List Nat).Nodup; simp) (fun ms m ih A => ?_) ms
  rw [spanF_snoc]
  refine List.nodup_append.mpr ⟨ih A.init, ?_, fun a ha b hb e => ?_⟩
  · rw [List.nodup_iff_pairwise_ne, List.pairwise_map]
    refine (List.nodup_iff_pairwise_ne.mp (ih A.init)).imp fun hab e => hab ?_
    have z := congrArg (fun t => m ^^^ t) e
    try dsimp only at z
    rwa [← Nat.xor_assoc, Nat.xor_self, Nat.zero_xor, ← Nat.xor_assoc, Nat.xor_self, Nat.zero_xor] at z
  · obtain ⟨z, hz, rfl⟩ := List.mem_map.mp hb
    have q := A.last.2 a ((span_mem ms a).mp ha)
    rw [e, Nat.testBit_xor, A.last.1, A.last.2 z ((span_mem ms z).mp hz)] at q
    cases q
theorem span_perm {ms : List Nat} (A : AS ms) : (spanF ms).Perm (closeF ms) := (List.perm_ext_iff_of_nodup (span_nodup A) (closeF_nodup ms).1).mpr (span_mem ms)
theorem cleared_zero {ms : List Nat} (A : Alone (-1) ms) (w : Nat) : clearedF (-1) w ms = 0 ↔ w ∈ closeF ms := by
  constructor
  · intro h
    have := cleared_span (-1) ms w
    rwa [h, Nat.xor_zero] at this
  · intro h
    have hc : clearedF (-1) w ms ∈ closeF ms := by
      have := close_xor h (cleared_span (-1) ms w)
      rwa [← Nat.xor_assoc, Nat.xor_self, Nat.zero_xor] at this
    refine as_zero (alone_as A) _ hc fun r hr => ?_
    obtain ⟨ks, hl, hk⟩ := A
    have hb := clearedF_bits hl hk w ms.length (Nat.le_refl _)
    rw [List.take_length] at hb
    obtain ⟨i, hi, rfl⟩ := List.getElem_of_mem hr
    obtain ⟨a, _⟩ := hk i _ ks[i] (List.getElem?_eq_getElem hi) (List.getElem?_eq_getElem (by omega))
    rw [andN_neg1] at a
    rw [key_of a]
    have := hb i ks[i] (List.getElem?_eq_getElem (by omega))
    rwa [if_pos hi] at this
theorem reduce_alone (rs : List Nat) : AS (reduceF rs) := by
  have A := alone_as (sweep_alone (-1) rs)
  have p := sortLow_perm (sweepF (-1) rs).1
  exact ⟨p.symm.nodup A.nd, fun r hr => A.low r (p.mem_iff.mp hr), fun r hr s hs => A.one r (p.mem_iff.mp hr) s (p.mem_iff.mp hs)⟩
/-! ### the law's reduced rows are the book's -/
theorem lead_bits (rs : List Nat) (k : Nat) : (leadsF (closeF rs)).testBit k = true ↔ ∃ r ∈ reduceF rs, k = keyN r := by
  have A := reduce_alone rs
  rw [show leadsF (closeF rs) = (closeF rs).foldl (fun a w => a ||| lowN w) 0 from rfl, ← leadsF_low]
  constructor
  · rintro (h | ⟨w, hw, h⟩)
    · rw [Nat.zero_testBit] at h; cases h
    · have ne : w ≠ 0 := fun e => by rw [e] at h; rw [show lowN 0 = 0 from rfl, Nat.zero_testBit] at h; cases h
      obtain ⟨r, hr, e⟩ := as_low A w ((reduce_close rs w).mpr hw) ne
      rw [e, A.low r hr, Nat.testBit_two_pow] at h
      exact ⟨r, hr, (of_decide_eq_true h).symm⟩
  · rintro ⟨r, hr, rfl⟩
    exact .inr ⟨r, (reduce_close rs r).mp (closeF_mem _ hr), by rw [A.low r hr, Nat.testBit_two_pow]; simp⟩
theorem row_leads (rs : List Nat) : ∀ r ∈ reduceF rs, r &&& leadsF (closeF rs) = 2 ^ keyN r := by
  intro r hr
  have A := reduce_alone rs
  apply Nat.eq_of_testBit_eq
  intro j
  rw [Nat.testBit_and, Nat.testBit_two_pow]
  cases h : (leadsF (closeF rs)).testBit j with
  | false =>
    rw [Bool.and_false, eq_comm, decide_eq_false]
    intro e
    rw [(lead_bits rs j).mpr ⟨r, hr, e.symm⟩] at h
    cases h
  | true =>
    obtain ⟨s, hs, rfl⟩ := (lead_bits rs j).mp h
    rw [Bool.and_true]
    cases q : r.testBit (keyN s) with
    | true =>
      have e := (A.one s hs r hr).mp q
      rw [e, decide_eq_true rfl]
    | false =>
      rw [eq_comm, decide_eq_false]
      intro e
      have q2 := (A.one r hr r hr).mpr rfl
      rw [e, q] at q2
      cases q2
theorem sel_row (rs : List Nat) {w p : Nat} (hw : w ∈ closeF rs) (e : w &&& leadsF (closeF rs) = 2 ^ p) : w ∈ reduceF rs ∧ keyN w = p := by
  have t : (w &&& leadsF (closeF rs)).testBit p = true := by rw [e, Nat.testBit_two_pow]; simp
  rw [Nat.testBit_and, Bool.and_eq_true] at t
  obtain ⟨r, hr, rfl⟩ := (lead_bits rs p).mp t.2
  have q := word_at_leads (fun a b => close_xor) hw ((reduce_close rs r).mp (closeF_mem _ hr)) (e.trans (row_leads rs r hr).symm)
  subst q
  exact ⟨hr, rfl⟩
theorem flat_mem (rs : List Nat) (P w : Nat) : w ∈ flatN (closeF rs) (leadsF (closeF rs)) P ↔ w ∈ reduceF rs ∧ keyN w < P := by
  unfold flatN
  rw [List.mem_flatMap]
  constructor
  · rintro ⟨p, hp, h⟩
    obtain ⟨h1, h2⟩ := List.mem_filter.mp h
    obtain ⟨h3, h4⟩ := sel_row rs h1 (of_decide_eq_true h2)
    exact ⟨h3, by rw [h4]; exact List.mem_range.mp hp⟩
  · rintro ⟨h1, h2⟩
    exact ⟨keyN w, List.mem_range.mpr h2, List.mem_filter.mpr ⟨(reduce_close rs w).mp (closeF_mem _ h1), decide_eq_true (row_leads rs w h1)⟩⟩
theorem flat_sorted (rs : List Nat) (P : Nat) : (flatN (closeF rs) (leadsF (closeF rs)) P).Pairwise fun a b => lowN a < lowN b := by
  have A := reduce_alone rs
  induction P with
  | zero => exact .nil
  | succ P ih =>
    rw [flatN_succ]
    refine List.pairwise_append.mpr ⟨ih, ?_, fun a ha b hb => ?_⟩
    · have l1 := nodup_alike (((closeF_nodup rs).1).sublist (List.filter_sublist (p := fun w => decide (w &&& leadsF (closeF rs) = 2 ^ P)))) fun a ha b hb => by
        obtain ⟨ha, ea⟩ := List.mem_filter.mp ha
        obtain ⟨hb, eb⟩ := List.mem_filter.mp hb
        exact word_at_leads (fun a b => close_xor) ha hb ((of_decide_eq_true ea).trans (of_decide_eq_true eb).symm)
      generalize List.filter (fun w => decide (w &&& leadsF (closeF rs) = 2 ^ P)) (closeF rs) = l at l1
      match l, l1 with
      | [], _ => exact .nil
      | [_], _ => exact List.pairwise_singleton _ _
    · obtain ⟨h1, h2⟩ := (flat_mem rs P a).mp ha
      obtain ⟨hb, eb⟩ := List.mem_filter.mp hb
      obtain ⟨h3, h4⟩ := sel_row rs hb (of_decide_eq_true eb)
      rw [A.low a h1, A.low b h3, h4]
      exact Nat.pow_lt_pow_right (by decide) h2
theorem red_reduce (rs : List Nat) : redF (closeF rs) = reduceF rs := by
  have A := reduce_alone rs
  have hs := flat_sorted rs (Builtin.Int.intBits (leadsF (closeF rs)))
  have hm : ∀ w, w ∈ redF (closeF rs) ↔ w ∈ reduceF rs := fun w => (flat_mem rs _ w).trans ⟨fun h => h.1, fun h => ⟨h, by
    rw [intBits_nat]
    have t := (lead_bits rs (keyN w)).mpr ⟨w, h, rfl⟩
    have l1 := Nat.ge_two_pow_of_testBit t
    have l2 := lt_bitsN (leadsF (closeF rs))
    exact (Nat.pow_lt_pow_iff_right (by decide : 1 < 2)).mp (Nat.lt_of_le_of_lt l1 l2)⟩⟩
  have nd : (redF (closeF rs)).Nodup := List.nodup_iff_pairwise_ne.mpr (hs.imp fun h e => by rw [e] at h; exact absurd h (Nat.lt_irrefl _))
  have p : (redF (closeF rs)).Perm (reduceF rs) := (List.perm_ext_iff_of_nodup nd A.nd).mpr hm
  exact sorted_one lowN p (hs.imp fun h => Nat.le_of_lt h) (sortLow_sorted _) fun x hx y hy e => by
    have kx := A.low x hx
    have ky := A.low y hy
    have : keyN x = keyN y := two_pow_inj (kx.symm.trans (e.trans ky))
    exact ((A.one x hx y hy).mp (by rw [this]; exact (A.one y hy y hy).mpr rfl)).symm
/-- as many words as the rows tell -/
theorem close_len (rs : List Nat) : (closeF rs).length = 2 ^ (reduceF rs).length := by
  have A := reduce_alone rs
  have p : (closeF (reduceF rs)).Perm (closeF rs) := (List.perm_ext_iff_of_nodup (closeF_nodup _).1 (closeF_nodup _).1).mpr (reduce_close rs)
  rw [← p.length_eq, ← (span_perm A).length_eq, spanF_len]
theorem span_close (rs : List Nat) : (spanF (reduceF rs)).Perm (closeF rs) :=
  (span_perm (reduce_alone rs)).trans ((List.perm_ext_iff_of_nodup (closeF_nodup _).1 (closeF_nodup _).1).mpr (reduce_close rs))
/-- the rows tell the sums, and the sums the rows -/
theorem reduce_same {rs ts : List Nat} : reduceF rs = reduceF ts ↔ ∀ w, w ∈ closeF rs ↔ w ∈ closeF ts := by
  constructor
  · intro e w
    rw [← reduce_close rs, e, reduce_close]
  · intro h
    have key : ∀ a b : List Nat, (∀ w, w ∈ closeF a ↔ w ∈ closeF b) → ∀ r ∈ reduceF a, r ∈ reduceF b := by
      intro a b h r hr
      have hw : r ∈ closeF b := (h r).mp ((reduce_close a r).mp (closeF_mem _ hr))
      have e := row_leads a r hr
      have hL : leadsF (closeF a) = leadsF (closeF b) := by
        apply Nat.eq_of_testBit_eq
        intro j
        have q : (leadsF (closeF a)).testBit j = true ↔ (leadsF (closeF b)).testBit j = true := by
          rw [show leadsF (closeF a) = (closeF a).foldl (fun a w => a ||| lowN w) 0 from rfl, show leadsF (closeF b) = (closeF b).foldl (fun a w => a ||| lowN w) 0 from rfl, ← leadsF_low, ← leadsF_low]
          constructor
          · rintro (h1 | ⟨w, hw, h1⟩)
            · exact .inl h1
            · exact .inr ⟨w, (h w).mp hw, h1⟩
          · rintro (h1 | ⟨w, hw, h1⟩)
            · exact .inl h1
            · exact .inr ⟨w, (h w).mpr hw, h1⟩
        exact Bool.eq_iff_iff.mpr q
      rw [hL] at e
      exact (sel_row b hw e).1
    have A := reduce_alone rs
    refine sorted_one lowN ((List.perm_ext_iff_of_nodup A.nd (reduce_alone ts).nd).mpr fun w => ⟨key rs ts h w, key ts rs (fun w => (h w).symm) w⟩) (sortLow_sorted _) (sortLow_sorted _) fun x hx y hy e => ?_
    have B := reduce_alone ts
    have kx := B.low x hx
    have ky := B.low y hy
    have : keyN x = keyN y := two_pow_inj (kx.symm.trans (e.trans ky))
    exact ((B.one x hx y hy).mp (by rw [this]; exact (B.one y hy y hy).mpr rfl)).symm
end DL

set_option Elab.async false
set_option linter.all false
set_option maxRecDepth 100000
set_option maxHeartbeats 4000000
set_option exponentiation.threshold 2000
namespace DL
open PySem PySem.Spec PyProof.Rows L2 BT
/-! ### promises -/
def d_law_lot : DSp := fun as Q _ => ∃ m : Nat, as = [.dat (.int (m : Int))] ∧ m < 2 ^ 1000 ∧ Q (lotX (lotN m))
def isNumX : D → Bool
  | .int _ => true
  | _ => false
def d_law_integer : DSp := fun as Q _ => ∃ d, as = [.dat d] ∧ (tyS d).isSome = true ∧ Q (.bl (isNumX d))
def d_law_flag : DSp := fun as Q _ => ∃ b c : Bool, as = [.dat (.bl b), .dat (.bl c)] ∧ Q (.bl (decide (b = c)))
def d_law_same : DSp := fun as Q _ => ∃ (d : D) (p : PyData), as = [.dat d, .dat d] ∧ pyR d = some p ∧ Sr p ∧ (match d with | .tup _ => True | .lst _ => True | .dct _ => True | _ => False) ∧ Q (.bl true)
def d_law_lots_equal : DSp := fun as Q _ => ∃ ls : List (List Nat), as = [.dat (lotsX ls), .dat (lotsX ls)] ∧ ls.length ≤ 10000 ∧ (∀ l ∈ ls, l.length ≤ 10000) ∧ Q (.bl true)
def copiedF (row one other : Nat) : Nat := if one = other then (row ||| 2 ^ other) ^^^ 2 ^ other else ((row ||| 2 ^ other) ^^^ 2 ^ other) ||| ((row >>> one &&& 1) <<< other)
def d_law_copied : DSp := fun as Q _ => ∃ row one other : Nat, as = [.dat (.int (row : Int)), .dat (.int (one : Int)), .dat (.int (other : Int))] ∧ one < 1000 ∧ other < 1000 ∧ Q (.int (copiedF row one other : Nat))
def rolledF (row turn size : Nat) : Nat := (row <<< turn ||| (row <<< turn) >>> size) &&& (2 ^ size - 1)
def d_law_rolled : DSp := fun as Q _ => ∃ row turn size : Nat, as = [.dat (.int (row : Int)), .dat (.int (turn : Int)), .dat (.int (size : Int))] ∧ row < 2 ^ 60 ∧ turn < 1000 ∧ size < 1000 ∧ Q (.int (rolledF row turn size : Nat))
def d_law_rows : DSp := fun as Q _ => ∃ n : Nat, as = [.src, .dat (.int (n : Int))] ∧ 1 ≤ n ∧ n ≤ 24 ∧ ∀ rs : List Nat, rs.length ≤ 2 * n + 4 → (∀ r ∈ rs, r < 2 ^ n) → Q (.lst (natX rs))
def d_law_words : DSp := fun as Q _ => ∃ rs : List Nat, as = [.dat (.lst (natX rs))] ∧ (∀ r ∈ rs, r < 2 ^ 16) ∧ Q (.lst (natX (closeF rs)))
def d_law_dim : DSp := fun as Q _ => ∃ xs : List D, as = [.dat (.lst xs)] ∧ Q (.int ((Builtin.Int.intBits xs.length : Nat) - 1 : Int))
def d_law_reduced : DSp := fun as Q _ => ∃ ws : List Nat, as = [.dat (.lst (natX ws))] ∧ (∀ w ∈ ws, w < 2 ^ 60) ∧ ws.length ≤ 10000 ∧ Q (.lst (natX (redF ws)))
/-- told otherwise: the same words -/
def d_law_told : DSp := fun as Q _ => ∃ rs : List Nat, as = [.src, .dat (.lst (natX rs)), .dat (.lst (natX (closeF rs)))] ∧ rs.length ≤ 40 ∧ (∀ r ∈ rs, r < 2 ^ 13) ∧ ∀ ts : List Nat, ts.length ≤ 60 → (∀ w, w ∈ closeF ts ↔ w ∈ closeF rs) → Q (.lst (natX ts))
end DL

set_option Elab.async false
set_option linter.all false
set_option maxRecDepth 100000
set_option maxHeartbeats 4000000
set_option exponentiation.threshold 2000
namespace DL
open PySem PySem.Spec PyProof.Rows L2 BT
/-! ### promises of the law's parts -/
def d_law_words_hold : DSp := fun as Q _ => ∃ (n : Nat) (rs : List Nat), as = [.dat (bookX n (reduceF rs)), .dat (.int (n : Int)), .dat (.lst (natX (closeF rs)))] ∧ 1 ≤ n ∧ n ≤ 12 ∧ (∀ r ∈ rs, r < 2 ^ n) ∧ Q (.bl true)
def d_law_sums_hold : DSp := fun as Q _ => ∃ (n : Nat) (rs : List Nat), as = [.dat (bookX n (reduceF rs)), .dat (.lst (natX (reduceF rs))), .dat (.int ((reduceF rs).length : Nat))] ∧ 1 ≤ n ∧ n ≤ 12 ∧ (∀ r ∈ rs, r < 2 ^ n) ∧ Q (.bl true)
def d_law_equal_holds : DSp := fun as Q _ => ∃ (n : Nat) (rs : List Nat), as = [.src, .dat (bookX n (reduceF rs)), .dat (.int (n : Int)), .dat (.lst (natX rs)), .dat (.lst (natX (closeF rs)))] ∧ 1 ≤ n ∧ n ≤ 8 ∧ rs.length ≤ 2 * n + 4 ∧ (∀ r ∈ rs, r < 2 ^ n) ∧ Q (.bl true)
end DL

set_option Elab.async false
set_option linter.all false
set_option maxRecDepth 100000
set_option maxHeartbeats 4000000
set_option exponentiation.threshold 2000
namespace DL
open PySem PySem.Spec PyProof.Rows L2 BT
section
variable {P : Program} {w : World} {K : PySem.W.Frag} {mg : Str → Option Value} {base : Heap} {ad : Str → Addr}
/-! ### _law_lot (s_law_lot) -/
def r_law_lot : DS := (sSeq (sSetO 1 (fLst aN))
  (sSeq (sFor (iRg1 (aC (e1 (oI1 fun i => .int (Builtin.Int.intBits i : Nat)) (eV 0)) aN)) (gN 2) (sIf (t2 (oEq false) (e2 (oI fun i j => .int (Builtin.bitAnd i j)) (e2 (oIC (fun _ j => 0 ≤ j) fun i j => .int (i / 2 ^ j.toNat)) (eV 0) (eV 2)) (eC (.int 1))) (eC (.int 1))) (sApp 1 (eV 2)) sNil))
  (sFrz 1 (sRet (e1 oTuple (eV 1))))))
theorem sc_law_lot : FnScope ["_law_mask", "_law_places", "_law_place"] ["_law_mask"] (defScope s_law_lot) := ⟨rfl, rfl, rfl, by decide +kernel, rfl, by decide +kernel, by decide +kernel⟩
theorem rd_law_lot {f : Addr} (T : Bi mg) : ∀ (cdv : Value) (A : Around) (outer : List Env) (s : Shared) (H : Hp) (E : XK) (Ed : DXt), Room 0 (A.deeper (envOfC "_law_lot" (defScope s_law_lot) s.heap.objs.size f cdv)) → BS (cxOf (L2.CX P w) P w K mg base ["_law_mask", "_law_places", "_law_place"] "_law_lot" (defScope s_law_lot) f cdv A outer s H E) ad (fun _ => E) Ed (defBody s_law_lot) r_law_lot := by
    intro cdv A outer s H E Ed hr
    have hu := hr.units
    have hu5 := hr.units5
    have tk : Takes (cxOf (L2.CX P w) P w K mg base ["_law_mask", "_law_places", "_law_place"] "_law_lot" (defScope s_law_lot) f cdv A outer s H E) (fun cls d _ H => E cls d H) := takes_of rfl rfl rfl rfl
    have hx : Lets (cxOf (L2.CX P w) P w K mg base ["_law_mask", "_law_places", "_law_place"] "_law_lot" (defScope s_law_lot) f cdv A outer s H E) (fun _ => E) := letsP (passes_call tk fun _ _ _ _ h => h)
    exact (bsCons (sdSetO (fun h => ps_set (i := 1) sc_law_lot.nd rfl (by first | exact Or.inl rfl | exact Or.inr rfl) h) (pfLst adN))
    (bsCons (sdFor (passes_of rfl) rfl (idRg1 rfl T.range (adC (pdBits (pdv 0 (pv 0))) adN)) (gdN (pg_name (i := 2) sc_law_lot.nd rfl (by first | exact Or.inl rfl | exact Or.inr rfl))) (bsOne (sdIf (tdEq hu (pdAnd (pdShr (pdv 0 (pv 0)) (pdv 2 (pv 2))) pdInt) pdInt (by first | exact nomark _ | (intros; rfl))) (bsOne (sdApp (i := 1) (pv 1) (pdv 2 (pv 2)) (fun h => ps_expr (pe_bm PySem.F.plainAttrs_list PySem.F.slot_list_append PySem.F.type_list_append mt_append (pv 1) (pa_cons h pa_nil))))) bsNil)))
    (bsOne (sdFrz 1 (sdRet (pdTuple rfl T.tuple (pdv 1 (pv 1))))))))
/-! ### _law_integer (s_law_integer) -/
def r_law_integer : DS := (sRet (eAn (eIs "int" (eV 0)) (eNot (eIs "bool" (eV 0)))))
theorem sc_law_integer : FnScope ["_law_value"] ["_law_value"] (defScope s_law_integer) := ⟨rfl, rfl, rfl, by decide +kernel, rfl, by decide +kernel, by decide +kernel⟩
theorem rd_law_integer {f : Addr} (T : Bi mg) : ∀ (cdv : Value) (A : Around) (outer : List Env) (s : Shared) (H : Hp) (E : XK) (Ed : DXt), Room 0 (A.deeper (envOfC "_law_integer" (defScope s_law_integer) s.heap.objs.size f cdv)) → BS (cxOf (L2.CX P w) P w K mg base ["_law_value"] "_law_integer" (defScope s_law_integer) f cdv A outer s H E) ad (fun _ => E) Ed (defBody s_law_integer) r_law_integer := by
    intro cdv A outer s H E Ed hr
    have hu := hr.units
    have hu5 := hr.units5
    have tk : Takes (cxOf (L2.CX P w) P w K mg base ["_law_value"] "_law_integer" (defScope s_law_integer) f cdv A outer s H E) (fun cls d _ H => E cls d H) := takes_of rfl rfl rfl rfl
    have hx : Lets (cxOf (L2.CX P w) P w K mg base ["_law_value"] "_law_integer" (defScope s_law_integer) f cdv A outer s H E) (fun _ => E) := letsP (passes_call tk fun _ _ _ _ h => h)
    exact (bsOne (sdRet (pdAn (pdIs rfl T.isinstance rfl T.int PyProof.Rows.boot_int (by decide +kernel) (pdv 0 (pv 0))) (pdOne (pdNot (pdIs rfl T.isinstance rfl T.bool PyProof.Rows.boot_bool (by decide +kernel) (pdv 0 (pv 0))))))))
/-! ### _law_flag (s_law_flag) -/
def r_law_flag : DS := (sRet (eAn (eIs "bool" (eV 0)) (e2 (oEq false) (eV 0) (eV 1))))
theorem sc_law_flag : FnScope ["_law_actual", "_law_expected"] ["_law_actual", "_law_expected"] (defScope s_law_flag) := ⟨rfl, rfl, rfl, by decide +kernel, rfl, by decide +kernel, by decide +kernel⟩
theorem rd_law_flag {f : Addr} (T : Bi mg) : ∀ (cdv : Value) (A : Around) (outer : List Env) (s : Shared) (H : Hp) (E : XK) (Ed : DXt), Room 0 (A.deeper (envOfC "_law_flag" (defScope s_law_flag) s.heap.objs.size f cdv)) → BS (cxOf (L2.CX P w) P w K mg base ["_law_actual", "_law_expected"] "_law_flag" (defScope s_law_flag) f cdv A outer s H E) ad (fun _ => E) Ed (defBody s_law_flag) r_law_flag := by
    intro cdv A outer s H E Ed hr
    have hu := hr.units
    have hu5 := hr.units5
    have tk : Takes (cxOf (L2.CX P w) P w K mg base ["_law_actual", "_law_expected"] "_law_flag" (defScope s_law_flag) f cdv A outer s H E) (fun cls d _ H => E cls d H) := takes_of rfl rfl rfl rfl
    have hx : Lets (cxOf (L2.CX P w) P w K mg base ["_law_actual", "_law_expected"] "_law_flag" (defScope s_law_flag) f cdv A outer s H E) (fun _ => E) := letsP (passes_call tk fun _ _ _ _ h => h)
    exact (bsOne (sdRet (pdAn (pdIs rfl T.isinstance rfl T.bool PyProof.Rows.boot_bool (by decide +kernel) (pdv 0 (pv 0))) (pdOne (pdEq hu (pdv 0 (pv 0)) (pdv 1 (pv 1)) (by first | exact nomark _ | (intros; rfl)))))))
/-! ### _law_same (s_law_same) -/
def r_law_same : DS := (sRet (e2 (oEq false) (eB oRepr (aV 0 aN)) (eB oRepr (aV 1 aN))))
theorem sc_law_same : FnScope ["_law_actual", "_law_expected"] ["_law_actual", "_law_expected"] (defScope s_law_same) := ⟨rfl, rfl, rfl, by decide +kernel, rfl, by decide +kernel, by decide +kernel⟩
theorem rd_law_same {f : Addr} (T : Bi mg) : ∀ (cdv : Value) (A : Around) (outer : List Env) (s : Shared) (H : Hp) (Ed : DXt), Room 0 (A.deeper (envOfC "_law_same" (defScope s_law_same) s.heap.objs.size f cdv)) → A.guards = some [] → BS (cxOf CX0 P w K mg base ["_law_actual", "_law_expected"] "_law_same" (defScope s_law_same) f cdv A outer s H E0).nox ad (fun _ => E0) Ed (defBody s_law_same) r_law_same := by
    intro cdv A outer s H Ed hr gd
    have hu := hr.units
    have hu5 := hr.units5
    have hx : Lets (cxOf CX0 P w K mg base ["_law_actual", "_law_expected"] "_law_same" (defScope s_law_same) f cdv A outer s H E0).nox (fun _ => E0) := lets0
    exact (bsOne (sdRet (pdEq hu (pdRepr gd hu rfl T.repr (adV 0 (pv 0) adN)) (pdRepr gd hu rfl T.repr (adV 1 (pv 1) adN)) (by first | exact nomark _ | (intros; rfl)))))
/-! ### _law_lots_equal (s_law_lots_equal) -/
def r_law_lots_equal : DS := (sSeq (sIf (tOo (tN (tTru (eIs "list" (eV 0)))) (t2 (oEq true) (eB oLen (aV 0 aN)) (eB oLen (aV 1 aN)))) (sRet (eC (.bl false))) sNil)
  (sSeq (sFor (iRg1 (aC (eB oLen (aV 1 aN)) aN)) (gN 2) (sSeq (sIf (tOo (tN (tTru (eIs "tuple" (e2 oIx (eV 0) (eV 2))))) (t2 (oEq true) (eB oLen (aC (e2 oIx (eV 0) (eV 2)) aN)) (eB oLen (aC (e2 oIx (eV 1) (eV 2)) aN)))) (sRet (eC (.bl false))) sNil)
  (sFor (iRg1 (aC (eB oLen (aC (e2 oIx (eV 1) (eV 2)) aN)) aN)) (gN 3) (sIf (tOo (tN (tTru (eCall d_law_integer (aC (e2 oIx (e2 oIx (eV 0) (eV 2)) (eV 3)) aN)))) (t2 (oEq true) (e2 oIx (e2 oIx (eV 0) (eV 2)) (eV 3)) (e2 oIx (e2 oIx (eV 1) (eV 2)) (eV 3)))) (sRet (eC (.bl false))) sNil))))
  (sRet (eC (.bl true)))))
theorem sc_law_lots_equal : FnScope ["_law_actual", "_law_expected", "_law_k", "_law_j"] ["_law_actual", "_law_expected"] (defScope s_law_lots_equal) := ⟨rfl, rfl, rfl, by decide +kernel, rfl, by decide +kernel, by decide +kernel⟩
theorem rd_law_lots_equal {f : Addr} (T : Bi mg) (D_law_integer : DefX P w K mg base ad 1 "_law_integer" ["_law_value"] d_law_integer) : ∀ (cdv : Value) (A : Around) (outer : List Env) (s : Shared) (H : Hp) (E : XK) (Ed : DXt), Room 1 (A.deeper (envOfC "_law_lots_equal" (defScope s_law_lots_equal) s.heap.objs.size f cdv)) → BS (cxOf (L2.CX P w) P w K mg base ["_law_actual", "_law_expected", "_law_k", "_law_j"] "_law_lots_equal" (defScope s_law_lots_equal) f cdv A outer s H E) ad (fun _ => E) Ed (defBody s_law_lots_equal) r_law_lots_equal := by
    intro cdv A outer s H E Ed hr
    have hu := hr.units
    have hu5 := hr.units5
    have tk : Takes (cxOf (L2.CX P w) P w K mg base ["_law_actual", "_law_expected", "_law_k", "_law_j"] "_law_lots_equal" (defScope s_law_lots_equal) f cdv A outer s H E) (fun cls d _ H => E cls d H) := takes_of rfl rfl rfl rfl
    have hx : Lets (cxOf (L2.CX P w) P w K mg base ["_law_actual", "_law_expected", "_law_k", "_law_j"] "_law_lots_equal" (defScope s_law_lots_equal) f cdv A outer s H E) (fun _ => E) := letsP (passes_call tk fun _ _ _ _ h => h)
    exact (bsCons (sdIf (BD.td (bdOr (tdNot (tdTru (pdIs rfl T.isinstance rfl T.list PyProof.Rows.boot_list (by decide +kernel) (pdv 0 (pv 0))))) (bdOr1 (tdNe hu (pdLen rfl T.len (adV 0 (pv 0) adN)) (pdLen rfl T.len (adV 1 (pv 1) adN)) (by first | exact nomark _ | (intros; rfl)))))) (bsOne (sdRet pdBl)) bsNil)
    (bsCons (sdFor (passes_of rfl) rfl (idRg1 rfl T.range (adC (pdLen rfl T.len (adV 1 (pv 1) adN)) adN)) (gdN (pg_name (i := 2) sc_law_lots_equal.nd rfl (by first | exact Or.inl rfl | exact Or.inr rfl))) (bsCons (sdIf (BD.td (bdOr (tdNot (tdTru (pdIs rfl T.isinstance rfl T.tuple PyProof.Rows.boot_tuple (by decide +kernel) (pdIx (pdv 0 (pv 0)) (pdv 2 (pv 2)) (fun _ _ => rfl))))) (bdOr1 (tdNe hu (pdLen rfl T.len (adC (pdIx (pdv 0 (pv 0)) (pdv 2 (pv 2)) (fun _ _ => rfl)) adN)) (pdLen rfl T.len (adC (pdIx (pdv 1 (pv 1)) (pdv 2 (pv 2)) (fun _ _ => rfl)) adN)) (by first | exact nomark _ | (intros; rfl)))))) (bsOne (sdRet pdBl)) bsNil)
    (bsOne (sdFor (passes_of rfl) rfl (idRg1 rfl T.range (adC (pdLen rfl T.len (adC (pdIx (pdv 1 (pv 1)) (pdv 2 (pv 2)) (fun _ _ => rfl)) adN)) adN)) (gdN (pg_name (i := 3) sc_law_lots_equal.nd rfl (by first | exact Or.inl rfl | exact Or.inr rfl))) (bsOne (sdIf (BD.td (bdOr (tdNot (tdTru (pdCall D_law_integer hr hx rfl (adC (pdIx (pdIx (pdv 0 (pv 0)) (pdv 2 (pv 2)) (fun _ _ => rfl)) (pdv 3 (pv 3)) (fun _ _ => rfl)) adN)))) (bdOr1 (tdNe hu (pdIx (pdIx (pdv 0 (pv 0)) (pdv 2 (pv 2)) (fun _ _ => rfl)) (pdv 3 (pv 3)) (fun _ _ => rfl)) (pdIx (pdIx (pdv 1 (pv 1)) (pdv 2 (pv 2)) (fun _ _ => rfl)) (pdv 3 (pv 3)) (fun _ _ => rfl)) (by first | exact nomark _ | (intros; rfl)))))) (bsOne (sdRet pdBl)) bsNil))))))
    (bsOne (sdRet pdBl))))
/-! ### _law_copied (s_law_copied) -/
def r_law_copied : DS := (sSeq (sSet 3 (e2 (oI fun i j => .int (Builtin.bitXor i j)) (e2 (oI fun i j => .int (Builtin.bitOr i j)) (eV 0) (e2 (oIC CPow fun i j => .int (i * 2 ^ j.toNat)) (eC (.int 1)) (eV 2))) (e2 (oIC CPow fun i j => .int (i * 2 ^ j.toNat)) (eC (.int 1)) (eV 2))))
  (sSeq (sIf (t2 (oEq false) (eV 1) (eV 2)) (sRet (eV 3)) sNil)
  (sRet (e2 (oI fun i j => .int (Builtin.bitOr i j)) (eV 3) (e2 (oIC CPow fun i j => .int (i * 2 ^ j.toNat)) (e2 (oI fun i j => .int (Builtin.bitAnd i j)) (e2 (oIC (fun _ j => 0 ≤ j) fun i j => .int (i / 2 ^ j.toNat)) (eV 0) (eV 1)) (eC (.int 1))) (eV 2))))))
theorem sc_law_copied : FnScope ["_law_row", "_law_one", "_law_other", "_law_clear"] ["_law_row", "_law_one", "_law_other"] (defScope s_law_copied) := ⟨rfl, rfl, rfl, by decide +kernel, rfl, by decide +kernel, by decide +kernel⟩
theorem rd_law_copied {f : Addr} : ∀ (cdv : Value) (A : Around) (outer : List Env) (s : Shared) (H : Hp) (E : XK) (Ed : DXt), Room 0 (A.deeper (envOfC "_law_copied" (defScope s_law_copied) s.heap.objs.size f cdv)) → BS (cxOf (L2.CX P w) P w K mg base ["_law_row", "_law_one", "_law_other", "_law_clear"] "_law_copied" (defScope s_law_copied) f cdv A outer s H E) ad (fun _ => E) Ed (defBody s_law_copied) r_law_copied := by
    intro cdv A outer s H E Ed hr
    have hu := hr.units
    have hu5 := hr.units5
    have tk : Takes (cxOf (L2.CX P w) P w K mg base ["_law_row", "_law_one", "_law_other", "_law_clear"] "_law_copied" (defScope s_law_copied) f cdv A outer s H E) (fun cls d _ H => E cls d H) := takes_of rfl rfl rfl rfl
    have hx : Lets (cxOf (L2.CX P w) P w K mg base ["_law_row", "_law_one", "_law_other", "_law_clear"] "_law_copied" (defScope s_law_copied) f cdv A outer s H E) (fun _ => E) := letsP (passes_call tk fun _ _ _ _ h => h)
    exact (bsCons (sdSet (fun h => ps_set (i := 3) sc_law_copied.nd rfl (by first | exact Or.inl rfl | exact Or.inr rfl) h) (pdXor (pdOr (pdv 0 (pv 0)) (pdShl pdInt (pdv 2 (pv 2)))) (pdShl pdInt (pdv 2 (pv 2)))))
    (bsCons (sdIf (tdEq hu (pdv 1 (pv 1)) (pdv 2 (pv 2)) (by first | exact nomark _ | (intros; rfl))) (bsOne (sdRet (pdv 3 (pv 3)))) bsNil)
    (bsOne (sdRet (pdOr (pdv 3 (pv 3)) (pdShl (pdAnd (pdShr (pdv 0 (pv 0)) (pdv 1 (pv 1))) pdInt) (pdv 2 (pv 2))))))))
/-! ### _law_rolled (s_law_rolled) -/
def r_law_rolled : DS := (sSeq (sSet 0 (e2 (oIC CPow fun i j => .int (i * 2 ^ j.toNat)) (eV 0) (eV 1)))
  (sRet (e2 (oI fun i j => .int (Builtin.bitAnd i j)) (e2 (oI fun i j => .int (Builtin.bitOr i j)) (eV 0) (e2 (oIC (fun _ j => 0 ≤ j) fun i j => .int (i / 2 ^ j.toNat)) (eV 0) (eV 2))) (e2 (oI fun i j => .int (i - j)) (e2 (oIC CPow fun i j => .int (i * 2 ^ j.toNat)) (eC (.int 1)) (eV 2)) (eC (.int 1))))))
theorem sc_law_rolled : FnScope ["_law_row", "_law_turn", "_law_size"] ["_law_row", "_law_turn", "_law_size"] (defScope s_law_rolled) := ⟨rfl, rfl, rfl, by decide +kernel, rfl, by decide +kernel, by decide +kernel⟩
theorem rd_law_rolled {f : Addr} : ∀ (cdv : Value) (A : Around) (outer : List Env) (s : Shared) (H : Hp) (E : XK) (Ed : DXt), Room 0 (A.deeper (envOfC "_law_rolled" (defScope s_law_rolled) s.heap.objs.size f cdv)) → BS (cxOf (L2.CX P w) P w K mg base ["_law_row", "_law_turn", "_law_size"] "_law_rolled" (defScope s_law_rolled) f cdv A outer s H E) ad (fun _ => E) Ed (defBody s_law_rolled) r_law_rolled := by
    intro cdv A outer s H E Ed hr
    have hu := hr.units
    have hu5 := hr.units5
    have tk : Takes (cxOf (L2.CX P w) P w K mg base ["_law_row", "_law_turn", "_law_size"] "_law_rolled" (defScope s_law_rolled) f cdv A outer s H E) (fun cls d _ H => E cls d H) := takes_of rfl rfl rfl rfl
    have hx : Lets (cxOf (L2.CX P w) P w K mg base ["_law_row", "_law_turn", "_law_size"] "_law_rolled" (defScope s_law_rolled) f cdv A outer s H E) (fun _ => E) := letsP (passes_call tk fun _ _ _ _ h => h)
    exact (bsCons (sdSet (fun h => ps_set (i := 0) sc_law_rolled.nd rfl (by first | exact Or.inl rfl | exact Or.inr rfl) h) (pdShl (pdv 0 (pv 0)) (pdv 1 (pv 1))))
    (bsOne (sdRet (pdAnd (pdOr (pdv 0 (pv 0)) (pdShr (pdv 0 (pv 0)) (pdv 2 (pv 2)))) (pdSub (pdShl pdInt (pdv 2 (pv 2))) pdInt)))))
/-! ### _law_rows (s_law_rows) -/
def r_law_rows : DS := (sSeq (sSet 2 (eCall d_law_draw (aV 0 (aC (eC (.int 6)) aN))))
  (sSeq (sSet 3 (eCall d_law_draw (aV 0 (aC (e2 oAdd (eV 1) (eC (.int 1))) aN))))
  (sSeq (sSetO 4 (fLst aN))
  (sSeq (sIf (t2 oLt (eV 2) (eC (.int 2))) (sFor (iRg1 (aC (e2 oAdd (eV 3) (eV 2)) aN)) (gN 5) (sApp 4 (eCall d_law_draw (aV 0 (aC (e2 (oIC CPow fun i j => .int (i * 2 ^ j.toNat)) (eC (.int 1)) (eV 1)) aN))))) (sSeq (sSet 6 (eCall d_law_draw (aV 0 (aV 1 aN))))
  (sFor (iRg1 (aV 3 aN)) (gN 5) (sSeq (sSet 7 (e2 (oI fun i j => .int (Builtin.bitOr i j)) (e2 (oIC CPow fun i j => .int (i * 2 ^ j.toNat)) (eC (.int 1)) (eV 5)) (e2 (oIC CPow fun i j => .int (i * 2 ^ j.toNat)) (eCall d_law_draw (aV 0 (aC (e2 (oIC CPow fun i j => .int (i * 2 ^ j.toNat)) (eC (.int 1)) (e2 (oI fun i j => .int (i - j)) (eV 1) (eV 3))) aN))) (eV 3))))
  (sApp 4 (eCall d_law_rolled (aV 7 (aV 6 (aV 1 aN)))))))))
  (sSeq (sIf (t2 (oEq false) (eV 2) (eC (.int 3))) (sSeq (sSet 8 (eCall d_law_draw (aV 0 (aV 1 aN))))
  (sSeq (sSet 9 (eCall d_law_draw (aV 0 (aV 1 aN))))
  (sFrz 4 (sSetO 4 (fLc (iSq (eV 4)) [7] 7 tYs (eCall d_law_copied (aV 7 (aV 8 (aV 9 aN))))))))) sNil)
  (sSeq (sIf (t2 (oEq false) (eV 2) (eC (.int 4))) (sSeq (sSet 10 (e2 (oI fun i j => .int (i - j)) (e2 (oIC CPow fun i j => .int (i * 2 ^ j.toNat)) (eC (.int 1)) (eCall d_law_draw (aV 0 (aC (e2 oAdd (eV 1) (eC (.int 1))) aN)))) (eC (.int 1))))
  (sFrz 4 (sSetO 4 (fCat (eF (fLc (iSq (eV 4)) [7] 7 tYs (e2 (oI fun i j => .int (Builtin.bitAnd i j)) (eV 7) (eV 10)))) (eF (fLc (iSq (eV 4)) [7] 7 tYs (e2 (oI fun i j => .int (Builtin.bitXor i j)) (eV 7) (e2 (oI fun i j => .int (Builtin.bitAnd i j)) (eV 7) (eV 10))))))))) sNil)
  (sSeq (sIf (tAn (tOo (t2 (oEq false) (eV 2) (eC (.int 1))) (t2 (oEq false) (eV 2) (eC (.int 5)))) (t2 oGt (eLenO 4) (eC (.int 0)))) (sSeq (sSet 8 (eCall d_law_draw (aV 0 (aC (eLenO 4) aN))))
  (sSeq (sSet 9 (eCall d_law_draw (aV 0 (aC (eLenO 4) aN))))
  (sFrz 4 (sSetO 4 (fCat (e2 oAdd (eF (fLst (aC (eIxO 4 (eV 8)) aN))) (eV 4)) (eF (fLst (aC (e2 (oI fun i j => .int (Builtin.bitXor i j)) (eIxO 4 (eV 8)) (eIxO 4 (eV 9))) aN)))))))) sNil)
  (sFrz 4 (sRet (eV 4))))))))))
theorem sc_law_rows : FnScope ["_law_source_here", "_law_size", "_law_shape", "_law_dim_here", "_law_rows_here", "_law_k", "_law_turn", "_law_row", "_law_one", "_law_other", "_law_low"] ["_law_source_here", "_law_size"] (defScope s_law_rows) := ⟨rfl, rfl, rfl, by decide +kernel, rfl, by decide +kernel, by decide +kernel⟩
theorem rd_law_rows {f : Addr} (T : Bi mg) (D_law_copied : DefX P w K mg base ad 1 "_law_copied" ["_law_row", "_law_one", "_law_other"] d_law_copied) (D_law_draw : DefX P w K mg base ad 2 "_law_draw" ["_law_source_here", "_law_many"] d_law_draw) (D_law_rolled : DefX P w K mg base ad 1 "_law_rolled" ["_law_row", "_law_turn", "_law_size"] d_law_rolled) : ∀ (cdv : Value) (A : Around) (outer : List Env) (s : Shared) (H : Hp) (E : XK) (Ed : DXt), Room 2 (A.deeper (envOfC "_law_rows" (defScope s_law_rows) s.heap.objs.size f cdv)) → BS (cxOf (L2.CX P w) P w K mg base ["_law_source_here", "_law_size", "_law_shape", "_law_dim_here", "_law_rows_here", "_law_k", "_law_turn", "_law_row", "_law_one", "_law_other", "_law_low"] "_law_rows" (defScope s_law_rows) f cdv A outer s H E) ad (fun _ => E) Ed (defBody s_law_rows) r_law_rows := by
    intro cdv A outer s H E Ed hr
    have hu := hr.units
    have hu5 := hr.units5
    have tk : Takes (cxOf (L2.CX P w) P w K mg base ["_law_source_here", "_law_size", "_law_shape", "_law_dim_here", "_law_rows_here", "_law_k", "_law_turn", "_law_row", "_law_one", "_law_other", "_law_low"] "_law_rows" (defScope s_law_rows) f cdv A outer s H E) (fun cls d _ H => E cls d H) := takes_of rfl rfl rfl rfl
    have hx : Lets (cxOf (L2.CX P w) P w K mg base ["_law_source_here", "_law_size", "_law_shape", "_law_dim_here", "_law_rows_here", "_law_k", "_law_turn", "_law_row", "_law_one", "_law_other", "_law_low"] "_law_rows" (defScope s_law_rows) f cdv A outer s H E) (fun _ => E) := letsP (passes_call tk fun _ _ _ _ h => h)
    exact (bsCons (sdSet (fun h => ps_set (i := 2) sc_law_rows.nd rfl (by first | exact Or.inl rfl | exact Or.inr rfl) h) (pdCall D_law_draw hr hx rfl (adV 0 (pv 0) (adC pdInt adN))))
    (bsCons (sdSet (fun h => ps_set (i := 3) sc_law_rows.nd rfl (by first | exact Or.inl rfl | exact Or.inr rfl) h) (pdCall D_law_draw hr hx rfl (adV 0 (pv 0) (adC (pdAdd (pdv 1 (pv 1)) pdInt) adN))))
    (bsCons (sdSetO (fun h => ps_set (i := 4) sc_law_rows.nd rfl (by first | exact Or.inl rfl | exact Or.inr rfl) h) (pfLst adN))
    (bsCons (sdIf (tdCmp op_lt dLt (pdv 2 (pv 2)) pdInt (by first | exact nomark _ | (intros; rfl))) (bsOne (sdFor (passes_of rfl) rfl (idRg1 rfl T.range (adC (pdAdd (pdv 3 (pv 3)) (pdv 2 (pv 2))) adN)) (gdN (pg_name (i := 5) sc_law_rows.nd rfl (by first | exact Or.inl rfl | exact Or.inr rfl))) (bsOne (sdApp (i := 4) (pv 4) (pdCall D_law_draw hr hx rfl (adV 0 (pv 0) (adC (pdShl pdInt (pdv 1 (pv 1))) adN))) (fun h => ps_expr (pe_bm PySem.F.plainAttrs_list PySem.F.slot_list_append PySem.F.type_list_append mt_append (pv 4) (pa_cons h pa_nil))))))) (bsCons (sdSet (fun h => ps_set (i := 6) sc_law_rows.nd rfl (by first | exact Or.inl rfl | exact Or.inr rfl) h) (pdCall D_law_draw hr hx rfl (adV 0 (pv 0) (adV 1 (pv 1) adN))))
    (bsOne (sdFor (passes_of rfl) rfl (idRg1 rfl T.range (adV 3 (pv 3) adN)) (gdN (pg_name (i := 5) sc_law_rows.nd rfl (by first | exact Or.inl rfl | exact Or.inr rfl))) (bsCons (sdSet (fun h => ps_set (i := 7) sc_law_rows.nd rfl (by first | exact Or.inl rfl | exact Or.inr rfl) h) (pdOr (pdShl pdInt (pdv 5 (pv 5))) (pdShl (pdCall D_law_draw hr hx rfl (adV 0 (pv 0) (adC (pdShl pdInt (pdSub (pdv 1 (pv 1)) (pdv 3 (pv 3)))) adN))) (pdv 3 (pv 3)))))
    (bsOne (sdApp (i := 4) (pv 4) (pdCall D_law_rolled hr hx rfl (adV 7 (pv 7) (adV 6 (pv 6) (adV 1 (pv 1) adN)))) (fun h => ps_expr (pe_bm PySem.F.plainAttrs_list PySem.F.slot_list_append PySem.F.type_list_append mt_append (pv 4) (pa_cons h pa_nil))))))))))
    (bsCons (sdIf (tdEq hu (pdv 2 (pv 2)) pdInt (by first | exact nomark _ | (intros; rfl))) (bsCons (sdSet (fun h => ps_set (i := 8) sc_law_rows.nd rfl (by first | exact Or.inl rfl | exact Or.inr rfl) h) (pdCall D_law_draw hr hx rfl (adV 0 (pv 0) (adV 1 (pv 1) adN))))
    (bsCons (sdSet (fun h => ps_set (i := 9) sc_law_rows.nd rfl (by first | exact Or.inl rfl | exact Or.inr rfl) h) (pdCall D_law_draw hr hx rfl (adV 0 (pv 0) (adV 1 (pv 1) adN))))
    (bsOne (sdFrz 4 (sdSetLcO (j := 4) (own := [("_law_row", 7)]) (i := 7) rfl sc_law_rows.nd rfl rfl (sw_true rfl rfl rfl (by decide +kernel)) (idSq (pdv 4 (pv 4))) (blkOk_by (N := ["_law_source_here", "_law_size", "_law_shape", "_law_dim_here", "_law_rows_here", "_law_k", "_law_turn", "_law_row", "_law_one", "_law_other", "_law_low"]) (sc := defScope s_law_rows) (by decide +kernel)) (fun _ _ _ _ _ => pg_name (i := 7) sc_law_rows.nd rfl (Or.inl rfl)) (fun _ _ _ _ _ => fdN) (fun _ _ _ _ _ => (pdCall D_law_copied hr lets0 rfl (adV 7 (pv 7) (adV 8 (pv 8) (adV 9 (pv 9) adN)))))))))) bsNil)
    (bsCons (sdIf (tdEq hu (pdv 2 (pv 2)) pdInt (by first | exact nomark _ | (intros; rfl))) (bsCons (sdSet (fun h => ps_set (i := 10) sc_law_rows.nd rfl (by first | exact Or.inl rfl | exact Or.inr rfl) h) (pdSub (pdShl pdInt (pdCall D_law_draw hr hx rfl (adV 0 (pv 0) (adC (pdAdd (pdv 1 (pv 1)) pdInt) adN)))) pdInt))
    (bsOne (sdFrz 4 (sdSetO (fun h => ps_set (i := 4) sc_law_rows.nd rfl (by first | exact Or.inl rfl | exact Or.inr rfl) h) (pfCat (PF.pd (pfLc (own := [("_law_row", 7)]) (i := 7) rfl sc_law_rows.nd (idSq (pdv 4 (pv 4))) (blkOk_by (N := ["_law_source_here", "_law_size", "_law_shape", "_law_dim_here", "_law_rows_here", "_law_k", "_law_turn", "_law_row", "_law_one", "_law_other", "_law_low"]) (sc := defScope s_law_rows) (by decide +kernel)) (fun _ _ _ _ _ => pg_name (i := 7) sc_law_rows.nd rfl (Or.inl rfl)) (fun _ _ _ _ _ => fdN) (fun _ _ _ _ _ => (pdAnd (pdv 7 (pv 7)) (pdv 10 (pv 10)))))) (PF.pd (pfLc (own := [("_law_row", 7)]) (i := 7) rfl sc_law_rows.nd (idSq (pdv 4 (pv 4))) (blkOk_by (N := ["_law_source_here", "_law_size", "_law_shape", "_law_dim_here", "_law_rows_here", "_law_k", "_law_turn", "_law_row", "_law_one", "_law_other", "_law_low"]) (sc := defScope s_law_rows) (by decide +kernel)) (fun _ _ _ _ _ => pg_name (i := 7) sc_law_rows.nd rfl (Or.inl rfl)) (fun _ _ _ _ _ => fdN) (fun _ _ _ _ _ => (pdXor (pdv 7 (pv 7)) (pdAnd (pdv 7 (pv 7)) (pdv 10 (pv 10)))))))))))) bsNil)
    (bsCons (sdIf (BD.td (bdAnd (BD.td (bdOr (tdEq hu (pdv 2 (pv 2)) pdInt (by first | exact nomark _ | (intros; rfl))) (bdOr1 (tdEq hu (pdv 2 (pv 2)) pdInt (by first | exact nomark _ | (intros; rfl)))))) (bdAnd1 (tdCmp op_gt dGt (pdLenO rfl T.len (pv 4)) pdInt (by first | exact nomark _ | (intros; rfl)))))) (bsCons (sdSet (fun h => ps_set (i := 8) sc_law_rows.nd rfl (by first | exact Or.inl rfl | exact Or.inr rfl) h) (pdCall D_law_draw hr hx rfl (adV 0 (pv 0) (adC (pdLenO rfl T.len (pv 4)) adN))))
    (bsCons (sdSet (fun h => ps_set (i := 9) sc_law_rows.nd rfl (by first | exact Or.inl rfl | exact Or.inr rfl) h) (pdCall D_law_draw hr hx rfl (adV 0 (pv 0) (adC (pdLenO rfl T.len (pv 4)) adN))))
    (bsOne (sdFrz 4 (sdSetO (fun h => ps_set (i := 4) sc_law_rows.nd rfl (by first | exact Or.inl rfl | exact Or.inr rfl) h) (pfCat (pdAdd (PF.pd (pfLst (adC (pdIxO (pv 4) (pdv 8 (pv 8)) (fun _ _ => rfl)) adN))) (pdv 4 (pv 4))) (PF.pd (pfLst (adC (pdXor (pdIxO (pv 4) (pdv 8 (pv 8)) (fun _ _ => rfl)) (pdIxO (pv 4) (pdv 9 (pv 9)) (fun _ _ => rfl))) adN))))))))) bsNil)
    (bsOne (sdFrz 4 (sdRet (pdv 4 (pv 4))))))))))))
/-! ### _law_words (s_law_words) -/
def r_law_words : DS := (sSeq (sSet 1 (eF (fLst (aC (eC (.int 0)) aN))))
  (sSeq (sFor (iSq (eV 0)) (gN 2) (sIf (t2 (oIn true) (eV 2) (eV 1)) (sSet 1 (e2 oAdd (eV 1) (eF (fLc (iSq (eV 1)) [3] 3 tYs (e2 (oI fun i j => .int (Builtin.bitXor i j)) (eV 3) (eV 2)))))) sNil))
  (sRet (eV 1))))
theorem sc_law_words : FnScope ["_law_rows_here", "_law_words_here", "_law_row", "_law_word"] ["_law_rows_here"] (defScope s_law_words) := ⟨rfl, rfl, rfl, by decide +kernel, rfl, by decide +kernel, by decide +kernel⟩
theorem rd_law_words {f : Addr} : ∀ (cdv : Value) (A : Around) (outer : List Env) (s : Shared) (H : Hp) (E : XK) (Ed : DXt), Room 0 (A.deeper (envOfC "_law_words" (defScope s_law_words) s.heap.objs.size f cdv)) → BS (cxOf (L2.CX P w) P w K mg base ["_law_rows_here", "_law_words_here", "_law_row", "_law_word"] "_law_words" (defScope s_law_words) f cdv A outer s H E) ad (fun _ => E) Ed (defBody s_law_words) r_law_words := by
    intro cdv A outer s H E Ed hr
    have hu := hr.units
    have hu5 := hr.units5
    have tk : Takes (cxOf (L2.CX P w) P w K mg base ["_law_rows_here", "_law_words_here", "_law_row", "_law_word"] "_law_words" (defScope s_law_words) f cdv A outer s H E) (fun cls d _ H => E cls d H) := takes_of rfl rfl rfl rfl
    have hx : Lets (cxOf (L2.CX P w) P w K mg base ["_law_rows_here", "_law_words_here", "_law_row", "_law_word"] "_law_words" (defScope s_law_words) f cdv A outer s H E) (fun _ => E) := letsP (passes_call tk fun _ _ _ _ h => h)
    exact (bsCons (sdSet (fun h => ps_set (i := 1) sc_law_words.nd rfl (by first | exact Or.inl rfl | exact Or.inr rfl) h) (PF.pd (pfLst (adC pdInt adN))))
    (bsCons (sdFor (passes_of rfl) rfl (idSq (pdv 0 (pv 0))) (gdN (pg_name (i := 2) sc_law_words.nd rfl (by first | exact Or.inl rfl | exact Or.inr rfl))) (bsOne (sdIf (tdCmp (op_notInD hu5) dNotIn (pdv 2 (pv 2)) (pdv 1 (pv 1)) (by first | exact nomark _ | (intros; rfl))) (bsOne (sdSet (fun h => ps_set (i := 1) sc_law_words.nd rfl (by first | exact Or.inl rfl | exact Or.inr rfl) h) (pdAdd (pdv 1 (pv 1)) (PF.pd (pfLc (own := [("_law_word", 3)]) (i := 3) rfl sc_law_words.nd (idSq (pdv 1 (pv 1))) (blkOk_by (N := ["_law_rows_here", "_law_words_here", "_law_row", "_law_word"]) (sc := defScope s_law_words) (by decide +kernel)) (fun _ _ _ _ _ => pg_name (i := 3) sc_law_words.nd rfl (Or.inl rfl)) (fun _ _ _ _ _ => fdN) (fun _ _ _ _ _ => (pdXor (pdv 3 (pv 3)) (pdv 2 (pv 2))))))))) bsNil)))
    (bsOne (sdRet (pdv 1 (pv 1))))))
/-! ### _law_dim (s_law_dim) -/
def r_law_dim : DS := (sRet (e2 (oI fun i j => .int (i - j)) (e1 (oI1 fun i => .int (Builtin.Int.intBits i : Nat)) (eB oLen (aV 0 aN))) (eC (.int 1))))
theorem sc_law_dim : FnScope ["_law_words_here"] ["_law_words_here"] (defScope s_law_dim) := ⟨rfl, rfl, rfl, by decide +kernel, rfl, by decide +kernel, by decide +kernel⟩
theorem rd_law_dim {f : Addr} (T : Bi mg) : ∀ (cdv : Value) (A : Around) (outer : List Env) (s : Shared) (H : Hp) (E : XK) (Ed : DXt), Room 0 (A.deeper (envOfC "_law_dim" (defScope s_law_dim) s.heap.objs.size f cdv)) → BS (cxOf (L2.CX P w) P w K mg base ["_law_words_here"] "_law_dim" (defScope s_law_dim) f cdv A outer s H E) ad (fun _ => E) Ed (defBody s_law_dim) r_law_dim := by
    intro cdv A outer s H E Ed hr
    have hu := hr.units
    have hu5 := hr.units5
    have tk : Takes (cxOf (L2.CX P w) P w K mg base ["_law_words_here"] "_law_dim" (defScope s_law_dim) f cdv A outer s H E) (fun cls d _ H => E cls d H) := takes_of rfl rfl rfl rfl
    have hx : Lets (cxOf (L2.CX P w) P w K mg base ["_law_words_here"] "_law_dim" (defScope s_law_dim) f cdv A outer s H E) (fun _ => E) := letsP (passes_call tk fun _ _ _ _ h => h)
    exact (bsOne (sdRet (pdSub (pdBits (pdLen rfl T.len (adV 0 (pv 0) adN))) pdInt)))
/-! ### _law_reduced (s_law_reduced) -/
def r_law_reduced : DS := (sSeq (sSet 1 (eC (.int 0)))
  (sSeq (sFor (iSq (eV 0)) (gN 2) (sSet 1 (e2 (oI fun i j => .int (Builtin.bitOr i j)) (eV 1) (e2 (oI fun i j => .int (Builtin.bitAnd i j)) (eV 2) (e1 (oI1 fun i => .int (-i)) (eV 2))))))
  (sSeq (sSetO 3 (fLst aN))
  (sSeq (sFor (iRg1 (aC (e1 (oI1 fun i => .int (Builtin.Int.intBits i : Nat)) (eV 1)) aN)) (gN 4) (sFor (iSq (eV 0)) (gN 2) (sIf (t2 (oEq false) (e2 (oI fun i j => .int (Builtin.bitAnd i j)) (eV 2) (eV 1)) (e2 (oIC CPow fun i j => .int (i * 2 ^ j.toNat)) (eC (.int 1)) (eV 4))) (sApp 3 (eV 2)) sNil)))
  (sFrz 3 (sRet (eV 3)))))))
theorem sc_law_reduced : FnScope ["_law_words_here", "_law_leads", "_law_word", "_law_rows_here", "_law_place"] ["_law_words_here"] (defScope s_law_reduced) := ⟨rfl, rfl, rfl, by decide +kernel, rfl, by decide +kernel, by decide +kernel⟩
theorem rd_law_reduced {f : Addr} (T : Bi mg) : ∀ (cdv : Value) (A : Around) (outer : List Env) (s : Shared) (H : Hp) (E : XK) (Ed : DXt), Room 0 (A.deeper (envOfC "_law_reduced" (defScope s_law_reduced) s.heap.objs.size f cdv)) → BS (cxOf (L2.CX P w) P w K mg base ["_law_words_here", "_law_leads", "_law_word", "_law_rows_here", "_law_place"] "_law_reduced" (defScope s_law_reduced) f cdv A outer s H E) ad (fun _ => E) Ed (defBody s_law_reduced) r_law_reduced := by
    intro cdv A outer s H E Ed hr
    have hu := hr.units
    have hu5 := hr.units5
    have tk : Takes (cxOf (L2.CX P w) P w K mg base ["_law_words_here", "_law_leads", "_law_word", "_law_rows_here", "_law_place"] "_law_reduced" (defScope s_law_reduced) f cdv A outer s H E) (fun cls d _ H => E cls d H) := takes_of rfl rfl rfl rfl
    have hx : Lets (cxOf (L2.CX P w) P w K mg base ["_law_words_here", "_law_leads", "_law_word", "_law_rows_here", "_law_place"] "_law_reduced" (defScope s_law_reduced) f cdv A outer s H E) (fun _ => E) := letsP (passes_call tk fun _ _ _ _ h => h)
    exact (bsCons (sdSet (fun h => ps_set (i := 1) sc_law_reduced.nd rfl (by first | exact Or.inl rfl | exact Or.inr rfl) h) pdInt)
    (bsCons (sdFor (passes_of rfl) rfl (idSq (pdv 0 (pv 0))) (gdN (pg_name (i := 2) sc_law_reduced.nd rfl (by first | exact Or.inl rfl | exact Or.inr rfl))) (bsOne (sdSet (fun h => ps_set (i := 1) sc_law_reduced.nd rfl (by first | exact Or.inl rfl | exact Or.inr rfl) h) (pdOr (pdv 1 (pv 1)) (pdAnd (pdv 2 (pv 2)) (pdNeg (pdv 2 (pv 2))))))))
    (bsCons (sdSetO (fun h => ps_set (i := 3) sc_law_reduced.nd rfl (by first | exact Or.inl rfl | exact Or.inr rfl) h) (pfLst adN))
    (bsCons (sdFor (passes_of rfl) rfl (idRg1 rfl T.range (adC (pdBits (pdv 1 (pv 1))) adN)) (gdN (pg_name (i := 4) sc_law_reduced.nd rfl (by first | exact Or.inl rfl | exact Or.inr rfl))) (bsOne (sdFor (passes_of rfl) rfl (idSq (pdv 0 (pv 0))) (gdN (pg_name (i := 2) sc_law_reduced.nd rfl (by first | exact Or.inl rfl | exact Or.inr rfl))) (bsOne (sdIf (tdEq hu (pdAnd (pdv 2 (pv 2)) (pdv 1 (pv 1))) (pdShl pdInt (pdv 4 (pv 4))) (by first | exact nomark _ | (intros; rfl))) (bsOne (sdApp (i := 3) (pv 3) (pdv 2 (pv 2)) (fun h => ps_expr (pe_bm PySem.F.plainAttrs_list PySem.F.slot_list_append PySem.F.type_list_append mt_append (pv 3) (pa_cons h pa_nil))))) bsNil)))))
    (bsOne (sdFrz 3 (sdRet (pdv 3 (pv 3)))))))))
/-! ### _law_told (s_law_told) -/
def r_law_told : DS := (sSeq (sSet 3 (eCall d_law_draw (aV 0 (aC (eC (.int 4)) aN))))
  (sSeq (sIf (t2 (oEq false) (eV 3) (eC (.int 0))) (sRet (e2 oAdd (eRev (eV 1)) (eF (fLst (aC (eC (.int 0)) aN))))) sNil)
  (sSeq (sIf (tAn (t2 (oEq false) (eV 3) (eC (.int 1))) (t2 oLe (eB oLen (aV 2 aN)) (eC (.int 60)))) (sRet (eRev (eV 2))) sNil)
  (sSeq (sIf (t2 (oEq false) (eV 3) (eC (.int 2))) (sRet (e2 oAdd (eRev (eCall d_law_reduced (aV 2 aN))) (eV 1))) sNil)
  (sSeq (sSetO 4 (fList (eV 1)))
  (sSeq (sFor (iRg1 (aC (e2 (oI fun i j => .int (i - j)) (eB oLen (aV 1 aN)) (eC (.int 1))) aN)) (gN 5) (sPut 4 (eV 5) (e2 (oI fun i j => .int (Builtin.bitXor i j)) (eIxO 4 (eV 5)) (eIxO 4 (e2 oAdd (eV 5) (eC (.int 1)))))))
  (sFrz 4 (sRet (eV 4)))))))))
theorem sc_law_told : FnScope ["_law_source_here", "_law_rows_here", "_law_words_here", "_law_shape", "_law_result", "_law_k"] ["_law_source_here", "_law_rows_here", "_law_words_here"] (defScope s_law_told) := ⟨rfl, rfl, rfl, by decide +kernel, rfl, by decide +kernel, by decide +kernel⟩
theorem rd_law_told {f : Addr} (T : Bi mg) (D_law_draw : DefX P w K mg base ad 2 "_law_draw" ["_law_source_here", "_law_many"] d_law_draw) (D_law_reduced : DefX P w K mg base ad 1 "_law_reduced" ["_law_words_here"] d_law_reduced) : ∀ (cdv : Value) (A : Around) (outer : List Env) (s : Shared) (H : Hp) (E : XK) (Ed : DXt), Room 2 (A.deeper (envOfC "_law_told" (defScope s_law_told) s.heap.objs.size f cdv)) → BS (cxOf (L2.CX P w) P w K mg base ["_law_source_here", "_law_rows_here", "_law_words_here", "_law_shape", "_law_result", "_law_k"] "_law_told" (defScope s_law_told) f cdv A outer s H E) ad (fun _ => E) Ed (defBody s_law_told) r_law_told := by
    intro cdv A outer s H E Ed hr
    have hu := hr.units
    have hu5 := hr.units5
    have tk : Takes (cxOf (L2.CX P w) P w K mg base ["_law_source_here", "_law_rows_here", "_law_words_here", "_law_shape", "_law_result", "_law_k"] "_law_told" (defScope s_law_told) f cdv A outer s H E) (fun cls d _ H => E cls d H) := takes_of rfl rfl rfl rfl
    have hx : Lets (cxOf (L2.CX P w) P w K mg base ["_law_source_here", "_law_rows_here", "_law_words_here", "_law_shape", "_law_result", "_law_k"] "_law_told" (defScope s_law_told) f cdv A outer s H E) (fun _ => E) := letsP (passes_call tk fun _ _ _ _ h => h)
    exact (bsCons (sdSet (fun h => ps_set (i := 3) sc_law_told.nd rfl (by first | exact Or.inl rfl | exact Or.inr rfl) h) (pdCall D_law_draw hr hx rfl (adV 0 (pv 0) (adC pdInt adN))))
    (bsCons (sdIf (tdEq hu (pdv 3 (pv 3)) pdInt (by first | exact nomark _ | (intros; rfl))) (bsOne (sdRet (pdAdd (pdRev (pdv 1 (pv 1))) (PF.pd (pfLst (adC pdInt adN)))))) bsNil)
    (bsCons (sdIf (BD.td (bdAnd (tdEq hu (pdv 3 (pv 3)) pdInt (by first | exact nomark _ | (intros; rfl))) (bdAnd1 (tdCmp op_le dLe (pdLen rfl T.len (adV 2 (pv 2) adN)) pdInt (by first | exact nomark _ | (intros; rfl)))))) (bsOne (sdRet (pdRev (pdv 2 (pv 2))))) bsNil)
    (bsCons (sdIf (tdEq hu (pdv 3 (pv 3)) pdInt (by first | exact nomark _ | (intros; rfl))) (bsOne (sdRet (pdAdd (pdRev (pdCall D_law_reduced hr hx rfl (adV 2 (pv 2) adN))) (pdv 1 (pv 1))))) bsNil)
    (bsCons (sdSetO (fun h => ps_set (i := 4) sc_law_told.nd rfl (by first | exact Or.inl rfl | exact Or.inr rfl) h) (pfList rfl T.list (pdv 1 (pv 1))))
    (bsCons (sdFor (passes_of rfl) rfl (idRg1 rfl T.range (adC (pdSub (pdLen rfl T.len (adV 1 (pv 1) adN)) pdInt) adN)) (gdN (pg_name (i := 5) sc_law_told.nd rfl (by first | exact Or.inl rfl | exact Or.inr rfl))) (bsOne (sdPut (i := 4) (pv 4) (pdv 5 (pv 5)) (pdXor (pdIxO (pv 4) (pdv 5 (pv 5)) (fun _ _ => rfl)) (pdIxO (pv 4) (pdAdd (pdv 5 (pv 5)) pdInt) (fun _ _ => rfl))) (ha := fun ho hi hs => pg_sub ho hi hs))))
    (bsOne (sdFrz 4 (sdRet (pdv 4 (pv 4)))))))))))
end
end DL

set_option Elab.async false
set_option linter.all false
set_option maxRecDepth 100000
set_option maxHeartbeats 4000000
set_option exponentiation.threshold 2000
namespace DL
open PySem PySem.Spec PyProof.Rows L2 BT
section
variable {P : Program} {w : World} {K : PySem.W.Frag} {mg : Str → Option Value} {base : Heap} {ad : Str → Addr}
/-! ### __eq__ (s_Book_eq) -/
def r_Book_eq : DS := (sRet (eAn (eIsO "Book" (eV 1)) (eAn (e2 (oEq false) (eFld tab0 "size" (eV 0)) (eFld tab0 "size" (eV 1))) (e2 (oEq false) (eFld tab0 "masks" (eV 0)) (eFld tab0 "masks" (eV 1))))))
theorem sc_Book_eq : FnScope ["self", "other"] ["self", "other"] (defScope s_Book_eq) := ⟨rfl, rfl, rfl, by decide +kernel, rfl, by decide +kernel, by decide +kernel⟩
theorem rd_Book_eq {f : Addr} (T : Bi mg) (CT : ClsTab K ad tab0) (O_Book : OwEq K (ad "Book")) (g_Book : mg "Book" = some (.ref (ad "Book"))) : ∀ (cdv : Value) (A : Around) (outer : List Env) (s : Shared) (H : Hp) (E : XK) (Ed : DXt), Room 0 (A.deeper (envOfC "Book.__eq__" (defScope s_Book_eq) s.heap.objs.size f cdv)) → BS (cxOf (L2.CX P w) P w K mg base ["self", "other"] "Book.__eq__" (defScope s_Book_eq) f cdv A outer s H E) ad (fun _ => E) Ed (defBody s_Book_eq) r_Book_eq := by
    intro cdv A outer s H E Ed hr
    have hu := hr.units
    have hu5 := hr.units5
    have tk : Takes (cxOf (L2.CX P w) P w K mg base ["self", "other"] "Book.__eq__" (defScope s_Book_eq) f cdv A outer s H E) (fun cls d _ H => E cls d H) := takes_of rfl rfl rfl rfl
    have hx : Lets (cxOf (L2.CX P w) P w K mg base ["self", "other"] "Book.__eq__" (defScope s_Book_eq) f cdv A outer s H E) (fun _ => E) := letsP (passes_call tk fun _ _ _ _ h => h)
    exact (bsOne (sdRet (pdAn (pdIsO O_Book rfl T.isinstance rfl g_Book (pdv 1 (pv 1))) (pdAn (pdEq hu (pdFld CT (pdv 0 (pv 0)) rfl) (pdFld CT (pdv 1 (pv 1)) rfl) (by first | exact nomark _ | (intros; rfl))) (pdOne (pdEq hu (pdFld CT (pdv 0 (pv 0)) rfl) (pdFld CT (pdv 1 (pv 1)) rfl) (by first | exact nomark _ | (intros; rfl))))))))
end
end DL

set_option Elab.async false
set_option linter.all false
set_option maxRecDepth 100000
set_option maxHeartbeats 4000000
set_option exponentiation.threshold 2000
namespace DL
open PySem PySem.Spec PyProof.Rows L2 BT
section
variable {P : Program} {w : World} {K : PySem.W.Frag} {mg : Str → Option Value} {base : Heap} {ad : Str → Addr}
/-! ### _law_words_hold (s_law_words_hold) -/
def r_law_words_hold : DS := (sSeq (sSet 3 (eB oSrtT (aC (eF (fLc (iSq (eV 2)) [5] 5 tYs (eCall d_law_lot (aV 5 aN)))) aN)))
  (sSeq (sIf (tN (tTru (eCall d_law_lots_equal (aC (eMeth "Book" "words" d_Book_words (eV 0) aN) (aV 3 aN))))) (sRet (eC (.bl false))) sNil)
  (sSeq (sSetO 4 (fRep (eF (fLst (aC (eC (.bl false)) aN))) (e2 (oIC CPow fun i j => .int (i * 2 ^ j.toNat)) (eC (.int 1)) (eV 1))))
  (sSeq (sFor (iSq (eV 2)) (gN 5) (sPut 4 (eV 5) (eC (.bl true))))
  (sSeq (sFor (iRg1 (aC (e2 (oIC CPow fun i j => .int (i * 2 ^ j.toNat)) (eC (.int 1)) (eV 1)) aN)) (gN 6) (sIf (tN (tTru (eCall d_law_flag (aC (eMeth "Book" "holds" d_Book_holds (eV 0) (aC (eCall d_law_lot (aV 6 aN)) aN)) (aC (eIxO 4 (eV 6)) aN))))) (sRet (eC (.bl false))) sNil))
  (sRet (eC (.bl true))))))))
theorem sc_law_words_hold : FnScope ["_law_book", "_law_size", "_law_words_here", "_law_expected", "_law_inside", "_law_word", "_law_mask"] ["_law_book", "_law_size", "_law_words_here"] (defScope s_law_words_hold) := ⟨rfl, rfl, rfl, by decide +kernel, rfl, by decide +kernel, by decide +kernel⟩
theorem rd_law_words_hold {f : Addr} (T : Bi mg) (T2 : Bi2 mg) (CT : ClsTab K ad tab0) (D_law_flag : DefX P w K mg base ad 1 "_law_flag" ["_law_actual", "_law_expected"] d_law_flag) (D_law_lot : DefX P w K mg base ad 1 "_law_lot" ["_law_mask"] d_law_lot) (D_law_lots_equal : DefX P w K mg base ad 2 "_law_lots_equal" ["_law_actual", "_law_expected"] d_law_lots_equal) (M_Book_holds : MetX P w K mg base ad 5 "Book" "holds" ["self", "word"] d_Book_holds) (M_Book_words : MetX P w K mg base ad 4 "Book" "words" ["self"] d_Book_words) : ∀ (cdv : Value) (A : Around) (outer : List Env) (s : Shared) (H : Hp) (E : XK) (Ed : DXt), Room 5 (A.deeper (envOfC "_law_words_hold" (defScope s_law_words_hold) s.heap.objs.size f cdv)) → BS (cxOf (L2.CX P w) P w K mg base ["_law_book", "_law_size", "_law_words_here", "_law_expected", "_law_inside", "_law_word", "_law_mask"] "_law_words_hold" (defScope s_law_words_hold) f cdv A outer s H E) ad (fun _ => E) Ed (defBody s_law_words_hold) r_law_words_hold := by
    intro cdv A outer s H E Ed hr
    have hu := hr.units
    have hu5 := hr.units5
    have tk : Takes (cxOf (L2.CX P w) P w K mg base ["_law_book", "_law_size", "_law_words_here", "_law_expected", "_law_inside", "_law_word", "_law_mask"] "_law_words_hold" (defScope s_law_words_hold) f cdv A outer s H E) (fun cls d _ H => E cls d H) := takes_of rfl rfl rfl rfl
    have hx : Lets (cxOf (L2.CX P w) P w K mg base ["_law_book", "_law_size", "_law_words_here", "_law_expected", "_law_inside", "_law_word", "_law_mask"] "_law_words_hold" (defScope s_law_words_hold) f cdv A outer s H E) (fun _ => E) := letsP (passes_call tk fun _ _ _ _ h => h)
    exact (bsCons (sdSet (fun h => ps_set (i := 3) sc_law_words_hold.nd rfl (by first | exact Or.inl rfl | exact Or.inr rfl) h) (pdSrtT hu rfl T2.sorted (adC (PF.pd (pfLc (own := [("_law_word", 5)]) (i := 5) rfl sc_law_words_hold.nd (idSq (pdv 2 (pv 2))) (blkOk_by (N := ["_law_book", "_law_size", "_law_words_here", "_law_expected", "_law_inside", "_law_word", "_law_mask"]) (sc := defScope s_law_words_hold) (by decide +kernel)) (fun _ _ _ _ _ => pg_name (i := 5) sc_law_words_hold.nd rfl (Or.inl rfl)) (fun _ _ _ _ _ => fdN) (fun _ _ _ _ _ => (pdCall D_law_lot hr lets0 rfl (adV 5 (pv 5) adN))))) adN)))
    (bsCons (sdIf (tdNot (tdTru (pdCall D_law_lots_equal hr hx rfl (adC (pdMeth0 M_Book_words (CT.cls "Book" _ rfl) hr hx (pdv 0 (pv 0))) (adV 3 (pv 3) adN))))) (bsOne (sdRet pdBl)) bsNil)
    (bsCons (sdSetO (fun h => ps_set (i := 4) sc_law_words_hold.nd rfl (by first | exact Or.inl rfl | exact Or.inr rfl) h) (pfRep (PF.pd (pfLst (adC pdBl adN))) (pdShl pdInt (pdv 1 (pv 1)))))
    (bsCons (sdFor (passes_of rfl) rfl (idSq (pdv 2 (pv 2))) (gdN (pg_name (i := 5) sc_law_words_hold.nd rfl (by first | exact Or.inl rfl | exact Or.inr rfl))) (bsOne (sdPut (i := 4) (pv 4) (pdv 5 (pv 5)) pdBl (ha := fun ho hi hs => pg_sub ho hi hs))))
    (bsCons (sdFor (passes_of rfl) rfl (idRg1 rfl T.range (adC (pdShl pdInt (pdv 1 (pv 1))) adN)) (gdN (pg_name (i := 6) sc_law_words_hold.nd rfl (by first | exact Or.inl rfl | exact Or.inr rfl))) (bsOne (sdIf (tdNot (tdTru (pdCall D_law_flag hr hx rfl (adC (pdMeth M_Book_holds (CT.cls "Book" _ rfl) hr hx (pdv 0 (pv 0)) (adC (pdCall D_law_lot hr hx rfl (adV 6 (pv 6) adN)) adN)) (adC (pdIxO (pv 4) (pdv 6 (pv 6)) (fun _ _ => rfl)) adN))))) (bsOne (sdRet pdBl)) bsNil)))
    (bsOne (sdRet pdBl)))))))
/-! ### _law_sums_hold (s_law_sums_hold) -/
def r_law_sums_hold : DS := (sSeq (sFor (iRg1 (aC (e2 (oIC CPow fun i j => .int (i * 2 ^ j.toNat)) (eC (.int 1)) (eV 2)) aN)) (gN 3) (sSeq (sSet 4 (eC (.int 0)))
  (sSeq (sFor (iRg1 (aV 2 aN)) (gN 5) (sSet 4 (e2 (oI fun i j => .int (Builtin.bitXor i j)) (eV 4) (e2 oMul (e2 oIx (eV 1) (eV 5)) (e2 (oI fun i j => .int (Builtin.bitAnd i j)) (e2 (oIC (fun _ j => 0 ≤ j) fun i j => .int (i / 2 ^ j.toNat)) (eV 3) (eV 5)) (eC (.int 1)))))))
  (sIf (tN (tTru (eCallG d_law_same (aC (eMeth "Book" "word_of" d_Book_word_of (eV 0) (aC (eCall d_law_lot (aV 3 aN)) aN)) (aC (eCall d_law_lot (aV 4 aN)) aN))))) (sRet (eC (.bl false))) sNil))))
  (sRet (eC (.bl true))))
theorem sc_law_sums_hold : FnScope ["_law_book", "_law_rows_here", "_law_dim_here", "_law_numbers", "_law_expected", "_law_k"] ["_law_book", "_law_rows_here", "_law_dim_here"] (defScope s_law_sums_hold) := ⟨rfl, rfl, rfl, by decide +kernel, rfl, by decide +kernel, by decide +kernel⟩
theorem rd_law_sums_hold {f : Addr} (T : Bi mg) (CT : ClsTab K ad tab0) (D_law_lot : DefX P w K mg base ad 1 "_law_lot" ["_law_mask"] d_law_lot) (D_law_same : DefY P w K mg base ad 1 "_law_same" ["_law_actual", "_law_expected"] d_law_same) (M_Book_word_of : MetX P w K mg base ad 5 "Book" "word_of" ["self", "numbers"] d_Book_word_of) : ∀ (cdv : Value) (A : Around) (outer : List Env) (s : Shared) (H : Hp) (Ed : DXt), Room 5 (A.deeper (envOfC "_law_sums_hold" (defScope s_law_sums_hold) s.heap.objs.size f cdv)) → A.guards = some [] → BS (cxOf CX0 P w K mg base ["_law_book", "_law_rows_here", "_law_dim_here", "_law_numbers", "_law_expected", "_law_k"] "_law_sums_hold" (defScope s_law_sums_hold) f cdv A outer s H E0).nox ad (fun _ => E0) Ed (defBody s_law_sums_hold) r_law_sums_hold := by
    intro cdv A outer s H Ed hr gd
    have hu := hr.units
    have hu5 := hr.units5
    have hx : Lets (cxOf CX0 P w K mg base ["_law_book", "_law_rows_here", "_law_dim_here", "_law_numbers", "_law_expected", "_law_k"] "_law_sums_hold" (defScope s_law_sums_hold) f cdv A outer s H E0).nox (fun _ => E0) := lets0
    exact (bsCons (sdFor PassesOwn.never rfl (idRg1 rfl T.range (adC (pdShl pdInt (pdv 2 (pv 2))) adN)) (gdN (pg_name (i := 3) sc_law_sums_hold.nd rfl (by first | exact Or.inl rfl | exact Or.inr rfl))) (bsCons (sdSet (fun h => ps_set (i := 4) sc_law_sums_hold.nd rfl (by first | exact Or.inl rfl | exact Or.inr rfl) h) pdInt)
    (bsCons (sdFor PassesOwn.never rfl (idRg1 rfl T.range (adV 2 (pv 2) adN)) (gdN (pg_name (i := 5) sc_law_sums_hold.nd rfl (by first | exact Or.inl rfl | exact Or.inr rfl))) (bsOne (sdSet (fun h => ps_set (i := 4) sc_law_sums_hold.nd rfl (by first | exact Or.inl rfl | exact Or.inr rfl) h) (pdXor (pdv 4 (pv 4)) (pdMul (pdIx (pdv 1 (pv 1)) (pdv 5 (pv 5)) (fun _ _ => rfl)) (pdAnd (pdShr (pdv 3 (pv 3)) (pdv 5 (pv 5))) pdInt))))))
    (bsOne (sdIf (tdNot (tdTru (pdCallG D_law_same hr gd rfl (adC (pdMeth M_Book_word_of (CT.cls "Book" _ rfl) hr hx (pdv 0 (pv 0)) (adC (pdCall D_law_lot hr hx rfl (adV 3 (pv 3) adN)) adN)) (adC (pdCall D_law_lot hr hx rfl (adV 4 (pv 4) adN)) adN))))) (bsOne (sdRet pdBl)) bsNil)))))
    (bsOne (sdRet pdBl)))
/-! ### _law_equal_holds (s_law_equal_holds) -/
def r_law_equal_holds : DS := (sSeq (sSet 5 (eCall d_Book (aV 2 (aC (eF (fLc (iSq (eCall d_law_told (aV 0 (aV 3 (aV 4 aN))))) [6] 6 tYs (eCall d_law_lot (aV 6 aN)))) aN))))
  (sSeq (sIf (tOo (tN (tTru (eCall d_law_flag (aC (e2 (oOwn false "Book" d_Book_eq) (eV 1) (eV 5)) (aC (eC (.bl true)) aN))))) (tOo (tN (tTru (eCall d_law_flag (aC (e2 (oOwn false "Book" d_Book_eq) (eV 5) (eV 1)) (aC (eC (.bl true)) aN))))) (t2 (oOwn true "Book" d_Book_eq) (eV 5) (eV 1)))) (sRet (eC (.bl false))) sNil)
  (sSeq (sSet 6 (eCall d_law_draw (aV 0 (aC (e2 (oIC CPow fun i j => .int (i * 2 ^ j.toNat)) (eC (.int 1)) (eV 2)) aN))))
  (sSeq (sSet 7 (eCall d_Book (aV 2 (aC (eF (fLc (iSq (e2 oAdd (eF (fLst (aV 6 aN))) (eV 3))) [13] 13 tYs (eCall d_law_lot (aV 13 aN)))) aN))))
  (sSeq (sIf (tOo (tN (tTru (eCall d_law_flag (aC (e2 (oOwn false "Book" d_Book_eq) (eV 7) (eV 1)) (aC (e2 (oIn false) (eV 6) (eV 4)) aN))))) (tN (tTru (eCall d_law_flag (aC (e2 (oOwn false "Book" d_Book_eq) (eV 1) (eV 7)) (aC (e2 (oIn false) (eV 6) (eV 4)) aN)))))) (sRet (eC (.bl false))) sNil)
  (sSeq (sSet 8 (eCall d_law_rows (aV 0 (aV 2 aN))))
  (sSeq (sSet 9 (eCall d_Book (aV 2 (aC (eF (fLc (iSq (eV 8)) [13] 13 tYs (eCall d_law_lot (aV 13 aN)))) aN))))
  (sSeq (sIf (tN (tTru (eCall d_law_flag (aC (e2 (oOwn false "Book" d_Book_eq) (eV 1) (eV 9)) (aC (e2 (oEq false) (eB oSrtI (aC (eCall d_law_words (aV 8 aN)) aN)) (eB oSrtI (aV 4 aN))) aN))))) (sRet (eC (.bl false))) sNil)
  (sSeq (sSet 10 (eCall d_Book (aC (e2 oAdd (eV 2) (eC (.int 1))) (aC (eF (fLc (iSq (eV 3)) [13] 13 tYs (eCall d_law_lot (aV 13 aN)))) aN))))
  (sSeq (sIf (tOo (t2 (oOwn false "Book" d_Book_eq) (eV 1) (eV 10)) (t2 (oOwn false "Book" d_Book_eq) (eV 10) (eV 1))) (sRet (eC (.bl false))) sNil)
  (sSeq (sSet 11 (eF (fLc (iSq (eV 3)) [13] 13 tYs (eCall d_law_lot (aV 13 aN)))))
  (sSeq (sFor (iSq (eF (fLst (aC (eC (.int 0)) (aC (eC (.str (Str.ofString ""))) (aC (eTup aN) (aV 11 (aC (eC (.dct [])) (aC (eC (.bl true)) (aV 4 aN)))))))))) (gN 12) (sIf (tOo (tN (tTru (eCall d_law_flag (aC (e2 (oOwn false "Book" d_Book_eq) (eV 1) (eV 12)) (aC (eC (.bl false)) aN))))) (tN (tTru (eCall d_law_flag (aC (e2 (oOwn true "Book" d_Book_eq) (eV 1) (eV 12)) (aC (eC (.bl true)) aN)))))) (sRet (eC (.bl false))) sNil))
  (sRet (eC (.bl true)))))))))))))))
theorem sc_law_equal_holds : FnScope ["_law_source_here", "_law_book", "_law_size", "_law_rows_here", "_law_words_here", "_law_again", "_law_row", "_law_more", "_law_other_rows", "_law_other", "_law_wider", "_law_lots", "_law_thing", "_law_item"] ["_law_source_here", "_law_book", "_law_size", "_law_rows_here", "_law_words_here"] (defScope s_law_equal_holds) := ⟨rfl, rfl, rfl, by decide +kernel, rfl, by decide +kernel, by decide +kernel⟩
theorem rd_law_equal_holds {f : Addr} (T2 : Bi2 mg) (D_law_draw : DefX P w K mg base ad 2 "_law_draw" ["_law_source_here", "_law_many"] d_law_draw) (D_law_flag : DefX P w K mg base ad 1 "_law_flag" ["_law_actual", "_law_expected"] d_law_flag) (D_law_lot : DefX P w K mg base ad 1 "_law_lot" ["_law_mask"] d_law_lot) (D_law_rows : DefX P w K mg base ad 3 "_law_rows" ["_law_source_here", "_law_size"] d_law_rows) (D_law_told : DefX P w K mg base ad 3 "_law_told" ["_law_source_here", "_law_rows_here", "_law_words_here"] d_law_told) (D_law_words : DefX P w K mg base ad 1 "_law_words" ["_law_rows_here"] d_law_words) (M_Book_eq : MetX P w K mg base ad 1 "Book" "__eq__" ["self", "other"] d_Book_eq) (Mk_Book : MakX P w K mg base ad 6 "Book" ["self", "size", "rows"] d_Book) (O_Book : OwEq K (ad "Book")) : ∀ (cdv : Value) (A : Around) (outer : List Env) (s : Shared) (H : Hp) (E : XK) (Ed : DXt), Room 7 (A.deeper (envOfC "_law_equal_holds" (defScope s_law_equal_holds) s.heap.objs.size f cdv)) → BS (cxOf (L2.CX P w) P w K mg base ["_law_source_here", "_law_book", "_law_size", "_law_rows_here", "_law_words_here", "_law_again", "_law_row", "_law_more", "_law_other_rows", "_law_other", "_law_wider", "_law_lots", "_law_thing", "_law_item"] "_law_equal_holds" (defScope s_law_equal_holds) f cdv A outer s H E) ad (fun _ => E) Ed (defBody s_law_equal_holds) r_law_equal_holds := by
    intro cdv A outer s H E Ed hr
    have hu := hr.units
    have hu5 := hr.units5
    have tk : Takes (cxOf (L2.CX P w) P w K mg base ["_law_source_here", "_law_book", "_law_size", "_law_rows_here", "_law_words_here", "_law_again", "_law_row", "_law_more", "_law_other_rows", "_law_other", "_law_wider", "_law_lots", "_law_thing", "_law_item"] "_law_equal_holds" (defScope s_law_equal_holds) f cdv A outer s H E) (fun cls d _ H => E cls d H) := takes_of rfl rfl rfl rfl
    have hx : Lets (cxOf (L2.CX P w) P w K mg base ["_law_source_here", "_law_book", "_law_size", "_law_rows_here", "_law_words_here", "_law_again", "_law_row", "_law_more", "_law_other_rows", "_law_other", "_law_wider", "_law_lots", "_law_thing", "_law_item"] "_law_equal_holds" (defScope s_law_equal_holds) f cdv A outer s H E) (fun _ => E) := letsP (passes_call tk fun _ _ _ _ h => h)
    exact (bsCons (sdSet (fun h => ps_set (i := 5) sc_law_equal_holds.nd rfl (by first | exact Or.inl rfl | exact Or.inr rfl) h) (pdMake Mk_Book hr hx rfl (adV 2 (pv 2) (adC (PF.pd (pfLc (own := [("_law_row", 6)]) (i := 6) rfl sc_law_equal_holds.nd (idSq (pdCall D_law_told hr hx rfl (adV 0 (pv 0) (adV 3 (pv 3) (adV 4 (pv 4) adN))))) (blkOk_by (N := ["_law_source_here", "_law_book", "_law_size", "_law_rows_here", "_law_words_here", "_law_again", "_law_row", "_law_more", "_law_other_rows", "_law_other", "_law_wider", "_law_lots", "_law_thing", "_law_item"]) (sc := defScope s_law_equal_holds) (by decide +kernel)) (fun _ _ _ _ _ => pg_name (i := 6) sc_law_equal_holds.nd rfl (Or.inl rfl)) (fun _ _ _ _ _ => fdN) (fun _ _ _ _ _ => (pdCall D_law_lot hr lets0 rfl (adV 6 (pv 6) adN))))) adN))))
    (bsCons (sdIf (BD.td (bdOr (tdNot (tdTru (pdCall D_law_flag hr hx rfl (adC (pdOwnEq M_Book_eq O_Book hr (pdv 1 (pv 1)) (pdv 5 (pv 5)) (by first | exact nomark _ | (intros; rfl))) (adC pdBl adN))))) (bdOr (tdNot (tdTru (pdCall D_law_flag hr hx rfl (adC (pdOwnEq M_Book_eq O_Book hr (pdv 5 (pv 5)) (pdv 1 (pv 1)) (by first | exact nomark _ | (intros; rfl))) (adC pdBl adN))))) (bdOr1 (tdOwnNe M_Book_eq O_Book hr (pdv 5 (pv 5)) (pdv 1 (pv 1)) (by first | exact nomark _ | (intros; rfl))))))) (bsOne (sdRet pdBl)) bsNil)
    (bsCons (sdSet (fun h => ps_set (i := 6) sc_law_equal_holds.nd rfl (by first | exact Or.inl rfl | exact Or.inr rfl) h) (pdCall D_law_draw hr hx rfl (adV 0 (pv 0) (adC (pdShl pdInt (pdv 2 (pv 2))) adN))))
    (bsCons (sdSet (fun h => ps_set (i := 7) sc_law_equal_holds.nd rfl (by first | exact Or.inl rfl | exact Or.inr rfl) h) (pdMake Mk_Book hr hx rfl (adV 2 (pv 2) (adC (PF.pd (pfLc (own := [("_law_item", 13)]) (i := 13) rfl sc_law_equal_holds.nd (idSq (pdAdd (PF.pd (pfLst (adV 6 (pv 6) adN))) (pdv 3 (pv 3)))) (blkOk_by (N := ["_law_source_here", "_law_book", "_law_size", "_law_rows_here", "_law_words_here", "_law_again", "_law_row", "_law_more", "_law_other_rows", "_law_other", "_law_wider", "_law_lots", "_law_thing", "_law_item"]) (sc := defScope s_law_equal_holds) (by decide +kernel)) (fun _ _ _ _ _ => pg_name (i := 13) sc_law_equal_holds.nd rfl (Or.inl rfl)) (fun _ _ _ _ _ => fdN) (fun _ _ _ _ _ => (pdCall D_law_lot hr lets0 rfl (adV 13 (pv 13) adN))))) adN))))
    (bsCons (sdIf (BD.td (bdOr (tdNot (tdTru (pdCall D_law_flag hr hx rfl (adC (pdOwnEq M_Book_eq O_Book hr (pdv 7 (pv 7)) (pdv 1 (pv 1)) (by first | exact nomark _ | (intros; rfl))) (adC (pdCmp (op_inD hu5) dIn (pdv 6 (pv 6)) (pdv 4 (pv 4)) (by first | exact nomark _ | (intros; rfl))) adN))))) (bdOr1 (tdNot (tdTru (pdCall D_law_flag hr hx rfl (adC (pdOwnEq M_Book_eq O_Book hr (pdv 1 (pv 1)) (pdv 7 (pv 7)) (by first | exact nomark _ | (intros; rfl))) (adC (pdCmp (op_inD hu5) dIn (pdv 6 (pv 6)) (pdv 4 (pv 4)) (by first | exact nomark _ | (intros; rfl))) adN)))))))) (bsOne (sdRet pdBl)) bsNil)
    (bsCons (sdSet (fun h => ps_set (i := 8) sc_law_equal_holds.nd rfl (by first | exact Or.inl rfl | exact Or.inr rfl) h) (pdCall D_law_rows hr hx rfl (adV 0 (pv 0) (adV 2 (pv 2) adN))))
    (bsCons (sdSet (fun h => ps_set (i := 9) sc_law_equal_holds.nd rfl (by first | exact Or.inl rfl | exact Or.inr rfl) h) (pdMake Mk_Book hr hx rfl (adV 2 (pv 2) (adC (PF.pd (pfLc (own := [("_law_item", 13)]) (i := 13) rfl sc_law_equal_holds.nd (idSq (pdv 8 (pv 8))) (blkOk_by (N := ["_law_source_here", "_law_book", "_law_size", "_law_rows_here", "_law_words_here", "_law_again", "_law_row", "_law_more", "_law_other_rows", "_law_other", "_law_wider", "_law_lots", "_law_thing", "_law_item"]) (sc := defScope s_law_equal_holds) (by decide +kernel)) (fun _ _ _ _ _ => pg_name (i := 13) sc_law_equal_holds.nd rfl (Or.inl rfl)) (fun _ _ _ _ _ => fdN) (fun _ _ _ _ _ => (pdCall D_law_lot hr lets0 rfl (adV 13 (pv 13) adN))))) adN))))
    (bsCons (sdIf (tdNot (tdTru (pdCall D_law_flag hr hx rfl (adC (pdOwnEq M_Book_eq O_Book hr (pdv 1 (pv 1)) (pdv 9 (pv 9)) (by first | exact nomark _ | (intros; rfl))) (adC (pdEq hu (pdSrtI rfl T2.sorted (adC (pdCall D_law_words hr hx rfl (adV 8 (pv 8) adN)) adN)) (pdSrtI rfl T2.sorted (adV 4 (pv 4) adN)) (by first | exact nomark _ | (intros; rfl))) adN))))) (bsOne (sdRet pdBl)) bsNil)
    (bsCons (sdSet (fun h => ps_set (i := 10) sc_law_equal_holds.nd rfl (by first | exact Or.inl rfl | exact Or.inr rfl) h) (pdMake Mk_Book hr hx rfl (adC (pdAdd (pdv 2 (pv 2)) pdInt) (adC (PF.pd (pfLc (own := [("_law_item", 13)]) (i := 13) rfl sc_law_equal_holds.nd (idSq (pdv 3 (pv 3))) (blkOk_by (N := ["_law_source_here", "_law_book", "_law_size", "_law_rows_here", "_law_words_here", "_law_again", "_law_row", "_law_more", "_law_other_rows", "_law_other", "_law_wider", "_law_lots", "_law_thing", "_law_item"]) (sc := defScope s_law_equal_holds) (by decide +kernel)) (fun _ _ _ _ _ => pg_name (i := 13) sc_law_equal_holds.nd rfl (Or.inl rfl)) (fun _ _ _ _ _ => fdN) (fun _ _ _ _ _ => (pdCall D_law_lot hr lets0 rfl (adV 13 (pv 13) adN))))) adN))))
    (bsCons (sdIf (BD.td (bdOr (tdOwnEq M_Book_eq O_Book hr (pdv 1 (pv 1)) (pdv 10 (pv 10)) (by first | exact nomark _ | (intros; rfl))) (bdOr1 (tdOwnEq M_Book_eq O_Book hr (pdv 10 (pv 10)) (pdv 1 (pv 1)) (by first | exact nomark _ | (intros; rfl)))))) (bsOne (sdRet pdBl)) bsNil)
    (bsCons (sdSetLc (j := 11) (own := [("_law_item", 13)]) (i := 13) rfl sc_law_equal_holds.nd rfl rfl (sw_true rfl rfl rfl (by decide +kernel)) (idSq (pdv 3 (pv 3))) (blkOk_by (N := ["_law_source_here", "_law_book", "_law_size", "_law_rows_here", "_law_words_here", "_law_again", "_law_row", "_law_more", "_law_other_rows", "_law_other", "_law_wider", "_law_lots", "_law_thing", "_law_item"]) (sc := defScope s_law_equal_holds) (by decide +kernel)) (fun _ _ _ _ _ => pg_name (i := 13) sc_law_equal_holds.nd rfl (Or.inl rfl)) (fun _ _ _ _ _ => fdN) (fun _ _ _ _ _ => (pdCall D_law_lot hr lets0 rfl (adV 13 (pv 13) adN))))
    (bsCons (sdFor (passes_of rfl) rfl (idSq (PF.pd (pfLst (adC pdInt (adC pdStr (adC (pdTup adN) (adV 11 (pv 11) (adC pdDct0 (adC pdBl (adV 4 (pv 4) adN)))))))))) (gdN (pg_name (i := 12) sc_law_equal_holds.nd rfl (by first | exact Or.inl rfl | exact Or.inr rfl))) (bsOne (sdIf (BD.td (bdOr (tdNot (tdTru (pdCall D_law_flag hr hx rfl (adC (pdOwnEq M_Book_eq O_Book hr (pdv 1 (pv 1)) (pdv 12 (pv 12)) (by first | exact nomark _ | (intros; rfl))) (adC pdBl adN))))) (bdOr1 (tdNot (tdTru (pdCall D_law_flag hr hx rfl (adC (pdOwnNe M_Book_eq O_Book hr (pdv 1 (pv 1)) (pdv 12 (pv 12)) (by first | exact nomark _ | (intros; rfl))) (adC pdBl adN)))))))) (bsOne (sdRet pdBl)) bsNil)))
    (bsOne (sdRet pdBl))))))))))))))
end
end DL

set_option Elab.async false
set_option linter.all false
set_option maxRecDepth 100000
set_option maxHeartbeats 4000000
set_option exponentiation.threshold 2000
namespace DL
open PySem PySem.Spec PyProof.Rows L2 BT
section
variable {P : Program} {w : World} {K : PySem.W.Frag} {mg : Str → Option Value} {base : Heap} {ad : Str → Addr}
/-! ### law (s_law) -/
def r_law : DS := (sSeq (sSet 2 (e2 oAdd (eC (.int 1)) (eCall d_law_draw (aV 1 (aC (eC (.int 8)) aN)))))
  (sSeq (sSet 3 (eCall d_law_rows (aV 1 (aV 2 aN))))
  (sSeq (sSet 4 (eCall d_law_words (aV 3 aN)))
  (sSeq (sSet 5 (eCall d_law_dim (aV 4 aN)))
  (sSeq (sSet 6 (eF (fLc (iSq (eV 3)) [9] 9 tYs (eCall d_law_lot (aV 9 aN)))))
  (sSeq (sSet 7 (eCall d_Book (aV 2 (aV 6 aN))))
  (sSeq (sIf (tN (tTru (eCall d_law_lots_equal (aV 6 (aC (eF (fLc (iSq (eV 3)) [9] 9 tYs (eCall d_law_lot (aV 9 aN)))) aN))))) (sRet (eC (.bl false))) sNil)
  (sSeq (sIf (tN (tTru (eCallG d_law_same (aC (eTup (aC (eFld tab0 "size" (eV 7)) (aC (eFld tab0 "dim" (eV 7)) aN))) (aC (eTup (aV 2 (aV 5 aN))) aN))))) (sRet (eC (.bl false))) sNil)
  (sSeq (sSet 8 (eCall d_law_reduced (aV 4 aN)))
  (sSeq (sIf (tN (tTru (eCall d_law_lots_equal (aC (eMeth "Book" "rows" d_Book_rows (eV 7) aN) (aC (eF (fLc (iSq (eV 8)) [9] 9 tYs (eCall d_law_lot (aV 9 aN)))) aN))))) (sRet (eC (.bl false))) sNil)
  (sSeq (sIf (tN (tTru (eCall d_law_words_hold (aV 7 (aV 2 (aV 4 aN)))))) (sRet (eC (.bl false))) sNil)
  (sSeq (sIf (tN (tTru (eCallG d_law_sums_hold (aV 7 (aV 8 (aV 5 aN)))))) (sRet (eC (.bl false))) sNil)
  (sRet (eCall d_law_equal_holds (aV 1 (aV 7 (aV 2 (aV 3 (aV 4 aN)))))))))))))))))))
theorem sc_law : FnScope ["_law_script", "_law_source_here", "_law_size", "_law_rows_here", "_law_words_here", "_law_dim_here", "_law_lots", "_law_book", "_law_reduced_here", "_law_row"] ["_law_script"] (defScope s_law) := ⟨rfl, rfl, rfl, by decide +kernel, rfl, by decide +kernel, by decide +kernel⟩
theorem rd_law {f : Addr} (CT : ClsTab K ad tab0) (D_law_dim : DefX P w K mg base ad 1 "_law_dim" ["_law_words_here"] d_law_dim) (D_law_draw : DefX P w K mg base ad 2 "_law_draw" ["_law_source_here", "_law_many"] d_law_draw) (D_law_equal_holds : DefX P w K mg base ad 8 "_law_equal_holds" ["_law_source_here", "_law_book", "_law_size", "_law_rows_here", "_law_words_here"] d_law_equal_holds) (D_law_lot : DefX P w K mg base ad 1 "_law_lot" ["_law_mask"] d_law_lot) (D_law_lots_equal : DefX P w K mg base ad 2 "_law_lots_equal" ["_law_actual", "_law_expected"] d_law_lots_equal) (D_law_reduced : DefX P w K mg base ad 1 "_law_reduced" ["_law_words_here"] d_law_reduced) (D_law_rows : DefX P w K mg base ad 3 "_law_rows" ["_law_source_here", "_law_size"] d_law_rows) (D_law_same : DefY P w K mg base ad 1 "_law_same" ["_law_actual", "_law_expected"] d_law_same) (D_law_sums_hold : DefY P w K mg base ad 6 "_law_sums_hold" ["_law_book", "_law_rows_here", "_law_dim_here"] d_law_sums_hold) (D_law_words : DefX P w K mg base ad 1 "_law_words" ["_law_rows_here"] d_law_words) (D_law_words_hold : DefX P w K mg base ad 6 "_law_words_hold" ["_law_book", "_law_size", "_law_words_here"] d_law_words_hold) (M_Book_rows : MetX P w K mg base ad 2 "Book" "rows" ["self"] d_Book_rows) (Mk_Book : MakX P w K mg base ad 6 "Book" ["self", "size", "rows"] d_Book) : ∀ (cdv : Value) (A : Around) (outer : List Env) (s : Shared) (H : Hp) (Ed : DXt), Room 8 (A.deeper (envOfC "law" (defScope s_law) s.heap.objs.size f cdv)) → A.guards = some [] → BS (cxOf CX0 P w K mg base ["_law_script", "_law_source_here", "_law_size", "_law_rows_here", "_law_words_here", "_law_dim_here", "_law_lots", "_law_book", "_law_reduced_here", "_law_row"] "law" (defScope s_law) f cdv A outer s H E0).nox ad (fun _ => E0) Ed (defBody s_law).tail r_law := by
    intro cdv A outer s H Ed hr gd
    have hu := hr.units
    have hu5 := hr.units5
    have hx : Lets (cxOf CX0 P w K mg base ["_law_script", "_law_source_here", "_law_size", "_law_rows_here", "_law_words_here", "_law_dim_here", "_law_lots", "_law_book", "_law_reduced_here", "_law_row"] "law" (defScope s_law) f cdv A outer s H E0).nox (fun _ => E0) := lets0
    exact (bsCons (sdSet (fun h => ps_set (i := 2) sc_law.nd rfl (by first | exact Or.inl rfl | exact Or.inr rfl) h) (pdAdd pdInt (pdCall D_law_draw hr hx rfl (adV 1 (pv 1) (adC pdInt adN)))))
    (bsCons (sdSet (fun h => ps_set (i := 3) sc_law.nd rfl (by first | exact Or.inl rfl | exact Or.inr rfl) h) (pdCall D_law_rows hr hx rfl (adV 1 (pv 1) (adV 2 (pv 2) adN))))
    (bsCons (sdSet (fun h => ps_set (i := 4) sc_law.nd rfl (by first | exact Or.inl rfl | exact Or.inr rfl) h) (pdCall D_law_words hr hx rfl (adV 3 (pv 3) adN)))
    (bsCons (sdSet (fun h => ps_set (i := 5) sc_law.nd rfl (by first | exact Or.inl rfl | exact Or.inr rfl) h) (pdCall D_law_dim hr hx rfl (adV 4 (pv 4) adN)))
    (bsCons (sdSetLc (j := 6) (own := [("_law_row", 9)]) (i := 9) rfl sc_law.nd rfl rfl (sw_true rfl rfl rfl (by decide +kernel)) (idSq (pdv 3 (pv 3))) (blkOk_by (N := ["_law_script", "_law_source_here", "_law_size", "_law_rows_here", "_law_words_here", "_law_dim_here", "_law_lots", "_law_book", "_law_reduced_here", "_law_row"]) (sc := defScope s_law) (by decide +kernel)) (fun _ _ _ _ _ => pg_name (i := 9) sc_law.nd rfl (Or.inl rfl)) (fun _ _ _ _ _ => fdN) (fun _ _ _ _ _ => (pdCall D_law_lot hr lets0 rfl (adV 9 (pv 9) adN))))
    (bsCons (sdSet (fun h => ps_set (i := 7) sc_law.nd rfl (by first | exact Or.inl rfl | exact Or.inr rfl) h) (pdMake Mk_Book hr hx rfl (adV 2 (pv 2) (adV 6 (pv 6) adN))))
    (bsCons (sdIf (tdNot (tdTru (pdCall D_law_lots_equal hr hx rfl (adV 6 (pv 6) (adC (PF.pd (pfLc (own := [("_law_row", 9)]) (i := 9) rfl sc_law.nd (idSq (pdv 3 (pv 3))) (blkOk_by (N := ["_law_script", "_law_source_here", "_law_size", "_law_rows_here", "_law_words_here", "_law_dim_here", "_law_lots", "_law_book", "_law_reduced_here", "_law_row"]) (sc := defScope s_law) (by decide +kernel)) (fun _ _ _ _ _ => pg_name (i := 9) sc_law.nd rfl (Or.inl rfl)) (fun _ _ _ _ _ => fdN) (fun _ _ _ _ _ => (pdCall D_law_lot hr lets0 rfl (adV 9 (pv 9) adN))))) adN))))) (bsOne (sdRet pdBl)) bsNil)
    (bsCons (sdIf (tdNot (tdTru (pdCallG D_law_same hr gd rfl (adC (pdTup (adC (pdFld CT (pdv 7 (pv 7)) rfl) (adC (pdFld CT (pdv 7 (pv 7)) rfl) adN))) (adC (pdTup (adV 2 (pv 2) (adV 5 (pv 5) adN))) adN))))) (bsOne (sdRet pdBl)) bsNil)
    (bsCons (sdSet (fun h => ps_set (i := 8) sc_law.nd rfl (by first | exact Or.inl rfl | exact Or.inr rfl) h) (pdCall D_law_reduced hr hx rfl (adV 4 (pv 4) adN)))
    (bsCons (sdIf (tdNot (tdTru (pdCall D_law_lots_equal hr hx rfl (adC (pdMeth0 M_Book_rows (CT.cls "Book" _ rfl) hr hx (pdv 7 (pv 7))) (adC (PF.pd (pfLc (own := [("_law_row", 9)]) (i := 9) rfl sc_law.nd (idSq (pdv 8 (pv 8))) (blkOk_by (N := ["_law_script", "_law_source_here", "_law_size", "_law_rows_here", "_law_words_here", "_law_dim_here", "_law_lots", "_law_book", "_law_reduced_here", "_law_row"]) (sc := defScope s_law) (by decide +kernel)) (fun _ _ _ _ _ => pg_name (i := 9) sc_law.nd rfl (Or.inl rfl)) (fun _ _ _ _ _ => fdN) (fun _ _ _ _ _ => (pdCall D_law_lot hr lets0 rfl (adV 9 (pv 9) adN))))) adN))))) (bsOne (sdRet pdBl)) bsNil)
    (bsCons (sdIf (tdNot (tdTru (pdCall D_law_words_hold hr hx rfl (adV 7 (pv 7) (adV 2 (pv 2) (adV 4 (pv 4) adN)))))) (bsOne (sdRet pdBl)) bsNil)
    (bsCons (sdIf (tdNot (tdTru (pdCallG D_law_sums_hold hr gd rfl (adV 7 (pv 7) (adV 8 (pv 8) (adV 5 (pv 5) adN)))))) (bsOne (sdRet pdBl)) bsNil)
    (bsOne (sdRet (pdCall D_law_equal_holds hr hx rfl (adV 1 (pv 1) (adV 7 (pv 7) (adV 2 (pv 2) (adV 3 (pv 3) (adV 4 (pv 4) adN))))))))))))))))))))
end
end DL

set_option Elab.async false
set_option linter.all false
set_option maxRecDepth 100000
set_option maxHeartbeats 4000000
set_option exponentiation.threshold 2000
namespace DL
open PySem PySem.Spec PyProof.Rows L2 BT
/-! ### whole numbers as data -/
theorem natX_app (a b : List Nat) : natX a ++ natX b = natX (a ++ b) := by unfold natX; rw [List.map_append]
theorem natX_one (p : Nat) : [D.int (p : Int)] = natX [p] := rfl
theorem natX_len (l : List Nat) : (natX l).length = l.length := List.length_map ..
theorem natX_get {l : List Nat} {i : Nat} {x : D} (h : (natX l)[i]? = some x) : ∃ p, l[i]? = some p ∧ x = .int (p : Int) := by
  unfold natX at h
  rw [List.getElem?_map] at h
  cases e : l[i]? with
  | none => rw [e] at h; cases h
  | some p => rw [e] at h; exact ⟨p, rfl, (Option.some.inj h).symm⟩
theorem at_nat {α : Type} {l : List α} {i : Nat} : atI l (i : Int) = l[i]? := by
  unfold atI
  by_cases h : i < l.length
  · rw [show ixN l.length (i : Int) = some i by unfold ixN; rw [if_pos (by omega), if_pos (by omega)]; rfl]; rfl
  · rw [show ixN l.length (i : Int) = none by unfold ixN; rw [if_pos (by omega), if_neg (by omega)]]
    rw [List.getElem?_eq_none (by omega)]; rfl
theorem natX_rev (l : List Nat) : (natX l).reverse = natX l.reverse := by unfold natX; rw [List.map_reverse]
theorem natX_cut (l : List Nat) (lo hi : Option Int) : cutD (natX l) lo hi = natX ((l.drop (HT.sIx l.length 0 lo)).take (HT.sIx l.length l.length hi - HT.sIx l.length 0 lo)) := by
  unfold cutD; rw [natX_len]; unfold natX; rw [List.map_take, List.map_drop]
theorem lotN_bits (m : Nat) : (List.range (bitsN m)).filter (fun p => m.testBit p) = lotN m := rfl
theorem and1_bit (m i : Nat) : (m >>> i &&& 1 = 1) ↔ m.testBit i = true := by
  rw [Nat.testBit, Nat.and_comm]
  cases h : (m >>> i) % 2 with
  | zero => simp [Nat.one_and_eq_mod_two, h]
  | succ k =>
    have : (m >>> i) % 2 = 1 := by omega
    simp [Nat.one_and_eq_mod_two, this]
theorem filt_succ (f : Nat → Bool) (i : Nat) : (List.range (i + 1)).filter f = (List.range i).filter f ++ (if f i then [i] else []) := by
  rw [List.range_succ, List.filter_append]
  cases h : f i <;> simp [h]
theorem bitsN_small {m : Nat} (h : m < 2 ^ 1000) : bitsN m ≤ 1000 := bitsN_le h
/-! ### lot -/
theorem sem_law_lot : ∀ as Qd Xd, d_law_lot as Qd Xd → as.length = ["_law_mask"].length ∧ r_law_lot { nx := fun _ => Qd .non, rt := Qd } (as ++ List.replicate (["_law_mask", "_law_places", "_law_place"].length - as.length) .un) (fun _ => Xd) := by
  rintro as Qd Xd ⟨m, rfl, hm, q⟩
  refine ⟨rfl, ?_⟩
  have hb := bitsN_small hm
  refine ⟨by rw [intBits_nat]; omega, by rw [intBits_nat]; omega, fun i ρ => ∃ z, ρ = [.dat (.int (m : Int)), .own (natX ((List.range i).filter fun p => m.testBit p)), z], ⟨_, rfl⟩, ?_, ?_⟩
  · rintro i x ρ hx ⟨z, rfl⟩
    obtain ⟨hi, rfl⟩ := rgD_get hx
    rw [intBits_nat, Int.toNat_natCast] at hi
    (try dsimp only [gN, gN2, sNil, sSeq, sExp, sRet, sIf, sPass, sCont, sBrk, sSet, sSetO, sApp, sFrz, sAug, sRaise, sAsg, sPut, eV, eC, e1, e2, t2, tBl, tTru, tN, tAn, tOo, tCh, eNot, eAn, eOo, eIf, eTup, eLst, eF, eFld, eIs, eIxO, eLenO, eSl, eRev, eB, eCall, eCallG, eMeth, aN, aC, aV, oNo, oPt, eIsO, oSrtI, oSrtT, oLt, oLe, oGt, oGe, oI, oIC, oI1, oAdd, oMul, oEq, oIsN, oIx, oLen, oList, oTuple, oAbs, oMin2, oInt1, fLst, fList, fRep, fCat, tYs, tru, isS, dats, seqD, seqO, tyS, List.set, List.getElem?_cons_zero, List.getElem?_cons_succ, List.append_eq, List.nil_append, List.cons_append, Option.map_some, Option.bind_some, ng, wipeD, List.length_cons, List.length_nil, Nat.reduceAdd, Nat.reduceSub, List.replicate_succ, List.replicate_zero]; try simp only [decide_eq_true_eq, Bool.not_eq_true', decide_eq_false_iff_not, Bool.false_eq_true, if_false, if_true, reduceIte, String.reduceBEq, Bool.true_or, Bool.false_or, Bool.or_false, Bool.and_false, Bool.false_and, Bool.and_true, Bool.true_and, Bool.not_true, Bool.not_false, ne_eq, not_true_eq_false, reduceCtorEq, Bool.true_eq_false, decide_true, decide_false])
    rw [Int.zero_add, shr_nat, show (1 : Int) = ((1 : Nat) : Int) from rfl, bitAnd_nat, filt_succ]
    refine ⟨by omega, ?_⟩
    have e := and1_bit m i
    cases h : m.testBit i with
    | true =>
      rw [if_pos (by rw [e.mpr h])]
      refine ⟨?_, _, by rw [natX_one, natX_app, if_pos rfl]⟩
      have := List.length_filter_le (fun p => m.testBit p) (List.range i)
      rw [List.length_range] at this
      rw [natX_len]; omega
    | false =>
      rw [if_neg (fun q => by
        rw [e.mp (Int.ofNat.inj q)] at h; cases h)]
      exact ⟨_, by rw [if_neg (by decide), List.append_nil]⟩
  · rintro ρ ⟨z, rfl⟩
    (try dsimp only [gN, gN2, sNil, sSeq, sExp, sRet, sIf, sPass, sCont, sBrk, sSet, sSetO, sApp, sFrz, sAug, sRaise, sAsg, sPut, eV, eC, e1, e2, t2, tBl, tTru, tN, tAn, tOo, tCh, eNot, eAn, eOo, eIf, eTup, eLst, eF, eFld, eIs, eIxO, eLenO, eSl, eRev, eB, eCall, eCallG, eMeth, aN, aC, aV, oNo, oPt, eIsO, oSrtI, oSrtT, oLt, oLe, oGt, oGe, oI, oIC, oI1, oAdd, oMul, oEq, oIsN, oIx, oLen, oList, oTuple, oAbs, oMin2, oInt1, fLst, fList, fRep, fCat, tYs, tru, isS, dats, seqD, seqO, tyS, List.set, List.getElem?_cons_zero, List.getElem?_cons_succ, List.append_eq, List.nil_append, List.cons_append, Option.map_some, Option.bind_some, ng, wipeD, List.length_cons, List.length_nil, Nat.reduceAdd, Nat.reduceSub, List.replicate_succ, List.replicate_zero]; try simp only [decide_eq_true_eq, Bool.not_eq_true', decide_eq_false_iff_not, Bool.false_eq_true, if_false, if_true, reduceIte, String.reduceBEq, Bool.true_or, Bool.false_or, Bool.or_false, Bool.and_false, Bool.false_and, Bool.and_true, Bool.true_and, Bool.not_true, Bool.not_false, ne_eq, not_true_eq_false, reduceCtorEq, Bool.true_eq_false, decide_true, decide_false])
    rw [rgD_len, intBits_nat, Int.toNat_natCast, lotN_bits]
    exact q
/-! ### kinds -/
theorem sem_law_integer : ∀ as Qd Xd, d_law_integer as Qd Xd → as.length = ["_law_value"].length ∧ r_law_integer { nx := fun _ => Qd .non, rt := Qd } (as ++ List.replicate (["_law_value"].length - as.length) .un) (fun _ => Xd) := by
  rintro as Qd Xd ⟨d, rfl, ht, q⟩
  refine ⟨rfl, ?_⟩
  cases d <;> first | exact q | cases ht
theorem sem_law_flag : ∀ as Qd Xd, d_law_flag as Qd Xd → as.length = ["_law_actual", "_law_expected"].length ∧ r_law_flag { nx := fun _ => Qd .non, rt := Qd } (as ++ List.replicate (["_law_actual", "_law_expected"].length - as.length) .un) (fun _ => Xd) := by
  rintro as Qd Xd ⟨b, c, rfl, q⟩
  refine ⟨rfl, ?_⟩
  cases b <;> cases c <;> exact q
theorem sem_law_same : ∀ as Qd Xd, d_law_same as Qd Xd → as.length = ["_law_actual", "_law_expected"].length ∧ r_law_same { nx := fun _ => Qd .non, rt := Qd } (as ++ List.replicate (["_law_actual", "_law_expected"].length - as.length) .un) (fun _ => Xd) := by
  rintro as Qd Xd ⟨d, p, rfl, e, sr, hk, q⟩
  refine ⟨rfl, ?_⟩
  (try dsimp only [gN, gN2, sNil, sSeq, sExp, sRet, sIf, sPass, sCont, sBrk, sSet, sSetO, sApp, sFrz, sAug, sRaise, sAsg, sPut, eV, eC, e1, e2, t2, tBl, tTru, tN, tAn, tOo, tCh, eNot, eAn, eOo, eIf, eTup, eLst, eF, eFld, eIs, eIxO, eLenO, eSl, eRev, eB, eCall, eCallG, eMeth, aN, aC, aV, oNo, oPt, eIsO, oSrtI, oSrtT, oLt, oLe, oGt, oGe, oI, oIC, oI1, oAdd, oMul, oEq, oIsN, oIx, oLen, oList, oTuple, oAbs, oMin2, oInt1, fLst, fList, fRep, fCat, tYs, tru, isS, dats, seqD, seqO, tyS, List.set, List.getElem?_cons_zero, List.getElem?_cons_succ, List.append_eq, List.nil_append, List.cons_append, Option.map_some, Option.bind_some, ng, wipeD, List.length_cons, List.length_nil, Nat.reduceAdd, Nat.reduceSub, List.replicate_succ, List.replicate_zero]; try simp only [decide_eq_true_eq, Bool.not_eq_true', decide_eq_false_iff_not, Bool.false_eq_true, if_false, if_true, reduceIte, String.reduceBEq, Bool.true_or, Bool.false_or, Bool.or_false, Bool.and_false, Bool.false_and, Bool.and_true, Bool.true_and, Bool.not_true, Bool.not_false, ne_eq, not_true_eq_false, reduceCtorEq, Bool.true_eq_false, decide_true, decide_false])
  refine ⟨hk, p, e, sr, hk, p, e, sr, ?_⟩
  (try dsimp only [gN, gN2, sNil, sSeq, sExp, sRet, sIf, sPass, sCont, sBrk, sSet, sSetO, sApp, sFrz, sAug, sRaise, sAsg, sPut, eV, eC, e1, e2, t2, tBl, tTru, tN, tAn, tOo, tCh, eNot, eAn, eOo, eIf, eTup, eLst, eF, eFld, eIs, eIxO, eLenO, eSl, eRev, eB, eCall, eCallG, eMeth, aN, aC, aV, oNo, oPt, eIsO, oSrtI, oSrtT, oLt, oLe, oGt, oGe, oI, oIC, oI1, oAdd, oMul, oEq, oIsN, oIx, oLen, oList, oTuple, oAbs, oMin2, oInt1, fLst, fList, fRep, fCat, tYs, tru, isS, dats, seqD, seqO, tyS, List.set, List.getElem?_cons_zero, List.getElem?_cons_succ, List.append_eq, List.nil_append, List.cons_append, Option.map_some, Option.bind_some, ng, wipeD, List.length_cons, List.length_nil, Nat.reduceAdd, Nat.reduceSub, List.replicate_succ, List.replicate_zero]; try simp only [decide_eq_true_eq, Bool.not_eq_true', decide_eq_false_iff_not, Bool.false_eq_true, if_false, if_true, reduceIte, String.reduceBEq, Bool.true_or, Bool.false_or, Bool.or_false, Bool.and_false, Bool.false_and, Bool.and_true, Bool.true_and, Bool.not_true, Bool.not_false, ne_eq, not_true_eq_false, reduceCtorEq, Bool.true_eq_false, decide_true, decide_false])
  exact q
theorem lots_get {ls : List (List Nat)} {i : Nat} {x : D} (h : (ls.map lotX)[i]? = some x) : ∃ l, ls[i]? = some l ∧ x = lotX l := by
  rw [List.getElem?_map] at h
  cases e : ls[i]? with
  | none => rw [e] at h; cases h
  | some p => rw [e] at h; exact ⟨p, rfl, (Option.some.inj h).symm⟩
theorem sem_law_lots_equal : ∀ as Qd Xd, d_law_lots_equal as Qd Xd → as.length = ["_law_actual", "_law_expected"].length ∧ r_law_lots_equal { nx := fun _ => Qd .non, rt := Qd } (as ++ List.replicate (["_law_actual", "_law_expected", "_law_k", "_law_j"].length - as.length) .un) (fun _ => Xd) := by
  rintro as Qd Xd ⟨ls, rfl, h1, h2, q⟩
  refine ⟨rfl, ?_⟩
  unfold r_law_lots_equal lotsX
  (try dsimp only [gN, gN2, sNil, sSeq, sExp, sRet, sIf, sPass, sCont, sBrk, sSet, sSetO, sApp, sFrz, sAug, sRaise, sAsg, sPut, eV, eC, e1, e2, t2, tBl, tTru, tN, tAn, tOo, tCh, eNot, eAn, eOo, eIf, eTup, eLst, eF, eFld, eIs, eIxO, eLenO, eSl, eRev, eB, eCall, eCallG, eMeth, aN, aC, aV, oNo, oPt, eIsO, oSrtI, oSrtT, oLt, oLe, oGt, oGe, oI, oIC, oI1, oAdd, oMul, oEq, oIsN, oIx, oLen, oList, oTuple, oAbs, oMin2, oInt1, fLst, fList, fRep, fCat, tYs, tru, isS, dats, seqD, seqO, tyS, List.set, List.getElem?_cons_zero, List.getElem?_cons_succ, List.append_eq, List.nil_append, List.cons_append, Option.map_some, Option.bind_some, ng, wipeD, List.length_cons, List.length_nil, Nat.reduceAdd, Nat.reduceSub, List.replicate_succ, List.replicate_zero]; try simp only [decide_eq_true_eq, Bool.not_eq_true', decide_eq_false_iff_not, Bool.false_eq_true, if_false, if_true, reduceIte, String.reduceBEq, Bool.true_or, Bool.false_or, Bool.or_false, Bool.and_false, Bool.false_and, Bool.and_true, Bool.true_and, Bool.not_true, Bool.not_false, ne_eq, not_true_eq_false, reduceCtorEq, Bool.true_eq_false, decide_true, decide_false])
  refine ⟨by rw [List.length_map]; omega, by rw [List.length_map]; omega, fun i ρ => ∃ y z, ρ = [.dat (.lst (ls.map lotX)), .dat (.lst (ls.map lotX)), y, z], ⟨_, _, rfl⟩, ?_, ?_⟩
  · rintro i x ρ hx ⟨y, z, rfl⟩
    obtain ⟨hi, rfl⟩ := rgD_get hx
    rw [List.length_map, Int.toNat_natCast] at hi
    have e1 : atI (ls.map lotX) ((0 : Int) + (i : Int)) = some (.tup (natX ls[i])) := by rw [Int.zero_add, at_nat, List.getElem?_map, List.getElem?_eq_getElem hi]; rfl
    (try dsimp only [gN, gN2, sNil, sSeq, sExp, sRet, sIf, sPass, sCont, sBrk, sSet, sSetO, sApp, sFrz, sAug, sRaise, sAsg, sPut, eV, eC, e1, e2, t2, tBl, tTru, tN, tAn, tOo, tCh, eNot, eAn, eOo, eIf, eTup, eLst, eF, eFld, eIs, eIxO, eLenO, eSl, eRev, eB, eCall, eCallG, eMeth, aN, aC, aV, oNo, oPt, eIsO, oSrtI, oSrtT, oLt, oLe, oGt, oGe, oI, oIC, oI1, oAdd, oMul, oEq, oIsN, oIx, oLen, oList, oTuple, oAbs, oMin2, oInt1, fLst, fList, fRep, fCat, tYs, tru, isS, dats, seqD, seqO, tyS, List.set, List.getElem?_cons_zero, List.getElem?_cons_succ, List.append_eq, List.nil_append, List.cons_append, Option.map_some, Option.bind_some, ng, wipeD, List.length_cons, List.length_nil, Nat.reduceAdd, Nat.reduceSub, List.replicate_succ, List.replicate_zero]; try simp only [decide_eq_true_eq, Bool.not_eq_true', decide_eq_false_iff_not, Bool.false_eq_true, if_false, if_true, reduceIte, String.reduceBEq, Bool.true_or, Bool.false_or, Bool.or_false, Bool.and_false, Bool.false_and, Bool.and_true, Bool.true_and, Bool.not_true, Bool.not_false, ne_eq, not_true_eq_false, reduceCtorEq, Bool.true_eq_false, decide_true, decide_false])
    rw [e1]
    (try dsimp only [gN, gN2, sNil, sSeq, sExp, sRet, sIf, sPass, sCont, sBrk, sSet, sSetO, sApp, sFrz, sAug, sRaise, sAsg, sPut, eV, eC, e1, e2, t2, tBl, tTru, tN, tAn, tOo, tCh, eNot, eAn, eOo, eIf, eTup, eLst, eF, eFld, eIs, eIxO, eLenO, eSl, eRev, eB, eCall, eCallG, eMeth, aN, aC, aV, oNo, oPt, eIsO, oSrtI, oSrtT, oLt, oLe, oGt, oGe, oI, oIC, oI1, oAdd, oMul, oEq, oIsN, oIx, oLen, oList, oTuple, oAbs, oMin2, oInt1, fLst, fList, fRep, fCat, tYs, tru, isS, dats, seqD, seqO, tyS, List.set, List.getElem?_cons_zero, List.getElem?_cons_succ, List.append_eq, List.nil_append, List.cons_append, Option.map_some, Option.bind_some, ng, wipeD, List.length_cons, List.length_nil, Nat.reduceAdd, Nat.reduceSub, List.replicate_succ, List.replicate_zero, sFor, iRg1, iRg2, iSq, iEn, fLc]; try simp only [decide_eq_true_eq, Bool.not_eq_true', decide_eq_false_iff_not, Bool.false_eq_true, if_false, if_true, reduceIte, String.reduceBEq, Bool.true_or, Bool.false_or, Bool.or_false, Bool.and_false, Bool.false_and, Bool.and_true, Bool.true_and, Bool.not_true, Bool.not_false, ne_eq, not_true_eq_false, reduceCtorEq, Bool.true_eq_false, decide_true, decide_false])
    rw [e1]
    (try dsimp only [gN, gN2, sNil, sSeq, sExp, sRet, sIf, sPass, sCont, sBrk, sSet, sSetO, sApp, sFrz, sAug, sRaise, sAsg, sPut, eV, eC, e1, e2, t2, tBl, tTru, tN, tAn, tOo, tCh, eNot, eAn, eOo, eIf, eTup, eLst, eF, eFld, eIs, eIxO, eLenO, eSl, eRev, eB, eCall, eCallG, eMeth, aN, aC, aV, oNo, oPt, eIsO, oSrtI, oSrtT, oLt, oLe, oGt, oGe, oI, oIC, oI1, oAdd, oMul, oEq, oIsN, oIx, oLen, oList, oTuple, oAbs, oMin2, oInt1, fLst, fList, fRep, fCat, tYs, tru, isS, dats, seqD, seqO, tyS, List.set, List.getElem?_cons_zero, List.getElem?_cons_succ, List.append_eq, List.nil_append, List.cons_append, Option.map_some, Option.bind_some, ng, wipeD, List.length_cons, List.length_nil, Nat.reduceAdd, Nat.reduceSub, List.replicate_succ, List.replicate_zero]; try simp only [decide_eq_true_eq, Bool.not_eq_true', decide_eq_false_iff_not, Bool.false_eq_true, if_false, if_true, reduceIte, String.reduceBEq, Bool.true_or, Bool.false_or, Bool.or_false, Bool.and_false, Bool.false_and, Bool.and_true, Bool.true_and, Bool.not_true, Bool.not_false, ne_eq, not_true_eq_false, reduceCtorEq, Bool.true_eq_false, decide_true, decide_false])
    have hl := h2 ls[i] (List.getElem_mem hi)
    refine ⟨by rw [natX_len]; omega, by rw [natX_len]; omega, fun j ρ => ∃ z, ρ = [.dat (.lst (ls.map lotX)), .dat (.lst (ls.map lotX)), .dat (.int (0 + (i : Int))), z], ⟨_, rfl⟩, ?_, ?_⟩
    · rintro j x ρ hx ⟨z, rfl⟩
      obtain ⟨hj, rfl⟩ := rgD_get hx
      rw [natX_len, Int.toNat_natCast] at hj
      have e2 : atI (natX ls[i]) ((0 : Int) + (j : Int)) = some (.int (ls[i][j] : Nat)) := by rw [Int.zero_add, at_nat]; unfold natX; rw [List.getElem?_map, List.getElem?_eq_getElem hj]; rfl
      (try dsimp only [gN, gN2, sNil, sSeq, sExp, sRet, sIf, sPass, sCont, sBrk, sSet, sSetO, sApp, sFrz, sAug, sRaise, sAsg, sPut, eV, eC, e1, e2, t2, tBl, tTru, tN, tAn, tOo, tCh, eNot, eAn, eOo, eIf, eTup, eLst, eF, eFld, eIs, eIxO, eLenO, eSl, eRev, eB, eCall, eCallG, eMeth, aN, aC, aV, oNo, oPt, eIsO, oSrtI, oSrtT, oLt, oLe, oGt, oGe, oI, oIC, oI1, oAdd, oMul, oEq, oIsN, oIx, oLen, oList, oTuple, oAbs, oMin2, oInt1, fLst, fList, fRep, fCat, tYs, tru, isS, dats, seqD, seqO, tyS, List.set, List.getElem?_cons_zero, List.getElem?_cons_succ, List.append_eq, List.nil_append, List.cons_append, Option.map_some, Option.bind_some, ng, wipeD, List.length_cons, List.length_nil, Nat.reduceAdd, Nat.reduceSub, List.replicate_succ, List.replicate_zero]; try simp only [decide_eq_true_eq, Bool.not_eq_true', decide_eq_false_iff_not, Bool.false_eq_true, if_false, if_true, reduceIte, String.reduceBEq, Bool.true_or, Bool.false_or, Bool.or_false, Bool.and_false, Bool.false_and, Bool.and_true, Bool.true_and, Bool.not_true, Bool.not_false, ne_eq, not_true_eq_false, reduceCtorEq, Bool.true_eq_false, decide_true, decide_false])
      rw [e1]
      (try dsimp only [gN, gN2, sNil, sSeq, sExp, sRet, sIf, sPass, sCont, sBrk, sSet, sSetO, sApp, sFrz, sAug, sRaise, sAsg, sPut, eV, eC, e1, e2, t2, tBl, tTru, tN, tAn, tOo, tCh, eNot, eAn, eOo, eIf, eTup, eLst, eF, eFld, eIs, eIxO, eLenO, eSl, eRev, eB, eCall, eCallG, eMeth, aN, aC, aV, oNo, oPt, eIsO, oSrtI, oSrtT, oLt, oLe, oGt, oGe, oI, oIC, oI1, oAdd, oMul, oEq, oIsN, oIx, oLen, oList, oTuple, oAbs, oMin2, oInt1, fLst, fList, fRep, fCat, tYs, tru, isS, dats, seqD, seqO, tyS, List.set, List.getElem?_cons_zero, List.getElem?_cons_succ, List.append_eq, List.nil_append, List.cons_append, Option.map_some, Option.bind_some, ng, wipeD, List.length_cons, List.length_nil, Nat.reduceAdd, Nat.reduceSub, List.replicate_succ, List.replicate_zero]; try simp only [decide_eq_true_eq, Bool.not_eq_true', decide_eq_false_iff_not, Bool.false_eq_true, if_false, if_true, reduceIte, String.reduceBEq, Bool.true_or, Bool.false_or, Bool.or_false, Bool.and_false, Bool.false_and, Bool.and_true, Bool.true_and, Bool.not_true, Bool.not_false, ne_eq, not_true_eq_false, reduceCtorEq, Bool.true_eq_false, decide_true, decide_false])
      rw [e2]
      (try dsimp only [gN, gN2, sNil, sSeq, sExp, sRet, sIf, sPass, sCont, sBrk, sSet, sSetO, sApp, sFrz, sAug, sRaise, sAsg, sPut, eV, eC, e1, e2, t2, tBl, tTru, tN, tAn, tOo, tCh, eNot, eAn, eOo, eIf, eTup, eLst, eF, eFld, eIs, eIxO, eLenO, eSl, eRev, eB, eCall, eCallG, eMeth, aN, aC, aV, oNo, oPt, eIsO, oSrtI, oSrtT, oLt, oLe, oGt, oGe, oI, oIC, oI1, oAdd, oMul, oEq, oIsN, oIx, oLen, oList, oTuple, oAbs, oMin2, oInt1, fLst, fList, fRep, fCat, tYs, tru, isS, dats, seqD, seqO, tyS, List.set, List.getElem?_cons_zero, List.getElem?_cons_succ, List.append_eq, List.nil_append, List.cons_append, Option.map_some, Option.bind_some, ng, wipeD, List.length_cons, List.length_nil, Nat.reduceAdd, Nat.reduceSub, List.replicate_succ, List.replicate_zero]; try simp only [decide_eq_true_eq, Bool.not_eq_true', decide_eq_false_iff_not, Bool.false_eq_true, if_false, if_true, reduceIte, String.reduceBEq, Bool.true_or, Bool.false_or, Bool.or_false, Bool.and_false, Bool.false_and, Bool.and_true, Bool.true_and, Bool.not_true, Bool.not_false, ne_eq, not_true_eq_false, reduceCtorEq, Bool.true_eq_false, decide_true, decide_false])
      refine ⟨_, rfl, rfl, ?_⟩
      (try dsimp only [gN, gN2, sNil, sSeq, sExp, sRet, sIf, sPass, sCont, sBrk, sSet, sSetO, sApp, sFrz, sAug, sRaise, sAsg, sPut, eV, eC, e1, e2, t2, tBl, tTru, tN, tAn, tOo, tCh, eNot, eAn, eOo, eIf, eTup, eLst, eF, eFld, eIs, eIxO, eLenO, eSl, eRev, eB, eCall, eCallG, eMeth, aN, aC, aV, oNo, oPt, eIsO, oSrtI, oSrtT, oLt, oLe, oGt, oGe, oI, oIC, oI1, oAdd, oMul, oEq, oIsN, oIx, oLen, oList, oTuple, oAbs, oMin2, oInt1, fLst, fList, fRep, fCat, tYs, tru, isS, dats, seqD, seqO, tyS, List.set, List.getElem?_cons_zero, List.getElem?_cons_succ, List.append_eq, List.nil_append, List.cons_append, Option.map_some, Option.bind_some, ng, wipeD, List.length_cons, List.length_nil, Nat.reduceAdd, Nat.reduceSub, List.replicate_succ, List.replicate_zero]; try simp only [decide_eq_true_eq, Bool.not_eq_true', decide_eq_false_iff_not, Bool.false_eq_true, if_false, if_true, reduceIte, String.reduceBEq, Bool.true_or, Bool.false_or, Bool.or_false, Bool.and_false, Bool.false_and, Bool.and_true, Bool.true_and, Bool.not_true, Bool.not_false, ne_eq, not_true_eq_false, reduceCtorEq, Bool.true_eq_false, decide_true, decide_false])
      rw [if_neg (fun e => by cases e)]
      exact ⟨_, rfl⟩
    · rintro ρ ⟨z, rfl⟩
      exact ⟨_, _, rfl⟩
  · rintro ρ ⟨y, z, rfl⟩
    (try dsimp only [gN, gN2, sNil, sSeq, sExp, sRet, sIf, sPass, sCont, sBrk, sSet, sSetO, sApp, sFrz, sAug, sRaise, sAsg, sPut, eV, eC, e1, e2, t2, tBl, tTru, tN, tAn, tOo, tCh, eNot, eAn, eOo, eIf, eTup, eLst, eF, eFld, eIs, eIxO, eLenO, eSl, eRev, eB, eCall, eCallG, eMeth, aN, aC, aV, oNo, oPt, eIsO, oSrtI, oSrtT, oLt, oLe, oGt, oGe, oI, oIC, oI1, oAdd, oMul, oEq, oIsN, oIx, oLen, oList, oTuple, oAbs, oMin2, oInt1, fLst, fList, fRep, fCat, tYs, tru, isS, dats, seqD, seqO, tyS, List.set, List.getElem?_cons_zero, List.getElem?_cons_succ, List.append_eq, List.nil_append, List.cons_append, Option.map_some, Option.bind_some, ng, wipeD, List.length_cons, List.length_nil, Nat.reduceAdd, Nat.reduceSub, List.replicate_succ, List.replicate_zero]; try simp only [decide_eq_true_eq, Bool.not_eq_true', decide_eq_false_iff_not, Bool.false_eq_true, if_false, if_true, reduceIte, String.reduceBEq, Bool.true_or, Bool.false_or, Bool.or_false, Bool.and_false, Bool.false_and, Bool.and_true, Bool.true_and, Bool.not_true, Bool.not_false, ne_eq, not_true_eq_false, reduceCtorEq, Bool.true_eq_false, decide_true, decide_false])
    exact q
/-! ### rows of bits -/
theorem shl1_nat (p : Nat) : (1 : Int) * 2 ^ ((p : Int).toNat) = ((2 ^ p : Nat) : Int) := by rw [Int.toNat_natCast, Int.one_mul, Int.natCast_pow]; rfl
theorem cpow1 {p : Nat} (h : p < 1000) : CPow 1 (p : Int) := ⟨by omega, by omega, by decide⟩
theorem cpowN {a p : Nat} (ha : a < 2 ^ 60) (h : p < 1000) : CPow (a : Int) (p : Int) := ⟨by omega, by omega, by rw [Int.natAbs_natCast]; omega⟩
theorem sem_law_copied : ∀ as Qd Xd, d_law_copied as Qd Xd → as.length = ["_law_row", "_law_one", "_law_other"].length ∧ r_law_copied { nx := fun _ => Qd .non, rt := Qd } (as ++ List.replicate (["_law_row", "_law_one", "_law_other", "_law_clear"].length - as.length) .un) (fun _ => Xd) := by
  rintro as Qd Xd ⟨row, one, other, rfl, h1, h2, q⟩
  refine ⟨rfl, ?_⟩
  unfold r_law_copied
  (try dsimp only [gN, gN2, sNil, sSeq, sExp, sRet, sIf, sPass, sCont, sBrk, sSet, sSetO, sApp, sFrz, sAug, sRaise, sAsg, sPut, eV, eC, e1, e2, t2, tBl, tTru, tN, tAn, tOo, tCh, eNot, eAn, eOo, eIf, eTup, eLst, eF, eFld, eIs, eIxO, eLenO, eSl, eRev, eB, eCall, eCallG, eMeth, aN, aC, aV, oNo, oPt, eIsO, oSrtI, oSrtT, oLt, oLe, oGt, oGe, oI, oIC, oI1, oAdd, oMul, oEq, oIsN, oIx, oLen, oList, oTuple, oAbs, oMin2, oInt1, fLst, fList, fRep, fCat, tYs, tru, isS, dats, seqD, seqO, tyS, List.set, List.getElem?_cons_zero, List.getElem?_cons_succ, List.append_eq, List.nil_append, List.cons_append, Option.map_some, Option.bind_some, ng, wipeD, List.length_cons, List.length_nil, Nat.reduceAdd, Nat.reduceSub, List.replicate_succ, List.replicate_zero]; try simp only [decide_eq_true_eq, Bool.not_eq_true', decide_eq_false_iff_not, Bool.false_eq_true, if_false, if_true, reduceIte, String.reduceBEq, Bool.true_or, Bool.false_or, Bool.or_false, Bool.and_false, Bool.false_and, Bool.and_true, Bool.true_and, Bool.not_true, Bool.not_false, ne_eq, not_true_eq_false, reduceCtorEq, Bool.true_eq_false, decide_true, decide_false])
  rw [shl1_nat, bitOr_nat, bitXor_nat]
  unfold copiedF at q
  refine ⟨cpow1 h2, cpow1 h2, ?_⟩
  by_cases e : one = other
  · rw [if_pos (by rw [e])]
    rw [if_pos e] at q
    exact q
  · rw [if_neg (show ¬ (one : Int) = (other : Int) by omega)]
    rw [if_neg e] at q
    rw [shr_nat, show (1 : Int) = ((1 : Nat) : Int) from rfl, bitAnd_nat]
    refine ⟨by omega, ⟨by omega, by omega, ?_⟩, ?_⟩
    · rw [Int.natAbs_natCast]
      exact Nat.lt_of_le_of_lt Nat.and_le_right (by decide)
    · rw [shl_nat, bitOr_nat]
      exact q
theorem sem_law_rolled : ∀ as Qd Xd, d_law_rolled as Qd Xd → as.length = ["_law_row", "_law_turn", "_law_size"].length ∧ r_law_rolled { nx := fun _ => Qd .non, rt := Qd } (as ++ List.replicate (["_law_row", "_law_turn", "_law_size"].length - as.length) .un) (fun _ => Xd) := by
  rintro as Qd Xd ⟨row, turn, size, rfl, h0, h1, h2, q⟩
  refine ⟨rfl, ?_⟩
  unfold r_law_rolled
  (try dsimp only [gN, gN2, sNil, sSeq, sExp, sRet, sIf, sPass, sCont, sBrk, sSet, sSetO, sApp, sFrz, sAug, sRaise, sAsg, sPut, eV, eC, e1, e2, t2, tBl, tTru, tN, tAn, tOo, tCh, eNot, eAn, eOo, eIf, eTup, eLst, eF, eFld, eIs, eIxO, eLenO, eSl, eRev, eB, eCall, eCallG, eMeth, aN, aC, aV, oNo, oPt, eIsO, oSrtI, oSrtT, oLt, oLe, oGt, oGe, oI, oIC, oI1, oAdd, oMul, oEq, oIsN, oIx, oLen, oList, oTuple, oAbs, oMin2, oInt1, fLst, fList, fRep, fCat, tYs, tru, isS, dats, seqD, seqO, tyS, List.set, List.getElem?_cons_zero, List.getElem?_cons_succ, List.append_eq, List.nil_append, List.cons_append, Option.map_some, Option.bind_some, ng, wipeD, List.length_cons, List.length_nil, Nat.reduceAdd, Nat.reduceSub, List.replicate_succ, List.replicate_zero]; try simp only [decide_eq_true_eq, Bool.not_eq_true', decide_eq_false_iff_not, Bool.false_eq_true, if_false, if_true, reduceIte, String.reduceBEq, Bool.true_or, Bool.false_or, Bool.or_false, Bool.and_false, Bool.false_and, Bool.and_true, Bool.true_and, Bool.not_true, Bool.not_false, ne_eq, not_true_eq_false, reduceCtorEq, Bool.true_eq_false, decide_true, decide_false])
  have e : ((2 ^ size : Nat) : Int) - 1 = ((2 ^ size - 1 : Nat) : Int) := by
    have := Nat.two_pow_pos size
    omega
  rw [shl_nat, shr_nat, bitOr_nat, shl1_nat, e, bitAnd_nat]
  exact ⟨cpowN h0 h1, by omega, cpow1 h2, q⟩
theorem sem_law_dim : ∀ as Qd Xd, d_law_dim as Qd Xd → as.length = ["_law_words_here"].length ∧ r_law_dim { nx := fun _ => Qd .non, rt := Qd } (as ++ List.replicate (["_law_words_here"].length - as.length) .un) (fun _ => Xd) := by
  rintro as Qd Xd ⟨xs, rfl, q⟩
  exact ⟨rfl, q⟩
theorem xor_map (ws : List Nat) (r : Nat) : (natX ws).map (fun d => match d with | .int i => D.int (Builtin.bitXor i (r : Int)) | d => d) = natX (ws.map (· ^^^ r)) := by
  unfold natX
  rw [List.map_map, List.map_map]
  refine List.map_congr_left fun w _ => ?_
  show D.int _ = D.int _
  rw [bitXor_nat]
/-! ### lists of whole numbers, compared -/
theorem pyNs_nat : ∀ ws : List Nat, pyNs (natX ws) = some (ws.map fun p : Nat => PyData.int (p : Int))
  | [] => rfl
  | w :: ws => by
    have q := pyNs_nat ws
    unfold natX at q ⊢
    rw [List.map_cons, pyNs, q]; rfl
theorem shaped_int (i : Int) : SeqAt.shaped (.int i) = true := by
  unfold SeqAt.shaped; simp [PyData.canLay0, PyData.depth]
theorem shaped_nats (ws : List Nat) : SeqAt.shaped (.list (ws.map fun p : Nat => PyData.int (p : Int))) = true := by
  unfold SeqAt.shaped
  rw [Bool.and_eq_true]
  refine ⟨by simp only [PyData.canLay0]; exact lay_lot ws, decide_eq_true ?_⟩
  simp only [PyData.depth]
  have : PyData.depthAll (ws.map fun p : Nat => PyData.int (p : Int)) ≤ 0 := depthA_le fun d hd => by
    obtain ⟨l, _, rfl⟩ := List.mem_map.mp hd
    simp [PyData.depth]
  omega
theorem any_eqv (ws : List Nat) (r : Nat) : ((ws.map fun p : Nat => PyData.int (p : Int)).any fun z => PyData.eqv z (.int (r : Int))) = decide (r ∈ ws) := by
  induction ws with
  | nil => rfl
  | cons w ws ih =>
    rw [List.map_cons, List.any_cons, ih]
    have e : PyData.eqv (.int (w : Int)) (.int (r : Int)) = decide (w = r) := by
      simp only [PyData.eqv]
      by_cases h : w = r
      · subst h; simp
      · rw [decide_eq_false h]
        exact beq_eq_false_iff_ne.mpr fun z => h (Int.ofNat.inj z)
    rw [e]
    by_cases h : w = r
    · subst h; simp
    · simp [h, Ne.symm h]
theorem take_map {α β : Type} {l : List α} {f : α → β} {i : Nat} {x : α} (h : l[i]? = some x) : (l.take i).map f ++ [f x] = (l.take (i + 1)).map f := by
  rw [take_snoc h, List.map_append]; rfl
/-! ### words -/
theorem sem_law_words : ∀ as Qd Xd, d_law_words as Qd Xd → as.length = ["_law_rows_here"].length ∧ r_law_words { nx := fun _ => Qd .non, rt := Qd } (as ++ List.replicate (["_law_rows_here", "_law_words_here", "_law_row", "_law_word"].length - as.length) .un) (fun _ => Xd) := by
  rintro as Qd Xd ⟨rs, rfl, hr, q⟩
  refine ⟨rfl, ?_⟩
  unfold r_law_words
  (try dsimp only [gN, gN2, sNil, sSeq, sExp, sRet, sIf, sPass, sCont, sBrk, sSet, sSetO, sApp, sFrz, sAug, sRaise, sAsg, sPut, eV, eC, e1, e2, t2, tBl, tTru, tN, tAn, tOo, tCh, eNot, eAn, eOo, eIf, eTup, eLst, eF, eFld, eIs, eIxO, eLenO, eSl, eRev, eB, eCall, eCallG, eMeth, aN, aC, aV, oNo, oPt, eIsO, oSrtI, oSrtT, oLt, oLe, oGt, oGe, oI, oIC, oI1, oAdd, oMul, oEq, oIsN, oIx, oLen, oList, oTuple, oAbs, oMin2, oInt1, fLst, fList, fRep, fCat, tYs, tru, isS, dats, seqD, seqO, tyS, List.set, List.getElem?_cons_zero, List.getElem?_cons_succ, List.append_eq, List.nil_append, List.cons_append, Option.map_some, Option.bind_some, ng, wipeD, List.length_cons, List.length_nil, Nat.reduceAdd, Nat.reduceSub, List.replicate_succ, List.replicate_zero, sFor, iRg1, iRg2, iSq, iEn, fLc]; try simp only [decide_eq_true_eq, Bool.not_eq_true', decide_eq_false_iff_not, Bool.false_eq_true, if_false, if_true, reduceIte, String.reduceBEq, Bool.true_or, Bool.false_or, Bool.or_false, Bool.and_false, Bool.false_and, Bool.and_true, Bool.true_and, Bool.not_true, Bool.not_false, ne_eq, not_true_eq_false, reduceCtorEq, Bool.true_eq_false, decide_true, decide_false])
  refine ⟨fun i ρ => ∃ y z, ρ = [.dat (.lst (natX rs)), .dat (.lst (natX (closeF (rs.take i)))), y, z], ⟨_, _, rfl⟩, ?_, ?_⟩
  · rintro i x ρ hx ⟨y, z, rfl⟩
    obtain ⟨r, hr', rfl⟩ := natX_get hx
    (try dsimp only [gN, gN2, sNil, sSeq, sExp, sRet, sIf, sPass, sCont, sBrk, sSet, sSetO, sApp, sFrz, sAug, sRaise, sAsg, sPut, eV, eC, e1, e2, t2, tBl, tTru, tN, tAn, tOo, tCh, eNot, eAn, eOo, eIf, eTup, eLst, eF, eFld, eIs, eIxO, eLenO, eSl, eRev, eB, eCall, eCallG, eMeth, aN, aC, aV, oNo, oPt, eIsO, oSrtI, oSrtT, oLt, oLe, oGt, oGe, oI, oIC, oI1, oAdd, oMul, oEq, oIsN, oIx, oLen, oList, oTuple, oAbs, oMin2, oInt1, fLst, fList, fRep, fCat, tYs, tru, isS, dats, seqD, seqO, tyS, List.set, List.getElem?_cons_zero, List.getElem?_cons_succ, List.append_eq, List.nil_append, List.cons_append, Option.map_some, Option.bind_some, ng, wipeD, List.length_cons, List.length_nil, Nat.reduceAdd, Nat.reduceSub, List.replicate_succ, List.replicate_zero, sFor, iRg1, iRg2, iSq, iEn, fLc]; try simp only [decide_eq_true_eq, Bool.not_eq_true', decide_eq_false_iff_not, Bool.false_eq_true, if_false, if_true, reduceIte, String.reduceBEq, Bool.true_or, Bool.false_or, Bool.or_false, Bool.and_false, Bool.false_and, Bool.and_true, Bool.true_and, Bool.not_true, Bool.not_false, ne_eq, not_true_eq_false, reduceCtorEq, Bool.true_eq_false, decide_true, decide_false])
    refine ⟨.int (r : Int), _, rfl, pyNs_nat _, shaped_int _, shaped_nats _, ?_⟩
    (try dsimp only [gN, gN2, sNil, sSeq, sExp, sRet, sIf, sPass, sCont, sBrk, sSet, sSetO, sApp, sFrz, sAug, sRaise, sAsg, sPut, eV, eC, e1, e2, t2, tBl, tTru, tN, tAn, tOo, tCh, eNot, eAn, eOo, eIf, eTup, eLst, eF, eFld, eIs, eIxO, eLenO, eSl, eRev, eB, eCall, eCallG, eMeth, aN, aC, aV, oNo, oPt, eIsO, oSrtI, oSrtT, oLt, oLe, oGt, oGe, oI, oIC, oI1, oAdd, oMul, oEq, oIsN, oIx, oLen, oList, oTuple, oAbs, oMin2, oInt1, fLst, fList, fRep, fCat, tYs, tru, isS, dats, seqD, seqO, tyS, List.set, List.getElem?_cons_zero, List.getElem?_cons_succ, List.append_eq, List.nil_append, List.cons_append, Option.map_some, Option.bind_some, ng, wipeD, List.length_cons, List.length_nil, Nat.reduceAdd, Nat.reduceSub, List.replicate_succ, List.replicate_zero]; try simp only [decide_eq_true_eq, Bool.not_eq_true', decide_eq_false_iff_not, Bool.false_eq_true, if_false, if_true, reduceIte, String.reduceBEq, Bool.true_or, Bool.false_or, Bool.or_false, Bool.and_false, Bool.false_and, Bool.and_true, Bool.true_and, Bool.not_true, Bool.not_false, ne_eq, not_true_eq_false, reduceCtorEq, Bool.true_eq_false, decide_true, decide_false])
    rw [any_eqv, take_snoc hr', closeF_snoc]
    have lt := closeF_lt (n := 16) (rs := rs.take i) fun z hz => hr z (List.mem_of_mem_take hz)
    have nd := (closeF_nodup (rs.take i)).1
    have len := nodup_len2 nd lt
    generalize closeF (rs.take i) = ws at lt nd len
    by_cases hm : r ∈ ws
    · rw [if_neg (by rw [decide_eq_true hm]; decide), if_pos hm]
      exact ⟨_, _, rfl⟩
    · rw [if_pos (by rw [decide_eq_false hm]), if_neg hm]
      refine ⟨by rw [natX_len]; omega, fun j acc => acc = natX ((ws.take j).map (· ^^^ r)), rfl, ?_, ?_⟩
      · rintro j x acc hj rfl
        obtain ⟨w, hw, rfl⟩ := natX_get hj
        (try dsimp only [gN, gN2, sNil, sSeq, sExp, sRet, sIf, sPass, sCont, sBrk, sSet, sSetO, sApp, sFrz, sAug, sRaise, sAsg, sPut, eV, eC, e1, e2, t2, tBl, tTru, tN, tAn, tOo, tCh, eNot, eAn, eOo, eIf, eTup, eLst, eF, eFld, eIs, eIxO, eLenO, eSl, eRev, eB, eCall, eCallG, eMeth, aN, aC, aV, oNo, oPt, eIsO, oSrtI, oSrtT, oLt, oLe, oGt, oGe, oI, oIC, oI1, oAdd, oMul, oEq, oIsN, oIx, oLen, oList, oTuple, oAbs, oMin2, oInt1, fLst, fList, fRep, fCat, tYs, tru, isS, dats, seqD, seqO, tyS, List.set, List.getElem?_cons_zero, List.getElem?_cons_succ, List.append_eq, List.nil_append, List.cons_append, Option.map_some, Option.bind_some, ng, wipeD, List.length_cons, List.length_nil, Nat.reduceAdd, Nat.reduceSub, List.replicate_succ, List.replicate_zero]; try simp only [decide_eq_true_eq, Bool.not_eq_true', decide_eq_false_iff_not, Bool.false_eq_true, if_false, if_true, reduceIte, String.reduceBEq, Bool.true_or, Bool.false_or, Bool.or_false, Bool.and_false, Bool.false_and, Bool.and_true, Bool.true_and, Bool.not_true, Bool.not_false, ne_eq, not_true_eq_false, reduceCtorEq, Bool.true_eq_false, decide_true, decide_false])
        rw [bitXor_nat, natX_one, natX_app, take_map (f := fun w => w ^^^ r) hw]
      · rintro acc rfl
        rw [natX_len, List.take_length]
        (try dsimp only [gN, gN2, sNil, sSeq, sExp, sRet, sIf, sPass, sCont, sBrk, sSet, sSetO, sApp, sFrz, sAug, sRaise, sAsg, sPut, eV, eC, e1, e2, t2, tBl, tTru, tN, tAn, tOo, tCh, eNot, eAn, eOo, eIf, eTup, eLst, eF, eFld, eIs, eIxO, eLenO, eSl, eRev, eB, eCall, eCallG, eMeth, aN, aC, aV, oNo, oPt, eIsO, oSrtI, oSrtT, oLt, oLe, oGt, oGe, oI, oIC, oI1, oAdd, oMul, oEq, oIsN, oIx, oLen, oList, oTuple, oAbs, oMin2, oInt1, fLst, fList, fRep, fCat, tYs, tru, isS, dats, seqD, seqO, tyS, List.set, List.getElem?_cons_zero, List.getElem?_cons_succ, List.append_eq, List.nil_append, List.cons_append, Option.map_some, Option.bind_some, ng, wipeD, List.length_cons, List.length_nil, Nat.reduceAdd, Nat.reduceSub, List.replicate_succ, List.replicate_zero]; try simp only [decide_eq_true_eq, Bool.not_eq_true', decide_eq_false_iff_not, Bool.false_eq_true, if_false, if_true, reduceIte, String.reduceBEq, Bool.true_or, Bool.false_or, Bool.or_false, Bool.and_false, Bool.false_and, Bool.and_true, Bool.true_and, Bool.not_true, Bool.not_false, ne_eq, not_true_eq_false, reduceCtorEq, Bool.true_eq_false, decide_true, decide_false])
        simp only [natX_len, List.length_map, natX_app]
        exact ⟨by omega, _, _, rfl⟩
  · rintro ρ ⟨y, z, rfl⟩
    (try dsimp only [gN, gN2, sNil, sSeq, sExp, sRet, sIf, sPass, sCont, sBrk, sSet, sSetO, sApp, sFrz, sAug, sRaise, sAsg, sPut, eV, eC, e1, e2, t2, tBl, tTru, tN, tAn, tOo, tCh, eNot, eAn, eOo, eIf, eTup, eLst, eF, eFld, eIs, eIxO, eLenO, eSl, eRev, eB, eCall, eCallG, eMeth, aN, aC, aV, oNo, oPt, eIsO, oSrtI, oSrtT, oLt, oLe, oGt, oGe, oI, oIC, oI1, oAdd, oMul, oEq, oIsN, oIx, oLen, oList, oTuple, oAbs, oMin2, oInt1, fLst, fList, fRep, fCat, tYs, tru, isS, dats, seqD, seqO, tyS, List.set, List.getElem?_cons_zero, List.getElem?_cons_succ, List.append_eq, List.nil_append, List.cons_append, Option.map_some, Option.bind_some, ng, wipeD, List.length_cons, List.length_nil, Nat.reduceAdd, Nat.reduceSub, List.replicate_succ, List.replicate_zero]; try simp only [decide_eq_true_eq, Bool.not_eq_true', decide_eq_false_iff_not, Bool.false_eq_true, if_false, if_true, reduceIte, String.reduceBEq, Bool.true_or, Bool.false_or, Bool.or_false, Bool.and_false, Bool.false_and, Bool.and_true, Bool.true_and, Bool.not_true, Bool.not_false, ne_eq, not_true_eq_false, reduceCtorEq, Bool.true_eq_false, decide_true, decide_false])
    rw [natX_len, List.take_length]
    exact q
/-! ### rows -/
theorem natX_snoc (l : List Nat) (p : Nat) : natX l ++ [D.int (p : Int)] = natX (l ++ [p]) := natX_app l [p]
/-- what stands behind the rows' making -/
theorem natX_at {l : List Nat} {i p : Nat} (h : l[i]? = some p) : atI (natX l) (i : Int) = some (.int (p : Int)) := by
  rw [at_nat]; unfold natX; rw [List.getElem?_map, h]; rfl
theorem natX_cons (p : Nat) (l : List Nat) : D.int (p : Int) :: natX l = natX (p :: l) := rfl
theorem lcMapN {fi : DI} {vs : List Nat} {i : Nat} {te : DE} {ρ : List Sl} {Q : List D → Prop} {Ed : DXt} (rs : List Nat) (f : Nat → Nat) (hf : ∀ R : List D → Prop, R (natX rs) → fi ρ R Ed) (hl : rs.length ≤ 1000000)
    (hs : ∀ r ∈ rs, ∀ Q' : D → Prop, Q' (.int (f r : Nat)) → te ((wipeD ρ vs).set i (.dat (.int (r : Int)))) Q' X0) (q : Q (natX (rs.map f))) : fLc fi vs i tYs te ρ Q Ed := by
  refine hf _ ⟨by rw [natX_len]; exact hl, fun j acc => acc = natX ((rs.take j).map f), rfl, ?_, ?_⟩
  · rintro j x acc hj rfl
    obtain ⟨r, hr, rfl⟩ := natX_get hj
    dsimp only [tYs]
    rw [if_pos rfl]
    refine hs r (List.mem_of_getElem? hr) _ ?_
    rw [natX_snoc, take_map (f := f) hr]
  · rintro acc rfl
    rw [natX_len, List.take_length]; exact q
def JRows (n : Nat) (sh : Int) (m : Nat) (ρ : List Sl) : Prop := ∃ (d : Int) (rs : List Nat) (a b c e f g : Sl), ρ = [.src, .dat (.int (n : Int)), .dat (.int sh), .dat (.int d), .own (natX rs), a, b, c, e, f, g] ∧ rs.length ≤ m ∧ ∀ r ∈ rs, r < 2 ^ n
theorem pow24 {n : Nat} (h : n ≤ 24) : ((2 ^ n : Nat) : Int) < 1073741824 := by
  have : 2 ^ n ≤ 2 ^ 24 := Nat.pow_le_pow_right (by decide) h
  omega
theorem lt_snoc {P : Nat → Prop} {l : List Nat} {x : Nat} (h : ∀ z ∈ l, P z) (hx : P x) : ∀ z ∈ l ++ [x], P z := fun z hz => by
  rcases List.mem_append.mp hz with hz | hz
  · exact h z hz
  · rw [List.mem_singleton.mp hz]; exact hx
theorem rolled_lt (row turn size : Nat) : rolledF row turn size < 2 ^ size := by
  unfold rolledF
  have := Nat.two_pow_pos size
  exact Nat.lt_of_le_of_lt Nat.and_le_right (by omega)
theorem copied_lt {row one other n : Nat} (h : row < 2 ^ n) (ho : other < n) : copiedF row one other < 2 ^ n := by
  have h1 : 2 ^ other < 2 ^ n := Nat.pow_lt_pow_right (by decide) ho
  have h2 : (row ||| 2 ^ other) ^^^ 2 ^ other < 2 ^ n := Nat.xor_lt_two_pow (Nat.or_lt_two_pow h h1) h1
  unfold copiedF
  split
  · exact h2
  · refine Nat.or_lt_two_pow h2 ?_
    have h3 : row >>> one &&& 1 ≤ 1 := Nat.and_le_right
    rw [Nat.shiftLeft_eq]
    exact Nat.lt_of_le_of_lt (Nat.mul_le_mul_right _ h3) (by rw [Nat.one_mul]; exact h1)
theorem sem_law_rows : ∀ as Qd Xd, d_law_rows as Qd Xd → as.length = ["_law_source_here", "_law_size"].length ∧ r_law_rows { nx := fun _ => Qd .non, rt := Qd } (as ++ List.replicate (["_law_source_here", "_law_size", "_law_shape", "_law_dim_here", "_law_rows_here", "_law_k", "_law_turn", "_law_row", "_law_one", "_law_other", "_law_low"].length - as.length) .un) (fun _ => Xd) := by
  rintro as Qd Xd ⟨n, rfl, n1, n24, q⟩
  refine ⟨rfl, ?_⟩
  have pn := pow24 n24
  have pn0 : (0 : Int) < ((2 ^ n : Nat) : Int) := by have := Nat.two_pow_pos n; omega
  unfold r_law_rows
  -- shape
  refine sJoin (fun ρ => ∃ sh : Int, 0 ≤ sh ∧ sh < 6 ∧ ρ = [.src, .dat (.int (n : Int)), .dat (.int sh), .un, .un, .un, .un, .un, .un, .un, .un]) ?_ (fun D' hn _ _ _ => ?_)
  rotate_left
  · (try dsimp only [gN, gN2, sNil, sSeq, sExp, sRet, sIf, sPass, sCont, sBrk, sSet, sSetO, sApp, sFrz, sAug, sRaise, sAsg, sPut, eV, eC, e1, e2, t2, tBl, tTru, tN, tAn, tOo, tCh, eNot, eAn, eOo, eIf, eTup, eLst, eF, eFld, eIs, eIxO, eLenO, eSl, eRev, eB, eCall, eCallG, eMeth, aN, aC, aV, oNo, oPt, eIsO, oSrtI, oSrtT, oLt, oLe, oGt, oGe, oI, oIC, oI1, oAdd, oMul, oEq, oIsN, oIx, oLen, oList, oTuple, oAbs, oMin2, oInt1, fLst, fList, fRep, fCat, tYs, tru, isS, dats, seqD, seqO, tyS, List.set, List.getElem?_cons_zero, List.getElem?_cons_succ, List.append_eq, List.nil_append, List.cons_append, Option.map_some, Option.bind_some, ng, wipeD, List.length_cons, List.length_nil, Nat.reduceAdd, Nat.reduceSub, List.replicate_succ, List.replicate_zero]; try simp only [decide_eq_true_eq, Bool.not_eq_true', decide_eq_false_iff_not, Bool.false_eq_true, if_false, if_true, reduceIte, String.reduceBEq, Bool.true_or, Bool.false_or, Bool.or_false, Bool.and_false, Bool.false_and, Bool.and_true, Bool.true_and, Bool.not_true, Bool.not_false, ne_eq, not_true_eq_false, reduceCtorEq, Bool.true_eq_false, decide_true, decide_false])
    exact ⟨6, rfl, by decide, by decide, fun sh s0 s1 => hn _ ⟨sh, s0, s1, rfl⟩⟩
  rintro ρ ⟨sh, s0, s1, rfl⟩
  -- dim
  refine sJoin (fun ρ => ∃ d : Nat, d ≤ n ∧ ρ = [.src, .dat (.int (n : Int)), .dat (.int sh), .dat (.int (d : Int)), .un, .un, .un, .un, .un, .un, .un]) ?_ (fun D' hn _ _ _ => ?_)
  rotate_left
  · (try dsimp only [gN, gN2, sNil, sSeq, sExp, sRet, sIf, sPass, sCont, sBrk, sSet, sSetO, sApp, sFrz, sAug, sRaise, sAsg, sPut, eV, eC, e1, e2, t2, tBl, tTru, tN, tAn, tOo, tCh, eNot, eAn, eOo, eIf, eTup, eLst, eF, eFld, eIs, eIxO, eLenO, eSl, eRev, eB, eCall, eCallG, eMeth, aN, aC, aV, oNo, oPt, eIsO, oSrtI, oSrtT, oLt, oLe, oGt, oGe, oI, oIC, oI1, oAdd, oMul, oEq, oIsN, oIx, oLen, oList, oTuple, oAbs, oMin2, oInt1, fLst, fList, fRep, fCat, tYs, tru, isS, dats, seqD, seqO, tyS, List.set, List.getElem?_cons_zero, List.getElem?_cons_succ, List.append_eq, List.nil_append, List.cons_append, Option.map_some, Option.bind_some, ng, wipeD, List.length_cons, List.length_nil, Nat.reduceAdd, Nat.reduceSub, List.replicate_succ, List.replicate_zero]; try simp only [decide_eq_true_eq, Bool.not_eq_true', decide_eq_false_iff_not, Bool.false_eq_true, if_false, if_true, reduceIte, String.reduceBEq, Bool.true_or, Bool.false_or, Bool.or_false, Bool.and_false, Bool.false_and, Bool.and_true, Bool.true_and, Bool.not_true, Bool.not_false, ne_eq, not_true_eq_false, reduceCtorEq, Bool.true_eq_false, decide_true, decide_false])
    refine ⟨(n : Int) + 1, rfl, by omega, by omega, fun d d0 d1 => ?_⟩
    obtain ⟨d, rfl⟩ := Int.eq_ofNat_of_zero_le d0
    exact hn _ ⟨d, by omega, rfl⟩
  rintro ρ ⟨d, hd, rfl⟩
  refine sJoin (fun ρ => ρ = [.src, .dat (.int (n : Int)), .dat (.int sh), .dat (.int (d : Int)), .own [], .un, .un, .un, .un, .un, .un]) ?_ (fun D' hn _ _ _ => ?_)
  rotate_left
  · (try dsimp only [gN, gN2, sNil, sSeq, sExp, sRet, sIf, sPass, sCont, sBrk, sSet, sSetO, sApp, sFrz, sAug, sRaise, sAsg, sPut, eV, eC, e1, e2, t2, tBl, tTru, tN, tAn, tOo, tCh, eNot, eAn, eOo, eIf, eTup, eLst, eF, eFld, eIs, eIxO, eLenO, eSl, eRev, eB, eCall, eCallG, eMeth, aN, aC, aV, oNo, oPt, eIsO, oSrtI, oSrtT, oLt, oLe, oGt, oGe, oI, oIC, oI1, oAdd, oMul, oEq, oIsN, oIx, oLen, oList, oTuple, oAbs, oMin2, oInt1, fLst, fList, fRep, fCat, tYs, tru, isS, dats, seqD, seqO, tyS, List.set, List.getElem?_cons_zero, List.getElem?_cons_succ, List.append_eq, List.nil_append, List.cons_append, Option.map_some, Option.bind_some, ng, wipeD, List.length_cons, List.length_nil, Nat.reduceAdd, Nat.reduceSub, List.replicate_succ, List.replicate_zero]; try simp only [decide_eq_true_eq, Bool.not_eq_true', decide_eq_false_iff_not, Bool.false_eq_true, if_false, if_true, reduceIte, String.reduceBEq, Bool.true_or, Bool.false_or, Bool.or_false, Bool.and_false, Bool.false_and, Bool.and_true, Bool.true_and, Bool.not_true, Bool.not_false, ne_eq, not_true_eq_false, reduceCtorEq, Bool.true_eq_false, decide_true, decide_false])
    exact hn _ rfl
  rintro ρ rfl
  -- drawn rows
  refine sJoin (JRows n sh (n + 1)) ?_ (fun D' hn _ _ _ => ?_)
  rotate_left
  · (try dsimp only [gN, gN2, sNil, sSeq, sExp, sRet, sIf, sPass, sCont, sBrk, sSet, sSetO, sApp, sFrz, sAug, sRaise, sAsg, sPut, eV, eC, e1, e2, t2, tBl, tTru, tN, tAn, tOo, tCh, eNot, eAn, eOo, eIf, eTup, eLst, eF, eFld, eIs, eIxO, eLenO, eSl, eRev, eB, eCall, eCallG, eMeth, aN, aC, aV, oNo, oPt, eIsO, oSrtI, oSrtT, oLt, oLe, oGt, oGe, oI, oIC, oI1, oAdd, oMul, oEq, oIsN, oIx, oLen, oList, oTuple, oAbs, oMin2, oInt1, fLst, fList, fRep, fCat, tYs, tru, isS, dats, seqD, seqO, tyS, List.set, List.getElem?_cons_zero, List.getElem?_cons_succ, List.append_eq, List.nil_append, List.cons_append, Option.map_some, Option.bind_some, ng, wipeD, List.length_cons, List.length_nil, Nat.reduceAdd, Nat.reduceSub, List.replicate_succ, List.replicate_zero]; try simp only [decide_eq_true_eq, Bool.not_eq_true', decide_eq_false_iff_not, Bool.false_eq_true, if_false, if_true, reduceIte, String.reduceBEq, Bool.true_or, Bool.false_or, Bool.or_false, Bool.and_false, Bool.false_and, Bool.and_true, Bool.true_and, Bool.not_true, Bool.not_false, ne_eq, not_true_eq_false, reduceCtorEq, Bool.true_eq_false, decide_true, decide_false])
    by_cases h : sh < 2
    · rw [if_pos h]
      refine ⟨by omega, by omega, fun i ρ => ∃ (rs : List Nat) (z : Sl), ρ = [.src, .dat (.int (n : Int)), .dat (.int sh), .dat (.int (d : Int)), .own (natX rs), z, .un, .un, .un, .un, .un] ∧ rs.length = i ∧ ∀ r ∈ rs, r < 2 ^ n, ⟨[], _, rfl, rfl, fun _ h => nomatch h⟩, ?_, ?_⟩
      · rintro i x ρ hx ⟨rs, z, rfl, hl, hr⟩
        obtain ⟨hi, rfl⟩ := rgD_get hx
        (try dsimp only [gN, gN2, sNil, sSeq, sExp, sRet, sIf, sPass, sCont, sBrk, sSet, sSetO, sApp, sFrz, sAug, sRaise, sAsg, sPut, eV, eC, e1, e2, t2, tBl, tTru, tN, tAn, tOo, tCh, eNot, eAn, eOo, eIf, eTup, eLst, eF, eFld, eIs, eIxO, eLenO, eSl, eRev, eB, eCall, eCallG, eMeth, aN, aC, aV, oNo, oPt, eIsO, oSrtI, oSrtT, oLt, oLe, oGt, oGe, oI, oIC, oI1, oAdd, oMul, oEq, oIsN, oIx, oLen, oList, oTuple, oAbs, oMin2, oInt1, fLst, fList, fRep, fCat, tYs, tru, isS, dats, seqD, seqO, tyS, List.set, List.getElem?_cons_zero, List.getElem?_cons_succ, List.append_eq, List.nil_append, List.cons_append, Option.map_some, Option.bind_some, ng, wipeD, List.length_cons, List.length_nil, Nat.reduceAdd, Nat.reduceSub, List.replicate_succ, List.replicate_zero]; try simp only [decide_eq_true_eq, Bool.not_eq_true', decide_eq_false_iff_not, Bool.false_eq_true, if_false, if_true, reduceIte, String.reduceBEq, Bool.true_or, Bool.false_or, Bool.or_false, Bool.and_false, Bool.false_and, Bool.and_true, Bool.true_and, Bool.not_true, Bool.not_false, ne_eq, not_true_eq_false, reduceCtorEq, Bool.true_eq_false, decide_true, decide_false])
        rw [shl1_nat]
        refine ⟨cpow1 (by omega), _, rfl, pn0, pn, fun v v0 v1 => ?_⟩
        obtain ⟨v, rfl⟩ := Int.eq_ofNat_of_zero_le v0
        (try dsimp only [gN, gN2, sNil, sSeq, sExp, sRet, sIf, sPass, sCont, sBrk, sSet, sSetO, sApp, sFrz, sAug, sRaise, sAsg, sPut, eV, eC, e1, e2, t2, tBl, tTru, tN, tAn, tOo, tCh, eNot, eAn, eOo, eIf, eTup, eLst, eF, eFld, eIs, eIxO, eLenO, eSl, eRev, eB, eCall, eCallG, eMeth, aN, aC, aV, oNo, oPt, eIsO, oSrtI, oSrtT, oLt, oLe, oGt, oGe, oI, oIC, oI1, oAdd, oMul, oEq, oIsN, oIx, oLen, oList, oTuple, oAbs, oMin2, oInt1, fLst, fList, fRep, fCat, tYs, tru, isS, dats, seqD, seqO, tyS, List.set, List.getElem?_cons_zero, List.getElem?_cons_succ, List.append_eq, List.nil_append, List.cons_append, Option.map_some, Option.bind_some, ng, wipeD, List.length_cons, List.length_nil, Nat.reduceAdd, Nat.reduceSub, List.replicate_succ, List.replicate_zero]; try simp only [decide_eq_true_eq, Bool.not_eq_true', decide_eq_false_iff_not, Bool.false_eq_true, if_false, if_true, reduceIte, String.reduceBEq, Bool.true_or, Bool.false_or, Bool.or_false, Bool.and_false, Bool.false_and, Bool.and_true, Bool.true_and, Bool.not_true, Bool.not_false, ne_eq, not_true_eq_false, reduceCtorEq, Bool.true_eq_false, decide_true, decide_false])
        rw [natX_snoc, natX_len]
        refine ⟨by omega, rs ++ [v], _, rfl, by rw [List.length_append, hl]; rfl, lt_snoc hr (by omega)⟩
      · rintro ρ ⟨rs, z, rfl, hl, hr⟩
        rw [rgD_len] at hl
        exact hn _ ⟨_, rs, _, _, _, _, _, _, rfl, by omega, hr⟩
    · rw [if_neg h]
      refine ⟨_, rfl, by omega, by omega, fun t t0 t1 => ?_⟩
      obtain ⟨t, rfl⟩ := Int.eq_ofNat_of_zero_le t0
      refine ⟨by omega, by omega, fun i ρ => ∃ (rs : List Nat) (z y : Sl), ρ = [.src, .dat (.int (n : Int)), .dat (.int sh), .dat (.int (d : Int)), .own (natX rs), z, .dat (.int (t : Int)), y, .un, .un, .un] ∧ rs.length = i ∧ ∀ r ∈ rs, r < 2 ^ n, ⟨[], _, _, rfl, rfl, fun _ h => nomatch h⟩, ?_, ?_⟩
      · rintro i x ρ hx ⟨rs, z, y, rfl, hl, hr⟩
        obtain ⟨hi, rfl⟩ := rgD_get hx
        rw [Int.toNat_natCast] at hi
        (try dsimp only [gN, gN2, sNil, sSeq, sExp, sRet, sIf, sPass, sCont, sBrk, sSet, sSetO, sApp, sFrz, sAug, sRaise, sAsg, sPut, eV, eC, e1, e2, t2, tBl, tTru, tN, tAn, tOo, tCh, eNot, eAn, eOo, eIf, eTup, eLst, eF, eFld, eIs, eIxO, eLenO, eSl, eRev, eB, eCall, eCallG, eMeth, aN, aC, aV, oNo, oPt, eIsO, oSrtI, oSrtT, oLt, oLe, oGt, oGe, oI, oIC, oI1, oAdd, oMul, oEq, oIsN, oIx, oLen, oList, oTuple, oAbs, oMin2, oInt1, fLst, fList, fRep, fCat, tYs, tru, isS, dats, seqD, seqO, tyS, List.set, List.getElem?_cons_zero, List.getElem?_cons_succ, List.append_eq, List.nil_append, List.cons_append, Option.map_some, Option.bind_some, ng, wipeD, List.length_cons, List.length_nil, Nat.reduceAdd, Nat.reduceSub, List.replicate_succ, List.replicate_zero]; try simp only [decide_eq_true_eq, Bool.not_eq_true', decide_eq_false_iff_not, Bool.false_eq_true, if_false, if_true, reduceIte, String.reduceBEq, Bool.true_or, Bool.false_or, Bool.or_false, Bool.and_false, Bool.false_and, Bool.and_true, Bool.true_and, Bool.not_true, Bool.not_false, ne_eq, not_true_eq_false, reduceCtorEq, Bool.true_eq_false, decide_true, decide_false])
        have e1 : (n : Int) - (d : Int) = ((n - d : Nat) : Int) := by omega
        rw [Int.zero_add, shl1_nat, e1, shl1_nat]
        have p1 : 2 ^ (n - d) ≤ 2 ^ n := Nat.pow_le_pow_right (by decide) (by omega)
        have p2 := Nat.two_pow_pos (n - d)
        refine ⟨cpow1 (by omega), cpow1 (by omega), _, rfl, by omega, by omega, fun v v0 v1 => ?_⟩
        obtain ⟨v, rfl⟩ := Int.eq_ofNat_of_zero_le v0
        (try dsimp only [gN, gN2, sNil, sSeq, sExp, sRet, sIf, sPass, sCont, sBrk, sSet, sSetO, sApp, sFrz, sAug, sRaise, sAsg, sPut, eV, eC, e1, e2, t2, tBl, tTru, tN, tAn, tOo, tCh, eNot, eAn, eOo, eIf, eTup, eLst, eF, eFld, eIs, eIxO, eLenO, eSl, eRev, eB, eCall, eCallG, eMeth, aN, aC, aV, oNo, oPt, eIsO, oSrtI, oSrtT, oLt, oLe, oGt, oGe, oI, oIC, oI1, oAdd, oMul, oEq, oIsN, oIx, oLen, oList, oTuple, oAbs, oMin2, oInt1, fLst, fList, fRep, fCat, tYs, tru, isS, dats, seqD, seqO, tyS, List.set, List.getElem?_cons_zero, List.getElem?_cons_succ, List.append_eq, List.nil_append, List.cons_append, Option.map_some, Option.bind_some, ng, wipeD, List.length_cons, List.length_nil, Nat.reduceAdd, Nat.reduceSub, List.replicate_succ, List.replicate_zero]; try simp only [decide_eq_true_eq, Bool.not_eq_true', decide_eq_false_iff_not, Bool.false_eq_true, if_false, if_true, reduceIte, String.reduceBEq, Bool.true_or, Bool.false_or, Bool.or_false, Bool.and_false, Bool.false_and, Bool.and_true, Bool.true_and, Bool.not_true, Bool.not_false, ne_eq, not_true_eq_false, reduceCtorEq, Bool.true_eq_false, decide_true, decide_false])
        rw [shl_nat, bitOr_nat]
        have p3 : 2 ^ n ≤ 2 ^ 24 := Nat.pow_le_pow_right (by decide) n24
        have hv : v < 2 ^ (n - d) := by omega
        have hv2 : v <<< d < 2 ^ 48 := by
          rw [Nat.shiftLeft_eq]
          have p4 : 2 ^ d ≤ 2 ^ 24 := Nat.pow_le_pow_right (by decide) (by omega)
          exact Nat.lt_of_lt_of_le (Nat.mul_lt_mul_of_lt_of_le (show v < 2 ^ 24 by omega) p4 (by decide)) (by decide)
        have hk : 2 ^ i < 2 ^ 48 := Nat.pow_lt_pow_right (by decide) (by omega)
        refine ⟨cpowN (by omega) (by omega), _, t, n, rfl, Nat.lt_trans (Nat.or_lt_two_pow hk hv2) (by decide), by omega, by omega, ?_⟩
        (try dsimp only [gN, gN2, sNil, sSeq, sExp, sRet, sIf, sPass, sCont, sBrk, sSet, sSetO, sApp, sFrz, sAug, sRaise, sAsg, sPut, eV, eC, e1, e2, t2, tBl, tTru, tN, tAn, tOo, tCh, eNot, eAn, eOo, eIf, eTup, eLst, eF, eFld, eIs, eIxO, eLenO, eSl, eRev, eB, eCall, eCallG, eMeth, aN, aC, aV, oNo, oPt, eIsO, oSrtI, oSrtT, oLt, oLe, oGt, oGe, oI, oIC, oI1, oAdd, oMul, oEq, oIsN, oIx, oLen, oList, oTuple, oAbs, oMin2, oInt1, fLst, fList, fRep, fCat, tYs, tru, isS, dats, seqD, seqO, tyS, List.set, List.getElem?_cons_zero, List.getElem?_cons_succ, List.append_eq, List.nil_append, List.cons_append, Option.map_some, Option.bind_some, ng, wipeD, List.length_cons, List.length_nil, Nat.reduceAdd, Nat.reduceSub, List.replicate_succ, List.replicate_zero]; try simp only [decide_eq_true_eq, Bool.not_eq_true', decide_eq_false_iff_not, Bool.false_eq_true, if_false, if_true, reduceIte, String.reduceBEq, Bool.true_or, Bool.false_or, Bool.or_false, Bool.and_false, Bool.false_and, Bool.and_true, Bool.true_and, Bool.not_true, Bool.not_false, ne_eq, not_true_eq_false, reduceCtorEq, Bool.true_eq_false, decide_true, decide_false])
        rw [natX_snoc, natX_len]
        exact ⟨by omega, rs ++ [_], _, _, rfl, by rw [List.length_append, hl]; rfl, lt_snoc hr (rolled_lt _ _ _)⟩
      · rintro ρ ⟨rs, z, y, rfl, hl, hr⟩
        rw [rgD_len, Int.toNat_natCast] at hl
        exact hn _ ⟨_, rs, _, _, _, _, _, _, rfl, by omega, hr⟩
  rintro ρ ⟨d, rs, a, b, c, e, f, g, rfl, hl, hr⟩
  -- two places alike
  refine sJoin (JRows n sh (n + 1)) ?_ (fun D' hn _ _ _ => ?_)
  rotate_left
  · (try dsimp only [gN, gN2, sNil, sSeq, sExp, sRet, sIf, sPass, sCont, sBrk, sSet, sSetO, sApp, sFrz, sAug, sRaise, sAsg, sPut, eV, eC, e1, e2, t2, tBl, tTru, tN, tAn, tOo, tCh, eNot, eAn, eOo, eIf, eTup, eLst, eF, eFld, eIs, eIxO, eLenO, eSl, eRev, eB, eCall, eCallG, eMeth, aN, aC, aV, oNo, oPt, eIsO, oSrtI, oSrtT, oLt, oLe, oGt, oGe, oI, oIC, oI1, oAdd, oMul, oEq, oIsN, oIx, oLen, oList, oTuple, oAbs, oMin2, oInt1, fLst, fList, fRep, fCat, tYs, tru, isS, dats, seqD, seqO, tyS, List.set, List.getElem?_cons_zero, List.getElem?_cons_succ, List.append_eq, List.nil_append, List.cons_append, Option.map_some, Option.bind_some, ng, wipeD, List.length_cons, List.length_nil, Nat.reduceAdd, Nat.reduceSub, List.replicate_succ, List.replicate_zero]; try simp only [decide_eq_true_eq, Bool.not_eq_true', decide_eq_false_iff_not, Bool.false_eq_true, if_false, if_true, reduceIte, String.reduceBEq, Bool.true_or, Bool.false_or, Bool.or_false, Bool.and_false, Bool.false_and, Bool.and_true, Bool.true_and, Bool.not_true, Bool.not_false, ne_eq, not_true_eq_false, reduceCtorEq, Bool.true_eq_false, decide_true, decide_false])
    by_cases h : sh = 3
    · rw [if_pos h]
      refine ⟨_, rfl, by omega, by omega, fun o o0 o1 => ?_⟩
      obtain ⟨o, rfl⟩ := Int.eq_ofNat_of_zero_le o0
      (try dsimp only [gN, gN2, sNil, sSeq, sExp, sRet, sIf, sPass, sCont, sBrk, sSet, sSetO, sApp, sFrz, sAug, sRaise, sAsg, sPut, eV, eC, e1, e2, t2, tBl, tTru, tN, tAn, tOo, tCh, eNot, eAn, eOo, eIf, eTup, eLst, eF, eFld, eIs, eIxO, eLenO, eSl, eRev, eB, eCall, eCallG, eMeth, aN, aC, aV, oNo, oPt, eIsO, oSrtI, oSrtT, oLt, oLe, oGt, oGe, oI, oIC, oI1, oAdd, oMul, oEq, oIsN, oIx, oLen, oList, oTuple, oAbs, oMin2, oInt1, fLst, fList, fRep, fCat, tYs, tru, isS, dats, seqD, seqO, tyS, List.set, List.getElem?_cons_zero, List.getElem?_cons_succ, List.append_eq, List.nil_append, List.cons_append, Option.map_some, Option.bind_some, ng, wipeD, List.length_cons, List.length_nil, Nat.reduceAdd, Nat.reduceSub, List.replicate_succ, List.replicate_zero]; try simp only [decide_eq_true_eq, Bool.not_eq_true', decide_eq_false_iff_not, Bool.false_eq_true, if_false, if_true, reduceIte, String.reduceBEq, Bool.true_or, Bool.false_or, Bool.or_false, Bool.and_false, Bool.false_and, Bool.and_true, Bool.true_and, Bool.not_true, Bool.not_false, ne_eq, not_true_eq_false, reduceCtorEq, Bool.true_eq_false, decide_true, decide_false])
      refine ⟨_, rfl, by omega, by omega, fun u u0 u1 => ?_⟩
      obtain ⟨u, rfl⟩ := Int.eq_ofNat_of_zero_le u0
      (try dsimp only [gN, gN2, sNil, sSeq, sExp, sRet, sIf, sPass, sCont, sBrk, sSet, sSetO, sApp, sFrz, sAug, sRaise, sAsg, sPut, eV, eC, e1, e2, t2, tBl, tTru, tN, tAn, tOo, tCh, eNot, eAn, eOo, eIf, eTup, eLst, eF, eFld, eIs, eIxO, eLenO, eSl, eRev, eB, eCall, eCallG, eMeth, aN, aC, aV, oNo, oPt, eIsO, oSrtI, oSrtT, oLt, oLe, oGt, oGe, oI, oIC, oI1, oAdd, oMul, oEq, oIsN, oIx, oLen, oList, oTuple, oAbs, oMin2, oInt1, fLst, fList, fRep, fCat, tYs, tru, isS, dats, seqD, seqO, tyS, List.set, List.getElem?_cons_zero, List.getElem?_cons_succ, List.append_eq, List.nil_append, List.cons_append, Option.map_some, Option.bind_some, ng, wipeD, List.length_cons, List.length_nil, Nat.reduceAdd, Nat.reduceSub, List.replicate_succ, List.replicate_zero]; try simp only [decide_eq_true_eq, Bool.not_eq_true', decide_eq_false_iff_not, Bool.false_eq_true, if_false, if_true, reduceIte, String.reduceBEq, Bool.true_or, Bool.false_or, Bool.or_false, Bool.and_false, Bool.false_and, Bool.and_true, Bool.true_and, Bool.not_true, Bool.not_false, ne_eq, not_true_eq_false, reduceCtorEq, Bool.true_eq_false, decide_true, decide_false])
      refine ⟨by rw [natX_len]; omega, fun j acc => acc = natX ((rs.take j).map fun r => copiedF r o u), rfl, ?_, ?_⟩
      · rintro j x acc hj rfl
        obtain ⟨r, hr', rfl⟩ := natX_get hj
        (try dsimp only [gN, gN2, sNil, sSeq, sExp, sRet, sIf, sPass, sCont, sBrk, sSet, sSetO, sApp, sFrz, sAug, sRaise, sAsg, sPut, eV, eC, e1, e2, t2, tBl, tTru, tN, tAn, tOo, tCh, eNot, eAn, eOo, eIf, eTup, eLst, eF, eFld, eIs, eIxO, eLenO, eSl, eRev, eB, eCall, eCallG, eMeth, aN, aC, aV, oNo, oPt, eIsO, oSrtI, oSrtT, oLt, oLe, oGt, oGe, oI, oIC, oI1, oAdd, oMul, oEq, oIsN, oIx, oLen, oList, oTuple, oAbs, oMin2, oInt1, fLst, fList, fRep, fCat, tYs, tru, isS, dats, seqD, seqO, tyS, List.set, List.getElem?_cons_zero, List.getElem?_cons_succ, List.append_eq, List.nil_append, List.cons_append, Option.map_some, Option.bind_some, ng, wipeD, List.length_cons, List.length_nil, Nat.reduceAdd, Nat.reduceSub, List.replicate_succ, List.replicate_zero]; try simp only [decide_eq_true_eq, Bool.not_eq_true', decide_eq_false_iff_not, Bool.false_eq_true, if_false, if_true, reduceIte, String.reduceBEq, Bool.true_or, Bool.false_or, Bool.or_false, Bool.and_false, Bool.false_and, Bool.and_true, Bool.true_and, Bool.not_true, Bool.not_false, ne_eq, not_true_eq_false, reduceCtorEq, Bool.true_eq_false, decide_true, decide_false])
        refine ⟨r, o, u, rfl, by omega, by omega, ?_⟩
        (try dsimp only [gN, gN2, sNil, sSeq, sExp, sRet, sIf, sPass, sCont, sBrk, sSet, sSetO, sApp, sFrz, sAug, sRaise, sAsg, sPut, eV, eC, e1, e2, t2, tBl, tTru, tN, tAn, tOo, tCh, eNot, eAn, eOo, eIf, eTup, eLst, eF, eFld, eIs, eIxO, eLenO, eSl, eRev, eB, eCall, eCallG, eMeth, aN, aC, aV, oNo, oPt, eIsO, oSrtI, oSrtT, oLt, oLe, oGt, oGe, oI, oIC, oI1, oAdd, oMul, oEq, oIsN, oIx, oLen, oList, oTuple, oAbs, oMin2, oInt1, fLst, fList, fRep, fCat, tYs, tru, isS, dats, seqD, seqO, tyS, List.set, List.getElem?_cons_zero, List.getElem?_cons_succ, List.append_eq, List.nil_append, List.cons_append, Option.map_some, Option.bind_some, ng, wipeD, List.length_cons, List.length_nil, Nat.reduceAdd, Nat.reduceSub, List.replicate_succ, List.replicate_zero]; try simp only [decide_eq_true_eq, Bool.not_eq_true', decide_eq_false_iff_not, Bool.false_eq_true, if_false, if_true, reduceIte, String.reduceBEq, Bool.true_or, Bool.false_or, Bool.or_false, Bool.and_false, Bool.false_and, Bool.and_true, Bool.true_and, Bool.not_true, Bool.not_false, ne_eq, not_true_eq_false, reduceCtorEq, Bool.true_eq_false, decide_true, decide_false])
        rw [natX_snoc, take_map (f := fun r => copiedF r o u) hr']
      · rintro acc rfl
        rw [natX_len, List.take_length]
        refine hn _ ⟨_, _, _, _, _, _, _, _, rfl, by rw [List.length_map]; exact hl, fun r hr' => ?_⟩
        obtain ⟨s, hs, rfl⟩ := List.mem_map.mp hr'
        exact copied_lt (hr s hs) (by omega)
    · rw [if_neg h]
      exact hn _ ⟨_, rs, _, _, _, _, _, _, rfl, hl, hr⟩
  rintro ρ ⟨d, rs, a, b, c, e, f, g, rfl, hl, hr⟩
  -- two books side by side
  refine sJoin (JRows n sh (2 * n + 2)) ?_ (fun D' hn _ _ _ => ?_)
  rotate_left
  · (try dsimp only [gN, gN2, sNil, sSeq, sExp, sRet, sIf, sPass, sCont, sBrk, sSet, sSetO, sApp, sFrz, sAug, sRaise, sAsg, sPut, eV, eC, e1, e2, t2, tBl, tTru, tN, tAn, tOo, tCh, eNot, eAn, eOo, eIf, eTup, eLst, eF, eFld, eIs, eIxO, eLenO, eSl, eRev, eB, eCall, eCallG, eMeth, aN, aC, aV, oNo, oPt, eIsO, oSrtI, oSrtT, oLt, oLe, oGt, oGe, oI, oIC, oI1, oAdd, oMul, oEq, oIsN, oIx, oLen, oList, oTuple, oAbs, oMin2, oInt1, fLst, fList, fRep, fCat, tYs, tru, isS, dats, seqD, seqO, tyS, List.set, List.getElem?_cons_zero, List.getElem?_cons_succ, List.append_eq, List.nil_append, List.cons_append, Option.map_some, Option.bind_some, ng, wipeD, List.length_cons, List.length_nil, Nat.reduceAdd, Nat.reduceSub, List.replicate_succ, List.replicate_zero]; try simp only [decide_eq_true_eq, Bool.not_eq_true', decide_eq_false_iff_not, Bool.false_eq_true, if_false, if_true, reduceIte, String.reduceBEq, Bool.true_or, Bool.false_or, Bool.or_false, Bool.and_false, Bool.false_and, Bool.and_true, Bool.true_and, Bool.not_true, Bool.not_false, ne_eq, not_true_eq_false, reduceCtorEq, Bool.true_eq_false, decide_true, decide_false])
    by_cases h : sh = 4
    · rw [if_pos h]
      refine ⟨_, rfl, by omega, by omega, fun v v0 v1 => ?_⟩
      obtain ⟨v, rfl⟩ := Int.eq_ofNat_of_zero_le v0
      (try dsimp only [gN, gN2, sNil, sSeq, sExp, sRet, sIf, sPass, sCont, sBrk, sSet, sSetO, sApp, sFrz, sAug, sRaise, sAsg, sPut, eV, eC, e1, e2, t2, tBl, tTru, tN, tAn, tOo, tCh, eNot, eAn, eOo, eIf, eTup, eLst, eF, eFld, eIs, eIxO, eLenO, eSl, eRev, eB, eCall, eCallG, eMeth, aN, aC, aV, oNo, oPt, eIsO, oSrtI, oSrtT, oLt, oLe, oGt, oGe, oI, oIC, oI1, oAdd, oMul, oEq, oIsN, oIx, oLen, oList, oTuple, oAbs, oMin2, oInt1, fLst, fList, fRep, fCat, tYs, tru, isS, dats, seqD, seqO, tyS, List.set, List.getElem?_cons_zero, List.getElem?_cons_succ, List.append_eq, List.nil_append, List.cons_append, Option.map_some, Option.bind_some, ng, wipeD, List.length_cons, List.length_nil, Nat.reduceAdd, Nat.reduceSub, List.replicate_succ, List.replicate_zero]; try simp only [decide_eq_true_eq, Bool.not_eq_true', decide_eq_false_iff_not, Bool.false_eq_true, if_false, if_true, reduceIte, String.reduceBEq, Bool.true_or, Bool.false_or, Bool.or_false, Bool.and_false, Bool.false_and, Bool.and_true, Bool.true_and, Bool.not_true, Bool.not_false, ne_eq, not_true_eq_false, reduceCtorEq, Bool.true_eq_false, decide_true, decide_false])
      refine ⟨cpow1 (by omega), ?_⟩
      have eL : (1 : Int) * 2 ^ ((v : Int).toNat) - 1 = ((2 ^ v - 1 : Nat) : Int) := by
        have := Nat.two_pow_pos v
        rw [shl1_nat]; omega
      rw [eL]
      refine lcMapN rs (fun r => r &&& (2 ^ v - 1)) (fun _ h => h) (by omega) (fun r hr Q' q => ?_) ?_
      · (try dsimp only [gN, gN2, sNil, sSeq, sExp, sRet, sIf, sPass, sCont, sBrk, sSet, sSetO, sApp, sFrz, sAug, sRaise, sAsg, sPut, eV, eC, e1, e2, t2, tBl, tTru, tN, tAn, tOo, tCh, eNot, eAn, eOo, eIf, eTup, eLst, eF, eFld, eIs, eIxO, eLenO, eSl, eRev, eB, eCall, eCallG, eMeth, aN, aC, aV, oNo, oPt, eIsO, oSrtI, oSrtT, oLt, oLe, oGt, oGe, oI, oIC, oI1, oAdd, oMul, oEq, oIsN, oIx, oLen, oList, oTuple, oAbs, oMin2, oInt1, fLst, fList, fRep, fCat, tYs, tru, isS, dats, seqD, seqO, tyS, List.set, List.getElem?_cons_zero, List.getElem?_cons_succ, List.append_eq, List.nil_append, List.cons_append, Option.map_some, Option.bind_some, ng, wipeD, List.length_cons, List.length_nil, Nat.reduceAdd, Nat.reduceSub, List.replicate_succ, List.replicate_zero]; try simp only [decide_eq_true_eq, Bool.not_eq_true', decide_eq_false_iff_not, Bool.false_eq_true, if_false, if_true, reduceIte, String.reduceBEq, Bool.true_or, Bool.false_or, Bool.or_false, Bool.and_false, Bool.false_and, Bool.and_true, Bool.true_and, Bool.not_true, Bool.not_false, ne_eq, not_true_eq_false, reduceCtorEq, Bool.true_eq_false, decide_true, decide_false])
        rw [bitAnd_nat]; exact q
      refine lcMapN rs (fun r => r ^^^ (r &&& (2 ^ v - 1))) (fun _ h => h) (by omega) (fun r hr Q' q => ?_) ?_
      · (try dsimp only [gN, gN2, sNil, sSeq, sExp, sRet, sIf, sPass, sCont, sBrk, sSet, sSetO, sApp, sFrz, sAug, sRaise, sAsg, sPut, eV, eC, e1, e2, t2, tBl, tTru, tN, tAn, tOo, tCh, eNot, eAn, eOo, eIf, eTup, eLst, eF, eFld, eIs, eIxO, eLenO, eSl, eRev, eB, eCall, eCallG, eMeth, aN, aC, aV, oNo, oPt, eIsO, oSrtI, oSrtT, oLt, oLe, oGt, oGe, oI, oIC, oI1, oAdd, oMul, oEq, oIsN, oIx, oLen, oList, oTuple, oAbs, oMin2, oInt1, fLst, fList, fRep, fCat, tYs, tru, isS, dats, seqD, seqO, tyS, List.set, List.getElem?_cons_zero, List.getElem?_cons_succ, List.append_eq, List.nil_append, List.cons_append, Option.map_some, Option.bind_some, ng, wipeD, List.length_cons, List.length_nil, Nat.reduceAdd, Nat.reduceSub, List.replicate_succ, List.replicate_zero]; try simp only [decide_eq_true_eq, Bool.not_eq_true', decide_eq_false_iff_not, Bool.false_eq_true, if_false, if_true, reduceIte, String.reduceBEq, Bool.true_or, Bool.false_or, Bool.or_false, Bool.and_false, Bool.false_and, Bool.and_true, Bool.true_and, Bool.not_true, Bool.not_false, ne_eq, not_true_eq_false, reduceCtorEq, Bool.true_eq_false, decide_true, decide_false])
        rw [bitAnd_nat, bitXor_nat]; exact q
      refine ⟨by rw [natX_len, natX_len, List.length_map, List.length_map]; omega, ?_⟩
      rw [natX_app]
      refine hn _ ⟨_, _, _, _, _, _, _, _, rfl, by rw [List.length_append, List.length_map, List.length_map]; omega, fun x hx => ?_⟩
      rcases List.mem_append.mp hx with hx | hx
      · obtain ⟨r, hr', rfl⟩ := List.mem_map.mp hx
        exact Nat.lt_of_le_of_lt Nat.and_le_left (hr r hr')
      · obtain ⟨r, hr', rfl⟩ := List.mem_map.mp hx
        exact Nat.xor_lt_two_pow (hr r hr') (Nat.lt_of_le_of_lt Nat.and_le_left (hr r hr'))
    · rw [if_neg h]
      exact hn _ ⟨_, rs, _, _, _, _, _, _, rfl, by omega, hr⟩
  rintro ρ ⟨d, rs, a, b, c, e, f, g, rfl, hl, hr⟩
  refine sJoin (JRows n sh (2 * n + 4)) ?_ (fun D' hn _ _ _ => ?_)
  rotate_left
  · (try dsimp only [gN, gN2, sNil, sSeq, sExp, sRet, sIf, sPass, sCont, sBrk, sSet, sSetO, sApp, sFrz, sAug, sRaise, sAsg, sPut, eV, eC, e1, e2, t2, tBl, tTru, tN, tAn, tOo, tCh, eNot, eAn, eOo, eIf, eTup, eLst, eF, eFld, eIs, eIxO, eLenO, eSl, eRev, eB, eCall, eCallG, eMeth, aN, aC, aV, oNo, oPt, eIsO, oSrtI, oSrtT, oLt, oLe, oGt, oGe, oI, oIC, oI1, oAdd, oMul, oEq, oIsN, oIx, oLen, oList, oTuple, oAbs, oMin2, oInt1, fLst, fList, fRep, fCat, tYs, tru, isS, dats, seqD, seqO, tyS, List.set, List.getElem?_cons_zero, List.getElem?_cons_succ, List.append_eq, List.nil_append, List.cons_append, Option.map_some, Option.bind_some, ng, wipeD, List.length_cons, List.length_nil, Nat.reduceAdd, Nat.reduceSub, List.replicate_succ, List.replicate_zero]; try simp only [decide_eq_true_eq, Bool.not_eq_true', decide_eq_false_iff_not, Bool.false_eq_true, if_false, if_true, reduceIte, String.reduceBEq, Bool.true_or, Bool.false_or, Bool.or_false, Bool.and_false, Bool.false_and, Bool.and_true, Bool.true_and, Bool.not_true, Bool.not_false, ne_eq, not_true_eq_false, reduceCtorEq, Bool.true_eq_false, decide_true, decide_false])
    have key : ∀ o u : Nat, o < rs.length → u < rs.length → ∃ x y : Nat, rs[o]? = some x ∧ rs[u]? = some y ∧ x < 2 ^ n ∧ y < 2 ^ n := fun o u ho hu => ⟨rs[o], rs[u], List.getElem?_eq_getElem ho, List.getElem?_eq_getElem hu, hr _ (List.getElem_mem ho), hr _ (List.getElem_mem hu)⟩
    by_cases h1 : sh = 1
    · rw [if_pos h1]
      by_cases hp : (0 : Int) < ((natX rs).length : Int)
      · rw [if_pos hp]
        have hp' := hp
        rw [natX_len] at hp'
        refine ⟨_, rfl, hp, by rw [natX_len]; omega, fun o o0 o1 => ?_⟩
        rw [natX_len] at o1
        obtain ⟨o, rfl⟩ := Int.eq_ofNat_of_zero_le o0
        refine ⟨_, rfl, hp, by rw [natX_len]; omega, fun u u0 u1 => ?_⟩
        rw [natX_len] at u1
        obtain ⟨u, rfl⟩ := Int.eq_ofNat_of_zero_le u0
        obtain ⟨x, y, ax, ay, hx, hy⟩ := key o u (by omega) (by omega)
        dsimp only
        rw [natX_at ax]
        dsimp only
        refine ⟨by rw [natX_len]; omega, ?_⟩
        rw [natX_at ay]
        dsimp only
        rw [bitXor_nat]
        refine ⟨by rw [natX_len]; omega, ?_⟩
        rw [natX_snoc, natX_cons]
        refine hn _ ⟨_, _, _, _, _, _, _, _, rfl, by rw [List.length_cons, List.length_append, List.length_singleton]; omega, ?_⟩
        intro z hz
        rcases List.mem_cons.mp hz with rfl | hz
        · exact hx
        · exact lt_snoc hr (Nat.xor_lt_two_pow hx hy) z hz
      · rw [if_neg hp]
        exact hn _ ⟨_, rs, _, _, _, _, _, _, rfl, by omega, hr⟩
    · rw [if_neg h1]
      by_cases h5 : sh = 5
      · rw [if_pos h5]
        by_cases hp : (0 : Int) < ((natX rs).length : Int)
        · rw [if_pos hp]
          have hp' := hp
          rw [natX_len] at hp'
          refine ⟨_, rfl, hp, by rw [natX_len]; omega, fun o o0 o1 => ?_⟩
          rw [natX_len] at o1
          obtain ⟨o, rfl⟩ := Int.eq_ofNat_of_zero_le o0
          refine ⟨_, rfl, hp, by rw [natX_len]; omega, fun u u0 u1 => ?_⟩
          rw [natX_len] at u1
          obtain ⟨u, rfl⟩ := Int.eq_ofNat_of_zero_le u0
          obtain ⟨x, y, ax, ay, hx, hy⟩ := key o u (by omega) (by omega)
          dsimp only
          rw [natX_at ax]
          dsimp only
          refine ⟨by rw [natX_len]; omega, ?_⟩
          rw [natX_at ay]
          dsimp only
          rw [bitXor_nat]
          refine ⟨by rw [natX_len]; omega, ?_⟩
          rw [natX_snoc, natX_cons]
          refine hn _ ⟨_, _, _, _, _, _, _, _, rfl, by rw [List.length_cons, List.length_append, List.length_singleton]; omega, ?_⟩
          intro z hz
          rcases List.mem_cons.mp hz with rfl | hz
          · exact hx
          · exact lt_snoc hr (Nat.xor_lt_two_pow hx hy) z hz
        · rw [if_neg hp]
          exact hn _ ⟨_, rs, _, _, _, _, _, _, rfl, by omega, hr⟩
      · rw [if_neg h5]
        exact hn _ ⟨_, rs, _, _, _, _, _, _, rfl, by omega, hr⟩
  rintro ρ ⟨d, rs, a, b, c, e, f, g, rfl, hl, hr⟩
  (try dsimp only [gN, gN2, sNil, sSeq, sExp, sRet, sIf, sPass, sCont, sBrk, sSet, sSetO, sApp, sFrz, sAug, sRaise, sAsg, sPut, eV, eC, e1, e2, t2, tBl, tTru, tN, tAn, tOo, tCh, eNot, eAn, eOo, eIf, eTup, eLst, eF, eFld, eIs, eIxO, eLenO, eSl, eRev, eB, eCall, eCallG, eMeth, aN, aC, aV, oNo, oPt, eIsO, oSrtI, oSrtT, oLt, oLe, oGt, oGe, oI, oIC, oI1, oAdd, oMul, oEq, oIsN, oIx, oLen, oList, oTuple, oAbs, oMin2, oInt1, fLst, fList, fRep, fCat, tYs, tru, isS, dats, seqD, seqO, tyS, List.set, List.getElem?_cons_zero, List.getElem?_cons_succ, List.append_eq, List.nil_append, List.cons_append, Option.map_some, Option.bind_some, ng, wipeD, List.length_cons, List.length_nil, Nat.reduceAdd, Nat.reduceSub, List.replicate_succ, List.replicate_zero]; try simp only [decide_eq_true_eq, Bool.not_eq_true', decide_eq_false_iff_not, Bool.false_eq_true, if_false, if_true, reduceIte, String.reduceBEq, Bool.true_or, Bool.false_or, Bool.or_false, Bool.and_false, Bool.false_and, Bool.and_true, Bool.true_and, Bool.not_true, Bool.not_false, ne_eq, not_true_eq_false, reduceCtorEq, Bool.true_eq_false, decide_true, decide_false])
  exact q rs hl hr
/-! ### the reduced rows -/
theorem sem_law_reduced : ∀ as Qd Xd, d_law_reduced as Qd Xd → as.length = ["_law_words_here"].length ∧ r_law_reduced { nx := fun _ => Qd .non, rt := Qd } (as ++ List.replicate (["_law_words_here", "_law_leads", "_law_word", "_law_rows_here", "_law_place"].length - as.length) .un) (fun _ => Xd) := by
  rintro as Qd Xd ⟨ws, rfl, h60, hl, q⟩
  refine ⟨rfl, ?_⟩
  unfold r_law_reduced
  (try dsimp only [gN, gN2, sNil, sSeq, sExp, sRet, sIf, sPass, sCont, sBrk, sSet, sSetO, sApp, sFrz, sAug, sRaise, sAsg, sPut, eV, eC, e1, e2, t2, tBl, tTru, tN, tAn, tOo, tCh, eNot, eAn, eOo, eIf, eTup, eLst, eF, eFld, eIs, eIxO, eLenO, eSl, eRev, eB, eCall, eCallG, eMeth, aN, aC, aV, oNo, oPt, eIsO, oSrtI, oSrtT, oLt, oLe, oGt, oGe, oI, oIC, oI1, oAdd, oMul, oEq, oIsN, oIx, oLen, oList, oTuple, oAbs, oMin2, oInt1, fLst, fList, fRep, fCat, tYs, tru, isS, dats, seqD, seqO, tyS, List.set, List.getElem?_cons_zero, List.getElem?_cons_succ, List.append_eq, List.nil_append, List.cons_append, Option.map_some, Option.bind_some, ng, wipeD, List.length_cons, List.length_nil, Nat.reduceAdd, Nat.reduceSub, List.replicate_succ, List.replicate_zero]; try simp only [decide_eq_true_eq, Bool.not_eq_true', decide_eq_false_iff_not, Bool.false_eq_true, if_false, if_true, reduceIte, String.reduceBEq, Bool.true_or, Bool.false_or, Bool.or_false, Bool.and_false, Bool.false_and, Bool.and_true, Bool.true_and, Bool.not_true, Bool.not_false, ne_eq, not_true_eq_false, reduceCtorEq, Bool.true_eq_false, decide_true, decide_false])
  have hL : leadsF ws < 2 ^ 60 := leadsF_lt h60
  refine ⟨fun i ρ => ∃ z, ρ = [.dat (.lst (natX ws)), .dat (.int (leadsF (ws.take i) : Nat)), z, .un, .un], ⟨_, rfl⟩, ?_, ?_⟩
  · rintro i x ρ hx ⟨z, rfl⟩
    obtain ⟨w, hw, rfl⟩ := natX_get hx
    (try dsimp only [gN, gN2, sNil, sSeq, sExp, sRet, sIf, sPass, sCont, sBrk, sSet, sSetO, sApp, sFrz, sAug, sRaise, sAsg, sPut, eV, eC, e1, e2, t2, tBl, tTru, tN, tAn, tOo, tCh, eNot, eAn, eOo, eIf, eTup, eLst, eF, eFld, eIs, eIxO, eLenO, eSl, eRev, eB, eCall, eCallG, eMeth, aN, aC, aV, oNo, oPt, eIsO, oSrtI, oSrtT, oLt, oLe, oGt, oGe, oI, oIC, oI1, oAdd, oMul, oEq, oIsN, oIx, oLen, oList, oTuple, oAbs, oMin2, oInt1, fLst, fList, fRep, fCat, tYs, tru, isS, dats, seqD, seqO, tyS, List.set, List.getElem?_cons_zero, List.getElem?_cons_succ, List.append_eq, List.nil_append, List.cons_append, Option.map_some, Option.bind_some, ng, wipeD, List.length_cons, List.length_nil, Nat.reduceAdd, Nat.reduceSub, List.replicate_succ, List.replicate_zero]; try simp only [decide_eq_true_eq, Bool.not_eq_true', decide_eq_false_iff_not, Bool.false_eq_true, if_false, if_true, reduceIte, String.reduceBEq, Bool.true_or, Bool.false_or, Bool.or_false, Bool.and_false, Bool.false_and, Bool.and_true, Bool.true_and, Bool.not_true, Bool.not_false, ne_eq, not_true_eq_false, reduceCtorEq, Bool.true_eq_false, decide_true, decide_false])
    rw [bitAnd_low, bitOr_nat, take_snocD hw, leadsF_snoc]
    exact ⟨_, rfl⟩
  rintro ρ ⟨z, rfl⟩
  rw [natX_len, List.take_length]
  (try dsimp only [gN, gN2, sNil, sSeq, sExp, sRet, sIf, sPass, sCont, sBrk, sSet, sSetO, sApp, sFrz, sAug, sRaise, sAsg, sPut, eV, eC, e1, e2, t2, tBl, tTru, tN, tAn, tOo, tCh, eNot, eAn, eOo, eIf, eTup, eLst, eF, eFld, eIs, eIxO, eLenO, eSl, eRev, eB, eCall, eCallG, eMeth, aN, aC, aV, oNo, oPt, eIsO, oSrtI, oSrtT, oLt, oLe, oGt, oGe, oI, oIC, oI1, oAdd, oMul, oEq, oIsN, oIx, oLen, oList, oTuple, oAbs, oMin2, oInt1, fLst, fList, fRep, fCat, tYs, tru, isS, dats, seqD, seqO, tyS, List.set, List.getElem?_cons_zero, List.getElem?_cons_succ, List.append_eq, List.nil_append, List.cons_append, Option.map_some, Option.bind_some, ng, wipeD, List.length_cons, List.length_nil, Nat.reduceAdd, Nat.reduceSub, List.replicate_succ, List.replicate_zero]; try simp only [decide_eq_true_eq, Bool.not_eq_true', decide_eq_false_iff_not, Bool.false_eq_true, if_false, if_true, reduceIte, String.reduceBEq, Bool.true_or, Bool.false_or, Bool.or_false, Bool.and_false, Bool.false_and, Bool.and_true, Bool.true_and, Bool.not_true, Bool.not_false, ne_eq, not_true_eq_false, reduceCtorEq, Bool.true_eq_false, decide_true, decide_false])
  have hb : bitsN (leadsF ws) ≤ 60 := bitsN_le hL
  refine ⟨by rw [intBits_nat]; omega, by rw [intBits_nat]; omega, fun p ρ => ∃ z y, ρ = [.dat (.lst (natX ws)), .dat (.int (leadsF ws : Nat)), z, .own (natX (flatN ws (leadsF ws) p)), y], ⟨_, _, rfl⟩, ?_, ?_⟩
  · rintro p x ρ hx ⟨z, y, rfl⟩
    obtain ⟨hp, rfl⟩ := rgD_get hx
    rw [intBits_nat, Int.toNat_natCast] at hp
    (try dsimp only [gN, gN2, sNil, sSeq, sExp, sRet, sIf, sPass, sCont, sBrk, sSet, sSetO, sApp, sFrz, sAug, sRaise, sAsg, sPut, eV, eC, e1, e2, t2, tBl, tTru, tN, tAn, tOo, tCh, eNot, eAn, eOo, eIf, eTup, eLst, eF, eFld, eIs, eIxO, eLenO, eSl, eRev, eB, eCall, eCallG, eMeth, aN, aC, aV, oNo, oPt, eIsO, oSrtI, oSrtT, oLt, oLe, oGt, oGe, oI, oIC, oI1, oAdd, oMul, oEq, oIsN, oIx, oLen, oList, oTuple, oAbs, oMin2, oInt1, fLst, fList, fRep, fCat, tYs, tru, isS, dats, seqD, seqO, tyS, List.set, List.getElem?_cons_zero, List.getElem?_cons_succ, List.append_eq, List.nil_append, List.cons_append, Option.map_some, Option.bind_some, ng, wipeD, List.length_cons, List.length_nil, Nat.reduceAdd, Nat.reduceSub, List.replicate_succ, List.replicate_zero]; try simp only [decide_eq_true_eq, Bool.not_eq_true', decide_eq_false_iff_not, Bool.false_eq_true, if_false, if_true, reduceIte, String.reduceBEq, Bool.true_or, Bool.false_or, Bool.or_false, Bool.and_false, Bool.false_and, Bool.and_true, Bool.true_and, Bool.not_true, Bool.not_false, ne_eq, not_true_eq_false, reduceCtorEq, Bool.true_eq_false, decide_true, decide_false])
    refine ⟨fun j ρ => ∃ z, ρ = [.dat (.lst (natX ws)), .dat (.int (leadsF ws : Nat)), z, .own (natX (flatN ws (leadsF ws) p ++ (ws.take j).filter fun w => decide (w &&& leadsF ws = 2 ^ p))), .dat (.int (0 + (p : Int)))], ⟨z, by rw [List.take_zero, List.filter_nil, List.append_nil]⟩, ?_, ?_⟩
    · rintro j x ρ hx ⟨z, rfl⟩
      obtain ⟨w, hw, rfl⟩ := natX_get hx
      (try dsimp only [gN, gN2, sNil, sSeq, sExp, sRet, sIf, sPass, sCont, sBrk, sSet, sSetO, sApp, sFrz, sAug, sRaise, sAsg, sPut, eV, eC, e1, e2, t2, tBl, tTru, tN, tAn, tOo, tCh, eNot, eAn, eOo, eIf, eTup, eLst, eF, eFld, eIs, eIxO, eLenO, eSl, eRev, eB, eCall, eCallG, eMeth, aN, aC, aV, oNo, oPt, eIsO, oSrtI, oSrtT, oLt, oLe, oGt, oGe, oI, oIC, oI1, oAdd, oMul, oEq, oIsN, oIx, oLen, oList, oTuple, oAbs, oMin2, oInt1, fLst, fList, fRep, fCat, tYs, tru, isS, dats, seqD, seqO, tyS, List.set, List.getElem?_cons_zero, List.getElem?_cons_succ, List.append_eq, List.nil_append, List.cons_append, Option.map_some, Option.bind_some, ng, wipeD, List.length_cons, List.length_nil, Nat.reduceAdd, Nat.reduceSub, List.replicate_succ, List.replicate_zero]; try simp only [decide_eq_true_eq, Bool.not_eq_true', decide_eq_false_iff_not, Bool.false_eq_true, if_false, if_true, reduceIte, String.reduceBEq, Bool.true_or, Bool.false_or, Bool.or_false, Bool.and_false, Bool.false_and, Bool.and_true, Bool.true_and, Bool.not_true, Bool.not_false, ne_eq, not_true_eq_false, reduceCtorEq, Bool.true_eq_false, decide_true, decide_false])
      rw [Int.zero_add, shl1_nat, bitAnd_nat]
      refine ⟨cpow1 (by omega), ?_⟩
      rw [take_snocD hw, List.filter_append, ← List.append_assoc]
      by_cases h : w &&& leadsF ws = 2 ^ p
      · rw [if_pos (by rw [h]), List.filter_cons_of_pos (by rw [decide_eq_true h])]
        have l1 := flatN_len ws (leadsF ws) p
        have l2 : p * ws.length ≤ 60 * 10000 := Nat.mul_le_mul (by omega) hl
        have l3 := List.length_filter_le (fun w => decide (w &&& leadsF ws = 2 ^ p)) (ws.take j)
        have l4 : (ws.take j).length ≤ ws.length := by rw [List.length_take]; omega
        refine ⟨by rw [natX_len, List.length_append]; omega, .dat (.int (w : Int)), ?_⟩
        rw [natX_snoc, List.filter_nil]
      · rw [if_neg (show ¬ ((w &&& leadsF ws : Nat) : Int) = ((2 ^ p : Nat) : Int) from fun e => h (Int.ofNat.inj e)), List.filter_cons_of_neg (by rw [decide_eq_false h]; decide), List.filter_nil, List.append_nil]
        exact ⟨_, rfl⟩
    · rintro ρ ⟨z, rfl⟩
      rw [natX_len, List.take_length, ← flatN_succ]
      exact ⟨_, _, rfl⟩
  · rintro ρ ⟨z, y, rfl⟩
    (try dsimp only [gN, gN2, sNil, sSeq, sExp, sRet, sIf, sPass, sCont, sBrk, sSet, sSetO, sApp, sFrz, sAug, sRaise, sAsg, sPut, eV, eC, e1, e2, t2, tBl, tTru, tN, tAn, tOo, tCh, eNot, eAn, eOo, eIf, eTup, eLst, eF, eFld, eIs, eIxO, eLenO, eSl, eRev, eB, eCall, eCallG, eMeth, aN, aC, aV, oNo, oPt, eIsO, oSrtI, oSrtT, oLt, oLe, oGt, oGe, oI, oIC, oI1, oAdd, oMul, oEq, oIsN, oIx, oLen, oList, oTuple, oAbs, oMin2, oInt1, fLst, fList, fRep, fCat, tYs, tru, isS, dats, seqD, seqO, tyS, List.set, List.getElem?_cons_zero, List.getElem?_cons_succ, List.append_eq, List.nil_append, List.cons_append, Option.map_some, Option.bind_some, ng, wipeD, List.length_cons, List.length_nil, Nat.reduceAdd, Nat.reduceSub, List.replicate_succ, List.replicate_zero]; try simp only [decide_eq_true_eq, Bool.not_eq_true', decide_eq_false_iff_not, Bool.false_eq_true, if_false, if_true, reduceIte, String.reduceBEq, Bool.true_or, Bool.false_or, Bool.or_false, Bool.and_false, Bool.false_and, Bool.and_true, Bool.true_and, Bool.not_true, Bool.not_false, ne_eq, not_true_eq_false, reduceCtorEq, Bool.true_eq_false, decide_true, decide_false])
    rw [rgD_len, Int.toNat_natCast]
    exact q
/-! ### told otherwise -/
theorem if2 {a b : Prop} [Decidable a] [Decidable b] {A B : Prop} (h1 : a → b → A) (h2 : B) : if a then (if b then A else B) else B := by
  split
  · split
    · exact h1 ‹_› ‹_›
    · exact h2
  · exact h2
theorem ixN_nat {n k : Nat} (h : k < n) : ixN n (k : Int) = some k := by
  unfold ixN
  simp
  omega
theorem natX_set (l : List Nat) (k p : Nat) : (natX l).set k (.int (p : Int)) = natX (l.set k p) := by
  unfold natX; rw [List.map_set]
theorem sem_law_told : ∀ as Qd Xd, d_law_told as Qd Xd → as.length = ["_law_source_here", "_law_rows_here", "_law_words_here"].length ∧ r_law_told { nx := fun _ => Qd .non, rt := Qd } (as ++ List.replicate (["_law_source_here", "_law_rows_here", "_law_words_here", "_law_shape", "_law_result", "_law_k"].length - as.length) .un) (fun _ => Xd) := by
  rintro as Qd Xd ⟨rs, rfl, hl, h13, q⟩
  refine ⟨rfl, ?_⟩
  have lt := closeF_lt (n := 13) h13
  have nd := closeF_nodup rs
  have len := nodup_len2 nd.1 lt
  have rl := redF_len nd.1 nd.2.2 lt
  unfold r_law_told
  (try dsimp only [gN, gN2, sNil, sSeq, sExp, sRet, sIf, sPass, sCont, sBrk, sSet, sSetO, sApp, sFrz, sAug, sRaise, sAsg, sPut, eV, eC, e1, e2, t2, tBl, tTru, tN, tAn, tOo, tCh, eNot, eAn, eOo, eIf, eTup, eLst, eF, eFld, eIs, eIxO, eLenO, eSl, eRev, eB, eCall, eCallG, eMeth, aN, aC, aV, oNo, oPt, eIsO, oSrtI, oSrtT, oLt, oLe, oGt, oGe, oI, oIC, oI1, oAdd, oMul, oEq, oIsN, oIx, oLen, oList, oTuple, oAbs, oMin2, oInt1, fLst, fList, fRep, fCat, tYs, tru, isS, dats, seqD, seqO, tyS, List.set, List.getElem?_cons_zero, List.getElem?_cons_succ, List.append_eq, List.nil_append, List.cons_append, Option.map_some, Option.bind_some, ng, wipeD, List.length_cons, List.length_nil, Nat.reduceAdd, Nat.reduceSub, List.replicate_succ, List.replicate_zero]; try simp only [decide_eq_true_eq, Bool.not_eq_true', decide_eq_false_iff_not, Bool.false_eq_true, if_false, if_true, reduceIte, String.reduceBEq, Bool.true_or, Bool.false_or, Bool.or_false, Bool.and_false, Bool.false_and, Bool.and_true, Bool.true_and, Bool.not_true, Bool.not_false, ne_eq, not_true_eq_false, reduceCtorEq, Bool.true_eq_false, decide_true, decide_false])
  refine ⟨4, rfl, by decide, by decide, fun sh s0 s1 => ?_⟩
  (try dsimp only [gN, gN2, sNil, sSeq, sExp, sRet, sIf, sPass, sCont, sBrk, sSet, sSetO, sApp, sFrz, sAug, sRaise, sAsg, sPut, eV, eC, e1, e2, t2, tBl, tTru, tN, tAn, tOo, tCh, eNot, eAn, eOo, eIf, eTup, eLst, eF, eFld, eIs, eIxO, eLenO, eSl, eRev, eB, eCall, eCallG, eMeth, aN, aC, aV, oNo, oPt, eIsO, oSrtI, oSrtT, oLt, oLe, oGt, oGe, oI, oIC, oI1, oAdd, oMul, oEq, oIsN, oIx, oLen, oList, oTuple, oAbs, oMin2, oInt1, fLst, fList, fRep, fCat, tYs, tru, isS, dats, seqD, seqO, tyS, List.set, List.getElem?_cons_zero, List.getElem?_cons_succ, List.append_eq, List.nil_append, List.cons_append, Option.map_some, Option.bind_some, ng, wipeD, List.length_cons, List.length_nil, Nat.reduceAdd, Nat.reduceSub, List.replicate_succ, List.replicate_zero]; try simp only [decide_eq_true_eq, Bool.not_eq_true', decide_eq_false_iff_not, Bool.false_eq_true, if_false, if_true, reduceIte, String.reduceBEq, Bool.true_or, Bool.false_or, Bool.or_false, Bool.and_false, Bool.false_and, Bool.and_true, Bool.true_and, Bool.not_true, Bool.not_false, ne_eq, not_true_eq_false, reduceCtorEq, Bool.true_eq_false, decide_true, decide_false])
  by_cases h0 : sh = 0
  · rw [if_pos h0, natX_rev]
    refine ⟨by rw [natX_len, List.length_reverse]; omega, ?_⟩
    rw [show D.int 0 = D.int ((0 : Nat) : Int) from rfl, natX_snoc]
    refine q _ (by rw [List.length_append, List.length_reverse, List.length_singleton]; omega) (closeF_same ?_ ?_)
    · intro t ht
      rcases List.mem_append.mp ht with h | h
      · exact closeF_mem _ (List.mem_reverse.mp h)
      · rw [List.mem_singleton.mp h]; exact nd.2.1
    · intro r hr
      exact closeF_mem _ (List.mem_append_left _ (List.mem_reverse.mpr hr))
  rw [if_neg h0]
  refine if2 (fun h hc => ?_) ?_
  · rw [natX_len] at hc
    rw [natX_rev]
    exact q _ (by rw [List.length_reverse]; omega) (closeF_same (fun t ht => List.mem_reverse.mp ht) fun r hr => List.mem_reverse.mpr (closeF_mem r hr) |> closeF_mem _)
  by_cases h2 : sh = 2
  · rw [if_pos h2]
    refine ⟨closeF rs, rfl, fun w hw => Nat.lt_trans (lt w hw) (by decide), by omega, ?_⟩
    dsimp only
    rw [natX_rev, natX_len, natX_len, natX_app]
    refine ⟨by rw [List.length_reverse]; omega, q _ (by rw [List.length_append, List.length_reverse]; omega) (closeF_same ?_ ?_)⟩
    · intro t ht
      rcases List.mem_append.mp ht with h | h
      · exact redF_mem _ (List.mem_reverse.mp h)
      · exact closeF_mem _ h
    · intro r hr
      exact closeF_mem _ (List.mem_append_right _ hr)
  rw [if_neg h2]
  (try dsimp only [gN, gN2, sNil, sSeq, sExp, sRet, sIf, sPass, sCont, sBrk, sSet, sSetO, sApp, sFrz, sAug, sRaise, sAsg, sPut, eV, eC, e1, e2, t2, tBl, tTru, tN, tAn, tOo, tCh, eNot, eAn, eOo, eIf, eTup, eLst, eF, eFld, eIs, eIxO, eLenO, eSl, eRev, eB, eCall, eCallG, eMeth, aN, aC, aV, oNo, oPt, eIsO, oSrtI, oSrtT, oLt, oLe, oGt, oGe, oI, oIC, oI1, oAdd, oMul, oEq, oIsN, oIx, oLen, oList, oTuple, oAbs, oMin2, oInt1, fLst, fList, fRep, fCat, tYs, tru, isS, dats, seqD, seqO, tyS, List.set, List.getElem?_cons_zero, List.getElem?_cons_succ, List.append_eq, List.nil_append, List.cons_append, Option.map_some, Option.bind_some, ng, wipeD, List.length_cons, List.length_nil, Nat.reduceAdd, Nat.reduceSub, List.replicate_succ, List.replicate_zero, sFor, iRg1, iRg2, iSq, iEn, fLc]; try simp only [decide_eq_true_eq, Bool.not_eq_true', decide_eq_false_iff_not, Bool.false_eq_true, if_false, if_true, reduceIte, String.reduceBEq, Bool.true_or, Bool.false_or, Bool.or_false, Bool.and_false, Bool.false_and, Bool.and_true, Bool.true_and, Bool.not_true, Bool.not_false, ne_eq, not_true_eq_false, reduceCtorEq, Bool.true_eq_false, decide_true, decide_false])
  rw [natX_len]
  refine ⟨by omega, by omega, fun k ρ => ∃ (ts : List Nat) (z : Sl), ρ = [.src, .dat (.lst (natX rs)), .dat (.lst (natX (closeF rs))), .dat (.int sh), .own (natX ts), z] ∧ ts.length = rs.length ∧ (∀ j x y, j < k → rs[j]? = some x → rs[j + 1]? = some y → ts[j]? = some (x ^^^ y)) ∧ ∀ j, k ≤ j → ts[j]? = rs[j]?, ⟨rs, _, rfl, rfl, fun j _ _ h => by omega, fun _ _ => rfl⟩, ?_, ?_⟩
  · rintro k x ρ hx ⟨ts, z, rfl, tl, t1, t2⟩
    obtain ⟨hk, rfl⟩ := rgD_get hx
    have hk2 : k + 1 < rs.length := by omega
    have e0 : ts[k]? = some (rs[k]'(by omega)) := by rw [t2 k (Nat.le_refl _)]; exact List.getElem?_eq_getElem _
    have e1 : ts[k + 1]? = some (rs[k + 1]'hk2) := by rw [t2 (k + 1) (by omega)]; exact List.getElem?_eq_getElem _
    (try dsimp only [gN, gN2, sNil, sSeq, sExp, sRet, sIf, sPass, sCont, sBrk, sSet, sSetO, sApp, sFrz, sAug, sRaise, sAsg, sPut, eV, eC, e1, e2, t2, tBl, tTru, tN, tAn, tOo, tCh, eNot, eAn, eOo, eIf, eTup, eLst, eF, eFld, eIs, eIxO, eLenO, eSl, eRev, eB, eCall, eCallG, eMeth, aN, aC, aV, oNo, oPt, eIsO, oSrtI, oSrtT, oLt, oLe, oGt, oGe, oI, oIC, oI1, oAdd, oMul, oEq, oIsN, oIx, oLen, oList, oTuple, oAbs, oMin2, oInt1, fLst, fList, fRep, fCat, tYs, tru, isS, dats, seqD, seqO, tyS, List.set, List.getElem?_cons_zero, List.getElem?_cons_succ, List.append_eq, List.nil_append, List.cons_append, Option.map_some, Option.bind_some, ng, wipeD, List.length_cons, List.length_nil, Nat.reduceAdd, Nat.reduceSub, List.replicate_succ, List.replicate_zero]; try simp only [decide_eq_true_eq, Bool.not_eq_true', decide_eq_false_iff_not, Bool.false_eq_true, if_false, if_true, reduceIte, String.reduceBEq, Bool.true_or, Bool.false_or, Bool.or_false, Bool.and_false, Bool.false_and, Bool.and_true, Bool.true_and, Bool.not_true, Bool.not_false, ne_eq, not_true_eq_false, reduceCtorEq, Bool.true_eq_false, decide_true, decide_false])
    rw [Int.zero_add, natX_at e0]
    (try dsimp only [gN, gN2, sNil, sSeq, sExp, sRet, sIf, sPass, sCont, sBrk, sSet, sSetO, sApp, sFrz, sAug, sRaise, sAsg, sPut, eV, eC, e1, e2, t2, tBl, tTru, tN, tAn, tOo, tCh, eNot, eAn, eOo, eIf, eTup, eLst, eF, eFld, eIs, eIxO, eLenO, eSl, eRev, eB, eCall, eCallG, eMeth, aN, aC, aV, oNo, oPt, eIsO, oSrtI, oSrtT, oLt, oLe, oGt, oGe, oI, oIC, oI1, oAdd, oMul, oEq, oIsN, oIx, oLen, oList, oTuple, oAbs, oMin2, oInt1, fLst, fList, fRep, fCat, tYs, tru, isS, dats, seqD, seqO, tyS, List.set, List.getElem?_cons_zero, List.getElem?_cons_succ, List.append_eq, List.nil_append, List.cons_append, Option.map_some, Option.bind_some, ng, wipeD, List.length_cons, List.length_nil, Nat.reduceAdd, Nat.reduceSub, List.replicate_succ, List.replicate_zero]; try simp only [decide_eq_true_eq, Bool.not_eq_true', decide_eq_false_iff_not, Bool.false_eq_true, if_false, if_true, reduceIte, String.reduceBEq, Bool.true_or, Bool.false_or, Bool.or_false, Bool.and_false, Bool.false_and, Bool.and_true, Bool.true_and, Bool.not_true, Bool.not_false, ne_eq, not_true_eq_false, reduceCtorEq, Bool.true_eq_false, decide_true, decide_false])
    rw [show (k : Int) + 1 = ((k + 1 : Nat) : Int) from rfl, natX_at e1]
    (try dsimp only [gN, gN2, sNil, sSeq, sExp, sRet, sIf, sPass, sCont, sBrk, sSet, sSetO, sApp, sFrz, sAug, sRaise, sAsg, sPut, eV, eC, e1, e2, t2, tBl, tTru, tN, tAn, tOo, tCh, eNot, eAn, eOo, eIf, eTup, eLst, eF, eFld, eIs, eIxO, eLenO, eSl, eRev, eB, eCall, eCallG, eMeth, aN, aC, aV, oNo, oPt, eIsO, oSrtI, oSrtT, oLt, oLe, oGt, oGe, oI, oIC, oI1, oAdd, oMul, oEq, oIsN, oIx, oLen, oList, oTuple, oAbs, oMin2, oInt1, fLst, fList, fRep, fCat, tYs, tru, isS, dats, seqD, seqO, tyS, List.set, List.getElem?_cons_zero, List.getElem?_cons_succ, List.append_eq, List.nil_append, List.cons_append, Option.map_some, Option.bind_some, ng, wipeD, List.length_cons, List.length_nil, Nat.reduceAdd, Nat.reduceSub, List.replicate_succ, List.replicate_zero]; try simp only [decide_eq_true_eq, Bool.not_eq_true', decide_eq_false_iff_not, Bool.false_eq_true, if_false, if_true, reduceIte, String.reduceBEq, Bool.true_or, Bool.false_or, Bool.or_false, Bool.and_false, Bool.false_and, Bool.and_true, Bool.true_and, Bool.not_true, Bool.not_false, ne_eq, not_true_eq_false, reduceCtorEq, Bool.true_eq_false, decide_true, decide_false])
    rw [bitXor_nat, ixN_nat (by rw [natX_len]; omega)]
    (try dsimp only [gN, gN2, sNil, sSeq, sExp, sRet, sIf, sPass, sCont, sBrk, sSet, sSetO, sApp, sFrz, sAug, sRaise, sAsg, sPut, eV, eC, e1, e2, t2, tBl, tTru, tN, tAn, tOo, tCh, eNot, eAn, eOo, eIf, eTup, eLst, eF, eFld, eIs, eIxO, eLenO, eSl, eRev, eB, eCall, eCallG, eMeth, aN, aC, aV, oNo, oPt, eIsO, oSrtI, oSrtT, oLt, oLe, oGt, oGe, oI, oIC, oI1, oAdd, oMul, oEq, oIsN, oIx, oLen, oList, oTuple, oAbs, oMin2, oInt1, fLst, fList, fRep, fCat, tYs, tru, isS, dats, seqD, seqO, tyS, List.set, List.getElem?_cons_zero, List.getElem?_cons_succ, List.append_eq, List.nil_append, List.cons_append, Option.map_some, Option.bind_some, ng, wipeD, List.length_cons, List.length_nil, Nat.reduceAdd, Nat.reduceSub, List.replicate_succ, List.replicate_zero]; try simp only [decide_eq_true_eq, Bool.not_eq_true', decide_eq_false_iff_not, Bool.false_eq_true, if_false, if_true, reduceIte, String.reduceBEq, Bool.true_or, Bool.false_or, Bool.or_false, Bool.and_false, Bool.false_and, Bool.and_true, Bool.true_and, Bool.not_true, Bool.not_false, ne_eq, not_true_eq_false, reduceCtorEq, Bool.true_eq_false, decide_true, decide_false])
    refine ⟨ts.set k _, _, by rw [natX_set], by rw [List.length_set]; exact tl, ?_, ?_⟩
    · intro j x y hj hx hy
      by_cases e : k = j
      · subst e
        rw [List.getElem?_set_self (by omega)]
        rw [List.getElem?_eq_getElem (by omega)] at hx hy
        rw [Option.some.inj hx, Option.some.inj hy]
      · rw [List.getElem?_set_ne e]
        exact t1 j x y (by omega) hx hy
    · intro j hj
      rw [List.getElem?_set_ne (by omega)]
      exact t2 j (by omega)
  · rintro ρ ⟨ts, z, rfl, tl, t1, t2⟩
    (try dsimp only [gN, gN2, sNil, sSeq, sExp, sRet, sIf, sPass, sCont, sBrk, sSet, sSetO, sApp, sFrz, sAug, sRaise, sAsg, sPut, eV, eC, e1, e2, t2, tBl, tTru, tN, tAn, tOo, tCh, eNot, eAn, eOo, eIf, eTup, eLst, eF, eFld, eIs, eIxO, eLenO, eSl, eRev, eB, eCall, eCallG, eMeth, aN, aC, aV, oNo, oPt, eIsO, oSrtI, oSrtT, oLt, oLe, oGt, oGe, oI, oIC, oI1, oAdd, oMul, oEq, oIsN, oIx, oLen, oList, oTuple, oAbs, oMin2, oInt1, fLst, fList, fRep, fCat, tYs, tru, isS, dats, seqD, seqO, tyS, List.set, List.getElem?_cons_zero, List.getElem?_cons_succ, List.append_eq, List.nil_append, List.cons_append, Option.map_some, Option.bind_some, ng, wipeD, List.length_cons, List.length_nil, Nat.reduceAdd, Nat.reduceSub, List.replicate_succ, List.replicate_zero]; try simp only [decide_eq_true_eq, Bool.not_eq_true', decide_eq_false_iff_not, Bool.false_eq_true, if_false, if_true, reduceIte, String.reduceBEq, Bool.true_or, Bool.false_or, Bool.or_false, Bool.and_false, Bool.false_and, Bool.and_true, Bool.true_and, Bool.not_true, Bool.not_false, ne_eq, not_true_eq_false, reduceCtorEq, Bool.true_eq_false, decide_true, decide_false])
    rw [rgD_len] at t1 t2
    refine q _ (by omega) (chain_same tl (fun j x y hj hx hy => t1 j x y (by omega) hx hy) fun j hj => t2 j (by omega))
end DL

set_option Elab.async false
set_option linter.all false
set_option maxRecDepth 100000
set_option maxHeartbeats 4000000
set_option exponentiation.threshold 2000
namespace DL
open PySem PySem.Spec PyProof.Rows L2 BT
/-! ### Book.__eq__ -/
theorem natX_inj {a b : List Nat} (h : natX a = natX b) : a = b := (List.map_inj_right fun x y h => by injection h with h; exact Int.ofNat.inj h).mp h
theorem kd_book (m : Nat) (ks : List Nat) : kdC "Book" (bookX m ks) = true := by
  unfold kdC bookX; simp
theorem kd_not {y : D} {t : String} (h : tyS y = some t) : kdC "Book" y = true := by
  cases y <;> first | rfl | cases h
theorem bk_size (n : Int) (ms : D) (k : D) : List.lookup (Str.ofString "size") [(Str.ofString "size", D.int n), (Str.ofString "masks", ms), (Str.ofString "dim", k)] = some (.int n) := rfl
theorem bk_masks (n : D) (ms : D) (k : D) : List.lookup (Str.ofString "masks") [(Str.ofString "size", n), (Str.ofString "masks", ms), (Str.ofString "dim", k)] = some ms := rfl
theorem bk_dim (n : D) (ms : D) (k : D) : List.lookup (Str.ofString "dim") [(Str.ofString "size", n), (Str.ofString "masks", ms), (Str.ofString "dim", k)] = some k := rfl
theorem tab_size : tabHas tab0 (Str.ofString "Book") (Str.ofString "size") = true := rfl
theorem tab_masks : tabHas tab0 (Str.ofString "Book") (Str.ofString "masks") = true := rfl
theorem tab_dim : tabHas tab0 (Str.ofString "Book") (Str.ofString "dim") = true := rfl
theorem eqv_nats : ∀ a b : List Nat, PyData.eqvAll (a.map fun p : Nat => PyData.int (p : Int)) (b.map fun p : Nat => PyData.int (p : Int)) = decide (a = b)
  | [], [] => by simp [PyData.eqvAll]
  | [], _ :: _ => by simp [PyData.eqvAll]
  | _ :: _, [] => by simp [PyData.eqvAll]
  | x :: a, y :: b => by
    rw [List.map_cons, List.map_cons, PyData.eqvAll, eqv_nats a b]
    simp only [PyData.eqv]
    by_cases h : x = y
    · subst h; simp
    · rw [show ((x : Int) == (y : Int)) = false from beq_eq_false_iff_ne.mpr fun z => h (Int.ofNat.inj z)]
      simp [h]
theorem shaped_tup (ws : List Nat) : SeqAt.shaped (.tuple (ws.map fun p : Nat => PyData.int (p : Int))) = true := by
  unfold SeqAt.shaped
  rw [Bool.and_eq_true]
  refine ⟨by simp only [PyData.canLay0]; exact lay_lot ws, decide_eq_true ?_⟩
  simp only [PyData.depth]
  have : PyData.depthAll (ws.map fun p : Nat => PyData.int (p : Int)) ≤ 0 := depthA_le fun d hd => by
    obtain ⟨l, _, rfl⟩ := List.mem_map.mp hd
    simp [PyData.depth]
  omega
theorem pyN_tup (ws : List Nat) : pyN (.tup (natX ws)) = some (.tuple (ws.map fun p : Nat => PyData.int (p : Int))) := by
  simp only [pyN, pyNs_nat]; rfl
theorem sem_Book_eq : ∀ as Qd Xd, d_Book_eq as Qd Xd → as.length = ["self", "other"].length ∧ r_Book_eq { nx := fun _ => Qd .non, rt := Qd } (as ++ List.replicate (["self", "other"].length - as.length) .un) (fun _ => Xd) := by
  rintro as Qd Xd ⟨n, ms, y, r, rfl, hb, q⟩
  refine ⟨rfl, ?_⟩
  unfold r_Book_eq
  cases hb with
  | no h =>
    have hk := kd_not h
    (try dsimp only [gN, gN2, sNil, sSeq, sExp, sRet, sIf, sPass, sCont, sBrk, sSet, sSetO, sApp, sFrz, sAug, sRaise, sAsg, sPut, eV, eC, e1, e2, t2, tBl, tTru, tN, tAn, tOo, tCh, eNot, eAn, eOo, eIf, eTup, eLst, eF, eFld, eIs, eIxO, eLenO, eSl, eRev, eB, eCall, eCallG, eMeth, aN, aC, aV, oNo, oPt, eIsO, oSrtI, oSrtT, oLt, oLe, oGt, oGe, oI, oIC, oI1, oAdd, oMul, oEq, oIsN, oIx, oLen, oList, oTuple, oAbs, oMin2, oInt1, fLst, fList, fRep, fCat, tYs, tru, isS, dats, seqD, seqO, tyS, List.set, List.getElem?_cons_zero, List.getElem?_cons_succ, List.append_eq, List.nil_append, List.cons_append, Option.map_some, Option.bind_some, ng, wipeD, List.length_cons, List.length_nil, Nat.reduceAdd, Nat.reduceSub, List.replicate_succ, List.replicate_zero]; try simp only [decide_eq_true_eq, Bool.not_eq_true', decide_eq_false_iff_not, Bool.false_eq_true, if_false, if_true, reduceIte, String.reduceBEq, Bool.true_or, Bool.false_or, Bool.or_false, Bool.and_false, Bool.false_and, Bool.and_true, Bool.true_and, Bool.not_true, Bool.not_false, ne_eq, not_true_eq_false, reduceCtorEq, Bool.true_eq_false, decide_true, decide_false])
    refine ⟨hk, ?_⟩
    cases y with
    | obj => cases h
    | _ => exact q
  | yes m ks =>
    have hk := kd_book m ks
    unfold bookX at hk ⊢
    (try dsimp only [gN, gN2, sNil, sSeq, sExp, sRet, sIf, sPass, sCont, sBrk, sSet, sSetO, sApp, sFrz, sAug, sRaise, sAsg, sPut, eV, eC, e1, e2, t2, tBl, tTru, tN, tAn, tOo, tCh, eNot, eAn, eOo, eIf, eTup, eLst, eF, eFld, eIs, eIxO, eLenO, eSl, eRev, eB, eCall, eCallG, eMeth, aN, aC, aV, oNo, oPt, eIsO, oSrtI, oSrtT, oLt, oLe, oGt, oGe, oI, oIC, oI1, oAdd, oMul, oEq, oIsN, oIx, oLen, oList, oTuple, oAbs, oMin2, oInt1, fLst, fList, fRep, fCat, tYs, tru, isS, dats, seqD, seqO, tyS, List.set, List.getElem?_cons_zero, List.getElem?_cons_succ, List.append_eq, List.nil_append, List.cons_append, Option.map_some, Option.bind_some, ng, wipeD, List.length_cons, List.length_nil, Nat.reduceAdd, Nat.reduceSub, List.replicate_succ, List.replicate_zero]; try simp only [decide_eq_true_eq, Bool.not_eq_true', decide_eq_false_iff_not, Bool.false_eq_true, if_false, if_true, reduceIte, String.reduceBEq, Bool.true_or, Bool.false_or, Bool.or_false, Bool.and_false, Bool.false_and, Bool.and_true, Bool.true_and, Bool.not_true, Bool.not_false, ne_eq, not_true_eq_false, reduceCtorEq, Bool.true_eq_false, decide_true, decide_false])
    refine ⟨hk, ?_⟩
    simp only [bk_size, bk_masks, tab_size, tab_masks, true_and, Option.isNone, if_true]
    by_cases h : n = m
    · subst h
      rw [if_pos (by simp)]
      refine ⟨_, _, pyN_tup ms, pyN_tup ks, shaped_tup ms, shaped_tup ks, ?_⟩
      simp only [PyData.eqv, eqv_nats]
      rw [show decide (n = n ∧ ms = ks) = decide (ms = ks) from by simp] at q
      exact q
    · rw [if_neg (by
        intro e
        exact h (Int.ofNat.inj (of_decide_eq_true e)))]
      rw [show decide (n = m ∧ ms = ks) = false from by simp [h]] at q
      exact q
end DL

set_option Elab.async false
set_option linter.all false
set_option maxRecDepth 100000
set_option maxHeartbeats 4000000
set_option exponentiation.threshold 2000
namespace DL
open PySem PySem.Spec PyProof.Rows L2 BT
/-! ### comprehensions of lots -/
theorem lcLots {fi : DI} {vs : List Nat} {i : Nat} {te : DE} {ρ : List Sl} {Q : List D → Prop} {Ed : DXt} (rs : List Nat) (hf : ∀ R : List D → Prop, R (natX rs) → fi ρ R Ed) (hl : rs.length ≤ 1000000)
    (hs : ∀ r ∈ rs, ∀ Q' : D → Prop, Q' (lotX (lotN r)) → te ((wipeD ρ vs).set i (.dat (.int (r : Int)))) Q' X0) (q : Q ((rs.map lotN).map lotX)) : fLc fi vs i tYs te ρ Q Ed := by
  refine hf _ ⟨by rw [natX_len]; exact hl, fun j acc => acc = ((rs.take j).map lotN).map lotX, rfl, ?_, ?_⟩
  · rintro j x acc hj rfl
    obtain ⟨r, hr, rfl⟩ := natX_get hj
    dsimp only [tYs]
    rw [if_pos rfl]
    refine hs r (List.mem_of_getElem? hr) _ ?_
    rw [take_snocD hr, List.map_append, List.map_append]; rfl
  · rintro acc rfl
    rw [natX_len, List.take_length]; exact q
theorem lots_tup (ws : List Nat) : (ws.map lotN).map lotX = (ws.map fun r => intsN (lotN r)).map tupI := by
  rw [List.map_map, List.map_map]
  exact List.map_congr_left fun r _ => lotX_tup _
theorem red_of {n : Nat} {rs : List Nat} (h : ∀ r ∈ rs, r < 2 ^ n) : Red n (reduceF rs) := ⟨rs, h, rfl⟩
theorem lotN_len {r n : Nat} (h : r < 2 ^ n) : (lotN r).length ≤ n := by
  rw [lotN_eq h]
  unfold lotB
  exact Nat.le_trans (List.length_filter_le ..) (by rw [List.length_range]; exact Nat.le_refl _)
theorem sem_law_words_hold : ∀ as Qd Xd, d_law_words_hold as Qd Xd → as.length = ["_law_book", "_law_size", "_law_words_here"].length ∧ r_law_words_hold { nx := fun _ => Qd .non, rt := Qd } (as ++ List.replicate (["_law_book", "_law_size", "_law_words_here", "_law_expected", "_law_inside", "_law_word", "_law_mask"].length - as.length) .un) (fun _ => Xd) := by
  rintro as Qd Xd ⟨n, rs, rfl, n1, n12, hr, q⟩
  refine ⟨rfl, ?_⟩
  have lt := closeF_lt hr
  have pn : 2 ^ n ≤ 2 ^ 12 := Nat.pow_le_pow_right (by decide) n12
  have len := nodup_len2 (closeF_nodup rs).1 lt
  have big : ∀ r, r < 2 ^ n → r < 2 ^ 1000 := fun r h => Nat.lt_of_lt_of_le h (Nat.pow_le_pow_right (by decide) (by omega))
  unfold r_law_words_hold
  (try dsimp only [gN, gN2, sNil, sSeq, sExp, sRet, sIf, sPass, sCont, sBrk, sSet, sSetO, sApp, sFrz, sAug, sRaise, sAsg, sPut, eV, eC, e1, e2, t2, tBl, tTru, tN, tAn, tOo, tCh, eNot, eAn, eOo, eIf, eTup, eLst, eF, eFld, eIs, eIxO, eLenO, eSl, eRev, eB, eCall, eCallG, eMeth, aN, aC, aV, oNo, oPt, eIsO, oSrtI, oSrtT, oLt, oLe, oGt, oGe, oI, oIC, oI1, oAdd, oMul, oEq, oIsN, oIx, oLen, oList, oTuple, oAbs, oMin2, oInt1, fLst, fList, fRep, fCat, tYs, tru, isS, dats, seqD, seqO, tyS, List.set, List.getElem?_cons_zero, List.getElem?_cons_succ, List.append_eq, List.nil_append, List.cons_append, Option.map_some, Option.bind_some, ng, wipeD, List.length_cons, List.length_nil, Nat.reduceAdd, Nat.reduceSub, List.replicate_succ, List.replicate_zero]; try simp only [decide_eq_true_eq, Bool.not_eq_true', decide_eq_false_iff_not, Bool.false_eq_true, if_false, if_true, reduceIte, String.reduceBEq, Bool.true_or, Bool.false_or, Bool.or_false, Bool.and_false, Bool.false_and, Bool.and_true, Bool.true_and, Bool.not_true, Bool.not_false, ne_eq, not_true_eq_false, reduceCtorEq, Bool.true_eq_false, decide_true, decide_false])
  refine lcLots (closeF rs) (fun _ h => h) (by omega) (fun r hr' Q' q => ⟨r, rfl, big r (lt r hr'), q⟩) ?_
  refine ⟨_, lots_tup _, fun ls hp hs => ?_⟩
  (try dsimp only [gN, gN2, sNil, sSeq, sExp, sRet, sIf, sPass, sCont, sBrk, sSet, sSetO, sApp, sFrz, sAug, sRaise, sAsg, sPut, eV, eC, e1, e2, t2, tBl, tTru, tN, tAn, tOo, tCh, eNot, eAn, eOo, eIf, eTup, eLst, eF, eFld, eIs, eIxO, eLenO, eSl, eRev, eB, eCall, eCallG, eMeth, aN, aC, aV, oNo, oPt, eIsO, oSrtI, oSrtT, oLt, oLe, oGt, oGe, oI, oIC, oI1, oAdd, oMul, oEq, oIsN, oIx, oLen, oList, oTuple, oAbs, oMin2, oInt1, fLst, fList, fRep, fCat, tYs, tru, isS, dats, seqD, seqO, tyS, List.set, List.getElem?_cons_zero, List.getElem?_cons_succ, List.append_eq, List.nil_append, List.cons_append, Option.map_some, Option.bind_some, ng, wipeD, List.length_cons, List.length_nil, Nat.reduceAdd, Nat.reduceSub, List.replicate_succ, List.replicate_zero]; try simp only [decide_eq_true_eq, Bool.not_eq_true', decide_eq_false_iff_not, Bool.false_eq_true, if_false, if_true, reduceIte, String.reduceBEq, Bool.true_or, Bool.false_or, Bool.or_false, Bool.and_false, Bool.false_and, Bool.and_true, Bool.true_and, Bool.not_true, Bool.not_false, ne_eq, not_true_eq_false, reduceCtorEq, Bool.true_eq_false, decide_true, decide_false])
  refine ⟨rfl, rfl, n, reduceF rs, rfl, red_of hr, by omega, ?_, fun ls2 hp2 hs2 => ?_⟩
  · exact Nat.le_trans (red_of hr).len n12
  have e : ls2 = ls := srtT_one (hp2.trans (((span_close rs).map _).trans hp.symm)) hs2 hs
  subst e
  obtain ⟨ws, hw, rfl⟩ := perm_map_inv _ hp
  rw [← lots_tup]
  refine ⟨ws.map lotN, rfl, by rw [List.length_map, hw.length_eq]; omega, fun l hl => ?_, ?_⟩
  · obtain ⟨r, hr', rfl⟩ := List.mem_map.mp hl
    have := lotN_len (lt r (hw.mem_iff.mp hr'))
    omega
  (try dsimp only [gN, gN2, sNil, sSeq, sExp, sRet, sIf, sPass, sCont, sBrk, sSet, sSetO, sApp, sFrz, sAug, sRaise, sAsg, sPut, eV, eC, e1, e2, t2, tBl, tTru, tN, tAn, tOo, tCh, eNot, eAn, eOo, eIf, eTup, eLst, eF, eFld, eIs, eIxO, eLenO, eSl, eRev, eB, eCall, eCallG, eMeth, aN, aC, aV, oNo, oPt, eIsO, oSrtI, oSrtT, oLt, oLe, oGt, oGe, oI, oIC, oI1, oAdd, oMul, oEq, oIsN, oIx, oLen, oList, oTuple, oAbs, oMin2, oInt1, fLst, fList, fRep, fCat, tYs, tru, isS, dats, seqD, seqO, tyS, List.set, List.getElem?_cons_zero, List.getElem?_cons_succ, List.append_eq, List.nil_append, List.cons_append, Option.map_some, Option.bind_some, ng, wipeD, List.length_cons, List.length_nil, Nat.reduceAdd, Nat.reduceSub, List.replicate_succ, List.replicate_zero]; try simp only [decide_eq_true_eq, Bool.not_eq_true', decide_eq_false_iff_not, Bool.false_eq_true, if_false, if_true, reduceIte, String.reduceBEq, Bool.true_or, Bool.false_or, Bool.or_false, Bool.and_false, Bool.false_and, Bool.and_true, Bool.true_and, Bool.not_true, Bool.not_false, ne_eq, not_true_eq_false, reduceCtorEq, Bool.true_eq_false, decide_true, decide_false])
  rw [shl1_nat, Int.toNat_natCast]
  refine ⟨cpow1 (by omega), by omega, by omega, by omega, ?_⟩
  have e1 : rep [D.bl false] (1 * 2 ^ n) = (List.replicate (2 ^ n) false).map D.bl := by
    rw [Nat.one_mul]
    unfold rep
    rw [List.map_replicate]
    generalize 2 ^ n = m
    induction m with
    | zero => rfl
    | succ m ih => rw [List.replicate_succ, List.flatten_cons, ih, List.replicate_succ]; rfl
  first | rw [e1] | (rw [Nat.one_mul] at e1; rw [e1])
  refine ⟨fun i ρ => ∃ (z : Sl) (bs : List Bool), ρ = [.dat (bookX n (reduceF rs)), .dat (.int (n : Int)), .dat (.lst (natX (closeF rs))), .dat (.lst ((ws.map lotN).map lotX)), .own (bs.map D.bl), z, .un] ∧ bs.length = 2 ^ n ∧ ∀ j, j < 2 ^ n → bs[j]? = some (decide (j ∈ (closeF rs).take i)), ⟨_, _, rfl, List.length_replicate .., fun j hj => by rw [List.getElem?_replicate, if_pos hj]; simp⟩, ?_, ?_⟩
  · rintro i x ρ hx ⟨z, bs, rfl, bl, hb⟩
    obtain ⟨r, hr', rfl⟩ := natX_get hx
    have rl : r < 2 ^ n := lt r (List.mem_of_getElem? hr')
    (try dsimp only [gN, gN2, sNil, sSeq, sExp, sRet, sIf, sPass, sCont, sBrk, sSet, sSetO, sApp, sFrz, sAug, sRaise, sAsg, sPut, eV, eC, e1, e2, t2, tBl, tTru, tN, tAn, tOo, tCh, eNot, eAn, eOo, eIf, eTup, eLst, eF, eFld, eIs, eIxO, eLenO, eSl, eRev, eB, eCall, eCallG, eMeth, aN, aC, aV, oNo, oPt, eIsO, oSrtI, oSrtT, oLt, oLe, oGt, oGe, oI, oIC, oI1, oAdd, oMul, oEq, oIsN, oIx, oLen, oList, oTuple, oAbs, oMin2, oInt1, fLst, fList, fRep, fCat, tYs, tru, isS, dats, seqD, seqO, tyS, List.set, List.getElem?_cons_zero, List.getElem?_cons_succ, List.append_eq, List.nil_append, List.cons_append, Option.map_some, Option.bind_some, ng, wipeD, List.length_cons, List.length_nil, Nat.reduceAdd, Nat.reduceSub, List.replicate_succ, List.replicate_zero]; try simp only [decide_eq_true_eq, Bool.not_eq_true', decide_eq_false_iff_not, Bool.false_eq_true, if_false, if_true, reduceIte, String.reduceBEq, Bool.true_or, Bool.false_or, Bool.or_false, Bool.and_false, Bool.false_and, Bool.and_true, Bool.true_and, Bool.not_true, Bool.not_false, ne_eq, not_true_eq_false, reduceCtorEq, Bool.true_eq_false, decide_true, decide_false])
    rw [ixN_nat (by rw [List.length_map, bl]; exact rl)]
    (try dsimp only [gN, gN2, sNil, sSeq, sExp, sRet, sIf, sPass, sCont, sBrk, sSet, sSetO, sApp, sFrz, sAug, sRaise, sAsg, sPut, eV, eC, e1, e2, t2, tBl, tTru, tN, tAn, tOo, tCh, eNot, eAn, eOo, eIf, eTup, eLst, eF, eFld, eIs, eIxO, eLenO, eSl, eRev, eB, eCall, eCallG, eMeth, aN, aC, aV, oNo, oPt, eIsO, oSrtI, oSrtT, oLt, oLe, oGt, oGe, oI, oIC, oI1, oAdd, oMul, oEq, oIsN, oIx, oLen, oList, oTuple, oAbs, oMin2, oInt1, fLst, fList, fRep, fCat, tYs, tru, isS, dats, seqD, seqO, tyS, List.set, List.getElem?_cons_zero, List.getElem?_cons_succ, List.append_eq, List.nil_append, List.cons_append, Option.map_some, Option.bind_some, ng, wipeD, List.length_cons, List.length_nil, Nat.reduceAdd, Nat.reduceSub, List.replicate_succ, List.replicate_zero]; try simp only [decide_eq_true_eq, Bool.not_eq_true', decide_eq_false_iff_not, Bool.false_eq_true, if_false, if_true, reduceIte, String.reduceBEq, Bool.true_or, Bool.false_or, Bool.or_false, Bool.and_false, Bool.false_and, Bool.and_true, Bool.true_and, Bool.not_true, Bool.not_false, ne_eq, not_true_eq_false, reduceCtorEq, Bool.true_eq_false, decide_true, decide_false])
    refine ⟨_, bs.set r true, by rw [List.map_set], by rw [List.length_set]; exact bl, fun j hj => ?_⟩
    rw [take_snocD hr']
    by_cases e : r = j
    · subst e
      rw [List.getElem?_set_self (by omega)]
      simp
    · rw [List.getElem?_set_ne e, hb j hj]
      have : j ≠ r := fun h => e h.symm
      simp [this]
  rintro ρ ⟨z, bs, rfl, bl, hb⟩
  rw [natX_len, List.take_length] at hb
  (try dsimp only [gN, gN2, sNil, sSeq, sExp, sRet, sIf, sPass, sCont, sBrk, sSet, sSetO, sApp, sFrz, sAug, sRaise, sAsg, sPut, eV, eC, e1, e2, t2, tBl, tTru, tN, tAn, tOo, tCh, eNot, eAn, eOo, eIf, eTup, eLst, eF, eFld, eIs, eIxO, eLenO, eSl, eRev, eB, eCall, eCallG, eMeth, aN, aC, aV, oNo, oPt, eIsO, oSrtI, oSrtT, oLt, oLe, oGt, oGe, oI, oIC, oI1, oAdd, oMul, oEq, oIsN, oIx, oLen, oList, oTuple, oAbs, oMin2, oInt1, fLst, fList, fRep, fCat, tYs, tru, isS, dats, seqD, seqO, tyS, List.set, List.getElem?_cons_zero, List.getElem?_cons_succ, List.append_eq, List.nil_append, List.cons_append, Option.map_some, Option.bind_some, ng, wipeD, List.length_cons, List.length_nil, Nat.reduceAdd, Nat.reduceSub, List.replicate_succ, List.replicate_zero, sFor, iRg1, iRg2, iSq, iEn, fLc]; try simp only [decide_eq_true_eq, Bool.not_eq_true', decide_eq_false_iff_not, Bool.false_eq_true, if_false, if_true, reduceIte, String.reduceBEq, Bool.true_or, Bool.false_or, Bool.or_false, Bool.and_false, Bool.false_and, Bool.and_true, Bool.true_and, Bool.not_true, Bool.not_false, ne_eq, not_true_eq_false, reduceCtorEq, Bool.true_eq_false, decide_true, decide_false])
  rw [shl1_nat]
  refine ⟨cpow1 (by omega), by omega, by omega, fun i ρ => ∃ (z y : Sl), ρ = [.dat (bookX n (reduceF rs)), .dat (.int (n : Int)), .dat (.lst (natX (closeF rs))), .dat (.lst ((ws.map lotN).map lotX)), .own (bs.map D.bl), z, y], ⟨_, _, rfl⟩, ?_, ?_⟩
  · rintro i x ρ hx ⟨z, y, rfl⟩
    obtain ⟨hi, rfl⟩ := rgD_get hx
    rw [Int.toNat_natCast] at hi
    rw [Int.zero_add]
    (try dsimp only [gN, gN2, sNil, sSeq, sExp, sRet, sIf, sPass, sCont, sBrk, sSet, sSetO, sApp, sFrz, sAug, sRaise, sAsg, sPut, eV, eC, e1, e2, t2, tBl, tTru, tN, tAn, tOo, tCh, eNot, eAn, eOo, eIf, eTup, eLst, eF, eFld, eIs, eIxO, eLenO, eSl, eRev, eB, eCall, eCallG, eMeth, aN, aC, aV, oNo, oPt, eIsO, oSrtI, oSrtT, oLt, oLe, oGt, oGe, oI, oIC, oI1, oAdd, oMul, oEq, oIsN, oIx, oLen, oList, oTuple, oAbs, oMin2, oInt1, fLst, fList, fRep, fCat, tYs, tru, isS, dats, seqD, seqO, tyS, List.set, List.getElem?_cons_zero, List.getElem?_cons_succ, List.append_eq, List.nil_append, List.cons_append, Option.map_some, Option.bind_some, ng, wipeD, List.length_cons, List.length_nil, Nat.reduceAdd, Nat.reduceSub, List.replicate_succ, List.replicate_zero]; try simp only [decide_eq_true_eq, Bool.not_eq_true', decide_eq_false_iff_not, Bool.false_eq_true, if_false, if_true, reduceIte, String.reduceBEq, Bool.true_or, Bool.false_or, Bool.or_false, Bool.and_false, Bool.false_and, Bool.and_true, Bool.true_and, Bool.not_true, Bool.not_false, ne_eq, not_true_eq_false, reduceCtorEq, Bool.true_eq_false, decide_true, decide_false])
    have ga : atI (bs.map D.bl) (i : Int) = some (.bl (decide (i ∈ closeF rs))) := by
      rw [at_nat, List.getElem?_map, hb i hi]; rfl
    refine ⟨rfl, rfl, i, rfl, big i hi, ?_⟩
    refine ⟨n, reduceF rs, lotN i, rfl, by omega, ⟨lotN_asc i, lotN_lt hi⟩, ?_⟩
    dsimp only
    rw [ga, maskN_lotN, show decide (clearedF (-1) i (reduceF rs) = 0) = decide (i ∈ closeF rs) from decide_eq_decide.mpr ((cleared_zero (red_of hr).alone i).trans (reduce_close rs i))]
    dsimp only
    refine ⟨_, _, rfl, ?_⟩
    dsimp only
    rw [decide_eq_true rfl, if_neg (by decide)]
    exact ⟨_, _, rfl⟩
  · rintro ρ ⟨z, y, rfl⟩
    (try dsimp only [gN, gN2, sNil, sSeq, sExp, sRet, sIf, sPass, sCont, sBrk, sSet, sSetO, sApp, sFrz, sAug, sRaise, sAsg, sPut, eV, eC, e1, e2, t2, tBl, tTru, tN, tAn, tOo, tCh, eNot, eAn, eOo, eIf, eTup, eLst, eF, eFld, eIs, eIxO, eLenO, eSl, eRev, eB, eCall, eCallG, eMeth, aN, aC, aV, oNo, oPt, eIsO, oSrtI, oSrtT, oLt, oLe, oGt, oGe, oI, oIC, oI1, oAdd, oMul, oEq, oIsN, oIx, oLen, oList, oTuple, oAbs, oMin2, oInt1, fLst, fList, fRep, fCat, tYs, tru, isS, dats, seqD, seqO, tyS, List.set, List.getElem?_cons_zero, List.getElem?_cons_succ, List.append_eq, List.nil_append, List.cons_append, Option.map_some, Option.bind_some, ng, wipeD, List.length_cons, List.length_nil, Nat.reduceAdd, Nat.reduceSub, List.replicate_succ, List.replicate_zero]; try simp only [decide_eq_true_eq, Bool.not_eq_true', decide_eq_false_iff_not, Bool.false_eq_true, if_false, if_true, reduceIte, String.reduceBEq, Bool.true_or, Bool.false_or, Bool.or_false, Bool.and_false, Bool.false_and, Bool.and_true, Bool.true_and, Bool.not_true, Bool.not_false, ne_eq, not_true_eq_false, reduceCtorEq, Bool.true_eq_false, decide_true, decide_false])
    exact q
/-! ### _law_sums_hold -/
theorem wordF_mask {ms : List Nat} {m n : Nat} (h : m < 2 ^ n) : wordF ms (lotN m) = (List.range n).foldl (fun w k => w ^^^ ms.getD k 0 * (m >>> k &&& 1)) 0 := by
  rw [lotN_eq h]
  unfold wordF lotB
  rw [List.foldl_filter]
  congr 1
  funext w k
  have e : m >>> k &&& 1 = if m.testBit k then 1 else 0 := by
    rw [Nat.and_one_is_mod, Nat.testBit, Nat.and_comm, Nat.and_one_is_mod]
    have := Nat.mod_two_eq_zero_or_one (m >>> k)
    rcases this with h | h <;> rw [h] <;> rfl
  rw [e]
  split <;> simp
theorem sem_law_sums_hold : ∀ as Qd Xd, d_law_sums_hold as Qd Xd → as.length = ["_law_book", "_law_rows_here", "_law_dim_here"].length ∧ r_law_sums_hold { nx := fun _ => Qd .non, rt := Qd } (as ++ List.replicate (["_law_book", "_law_rows_here", "_law_dim_here", "_law_numbers", "_law_expected", "_law_k"].length - as.length) .un) (fun _ => Xd) := by
  rintro as Qd Xd ⟨n, rs, rfl, n1, n12, hr, q⟩
  refine ⟨rfl, ?_⟩
  have R := red_of hr
  have dl := Nat.le_trans R.len n12
  generalize hms : reduceF rs = ms at R dl
  have pn : 2 ^ ms.length ≤ 2 ^ 12 := Nat.pow_le_pow_right (by decide) dl
  have p0 := Nat.two_pow_pos ms.length
  have big : ∀ r, r < 2 ^ ms.length → r < 2 ^ 1000 := fun r h => Nat.lt_of_lt_of_le h (Nat.pow_le_pow_right (by decide) (by omega))
  have hb1 : ∀ a : Nat, Builtin.bitAnd (a : Int) 1 = ((a &&& 1 : Nat) : Int) := fun a => bitAnd_nat a 1
  unfold r_law_sums_hold
  (try dsimp only [gN, gN2, sNil, sSeq, sExp, sRet, sIf, sPass, sCont, sBrk, sSet, sSetO, sApp, sFrz, sAug, sRaise, sAsg, sPut, eV, eC, e1, e2, t2, tBl, tTru, tN, tAn, tOo, tCh, eNot, eAn, eOo, eIf, eTup, eLst, eF, eFld, eIs, eIxO, eLenO, eSl, eRev, eB, eCall, eCallG, eMeth, aN, aC, aV, oNo, oPt, eIsO, oSrtI, oSrtT, oLt, oLe, oGt, oGe, oI, oIC, oI1, oAdd, oMul, oEq, oIsN, oIx, oLen, oList, oTuple, oAbs, oMin2, oInt1, fLst, fList, fRep, fCat, tYs, tru, isS, dats, seqD, seqO, tyS, List.set, List.getElem?_cons_zero, List.getElem?_cons_succ, List.append_eq, List.nil_append, List.cons_append, Option.map_some, Option.bind_some, ng, wipeD, List.length_cons, List.length_nil, Nat.reduceAdd, Nat.reduceSub, List.replicate_succ, List.replicate_zero, sFor, iRg1, iRg2, iSq, iEn, fLc]; try simp only [decide_eq_true_eq, Bool.not_eq_true', decide_eq_false_iff_not, Bool.false_eq_true, if_false, if_true, reduceIte, String.reduceBEq, Bool.true_or, Bool.false_or, Bool.or_false, Bool.and_false, Bool.false_and, Bool.and_true, Bool.true_and, Bool.not_true, Bool.not_false, ne_eq, not_true_eq_false, reduceCtorEq, Bool.true_eq_false, decide_true, decide_false])
  rw [shl1_nat]
  refine ⟨cpow1 (by omega), by omega, by omega, fun i ρ => ∃ z y x : Sl, ρ = [.dat (bookX n ms), .dat (.lst (natX ms)), .dat (.int (ms.length : Nat)), z, y, x], ⟨_, _, _, rfl⟩, ?_, ?_⟩
  · rintro m x ρ hx ⟨z, y, x', rfl⟩
    obtain ⟨hm, rfl⟩ := rgD_get hx
    rw [Int.toNat_natCast] at hm
    rw [Int.zero_add]
    (try dsimp only [gN, gN2, sNil, sSeq, sExp, sRet, sIf, sPass, sCont, sBrk, sSet, sSetO, sApp, sFrz, sAug, sRaise, sAsg, sPut, eV, eC, e1, e2, t2, tBl, tTru, tN, tAn, tOo, tCh, eNot, eAn, eOo, eIf, eTup, eLst, eF, eFld, eIs, eIxO, eLenO, eSl, eRev, eB, eCall, eCallG, eMeth, aN, aC, aV, oNo, oPt, eIsO, oSrtI, oSrtT, oLt, oLe, oGt, oGe, oI, oIC, oI1, oAdd, oMul, oEq, oIsN, oIx, oLen, oList, oTuple, oAbs, oMin2, oInt1, fLst, fList, fRep, fCat, tYs, tru, isS, dats, seqD, seqO, tyS, List.set, List.getElem?_cons_zero, List.getElem?_cons_succ, List.append_eq, List.nil_append, List.cons_append, Option.map_some, Option.bind_some, ng, wipeD, List.length_cons, List.length_nil, Nat.reduceAdd, Nat.reduceSub, List.replicate_succ, List.replicate_zero, sFor, iRg1, iRg2, iSq, iEn, fLc]; try simp only [decide_eq_true_eq, Bool.not_eq_true', decide_eq_false_iff_not, Bool.false_eq_true, if_false, if_true, reduceIte, String.reduceBEq, Bool.true_or, Bool.false_or, Bool.or_false, Bool.and_false, Bool.false_and, Bool.and_true, Bool.true_and, Bool.not_true, Bool.not_false, ne_eq, not_true_eq_false, reduceCtorEq, Bool.true_eq_false, decide_true, decide_false])
    refine ⟨by omega, by omega, fun i ρ => ∃ x : Sl, ρ = [.dat (bookX n ms), .dat (.lst (natX ms)), .dat (.int (ms.length : Nat)), .dat (.int (m : Int)), .dat (.int (((List.range i).foldl (fun w k => w ^^^ ms.getD k 0 * (m >>> k &&& 1)) 0 : Nat) : Int)), x], ⟨_, rfl⟩, ?_, ?_⟩
    · rintro k x ρ hx ⟨z2, rfl⟩
      obtain ⟨hk, rfl⟩ := rgD_get hx
      rw [Int.toNat_natCast] at hk
      rw [Int.zero_add]
      (try dsimp only [gN, gN2, sNil, sSeq, sExp, sRet, sIf, sPass, sCont, sBrk, sSet, sSetO, sApp, sFrz, sAug, sRaise, sAsg, sPut, eV, eC, e1, e2, t2, tBl, tTru, tN, tAn, tOo, tCh, eNot, eAn, eOo, eIf, eTup, eLst, eF, eFld, eIs, eIxO, eLenO, eSl, eRev, eB, eCall, eCallG, eMeth, aN, aC, aV, oNo, oPt, eIsO, oSrtI, oSrtT, oLt, oLe, oGt, oGe, oI, oIC, oI1, oAdd, oMul, oEq, oIsN, oIx, oLen, oList, oTuple, oAbs, oMin2, oInt1, fLst, fList, fRep, fCat, tYs, tru, isS, dats, seqD, seqO, tyS, List.set, List.getElem?_cons_zero, List.getElem?_cons_succ, List.append_eq, List.nil_append, List.cons_append, Option.map_some, Option.bind_some, ng, wipeD, List.length_cons, List.length_nil, Nat.reduceAdd, Nat.reduceSub, List.replicate_succ, List.replicate_zero]; try simp only [decide_eq_true_eq, Bool.not_eq_true', decide_eq_false_iff_not, Bool.false_eq_true, if_false, if_true, reduceIte, String.reduceBEq, Bool.true_or, Bool.false_or, Bool.or_false, Bool.and_false, Bool.false_and, Bool.and_true, Bool.true_and, Bool.not_true, Bool.not_false, ne_eq, not_true_eq_false, reduceCtorEq, Bool.true_eq_false, decide_true, decide_false])
      rw [natX_at (List.getElem?_eq_getElem hk)]
      (try dsimp only [gN, gN2, sNil, sSeq, sExp, sRet, sIf, sPass, sCont, sBrk, sSet, sSetO, sApp, sFrz, sAug, sRaise, sAsg, sPut, eV, eC, e1, e2, t2, tBl, tTru, tN, tAn, tOo, tCh, eNot, eAn, eOo, eIf, eTup, eLst, eF, eFld, eIs, eIxO, eLenO, eSl, eRev, eB, eCall, eCallG, eMeth, aN, aC, aV, oNo, oPt, eIsO, oSrtI, oSrtT, oLt, oLe, oGt, oGe, oI, oIC, oI1, oAdd, oMul, oEq, oIsN, oIx, oLen, oList, oTuple, oAbs, oMin2, oInt1, fLst, fList, fRep, fCat, tYs, tru, isS, dats, seqD, seqO, tyS, List.set, List.getElem?_cons_zero, List.getElem?_cons_succ, List.append_eq, List.nil_append, List.cons_append, Option.map_some, Option.bind_some, ng, wipeD, List.length_cons, List.length_nil, Nat.reduceAdd, Nat.reduceSub, List.replicate_succ, List.replicate_zero]; try simp only [decide_eq_true_eq, Bool.not_eq_true', decide_eq_false_iff_not, Bool.false_eq_true, if_false, if_true, reduceIte, String.reduceBEq, Bool.true_or, Bool.false_or, Bool.or_false, Bool.and_false, Bool.false_and, Bool.and_true, Bool.true_and, Bool.not_true, Bool.not_false, ne_eq, not_true_eq_false, reduceCtorEq, Bool.true_eq_false, decide_true, decide_false])
      rw [shr_nat, hb1]
      refine ⟨by omega, ?_⟩
      (try dsimp only [gN, gN2, sNil, sSeq, sExp, sRet, sIf, sPass, sCont, sBrk, sSet, sSetO, sApp, sFrz, sAug, sRaise, sAsg, sPut, eV, eC, e1, e2, t2, tBl, tTru, tN, tAn, tOo, tCh, eNot, eAn, eOo, eIf, eTup, eLst, eF, eFld, eIs, eIxO, eLenO, eSl, eRev, eB, eCall, eCallG, eMeth, aN, aC, aV, oNo, oPt, eIsO, oSrtI, oSrtT, oLt, oLe, oGt, oGe, oI, oIC, oI1, oAdd, oMul, oEq, oIsN, oIx, oLen, oList, oTuple, oAbs, oMin2, oInt1, fLst, fList, fRep, fCat, tYs, tru, isS, dats, seqD, seqO, tyS, List.set, List.getElem?_cons_zero, List.getElem?_cons_succ, List.append_eq, List.nil_append, List.cons_append, Option.map_some, Option.bind_some, ng, wipeD, List.length_cons, List.length_nil, Nat.reduceAdd, Nat.reduceSub, List.replicate_succ, List.replicate_zero]; try simp only [decide_eq_true_eq, Bool.not_eq_true', decide_eq_false_iff_not, Bool.false_eq_true, if_false, if_true, reduceIte, String.reduceBEq, Bool.true_or, Bool.false_or, Bool.or_false, Bool.and_false, Bool.false_and, Bool.and_true, Bool.true_and, Bool.not_true, Bool.not_false, ne_eq, not_true_eq_false, reduceCtorEq, Bool.true_eq_false, decide_true, decide_false])
      have l1 : m >>> k &&& 1 ≤ 1 := Nat.and_le_right
      refine ⟨.inr ⟨by omega, by omega⟩, .dat (.int (k : Int)), ?_⟩
      have e2 : ((ms[k] : Nat) : Int) * ((m >>> k &&& 1 : Nat) : Int) = ((ms[k] * (m >>> k &&& 1) : Nat) : Int) := (Int.natCast_mul _ _).symm
      rw [e2, bitXor_nat, List.range_succ, List.foldl_append]
      have e3 : ms.getD k 0 = ms[k] := by rw [List.getD_eq_getElem?_getD, List.getElem?_eq_getElem hk]; rfl
      simp only [List.foldl_cons, List.foldl_nil, e3]
    · rintro ρ ⟨z2, rfl⟩
      rw [rgD_len, Int.toNat_natCast, ← wordF_mask hm]
      (try dsimp only [gN, gN2, sNil, sSeq, sExp, sRet, sIf, sPass, sCont, sBrk, sSet, sSetO, sApp, sFrz, sAug, sRaise, sAsg, sPut, eV, eC, e1, e2, t2, tBl, tTru, tN, tAn, tOo, tCh, eNot, eAn, eOo, eIf, eTup, eLst, eF, eFld, eIs, eIxO, eLenO, eSl, eRev, eB, eCall, eCallG, eMeth, aN, aC, aV, oNo, oPt, eIsO, oSrtI, oSrtT, oLt, oLe, oGt, oGe, oI, oIC, oI1, oAdd, oMul, oEq, oIsN, oIx, oLen, oList, oTuple, oAbs, oMin2, oInt1, fLst, fList, fRep, fCat, tYs, tru, isS, dats, seqD, seqO, tyS, List.set, List.getElem?_cons_zero, List.getElem?_cons_succ, List.append_eq, List.nil_append, List.cons_append, Option.map_some, Option.bind_some, ng, wipeD, List.length_cons, List.length_nil, Nat.reduceAdd, Nat.reduceSub, List.replicate_succ, List.replicate_zero]; try simp only [decide_eq_true_eq, Bool.not_eq_true', decide_eq_false_iff_not, Bool.false_eq_true, if_false, if_true, reduceIte, String.reduceBEq, Bool.true_or, Bool.false_or, Bool.or_false, Bool.and_false, Bool.false_and, Bool.and_true, Bool.true_and, Bool.not_true, Bool.not_false, ne_eq, not_true_eq_false, reduceCtorEq, Bool.true_eq_false, decide_true, decide_false])
      refine ⟨rfl, rfl, m, rfl, big m hm, n, ms, lotN m, rfl, R, by omega, ⟨lotN_asc m, lotN_lt hm⟩, ?_⟩
      refine ⟨wordF ms (lotN m), rfl, Nat.lt_of_lt_of_le (wordF_lt R.lt _) (Nat.pow_le_pow_right (by decide) (by omega)), ?_⟩
      refine ⟨_, _, rfl, pyR_lot _, (sm_lot (n := 12) ⟨lotN_asc _, lotN_lt (Nat.lt_of_lt_of_le (wordF_lt R.lt _) (Nat.pow_le_pow_right (by decide) n12))⟩ (by decide)).sr (by decide), trivial, ?_⟩
      (try dsimp only [gN, gN2, sNil, sSeq, sExp, sRet, sIf, sPass, sCont, sBrk, sSet, sSetO, sApp, sFrz, sAug, sRaise, sAsg, sPut, eV, eC, e1, e2, t2, tBl, tTru, tN, tAn, tOo, tCh, eNot, eAn, eOo, eIf, eTup, eLst, eF, eFld, eIs, eIxO, eLenO, eSl, eRev, eB, eCall, eCallG, eMeth, aN, aC, aV, oNo, oPt, eIsO, oSrtI, oSrtT, oLt, oLe, oGt, oGe, oI, oIC, oI1, oAdd, oMul, oEq, oIsN, oIx, oLen, oList, oTuple, oAbs, oMin2, oInt1, fLst, fList, fRep, fCat, tYs, tru, isS, dats, seqD, seqO, tyS, List.set, List.getElem?_cons_zero, List.getElem?_cons_succ, List.append_eq, List.nil_append, List.cons_append, Option.map_some, Option.bind_some, ng, wipeD, List.length_cons, List.length_nil, Nat.reduceAdd, Nat.reduceSub, List.replicate_succ, List.replicate_zero]; try simp only [decide_eq_true_eq, Bool.not_eq_true', decide_eq_false_iff_not, Bool.false_eq_true, if_false, if_true, reduceIte, String.reduceBEq, Bool.true_or, Bool.false_or, Bool.or_false, Bool.and_false, Bool.false_and, Bool.and_true, Bool.true_and, Bool.not_true, Bool.not_false, ne_eq, not_true_eq_false, reduceCtorEq, Bool.true_eq_false, decide_true, decide_false])
      exact ⟨_, _, _, rfl⟩
  · rintro ρ ⟨z, y, x', rfl⟩
    (try dsimp only [gN, gN2, sNil, sSeq, sExp, sRet, sIf, sPass, sCont, sBrk, sSet, sSetO, sApp, sFrz, sAug, sRaise, sAsg, sPut, eV, eC, e1, e2, t2, tBl, tTru, tN, tAn, tOo, tCh, eNot, eAn, eOo, eIf, eTup, eLst, eF, eFld, eIs, eIxO, eLenO, eSl, eRev, eB, eCall, eCallG, eMeth, aN, aC, aV, oNo, oPt, eIsO, oSrtI, oSrtT, oLt, oLe, oGt, oGe, oI, oIC, oI1, oAdd, oMul, oEq, oIsN, oIx, oLen, oList, oTuple, oAbs, oMin2, oInt1, fLst, fList, fRep, fCat, tYs, tru, isS, dats, seqD, seqO, tyS, List.set, List.getElem?_cons_zero, List.getElem?_cons_succ, List.append_eq, List.nil_append, List.cons_append, Option.map_some, Option.bind_some, ng, wipeD, List.length_cons, List.length_nil, Nat.reduceAdd, Nat.reduceSub, List.replicate_succ, List.replicate_zero]; try simp only [decide_eq_true_eq, Bool.not_eq_true', decide_eq_false_iff_not, Bool.false_eq_true, if_false, if_true, reduceIte, String.reduceBEq, Bool.true_or, Bool.false_or, Bool.or_false, Bool.and_false, Bool.false_and, Bool.and_true, Bool.true_and, Bool.not_true, Bool.not_false, ne_eq, not_true_eq_false, reduceCtorEq, Bool.true_eq_false, decide_true, decide_false])
    exact q
/-! ### _law_equal_holds -/
theorem lcLotsA {fi : DI} {vs : List Nat} {i : Nat} {te : DE} {ρ : List Sl} {Q : List D → Prop} {Ed : DXt} {T : List Nat → Prop} (hf : ∀ R : List D → Prop, (∀ ts, T ts → R (natX ts)) → fi ρ R Ed) (hl : ∀ ts, T ts → ts.length ≤ 1000000)
    (hs : ∀ ts, T ts → ∀ r ∈ ts, ∀ Q' : D → Prop, Q' (lotX (lotN r)) → te ((wipeD ρ vs).set i (.dat (.int (r : Int)))) Q' X0) (q : ∀ ts, T ts → Q ((ts.map lotN).map lotX)) : fLc fi vs i tYs te ρ Q Ed :=
  hf _ fun ts ht => lcLots (fi := fun _ R _ => R (natX ts)) (Ed := Ed) ts (fun _ h => h) (hl ts ht) (hs ts ht) (q ts ht)
theorem lots_masks (ts : List Nat) : (ts.map lotN).map maskN = ts := by
  induction ts with
  | nil => rfl
  | cons t ts ih => rw [List.map_cons, List.map_cons, ih, maskN_lotN]
theorem mkBook {n : Nat} {ts : List Nat} {Q : D → Prop} {Ed : Str → D → Prop} (n1 : 1 ≤ n) (n24 : n ≤ 24) (hl : ts.length ≤ 60) (lt : ∀ t ∈ ts, t < 2 ^ n) (q : Q (bookX n (reduceF ts))) : d_Book [.dat (.int (n : Int)), .dat (.lst ((ts.map lotN).map lotX))] Q Ed := by
  refine ⟨n, ts.map lotN, rfl, n1, n24, by rw [List.length_map]; exact hl, fun l hl => ?_, by rw [lots_masks]; exact q⟩
  obtain ⟨t, ht, rfl⟩ := List.mem_map.mp hl
  exact ⟨lotN_asc t, lotN_lt (lt t ht)⟩
theorem own_books {neg : Bool} {n m : Nat} {ms ks : List Nat} {Q : D → Prop} (q : Q (.bl (ng neg (decide (n = m ∧ ms = ks))))) : oOwn neg "Book" d_Book_eq (bookX n ms) (bookX m ks) Q :=
  ⟨rfl, kd_book m ks, n, ms, bookX m ks, _, rfl, .yes m ks, _, rfl, q⟩
theorem own_other {neg : Bool} {n : Nat} {ms : List Nat} {y : D} {t : String} {Q : D → Prop} (h : tyS y = some t) (q : Q (.bl (ng neg false))) : oOwn neg "Book" d_Book_eq (bookX n ms) y Q :=
  ⟨rfl, kd_not h, n, ms, y, _, rfl, .no h, _, rfl, q⟩
theorem flagOwn {neg : Bool} {n m : Nat} {ms ks : List Nat} {c : Bool} {Q : D → Prop} {Xd : Str → D → Prop} (h : ng neg (decide (n = m ∧ ms = ks)) = c) (q : Q (.bl true)) : oOwn neg "Book" d_Book_eq (bookX n ms) (bookX m ks) (fun d => d_law_flag [.dat d, .dat (.bl c)] Q Xd) :=
  own_books ⟨_, c, rfl, by rw [h, decide_eq_true rfl]; exact q⟩
theorem flagOther {neg : Bool} {n : Nat} {ms : List Nat} {y : D} {t : String} {c : Bool} {Q : D → Prop} {Xd : Str → D → Prop} (ht : tyS y = some t) (h : ng neg false = c) (q : Q (.bl true)) : oOwn neg "Book" d_Book_eq (bookX n ms) y (fun d => d_law_flag [.dat d, .dat (.bl c)] Q Xd) :=
  own_other ht ⟨_, c, rfl, by rw [h, decide_eq_true rfl]; exact q⟩
theorem in_nats {r : Nat} {ws : List Nat} {Q : D → Prop} (q : Q (.bl (decide (r ∈ ws)))) : oIn false (.int (r : Int)) (.lst (natX ws)) Q := by
  refine ⟨.int (r : Int), _, rfl, pyNs_nat _, shaped_int _, shaped_nats _, ?_⟩
  rw [any_eqv]
  exact q
theorem cons_same {v : Nat} {rs : List Nat} : reduceF (v :: rs) = reduceF rs ↔ v ∈ closeF rs := by
  rw [reduce_same]
  constructor
  · intro h
    exact (h v).mp (closeF_mem v (List.mem_cons_self ..))
  · intro h
    refine closeF_same (fun t ht => ?_) (fun r hr => closeF_mem _ (List.mem_cons_of_mem _ hr))
    rcases List.mem_cons.mp ht with rfl | ht
    · exact h
    · exact closeF_mem _ ht
theorem intsD_nats : ∀ l : List Nat, intsD (natX l) = some (intsN l)
  | [] => rfl
  | p :: l => by
    have q := intsD_nats l
    unfold natX intsN at q ⊢
    rw [List.map_cons, List.map_cons, intsD, q]; rfl
theorem ints_nat (l : List Nat) : (l.map fun p : Nat => (p : Int)).map D.int = natX l := by
  unfold natX; rw [List.map_map]; rfl
theorem sorted_eq {rs os xs ys : List Nat} (hx : xs.Perm (closeF os)) (hy : ys.Perm (closeF rs)) (sx : (xs.map fun p : Nat => (p : Int)).Pairwise (· ≤ ·)) (sy : (ys.map fun p : Nat => (p : Int)).Pairwise (· ≤ ·)) : reduceF rs = reduceF os ↔ xs = ys := by
  rw [List.pairwise_map] at sx sy
  rw [reduce_same]
  constructor
  · intro h
    have p : xs.Perm ys := hx.trans (((List.perm_ext_iff_of_nodup (closeF_nodup os).1 (closeF_nodup rs).1).mpr fun w => (h w).symm).trans hy.symm)
    exact sorted_one (fun x => x) p (sx.imp fun h => Int.ofNat_le.mp h) (sy.imp fun h => Int.ofNat_le.mp h) fun x _ y _ e => e
  · rintro rfl w
    rw [← hy.mem_iff, hx.mem_iff]
theorem sem_law_equal_holds : ∀ as Qd Xd, d_law_equal_holds as Qd Xd → as.length = ["_law_source_here", "_law_book", "_law_size", "_law_rows_here", "_law_words_here"].length ∧ r_law_equal_holds { nx := fun _ => Qd .non, rt := Qd } (as ++ List.replicate (["_law_source_here", "_law_book", "_law_size", "_law_rows_here", "_law_words_here", "_law_again", "_law_row", "_law_more", "_law_other_rows", "_law_other", "_law_wider", "_law_lots", "_law_thing", "_law_item"].length - as.length) .un) (fun _ => Xd) := by
  rintro as Qd Xd ⟨n, rs, rfl, n1, n8, hl, hr, q⟩
  refine ⟨rfl, ?_⟩
  have pn : 2 ^ n ≤ 2 ^ 12 := Nat.pow_le_pow_right (by decide) (by omega)
  have p0 := Nat.two_pow_pos n
  have lt := closeF_lt hr
  have big : ∀ r, r < 2 ^ n → r < 2 ^ 1000 := fun r h => Nat.lt_of_lt_of_le h (Nat.pow_le_pow_right (by decide) (by omega))
  have ltT : ∀ ts : List Nat, (∀ w, w ∈ closeF ts ↔ w ∈ closeF rs) → ∀ t ∈ ts, t < 2 ^ n := fun ts h t ht => lt t ((h t).mp (closeF_mem t ht))
  unfold r_law_equal_holds
  (try dsimp only [gN, gN2, sNil, sSeq, sExp, sRet, sIf, sPass, sCont, sBrk, sSet, sSetO, sApp, sFrz, sAug, sRaise, sAsg, sPut, eV, eC, e1, e2, t2, tBl, tTru, tN, tAn, tOo, tCh, eNot, eAn, eOo, eIf, eTup, eLst, eF, eFld, eIs, eIxO, eLenO, eSl, eRev, eB, eCall, eCallG, eMeth, aN, aC, aV, oNo, oPt, eIsO, oSrtI, oSrtT, oLt, oLe, oGt, oGe, oI, oIC, oI1, oAdd, oMul, oEq, oIsN, oIx, oLen, oList, oTuple, oAbs, oMin2, oInt1, fLst, fList, fRep, fCat, tYs, tru, isS, dats, seqD, seqO, tyS, List.set, List.getElem?_cons_zero, List.getElem?_cons_succ, List.append_eq, List.nil_append, List.cons_append, Option.map_some, Option.bind_some, ng, wipeD, List.length_cons, List.length_nil, Nat.reduceAdd, Nat.reduceSub, List.replicate_succ, List.replicate_zero]; try simp only [decide_eq_true_eq, Bool.not_eq_true', decide_eq_false_iff_not, Bool.false_eq_true, if_false, if_true, reduceIte, String.reduceBEq, Bool.true_or, Bool.false_or, Bool.or_false, Bool.and_false, Bool.false_and, Bool.and_true, Bool.true_and, Bool.not_true, Bool.not_false, ne_eq, not_true_eq_false, reduceCtorEq, Bool.true_eq_false, decide_true, decide_false])
  refine lcLotsA (T := fun ts => ts.length ≤ 60 ∧ ∀ w, w ∈ closeF ts ↔ w ∈ closeF rs) (fun R h => ⟨rs, rfl, by omega, fun r hr' => Nat.lt_of_lt_of_le (hr r hr') (Nat.pow_le_pow_right (by decide) (by omega)), fun ts a b => h ts ⟨a, b⟩⟩) (fun ts h => by omega) (fun ts h r hr' Q' q => ⟨r, rfl, big r (ltT ts h.2 r hr'), q⟩) ?_
  rintro ts ⟨tl, tw⟩
  refine mkBook n1 (by omega) tl (ltT ts tw) ?_
  have e1 : reduceF ts = reduceF rs := reduce_same.mpr tw
  rw [e1]
  (try dsimp only [gN, gN2, sNil, sSeq, sExp, sRet, sIf, sPass, sCont, sBrk, sSet, sSetO, sApp, sFrz, sAug, sRaise, sAsg, sPut, eV, eC, e1, e2, t2, tBl, tTru, tN, tAn, tOo, tCh, eNot, eAn, eOo, eIf, eTup, eLst, eF, eFld, eIs, eIxO, eLenO, eSl, eRev, eB, eCall, eCallG, eMeth, aN, aC, aV, oNo, oPt, eIsO, oSrtI, oSrtT, oLt, oLe, oGt, oGe, oI, oIC, oI1, oAdd, oMul, oEq, oIsN, oIx, oLen, oList, oTuple, oAbs, oMin2, oInt1, fLst, fList, fRep, fCat, tYs, tru, isS, dats, seqD, seqO, tyS, List.set, List.getElem?_cons_zero, List.getElem?_cons_succ, List.append_eq, List.nil_append, List.cons_append, Option.map_some, Option.bind_some, ng, wipeD, List.length_cons, List.length_nil, Nat.reduceAdd, Nat.reduceSub, List.replicate_succ, List.replicate_zero]; try simp only [decide_eq_true_eq, Bool.not_eq_true', decide_eq_false_iff_not, Bool.false_eq_true, if_false, if_true, reduceIte, String.reduceBEq, Bool.true_or, Bool.false_or, Bool.or_false, Bool.and_false, Bool.false_and, Bool.and_true, Bool.true_and, Bool.not_true, Bool.not_false, ne_eq, not_true_eq_false, reduceCtorEq, Bool.true_eq_false, decide_true, decide_false])
  refine flagOwn (by simp [ng]) ?_
  (try dsimp only [gN, gN2, sNil, sSeq, sExp, sRet, sIf, sPass, sCont, sBrk, sSet, sSetO, sApp, sFrz, sAug, sRaise, sAsg, sPut, eV, eC, e1, e2, t2, tBl, tTru, tN, tAn, tOo, tCh, eNot, eAn, eOo, eIf, eTup, eLst, eF, eFld, eIs, eIxO, eLenO, eSl, eRev, eB, eCall, eCallG, eMeth, aN, aC, aV, oNo, oPt, eIsO, oSrtI, oSrtT, oLt, oLe, oGt, oGe, oI, oIC, oI1, oAdd, oMul, oEq, oIsN, oIx, oLen, oList, oTuple, oAbs, oMin2, oInt1, fLst, fList, fRep, fCat, tYs, tru, isS, dats, seqD, seqO, tyS, List.set, List.getElem?_cons_zero, List.getElem?_cons_succ, List.append_eq, List.nil_append, List.cons_append, Option.map_some, Option.bind_some, ng, wipeD, List.length_cons, List.length_nil, Nat.reduceAdd, Nat.reduceSub, List.replicate_succ, List.replicate_zero]; try simp only [decide_eq_true_eq, Bool.not_eq_true', decide_eq_false_iff_not, Bool.false_eq_true, if_false, if_true, reduceIte, String.reduceBEq, Bool.true_or, Bool.false_or, Bool.or_false, Bool.and_false, Bool.false_and, Bool.and_true, Bool.true_and, Bool.not_true, Bool.not_false, ne_eq, not_true_eq_false, reduceCtorEq, Bool.true_eq_false, decide_true, decide_false])
  refine flagOwn (by simp [ng]) ?_
  (try dsimp only [gN, gN2, sNil, sSeq, sExp, sRet, sIf, sPass, sCont, sBrk, sSet, sSetO, sApp, sFrz, sAug, sRaise, sAsg, sPut, eV, eC, e1, e2, t2, tBl, tTru, tN, tAn, tOo, tCh, eNot, eAn, eOo, eIf, eTup, eLst, eF, eFld, eIs, eIxO, eLenO, eSl, eRev, eB, eCall, eCallG, eMeth, aN, aC, aV, oNo, oPt, eIsO, oSrtI, oSrtT, oLt, oLe, oGt, oGe, oI, oIC, oI1, oAdd, oMul, oEq, oIsN, oIx, oLen, oList, oTuple, oAbs, oMin2, oInt1, fLst, fList, fRep, fCat, tYs, tru, isS, dats, seqD, seqO, tyS, List.set, List.getElem?_cons_zero, List.getElem?_cons_succ, List.append_eq, List.nil_append, List.cons_append, Option.map_some, Option.bind_some, ng, wipeD, List.length_cons, List.length_nil, Nat.reduceAdd, Nat.reduceSub, List.replicate_succ, List.replicate_zero]; try simp only [decide_eq_true_eq, Bool.not_eq_true', decide_eq_false_iff_not, Bool.false_eq_true, if_false, if_true, reduceIte, String.reduceBEq, Bool.true_or, Bool.false_or, Bool.or_false, Bool.and_false, Bool.false_and, Bool.and_true, Bool.true_and, Bool.not_true, Bool.not_false, ne_eq, not_true_eq_false, reduceCtorEq, Bool.true_eq_false, decide_true, decide_false])
  refine own_books ?_
  rw [show ng true (decide (n = n ∧ reduceF rs = reduceF rs)) = false from by simp [ng]]
  (try dsimp only [gN, gN2, sNil, sSeq, sExp, sRet, sIf, sPass, sCont, sBrk, sSet, sSetO, sApp, sFrz, sAug, sRaise, sAsg, sPut, eV, eC, e1, e2, t2, tBl, tTru, tN, tAn, tOo, tCh, eNot, eAn, eOo, eIf, eTup, eLst, eF, eFld, eIs, eIxO, eLenO, eSl, eRev, eB, eCall, eCallG, eMeth, aN, aC, aV, oNo, oPt, eIsO, oSrtI, oSrtT, oLt, oLe, oGt, oGe, oI, oIC, oI1, oAdd, oMul, oEq, oIsN, oIx, oLen, oList, oTuple, oAbs, oMin2, oInt1, fLst, fList, fRep, fCat, tYs, tru, isS, dats, seqD, seqO, tyS, List.set, List.getElem?_cons_zero, List.getElem?_cons_succ, List.append_eq, List.nil_append, List.cons_append, Option.map_some, Option.bind_some, ng, wipeD, List.length_cons, List.length_nil, Nat.reduceAdd, Nat.reduceSub, List.replicate_succ, List.replicate_zero]; try simp only [decide_eq_true_eq, Bool.not_eq_true', decide_eq_false_iff_not, Bool.false_eq_true, if_false, if_true, reduceIte, String.reduceBEq, Bool.true_or, Bool.false_or, Bool.or_false, Bool.and_false, Bool.false_and, Bool.and_true, Bool.true_and, Bool.not_true, Bool.not_false, ne_eq, not_true_eq_false, reduceCtorEq, Bool.true_eq_false, decide_true, decide_false])
  -- one row more
  refine ⟨cpow1 (by omega), ?_⟩
  rw [shl1_nat]
  refine ⟨_, rfl, by omega, by omega, fun v v0 v1 => ?_⟩
  obtain ⟨v, rfl⟩ := Int.eq_ofNat_of_zero_le v0
  have vl : v < 2 ^ n := by omega
  have ltV : ∀ t ∈ v :: rs, t < 2 ^ n := fun t ht => by
    rcases List.mem_cons.mp ht with rfl | ht
    · exact vl
    · exact hr t ht
  refine lcLots (v :: rs) (fun R h => ⟨by rw [natX_len]; show 1 + rs.length ≤ 1000000; omega, h⟩) (by rw [List.length_cons]; omega) (fun r hr' Q' q => ⟨r, rfl, big r (ltV r hr'), q⟩) ?_
  refine mkBook n1 (by omega) (by rw [List.length_cons]; omega) ltV ?_
  have e2 : decide (n = n ∧ reduceF (v :: rs) = reduceF rs) = decide (v ∈ closeF rs) := by
    rw [decide_eq_decide]
    exact ⟨fun h => cons_same.mp h.2, fun h => ⟨rfl, cons_same.mpr h⟩⟩
  have e3 : decide (n = n ∧ reduceF rs = reduceF (v :: rs)) = decide (v ∈ closeF rs) := by
    rw [decide_eq_decide]
    exact ⟨fun h => cons_same.mp h.2.symm, fun h => ⟨rfl, (cons_same.mpr h).symm⟩⟩
  (try dsimp only [gN, gN2, sNil, sSeq, sExp, sRet, sIf, sPass, sCont, sBrk, sSet, sSetO, sApp, sFrz, sAug, sRaise, sAsg, sPut, eV, eC, e1, e2, t2, tBl, tTru, tN, tAn, tOo, tCh, eNot, eAn, eOo, eIf, eTup, eLst, eF, eFld, eIs, eIxO, eLenO, eSl, eRev, eB, eCall, eCallG, eMeth, aN, aC, aV, oNo, oPt, eIsO, oSrtI, oSrtT, oLt, oLe, oGt, oGe, oI, oIC, oI1, oAdd, oMul, oEq, oIsN, oIx, oLen, oList, oTuple, oAbs, oMin2, oInt1, fLst, fList, fRep, fCat, tYs, tru, isS, dats, seqD, seqO, tyS, List.set, List.getElem?_cons_zero, List.getElem?_cons_succ, List.append_eq, List.nil_append, List.cons_append, Option.map_some, Option.bind_some, ng, wipeD, List.length_cons, List.length_nil, Nat.reduceAdd, Nat.reduceSub, List.replicate_succ, List.replicate_zero]; try simp only [decide_eq_true_eq, Bool.not_eq_true', decide_eq_false_iff_not, Bool.false_eq_true, if_false, if_true, reduceIte, String.reduceBEq, Bool.true_or, Bool.false_or, Bool.or_false, Bool.and_false, Bool.false_and, Bool.and_true, Bool.true_and, Bool.not_true, Bool.not_false, ne_eq, not_true_eq_false, reduceCtorEq, Bool.true_eq_false, decide_true, decide_false])
  refine own_books (in_nats ⟨_, _, rfl, ?_⟩)
  rw [show ng false (decide (n = n ∧ reduceF (v :: rs) = reduceF rs)) = decide (v ∈ closeF rs) from e2, decide_eq_true rfl]
  (try dsimp only [gN, gN2, sNil, sSeq, sExp, sRet, sIf, sPass, sCont, sBrk, sSet, sSetO, sApp, sFrz, sAug, sRaise, sAsg, sPut, eV, eC, e1, e2, t2, tBl, tTru, tN, tAn, tOo, tCh, eNot, eAn, eOo, eIf, eTup, eLst, eF, eFld, eIs, eIxO, eLenO, eSl, eRev, eB, eCall, eCallG, eMeth, aN, aC, aV, oNo, oPt, eIsO, oSrtI, oSrtT, oLt, oLe, oGt, oGe, oI, oIC, oI1, oAdd, oMul, oEq, oIsN, oIx, oLen, oList, oTuple, oAbs, oMin2, oInt1, fLst, fList, fRep, fCat, tYs, tru, isS, dats, seqD, seqO, tyS, List.set, List.getElem?_cons_zero, List.getElem?_cons_succ, List.append_eq, List.nil_append, List.cons_append, Option.map_some, Option.bind_some, ng, wipeD, List.length_cons, List.length_nil, Nat.reduceAdd, Nat.reduceSub, List.replicate_succ, List.replicate_zero]; try simp only [decide_eq_true_eq, Bool.not_eq_true', decide_eq_false_iff_not, Bool.false_eq_true, if_false, if_true, reduceIte, String.reduceBEq, Bool.true_or, Bool.false_or, Bool.or_false, Bool.and_false, Bool.false_and, Bool.and_true, Bool.true_and, Bool.not_true, Bool.not_false, ne_eq, not_true_eq_false, reduceCtorEq, Bool.true_eq_false, decide_true, decide_false])
  refine own_books (in_nats ⟨_, _, rfl, ?_⟩)
  rw [show ng false (decide (n = n ∧ reduceF rs = reduceF (v :: rs))) = decide (v ∈ closeF rs) from e3, decide_eq_true rfl]
  (try dsimp only [gN, gN2, sNil, sSeq, sExp, sRet, sIf, sPass, sCont, sBrk, sSet, sSetO, sApp, sFrz, sAug, sRaise, sAsg, sPut, eV, eC, e1, e2, t2, tBl, tTru, tN, tAn, tOo, tCh, eNot, eAn, eOo, eIf, eTup, eLst, eF, eFld, eIs, eIxO, eLenO, eSl, eRev, eB, eCall, eCallG, eMeth, aN, aC, aV, oNo, oPt, eIsO, oSrtI, oSrtT, oLt, oLe, oGt, oGe, oI, oIC, oI1, oAdd, oMul, oEq, oIsN, oIx, oLen, oList, oTuple, oAbs, oMin2, oInt1, fLst, fList, fRep, fCat, tYs, tru, isS, dats, seqD, seqO, tyS, List.set, List.getElem?_cons_zero, List.getElem?_cons_succ, List.append_eq, List.nil_append, List.cons_append, Option.map_some, Option.bind_some, ng, wipeD, List.length_cons, List.length_nil, Nat.reduceAdd, Nat.reduceSub, List.replicate_succ, List.replicate_zero]; try simp only [decide_eq_true_eq, Bool.not_eq_true', decide_eq_false_iff_not, Bool.false_eq_true, if_false, if_true, reduceIte, String.reduceBEq, Bool.true_or, Bool.false_or, Bool.or_false, Bool.and_false, Bool.false_and, Bool.and_true, Bool.true_and, Bool.not_true, Bool.not_false, ne_eq, not_true_eq_false, reduceCtorEq, Bool.true_eq_false, decide_true, decide_false])
  -- another book
  refine ⟨n, rfl, n1, by omega, fun os ol olt => ?_⟩
  have ltO := closeF_lt olt
  refine lcLots os (fun R h => h) (by omega) (fun r hr' Q' q => ⟨r, rfl, big r (olt r hr'), q⟩) ?_
  refine mkBook n1 (by omega) (by omega) olt ?_
  (try dsimp only [gN, gN2, sNil, sSeq, sExp, sRet, sIf, sPass, sCont, sBrk, sSet, sSetO, sApp, sFrz, sAug, sRaise, sAsg, sPut, eV, eC, e1, e2, t2, tBl, tTru, tN, tAn, tOo, tCh, eNot, eAn, eOo, eIf, eTup, eLst, eF, eFld, eIs, eIxO, eLenO, eSl, eRev, eB, eCall, eCallG, eMeth, aN, aC, aV, oNo, oPt, eIsO, oSrtI, oSrtT, oLt, oLe, oGt, oGe, oI, oIC, oI1, oAdd, oMul, oEq, oIsN, oIx, oLen, oList, oTuple, oAbs, oMin2, oInt1, fLst, fList, fRep, fCat, tYs, tru, isS, dats, seqD, seqO, tyS, List.set, List.getElem?_cons_zero, List.getElem?_cons_succ, List.append_eq, List.nil_append, List.cons_append, Option.map_some, Option.bind_some, ng, wipeD, List.length_cons, List.length_nil, Nat.reduceAdd, Nat.reduceSub, List.replicate_succ, List.replicate_zero]; try simp only [decide_eq_true_eq, Bool.not_eq_true', decide_eq_false_iff_not, Bool.false_eq_true, if_false, if_true, reduceIte, String.reduceBEq, Bool.true_or, Bool.false_or, Bool.or_false, Bool.and_false, Bool.false_and, Bool.and_true, Bool.true_and, Bool.not_true, Bool.not_false, ne_eq, not_true_eq_false, reduceCtorEq, Bool.true_eq_false, decide_true, decide_false])
  refine own_books ⟨os, rfl, fun r hr' => Nat.lt_of_lt_of_le (olt r hr') (Nat.pow_le_pow_right (by decide) (by omega)), ?_⟩
  (try dsimp only [gN, gN2, sNil, sSeq, sExp, sRet, sIf, sPass, sCont, sBrk, sSet, sSetO, sApp, sFrz, sAug, sRaise, sAsg, sPut, eV, eC, e1, e2, t2, tBl, tTru, tN, tAn, tOo, tCh, eNot, eAn, eOo, eIf, eTup, eLst, eF, eFld, eIs, eIxO, eLenO, eSl, eRev, eB, eCall, eCallG, eMeth, aN, aC, aV, oNo, oPt, eIsO, oSrtI, oSrtT, oLt, oLe, oGt, oGe, oI, oIC, oI1, oAdd, oMul, oEq, oIsN, oIx, oLen, oList, oTuple, oAbs, oMin2, oInt1, fLst, fList, fRep, fCat, tYs, tru, isS, dats, seqD, seqO, tyS, List.set, List.getElem?_cons_zero, List.getElem?_cons_succ, List.append_eq, List.nil_append, List.cons_append, Option.map_some, Option.bind_some, ng, wipeD, List.length_cons, List.length_nil, Nat.reduceAdd, Nat.reduceSub, List.replicate_succ, List.replicate_zero]; try simp only [decide_eq_true_eq, Bool.not_eq_true', decide_eq_false_iff_not, Bool.false_eq_true, if_false, if_true, reduceIte, String.reduceBEq, Bool.true_or, Bool.false_or, Bool.or_false, Bool.and_false, Bool.false_and, Bool.and_true, Bool.true_and, Bool.not_true, Bool.not_false, ne_eq, not_true_eq_false, reduceCtorEq, Bool.true_eq_false, decide_true, decide_false])
  refine ⟨_, intsD_nats _, fun ns' h1 s1 => ⟨_, intsD_nats _, fun ns2 h2 s2 => ?_⟩⟩
  obtain ⟨xs, hx, rfl⟩ := perm_map_inv (fun p : Nat => (p : Int)) h1
  obtain ⟨ys, hy, rfl⟩ := perm_map_inv (fun p : Nat => (p : Int)) h2
  rw [ints_nat, ints_nat]
  have pl : ∀ l : List Nat, pyN (.lst (natX l)) = some (.list (l.map fun p : Nat => PyData.int (p : Int))) := fun l => by
    simp only [pyN, pyNs_nat]; rfl
  refine ⟨_, _, pl xs, pl ys, shaped_nats xs, shaped_nats ys, ?_⟩
  have e4 : PyData.eqv (.list (xs.map fun p : Nat => PyData.int (p : Int))) (.list (ys.map fun p : Nat => PyData.int (p : Int))) = decide (True ∧ reduceF rs = reduceF os) := by
    simp only [PyData.eqv, eqv_nats, true_and]
    exact decide_eq_decide.mpr (sorted_eq hx hy s1 s2).symm
  refine ⟨_, _, rfl, ?_⟩
  rw [e4, decide_eq_true rfl]
  (try dsimp only [gN, gN2, sNil, sSeq, sExp, sRet, sIf, sPass, sCont, sBrk, sSet, sSetO, sApp, sFrz, sAug, sRaise, sAsg, sPut, eV, eC, e1, e2, t2, tBl, tTru, tN, tAn, tOo, tCh, eNot, eAn, eOo, eIf, eTup, eLst, eF, eFld, eIs, eIxO, eLenO, eSl, eRev, eB, eCall, eCallG, eMeth, aN, aC, aV, oNo, oPt, eIsO, oSrtI, oSrtT, oLt, oLe, oGt, oGe, oI, oIC, oI1, oAdd, oMul, oEq, oIsN, oIx, oLen, oList, oTuple, oAbs, oMin2, oInt1, fLst, fList, fRep, fCat, tYs, tru, isS, dats, seqD, seqO, tyS, List.set, List.getElem?_cons_zero, List.getElem?_cons_succ, List.append_eq, List.nil_append, List.cons_append, Option.map_some, Option.bind_some, ng, wipeD, List.length_cons, List.length_nil, Nat.reduceAdd, Nat.reduceSub, List.replicate_succ, List.replicate_zero]; try simp only [decide_eq_true_eq, Bool.not_eq_true', decide_eq_false_iff_not, Bool.false_eq_true, if_false, if_true, reduceIte, String.reduceBEq, Bool.true_or, Bool.false_or, Bool.or_false, Bool.and_false, Bool.false_and, Bool.and_true, Bool.true_and, Bool.not_true, Bool.not_false, ne_eq, not_true_eq_false, reduceCtorEq, Bool.true_eq_false, decide_true, decide_false])
  -- a wider one
  have cs : (n : Int) + 1 = ((n + 1 : Nat) : Int) := rfl
  have ltW : ∀ r ∈ rs, r < 2 ^ (n + 1) := fun r h => Nat.lt_trans (hr r h) (Nat.pow_lt_pow_right (by decide) (by omega))
  refine lcLots rs (fun R h => h) (by omega) (fun r hr' Q' q => ⟨r, rfl, big r (hr r hr'), q⟩) ?_
  rw [cs]
  refine mkBook (by omega) (by omega) (by omega) ltW ?_
  refine own_books ?_
  rw [show ng false (decide (n = n + 1 ∧ reduceF rs = reduceF rs)) = false from by simp [ng]]
  (try dsimp only [gN, gN2, sNil, sSeq, sExp, sRet, sIf, sPass, sCont, sBrk, sSet, sSetO, sApp, sFrz, sAug, sRaise, sAsg, sPut, eV, eC, e1, e2, t2, tBl, tTru, tN, tAn, tOo, tCh, eNot, eAn, eOo, eIf, eTup, eLst, eF, eFld, eIs, eIxO, eLenO, eSl, eRev, eB, eCall, eCallG, eMeth, aN, aC, aV, oNo, oPt, eIsO, oSrtI, oSrtT, oLt, oLe, oGt, oGe, oI, oIC, oI1, oAdd, oMul, oEq, oIsN, oIx, oLen, oList, oTuple, oAbs, oMin2, oInt1, fLst, fList, fRep, fCat, tYs, tru, isS, dats, seqD, seqO, tyS, List.set, List.getElem?_cons_zero, List.getElem?_cons_succ, List.append_eq, List.nil_append, List.cons_append, Option.map_some, Option.bind_some, ng, wipeD, List.length_cons, List.length_nil, Nat.reduceAdd, Nat.reduceSub, List.replicate_succ, List.replicate_zero]; try simp only [decide_eq_true_eq, Bool.not_eq_true', decide_eq_false_iff_not, Bool.false_eq_true, if_false, if_true, reduceIte, String.reduceBEq, Bool.true_or, Bool.false_or, Bool.or_false, Bool.and_false, Bool.false_and, Bool.and_true, Bool.true_and, Bool.not_true, Bool.not_false, ne_eq, not_true_eq_false, reduceCtorEq, Bool.true_eq_false, decide_true, decide_false])
  refine own_books ?_
  rw [show ng false (decide (n + 1 = n ∧ reduceF rs = reduceF rs)) = false from by simp [ng]]
  (try dsimp only [gN, gN2, sNil, sSeq, sExp, sRet, sIf, sPass, sCont, sBrk, sSet, sSetO, sApp, sFrz, sAug, sRaise, sAsg, sPut, eV, eC, e1, e2, t2, tBl, tTru, tN, tAn, tOo, tCh, eNot, eAn, eOo, eIf, eTup, eLst, eF, eFld, eIs, eIxO, eLenO, eSl, eRev, eB, eCall, eCallG, eMeth, aN, aC, aV, oNo, oPt, eIsO, oSrtI, oSrtT, oLt, oLe, oGt, oGe, oI, oIC, oI1, oAdd, oMul, oEq, oIsN, oIx, oLen, oList, oTuple, oAbs, oMin2, oInt1, fLst, fList, fRep, fCat, tYs, tru, isS, dats, seqD, seqO, tyS, List.set, List.getElem?_cons_zero, List.getElem?_cons_succ, List.append_eq, List.nil_append, List.cons_append, Option.map_some, Option.bind_some, ng, wipeD, List.length_cons, List.length_nil, Nat.reduceAdd, Nat.reduceSub, List.replicate_succ, List.replicate_zero]; try simp only [decide_eq_true_eq, Bool.not_eq_true', decide_eq_false_iff_not, Bool.false_eq_true, if_false, if_true, reduceIte, String.reduceBEq, Bool.true_or, Bool.false_or, Bool.or_false, Bool.and_false, Bool.false_and, Bool.and_true, Bool.true_and, Bool.not_true, Bool.not_false, ne_eq, not_true_eq_false, reduceCtorEq, Bool.true_eq_false, decide_true, decide_false])
  -- things that are no books
  refine lcLots rs (fun R h => h) (by omega) (fun r hr' Q' q => ⟨r, rfl, big r (hr r hr'), q⟩) ?_
  (try dsimp only [gN, gN2, sNil, sSeq, sExp, sRet, sIf, sPass, sCont, sBrk, sSet, sSetO, sApp, sFrz, sAug, sRaise, sAsg, sPut, eV, eC, e1, e2, t2, tBl, tTru, tN, tAn, tOo, tCh, eNot, eAn, eOo, eIf, eTup, eLst, eF, eFld, eIs, eIxO, eLenO, eSl, eRev, eB, eCall, eCallG, eMeth, aN, aC, aV, oNo, oPt, eIsO, oSrtI, oSrtT, oLt, oLe, oGt, oGe, oI, oIC, oI1, oAdd, oMul, oEq, oIsN, oIx, oLen, oList, oTuple, oAbs, oMin2, oInt1, fLst, fList, fRep, fCat, tYs, tru, isS, dats, seqD, seqO, tyS, List.set, List.getElem?_cons_zero, List.getElem?_cons_succ, List.append_eq, List.nil_append, List.cons_append, Option.map_some, Option.bind_some, ng, wipeD, List.length_cons, List.length_nil, Nat.reduceAdd, Nat.reduceSub, List.replicate_succ, List.replicate_zero, sFor, iRg1, iRg2, iSq, iEn, fLc]; try simp only [decide_eq_true_eq, Bool.not_eq_true', decide_eq_false_iff_not, Bool.false_eq_true, if_false, if_true, reduceIte, String.reduceBEq, Bool.true_or, Bool.false_or, Bool.or_false, Bool.and_false, Bool.false_and, Bool.and_true, Bool.true_and, Bool.not_true, Bool.not_false, ne_eq, not_true_eq_false, reduceCtorEq, Bool.true_eq_false, decide_true, decide_false])
  refine ⟨fun i ρ => ∃ z, ρ = [.src, .dat (bookX n (reduceF rs)), .dat (.int (n : Int)), .dat (.lst (natX rs)), .dat (.lst (natX (closeF rs))), .dat (bookX n (reduceF rs)), .dat (.int (v : Int)), .dat (bookX n (reduceF (v :: rs))), .dat (.lst (natX os)), .dat (bookX n (reduceF os)), .dat (bookX (n + 1) (reduceF rs)), .dat (.lst ((rs.map lotN).map lotX)), z, .un], ⟨_, rfl⟩, ?_, ?_⟩
  · rintro i x ρ hx ⟨z, rfl⟩
    have ht : ∃ t, tyS x = some t := by
      have hm := List.mem_of_getElem? hx
      simp only [List.mem_cons, List.not_mem_nil, or_false] at hm
      rcases hm with rfl | rfl | rfl | rfl | rfl | rfl | rfl <;> exact ⟨_, rfl⟩
    obtain ⟨t, ht⟩ := ht
    (try dsimp only [gN, gN2, sNil, sSeq, sExp, sRet, sIf, sPass, sCont, sBrk, sSet, sSetO, sApp, sFrz, sAug, sRaise, sAsg, sPut, eV, eC, e1, e2, t2, tBl, tTru, tN, tAn, tOo, tCh, eNot, eAn, eOo, eIf, eTup, eLst, eF, eFld, eIs, eIxO, eLenO, eSl, eRev, eB, eCall, eCallG, eMeth, aN, aC, aV, oNo, oPt, eIsO, oSrtI, oSrtT, oLt, oLe, oGt, oGe, oI, oIC, oI1, oAdd, oMul, oEq, oIsN, oIx, oLen, oList, oTuple, oAbs, oMin2, oInt1, fLst, fList, fRep, fCat, tYs, tru, isS, dats, seqD, seqO, tyS, List.set, List.getElem?_cons_zero, List.getElem?_cons_succ, List.append_eq, List.nil_append, List.cons_append, Option.map_some, Option.bind_some, ng, wipeD, List.length_cons, List.length_nil, Nat.reduceAdd, Nat.reduceSub, List.replicate_succ, List.replicate_zero]; try simp only [decide_eq_true_eq, Bool.not_eq_true', decide_eq_false_iff_not, Bool.false_eq_true, if_false, if_true, reduceIte, String.reduceBEq, Bool.true_or, Bool.false_or, Bool.or_false, Bool.and_false, Bool.false_and, Bool.and_true, Bool.true_and, Bool.not_true, Bool.not_false, ne_eq, not_true_eq_false, reduceCtorEq, Bool.true_eq_false, decide_true, decide_false])
    refine flagOther ht rfl ?_
    (try dsimp only [gN, gN2, sNil, sSeq, sExp, sRet, sIf, sPass, sCont, sBrk, sSet, sSetO, sApp, sFrz, sAug, sRaise, sAsg, sPut, eV, eC, e1, e2, t2, tBl, tTru, tN, tAn, tOo, tCh, eNot, eAn, eOo, eIf, eTup, eLst, eF, eFld, eIs, eIxO, eLenO, eSl, eRev, eB, eCall, eCallG, eMeth, aN, aC, aV, oNo, oPt, eIsO, oSrtI, oSrtT, oLt, oLe, oGt, oGe, oI, oIC, oI1, oAdd, oMul, oEq, oIsN, oIx, oLen, oList, oTuple, oAbs, oMin2, oInt1, fLst, fList, fRep, fCat, tYs, tru, isS, dats, seqD, seqO, tyS, List.set, List.getElem?_cons_zero, List.getElem?_cons_succ, List.append_eq, List.nil_append, List.cons_append, Option.map_some, Option.bind_some, ng, wipeD, List.length_cons, List.length_nil, Nat.reduceAdd, Nat.reduceSub, List.replicate_succ, List.replicate_zero]; try simp only [decide_eq_true_eq, Bool.not_eq_true', decide_eq_false_iff_not, Bool.false_eq_true, if_false, if_true, reduceIte, String.reduceBEq, Bool.true_or, Bool.false_or, Bool.or_false, Bool.and_false, Bool.false_and, Bool.and_true, Bool.true_and, Bool.not_true, Bool.not_false, ne_eq, not_true_eq_false, reduceCtorEq, Bool.true_eq_false, decide_true, decide_false])
    refine flagOther ht rfl ?_
    (try dsimp only [gN, gN2, sNil, sSeq, sExp, sRet, sIf, sPass, sCont, sBrk, sSet, sSetO, sApp, sFrz, sAug, sRaise, sAsg, sPut, eV, eC, e1, e2, t2, tBl, tTru, tN, tAn, tOo, tCh, eNot, eAn, eOo, eIf, eTup, eLst, eF, eFld, eIs, eIxO, eLenO, eSl, eRev, eB, eCall, eCallG, eMeth, aN, aC, aV, oNo, oPt, eIsO, oSrtI, oSrtT, oLt, oLe, oGt, oGe, oI, oIC, oI1, oAdd, oMul, oEq, oIsN, oIx, oLen, oList, oTuple, oAbs, oMin2, oInt1, fLst, fList, fRep, fCat, tYs, tru, isS, dats, seqD, seqO, tyS, List.set, List.getElem?_cons_zero, List.getElem?_cons_succ, List.append_eq, List.nil_append, List.cons_append, Option.map_some, Option.bind_some, ng, wipeD, List.length_cons, List.length_nil, Nat.reduceAdd, Nat.reduceSub, List.replicate_succ, List.replicate_zero]; try simp only [decide_eq_true_eq, Bool.not_eq_true', decide_eq_false_iff_not, Bool.false_eq_true, if_false, if_true, reduceIte, String.reduceBEq, Bool.true_or, Bool.false_or, Bool.or_false, Bool.and_false, Bool.false_and, Bool.and_true, Bool.true_and, Bool.not_true, Bool.not_false, ne_eq, not_true_eq_false, reduceCtorEq, Bool.true_eq_false, decide_true, decide_false])
    exact ⟨_, rfl⟩
  · rintro ρ ⟨z, rfl⟩
    exact q
end DL

set_option Elab.async false
set_option linter.all false
set_option maxRecDepth 100000
set_option maxHeartbeats 4000000
set_option exponentiation.threshold 2000
namespace DL
open PySem PySem.Spec PyProof.Rows L2 BT
/-! ### the law -/
theorem bits_pow (d : Nat) : bitsN (2 ^ d) = d + 1 := by
  have h1 : bitsN (2 ^ d) ≤ d + 1 := bitsN_le (Nat.pow_lt_pow_right (by decide) (by omega))
  have h2 := lt_bitsN (2 ^ d)
  have h3 := (Nat.pow_lt_pow_iff_right (by decide : 1 < 2)).mp h2
  omega
theorem lots_ok {n : Nat} {rs : List Nat} {Q : D → Prop} {Xd : Str → D → Prop} (hl : rs.length ≤ 10000) (hn : n ≤ 10000) (hr : ∀ r ∈ rs, r < 2 ^ n) (q : Q (.bl true)) : d_law_lots_equal [.dat (.lst ((rs.map lotN).map lotX)), .dat (.lst ((rs.map lotN).map lotX))] Q Xd := by
  refine ⟨rs.map lotN, rfl, by rw [List.length_map]; exact hl, fun l hl => ?_, q⟩
  obtain ⟨r, hr', rfl⟩ := List.mem_map.mp hl
  exact Nat.le_trans (lotN_len (hr r hr')) hn
theorem sr_two {n k : Nat} (hn : n ≤ 24) (hk : k ≤ 24) : Sr (.tuple [.int (n : Int), .int (k : Int)]) := by
  refine ⟨?_, ?_, ?_, fun e => ?_⟩
  · simp only [okI, okIA, Bool.and_true, Bool.true_and, Bool.and_eq_true]
    exact ⟨decide_eq_true (nat_small (by omega)), decide_eq_true (nat_small (by omega))⟩
  · simp only [dW, dWA]; omega
  · simp only [PyData.depth, PyData.depthAll]; omega
  · simp only [PyData.hasDict, PyData.hasDictAll, Bool.or_false] at e; cases e
theorem sem_law : r_law { nx := fun _ => False, rt := fun d => d = .bl true } (.un :: .src :: List.replicate 8 .un) (fun _ _ _ => False) := by
  unfold r_law
  (try dsimp only [gN, gN2, sNil, sSeq, sExp, sRet, sIf, sPass, sCont, sBrk, sSet, sSetO, sApp, sFrz, sAug, sRaise, sAsg, sPut, eV, eC, e1, e2, t2, tBl, tTru, tN, tAn, tOo, tCh, eNot, eAn, eOo, eIf, eTup, eLst, eF, eFld, eIs, eIxO, eLenO, eSl, eRev, eB, eCall, eCallG, eMeth, aN, aC, aV, oNo, oPt, eIsO, oSrtI, oSrtT, oLt, oLe, oGt, oGe, oI, oIC, oI1, oAdd, oMul, oEq, oIsN, oIx, oLen, oList, oTuple, oAbs, oMin2, oInt1, fLst, fList, fRep, fCat, tYs, tru, isS, dats, seqD, seqO, tyS, List.set, List.getElem?_cons_zero, List.getElem?_cons_succ, List.append_eq, List.nil_append, List.cons_append, Option.map_some, Option.bind_some, ng, wipeD, List.length_cons, List.length_nil, Nat.reduceAdd, Nat.reduceSub, List.replicate_succ, List.replicate_zero]; try simp only [decide_eq_true_eq, Bool.not_eq_true', decide_eq_false_iff_not, Bool.false_eq_true, if_false, if_true, reduceIte, String.reduceBEq, Bool.true_or, Bool.false_or, Bool.or_false, Bool.and_false, Bool.false_and, Bool.and_true, Bool.true_and, Bool.not_true, Bool.not_false, ne_eq, not_true_eq_false, reduceCtorEq, Bool.true_eq_false, decide_true, decide_false])
  refine ⟨8, rfl, by decide, by decide, fun v v0 v1 => ?_⟩
  obtain ⟨v, rfl⟩ := Int.eq_ofNat_of_zero_le v0
  have hn : (1 : Int) + (v : Int) = ((1 + v : Nat) : Int) := by omega
  (try dsimp only [gN, gN2, sNil, sSeq, sExp, sRet, sIf, sPass, sCont, sBrk, sSet, sSetO, sApp, sFrz, sAug, sRaise, sAsg, sPut, eV, eC, e1, e2, t2, tBl, tTru, tN, tAn, tOo, tCh, eNot, eAn, eOo, eIf, eTup, eLst, eF, eFld, eIs, eIxO, eLenO, eSl, eRev, eB, eCall, eCallG, eMeth, aN, aC, aV, oNo, oPt, eIsO, oSrtI, oSrtT, oLt, oLe, oGt, oGe, oI, oIC, oI1, oAdd, oMul, oEq, oIsN, oIx, oLen, oList, oTuple, oAbs, oMin2, oInt1, fLst, fList, fRep, fCat, tYs, tru, isS, dats, seqD, seqO, tyS, List.set, List.getElem?_cons_zero, List.getElem?_cons_succ, List.append_eq, List.nil_append, List.cons_append, Option.map_some, Option.bind_some, ng, wipeD, List.length_cons, List.length_nil, Nat.reduceAdd, Nat.reduceSub, List.replicate_succ, List.replicate_zero]; try simp only [decide_eq_true_eq, Bool.not_eq_true', decide_eq_false_iff_not, Bool.false_eq_true, if_false, if_true, reduceIte, String.reduceBEq, Bool.true_or, Bool.false_or, Bool.or_false, Bool.and_false, Bool.false_and, Bool.and_true, Bool.true_and, Bool.not_true, Bool.not_false, ne_eq, not_true_eq_false, reduceCtorEq, Bool.true_eq_false, decide_true, decide_false])
  rw [hn]
  have n1 : 1 ≤ 1 + v := by omega
  have n8 : 1 + v ≤ 8 := by omega
  generalize 1 + v = n at n1 n8
  refine ⟨n, rfl, n1, by omega, fun rs hl hr => ?_⟩
  have big : ∀ r, r < 2 ^ n → r < 2 ^ 1000 := fun r h => Nat.lt_of_lt_of_le h (Nat.pow_le_pow_right (by decide) (by omega))
  have lt := closeF_lt hr
  have pn : 2 ^ n ≤ 2 ^ 12 := Nat.pow_le_pow_right (by decide) (by omega)
  have len := nodup_len2 (closeF_nodup rs).1 lt
  have R := red_of hr
  have dl := R.len
  (try dsimp only [gN, gN2, sNil, sSeq, sExp, sRet, sIf, sPass, sCont, sBrk, sSet, sSetO, sApp, sFrz, sAug, sRaise, sAsg, sPut, eV, eC, e1, e2, t2, tBl, tTru, tN, tAn, tOo, tCh, eNot, eAn, eOo, eIf, eTup, eLst, eF, eFld, eIs, eIxO, eLenO, eSl, eRev, eB, eCall, eCallG, eMeth, aN, aC, aV, oNo, oPt, eIsO, oSrtI, oSrtT, oLt, oLe, oGt, oGe, oI, oIC, oI1, oAdd, oMul, oEq, oIsN, oIx, oLen, oList, oTuple, oAbs, oMin2, oInt1, fLst, fList, fRep, fCat, tYs, tru, isS, dats, seqD, seqO, tyS, List.set, List.getElem?_cons_zero, List.getElem?_cons_succ, List.append_eq, List.nil_append, List.cons_append, Option.map_some, Option.bind_some, ng, wipeD, List.length_cons, List.length_nil, Nat.reduceAdd, Nat.reduceSub, List.replicate_succ, List.replicate_zero]; try simp only [decide_eq_true_eq, Bool.not_eq_true', decide_eq_false_iff_not, Bool.false_eq_true, if_false, if_true, reduceIte, String.reduceBEq, Bool.true_or, Bool.false_or, Bool.or_false, Bool.and_false, Bool.false_and, Bool.and_true, Bool.true_and, Bool.not_true, Bool.not_false, ne_eq, not_true_eq_false, reduceCtorEq, Bool.true_eq_false, decide_true, decide_false])
  refine ⟨rs, rfl, fun r h => Nat.lt_of_lt_of_le (hr r h) (Nat.pow_le_pow_right (by decide) (by omega)), ?_⟩
  (try dsimp only [gN, gN2, sNil, sSeq, sExp, sRet, sIf, sPass, sCont, sBrk, sSet, sSetO, sApp, sFrz, sAug, sRaise, sAsg, sPut, eV, eC, e1, e2, t2, tBl, tTru, tN, tAn, tOo, tCh, eNot, eAn, eOo, eIf, eTup, eLst, eF, eFld, eIs, eIxO, eLenO, eSl, eRev, eB, eCall, eCallG, eMeth, aN, aC, aV, oNo, oPt, eIsO, oSrtI, oSrtT, oLt, oLe, oGt, oGe, oI, oIC, oI1, oAdd, oMul, oEq, oIsN, oIx, oLen, oList, oTuple, oAbs, oMin2, oInt1, fLst, fList, fRep, fCat, tYs, tru, isS, dats, seqD, seqO, tyS, List.set, List.getElem?_cons_zero, List.getElem?_cons_succ, List.append_eq, List.nil_append, List.cons_append, Option.map_some, Option.bind_some, ng, wipeD, List.length_cons, List.length_nil, Nat.reduceAdd, Nat.reduceSub, List.replicate_succ, List.replicate_zero]; try simp only [decide_eq_true_eq, Bool.not_eq_true', decide_eq_false_iff_not, Bool.false_eq_true, if_false, if_true, reduceIte, String.reduceBEq, Bool.true_or, Bool.false_or, Bool.or_false, Bool.and_false, Bool.false_and, Bool.and_true, Bool.true_and, Bool.not_true, Bool.not_false, ne_eq, not_true_eq_false, reduceCtorEq, Bool.true_eq_false, decide_true, decide_false])
  refine ⟨_, rfl, ?_⟩
  have ed : ((Builtin.Int.intBits ((natX (closeF rs)).length : Nat) : Nat) : Int) - 1 = (((reduceF rs).length : Nat) : Int) := by
    rw [natX_len, close_len, intBits_nat, bits_pow]; omega
  rw [ed]
  (try dsimp only [gN, gN2, sNil, sSeq, sExp, sRet, sIf, sPass, sCont, sBrk, sSet, sSetO, sApp, sFrz, sAug, sRaise, sAsg, sPut, eV, eC, e1, e2, t2, tBl, tTru, tN, tAn, tOo, tCh, eNot, eAn, eOo, eIf, eTup, eLst, eF, eFld, eIs, eIxO, eLenO, eSl, eRev, eB, eCall, eCallG, eMeth, aN, aC, aV, oNo, oPt, eIsO, oSrtI, oSrtT, oLt, oLe, oGt, oGe, oI, oIC, oI1, oAdd, oMul, oEq, oIsN, oIx, oLen, oList, oTuple, oAbs, oMin2, oInt1, fLst, fList, fRep, fCat, tYs, tru, isS, dats, seqD, seqO, tyS, List.set, List.getElem?_cons_zero, List.getElem?_cons_succ, List.append_eq, List.nil_append, List.cons_append, Option.map_some, Option.bind_some, ng, wipeD, List.length_cons, List.length_nil, Nat.reduceAdd, Nat.reduceSub, List.replicate_succ, List.replicate_zero]; try simp only [decide_eq_true_eq, Bool.not_eq_true', decide_eq_false_iff_not, Bool.false_eq_true, if_false, if_true, reduceIte, String.reduceBEq, Bool.true_or, Bool.false_or, Bool.or_false, Bool.and_false, Bool.false_and, Bool.and_true, Bool.true_and, Bool.not_true, Bool.not_false, ne_eq, not_true_eq_false, reduceCtorEq, Bool.true_eq_false, decide_true, decide_false])
  refine lcLots rs (fun R h => h) (by omega) (fun r h Q' q => ⟨r, rfl, big r (hr r h), q⟩) ?_
  refine mkBook n1 (by omega) (by omega) hr ?_
  (try dsimp only [gN, gN2, sNil, sSeq, sExp, sRet, sIf, sPass, sCont, sBrk, sSet, sSetO, sApp, sFrz, sAug, sRaise, sAsg, sPut, eV, eC, e1, e2, t2, tBl, tTru, tN, tAn, tOo, tCh, eNot, eAn, eOo, eIf, eTup, eLst, eF, eFld, eIs, eIxO, eLenO, eSl, eRev, eB, eCall, eCallG, eMeth, aN, aC, aV, oNo, oPt, eIsO, oSrtI, oSrtT, oLt, oLe, oGt, oGe, oI, oIC, oI1, oAdd, oMul, oEq, oIsN, oIx, oLen, oList, oTuple, oAbs, oMin2, oInt1, fLst, fList, fRep, fCat, tYs, tru, isS, dats, seqD, seqO, tyS, List.set, List.getElem?_cons_zero, List.getElem?_cons_succ, List.append_eq, List.nil_append, List.cons_append, Option.map_some, Option.bind_some, ng, wipeD, List.length_cons, List.length_nil, Nat.reduceAdd, Nat.reduceSub, List.replicate_succ, List.replicate_zero]; try simp only [decide_eq_true_eq, Bool.not_eq_true', decide_eq_false_iff_not, Bool.false_eq_true, if_false, if_true, reduceIte, String.reduceBEq, Bool.true_or, Bool.false_or, Bool.or_false, Bool.and_false, Bool.false_and, Bool.and_true, Bool.true_and, Bool.not_true, Bool.not_false, ne_eq, not_true_eq_false, reduceCtorEq, Bool.true_eq_false, decide_true, decide_false])
  refine lcLots rs (fun R h => h) (by omega) (fun r h Q' q => ⟨r, rfl, big r (hr r h), q⟩) ?_
  refine lots_ok (n := n) (by omega) (by omega) hr ?_
  (try dsimp only [gN, gN2, sNil, sSeq, sExp, sRet, sIf, sPass, sCont, sBrk, sSet, sSetO, sApp, sFrz, sAug, sRaise, sAsg, sPut, eV, eC, e1, e2, t2, tBl, tTru, tN, tAn, tOo, tCh, eNot, eAn, eOo, eIf, eTup, eLst, eF, eFld, eIs, eIxO, eLenO, eSl, eRev, eB, eCall, eCallG, eMeth, aN, aC, aV, oNo, oPt, eIsO, oSrtI, oSrtT, oLt, oLe, oGt, oGe, oI, oIC, oI1, oAdd, oMul, oEq, oIsN, oIx, oLen, oList, oTuple, oAbs, oMin2, oInt1, fLst, fList, fRep, fCat, tYs, tru, isS, dats, seqD, seqO, tyS, List.set, List.getElem?_cons_zero, List.getElem?_cons_succ, List.append_eq, List.nil_append, List.cons_append, Option.map_some, Option.bind_some, ng, wipeD, List.length_cons, List.length_nil, Nat.reduceAdd, Nat.reduceSub, List.replicate_succ, List.replicate_zero]; try simp only [decide_eq_true_eq, Bool.not_eq_true', decide_eq_false_iff_not, Bool.false_eq_true, if_false, if_true, reduceIte, String.reduceBEq, Bool.true_or, Bool.false_or, Bool.or_false, Bool.and_false, Bool.false_and, Bool.and_true, Bool.true_and, Bool.not_true, Bool.not_false, ne_eq, not_true_eq_false, reduceCtorEq, Bool.true_eq_false, decide_true, decide_false])
  unfold bookX
  simp only [bk_size, bk_dim, tab_size, tab_dim, true_and]
  (try dsimp only [gN, gN2, sNil, sSeq, sExp, sRet, sIf, sPass, sCont, sBrk, sSet, sSetO, sApp, sFrz, sAug, sRaise, sAsg, sPut, eV, eC, e1, e2, t2, tBl, tTru, tN, tAn, tOo, tCh, eNot, eAn, eOo, eIf, eTup, eLst, eF, eFld, eIs, eIxO, eLenO, eSl, eRev, eB, eCall, eCallG, eMeth, aN, aC, aV, oNo, oPt, eIsO, oSrtI, oSrtT, oLt, oLe, oGt, oGe, oI, oIC, oI1, oAdd, oMul, oEq, oIsN, oIx, oLen, oList, oTuple, oAbs, oMin2, oInt1, fLst, fList, fRep, fCat, tYs, tru, isS, dats, seqD, seqO, tyS, List.set, List.getElem?_cons_zero, List.getElem?_cons_succ, List.append_eq, List.nil_append, List.cons_append, Option.map_some, Option.bind_some, ng, wipeD, List.length_cons, List.length_nil, Nat.reduceAdd, Nat.reduceSub, List.replicate_succ, List.replicate_zero]; try simp only [decide_eq_true_eq, Bool.not_eq_true', decide_eq_false_iff_not, Bool.false_eq_true, if_false, if_true, reduceIte, String.reduceBEq, Bool.true_or, Bool.false_or, Bool.or_false, Bool.and_false, Bool.false_and, Bool.and_true, Bool.true_and, Bool.not_true, Bool.not_false, ne_eq, not_true_eq_false, reduceCtorEq, Bool.true_eq_false, decide_true, decide_false])
  refine ⟨.tup [.int (n : Int), .int (((reduceF rs).length : Nat) : Int)], .tuple [.int (n : Int), .int (((reduceF rs).length : Nat) : Int)], rfl, rfl, sr_two (by omega) (by omega), trivial, ?_⟩
  (try dsimp only [gN, gN2, sNil, sSeq, sExp, sRet, sIf, sPass, sCont, sBrk, sSet, sSetO, sApp, sFrz, sAug, sRaise, sAsg, sPut, eV, eC, e1, e2, t2, tBl, tTru, tN, tAn, tOo, tCh, eNot, eAn, eOo, eIf, eTup, eLst, eF, eFld, eIs, eIxO, eLenO, eSl, eRev, eB, eCall, eCallG, eMeth, aN, aC, aV, oNo, oPt, eIsO, oSrtI, oSrtT, oLt, oLe, oGt, oGe, oI, oIC, oI1, oAdd, oMul, oEq, oIsN, oIx, oLen, oList, oTuple, oAbs, oMin2, oInt1, fLst, fList, fRep, fCat, tYs, tru, isS, dats, seqD, seqO, tyS, List.set, List.getElem?_cons_zero, List.getElem?_cons_succ, List.append_eq, List.nil_append, List.cons_append, Option.map_some, Option.bind_some, ng, wipeD, List.length_cons, List.length_nil, Nat.reduceAdd, Nat.reduceSub, List.replicate_succ, List.replicate_zero]; try simp only [decide_eq_true_eq, Bool.not_eq_true', decide_eq_false_iff_not, Bool.false_eq_true, if_false, if_true, reduceIte, String.reduceBEq, Bool.true_or, Bool.false_or, Bool.or_false, Bool.and_false, Bool.false_and, Bool.and_true, Bool.true_and, Bool.not_true, Bool.not_false, ne_eq, not_true_eq_false, reduceCtorEq, Bool.true_eq_false, decide_true, decide_false])
  refine ⟨closeF rs, rfl, fun w h => Nat.lt_of_lt_of_le (lt w h) (Nat.pow_le_pow_right (by decide) (by omega)), by omega, ?_⟩
  rw [red_reduce]
  (try dsimp only [gN, gN2, sNil, sSeq, sExp, sRet, sIf, sPass, sCont, sBrk, sSet, sSetO, sApp, sFrz, sAug, sRaise, sAsg, sPut, eV, eC, e1, e2, t2, tBl, tTru, tN, tAn, tOo, tCh, eNot, eAn, eOo, eIf, eTup, eLst, eF, eFld, eIs, eIxO, eLenO, eSl, eRev, eB, eCall, eCallG, eMeth, aN, aC, aV, oNo, oPt, eIsO, oSrtI, oSrtT, oLt, oLe, oGt, oGe, oI, oIC, oI1, oAdd, oMul, oEq, oIsN, oIx, oLen, oList, oTuple, oAbs, oMin2, oInt1, fLst, fList, fRep, fCat, tYs, tru, isS, dats, seqD, seqO, tyS, List.set, List.getElem?_cons_zero, List.getElem?_cons_succ, List.append_eq, List.nil_append, List.cons_append, Option.map_some, Option.bind_some, ng, wipeD, List.length_cons, List.length_nil, Nat.reduceAdd, Nat.reduceSub, List.replicate_succ, List.replicate_zero]; try simp only [decide_eq_true_eq, Bool.not_eq_true', decide_eq_false_iff_not, Bool.false_eq_true, if_false, if_true, reduceIte, String.reduceBEq, Bool.true_or, Bool.false_or, Bool.or_false, Bool.and_false, Bool.false_and, Bool.and_true, Bool.true_and, Bool.not_true, Bool.not_false, ne_eq, not_true_eq_false, reduceCtorEq, Bool.true_eq_false, decide_true, decide_false])
  refine ⟨rfl, n, reduceF rs, rfl, R, by omega, ?_⟩
  refine lcLots (reduceF rs) (fun R h => h) (by omega) (fun r h Q' q => ⟨r, rfl, big r (R.lt r h), q⟩) ?_
  refine lots_ok (n := n) (by omega) (by omega) R.lt ?_
  (try dsimp only [gN, gN2, sNil, sSeq, sExp, sRet, sIf, sPass, sCont, sBrk, sSet, sSetO, sApp, sFrz, sAug, sRaise, sAsg, sPut, eV, eC, e1, e2, t2, tBl, tTru, tN, tAn, tOo, tCh, eNot, eAn, eOo, eIf, eTup, eLst, eF, eFld, eIs, eIxO, eLenO, eSl, eRev, eB, eCall, eCallG, eMeth, aN, aC, aV, oNo, oPt, eIsO, oSrtI, oSrtT, oLt, oLe, oGt, oGe, oI, oIC, oI1, oAdd, oMul, oEq, oIsN, oIx, oLen, oList, oTuple, oAbs, oMin2, oInt1, fLst, fList, fRep, fCat, tYs, tru, isS, dats, seqD, seqO, tyS, List.set, List.getElem?_cons_zero, List.getElem?_cons_succ, List.append_eq, List.nil_append, List.cons_append, Option.map_some, Option.bind_some, ng, wipeD, List.length_cons, List.length_nil, Nat.reduceAdd, Nat.reduceSub, List.replicate_succ, List.replicate_zero]; try simp only [decide_eq_true_eq, Bool.not_eq_true', decide_eq_false_iff_not, Bool.false_eq_true, if_false, if_true, reduceIte, String.reduceBEq, Bool.true_or, Bool.false_or, Bool.or_false, Bool.and_false, Bool.false_and, Bool.and_true, Bool.true_and, Bool.not_true, Bool.not_false, ne_eq, not_true_eq_false, reduceCtorEq, Bool.true_eq_false, decide_true, decide_false])
  refine ⟨n, rs, rfl, n1, by omega, hr, ?_⟩
  (try dsimp only [gN, gN2, sNil, sSeq, sExp, sRet, sIf, sPass, sCont, sBrk, sSet, sSetO, sApp, sFrz, sAug, sRaise, sAsg, sPut, eV, eC, e1, e2, t2, tBl, tTru, tN, tAn, tOo, tCh, eNot, eAn, eOo, eIf, eTup, eLst, eF, eFld, eIs, eIxO, eLenO, eSl, eRev, eB, eCall, eCallG, eMeth, aN, aC, aV, oNo, oPt, eIsO, oSrtI, oSrtT, oLt, oLe, oGt, oGe, oI, oIC, oI1, oAdd, oMul, oEq, oIsN, oIx, oLen, oList, oTuple, oAbs, oMin2, oInt1, fLst, fList, fRep, fCat, tYs, tru, isS, dats, seqD, seqO, tyS, List.set, List.getElem?_cons_zero, List.getElem?_cons_succ, List.append_eq, List.nil_append, List.cons_append, Option.map_some, Option.bind_some, ng, wipeD, List.length_cons, List.length_nil, Nat.reduceAdd, Nat.reduceSub, List.replicate_succ, List.replicate_zero]; try simp only [decide_eq_true_eq, Bool.not_eq_true', decide_eq_false_iff_not, Bool.false_eq_true, if_false, if_true, reduceIte, String.reduceBEq, Bool.true_or, Bool.false_or, Bool.or_false, Bool.and_false, Bool.false_and, Bool.and_true, Bool.true_and, Bool.not_true, Bool.not_false, ne_eq, not_true_eq_false, reduceCtorEq, Bool.true_eq_false, decide_true, decide_false])
  refine ⟨n, rs, rfl, n1, by omega, hr, ?_⟩
  (try dsimp only [gN, gN2, sNil, sSeq, sExp, sRet, sIf, sPass, sCont, sBrk, sSet, sSetO, sApp, sFrz, sAug, sRaise, sAsg, sPut, eV, eC, e1, e2, t2, tBl, tTru, tN, tAn, tOo, tCh, eNot, eAn, eOo, eIf, eTup, eLst, eF, eFld, eIs, eIxO, eLenO, eSl, eRev, eB, eCall, eCallG, eMeth, aN, aC, aV, oNo, oPt, eIsO, oSrtI, oSrtT, oLt, oLe, oGt, oGe, oI, oIC, oI1, oAdd, oMul, oEq, oIsN, oIx, oLen, oList, oTuple, oAbs, oMin2, oInt1, fLst, fList, fRep, fCat, tYs, tru, isS, dats, seqD, seqO, tyS, List.set, List.getElem?_cons_zero, List.getElem?_cons_succ, List.append_eq, List.nil_append, List.cons_append, Option.map_some, Option.bind_some, ng, wipeD, List.length_cons, List.length_nil, Nat.reduceAdd, Nat.reduceSub, List.replicate_succ, List.replicate_zero]; try simp only [decide_eq_true_eq, Bool.not_eq_true', decide_eq_false_iff_not, Bool.false_eq_true, if_false, if_true, reduceIte, String.reduceBEq, Bool.true_or, Bool.false_or, Bool.or_false, Bool.and_false, Bool.false_and, Bool.and_true, Bool.true_and, Bool.not_true, Bool.not_false, ne_eq, not_true_eq_false, reduceCtorEq, Bool.true_eq_false, decide_true, decide_false])
  exact ⟨n, rs, rfl, n1, n8, hl, hr, rfl⟩
end DL

set_option Elab.async false
set_option linter.all false
set_option maxRecDepth 100000
set_option maxHeartbeats 4000000
namespace DL
open PySem PySem.Spec PyProof.Rows L2 BT
section
variable {P : Program} {w : World} {K : PySem.W.Frag} {mg : Str → Option Value} {base : Heap} {ad : Str → Addr}
theorem ok_law_lot {f : Addr} {fd : FuncData} (T : Bi mg) (F : FnP K "_law_lot" s_law_lot f fd) : FnOk P w K mg base (L2.CX P w) 1 f fd ["_law_mask"] (spD ad d_law_lot) := fnX F sc_law_lot (rd_law_lot T) sem_law_lot
theorem ok_law_integer {f : Addr} {fd : FuncData} (T : Bi mg) (F : FnP K "_law_integer" s_law_integer f fd) : FnOk P w K mg base (L2.CX P w) 1 f fd ["_law_value"] (spD ad d_law_integer) := fnX F sc_law_integer (rd_law_integer T) sem_law_integer
theorem ok_law_flag {f : Addr} {fd : FuncData} (T : Bi mg) (F : FnP K "_law_flag" s_law_flag f fd) : FnOk P w K mg base (L2.CX P w) 1 f fd ["_law_actual", "_law_expected"] (spD ad d_law_flag) := fnX F sc_law_flag (rd_law_flag T) sem_law_flag
theorem ok_law_same {f : Addr} {fd : FuncData} (T : Bi mg) (F : FnP K "_law_same" s_law_same f fd) : FnG P w K mg base 1 f fd ["_law_actual", "_law_expected"] (spD ad d_law_same) := fnY F sc_law_same (rd_law_same T) sem_law_same
theorem ok_law_lots_equal {f : Addr} {fd : FuncData} (T : Bi mg) (D_law_integer : DefX P w K mg base ad 1 "_law_integer" ["_law_value"] d_law_integer) (F : FnP K "_law_lots_equal" s_law_lots_equal f fd) : FnOk P w K mg base (L2.CX P w) 2 f fd ["_law_actual", "_law_expected"] (spD ad d_law_lots_equal) := fnX F sc_law_lots_equal (rd_law_lots_equal T D_law_integer) sem_law_lots_equal
theorem ok_law_copied {f : Addr} {fd : FuncData} (F : FnP K "_law_copied" s_law_copied f fd) : FnOk P w K mg base (L2.CX P w) 1 f fd ["_law_row", "_law_one", "_law_other"] (spD ad d_law_copied) := fnX F sc_law_copied (rd_law_copied) sem_law_copied
theorem ok_law_rolled {f : Addr} {fd : FuncData} (F : FnP K "_law_rolled" s_law_rolled f fd) : FnOk P w K mg base (L2.CX P w) 1 f fd ["_law_row", "_law_turn", "_law_size"] (spD ad d_law_rolled) := fnX F sc_law_rolled (rd_law_rolled) sem_law_rolled
theorem ok_law_rows {f : Addr} {fd : FuncData} (T : Bi mg) (D_law_copied : DefX P w K mg base ad 1 "_law_copied" ["_law_row", "_law_one", "_law_other"] d_law_copied) (D_law_draw : DefX P w K mg base ad 2 "_law_draw" ["_law_source_here", "_law_many"] d_law_draw) (D_law_rolled : DefX P w K mg base ad 1 "_law_rolled" ["_law_row", "_law_turn", "_law_size"] d_law_rolled) (F : FnP K "_law_rows" s_law_rows f fd) : FnOk P w K mg base (L2.CX P w) 3 f fd ["_law_source_here", "_law_size"] (spD ad d_law_rows) := fnX F sc_law_rows (rd_law_rows T D_law_copied D_law_draw D_law_rolled) sem_law_rows
theorem ok_law_words {f : Addr} {fd : FuncData} (F : FnP K "_law_words" s_law_words f fd) : FnOk P w K mg base (L2.CX P w) 1 f fd ["_law_rows_here"] (spD ad d_law_words) := fnX F sc_law_words (rd_law_words) sem_law_words
theorem ok_law_dim {f : Addr} {fd : FuncData} (T : Bi mg) (F : FnP K "_law_dim" s_law_dim f fd) : FnOk P w K mg base (L2.CX P w) 1 f fd ["_law_words_here"] (spD ad d_law_dim) := fnX F sc_law_dim (rd_law_dim T) sem_law_dim
theorem ok_law_reduced {f : Addr} {fd : FuncData} (T : Bi mg) (F : FnP K "_law_reduced" s_law_reduced f fd) : FnOk P w K mg base (L2.CX P w) 1 f fd ["_law_words_here"] (spD ad d_law_reduced) := fnX F sc_law_reduced (rd_law_reduced T) sem_law_reduced
theorem ok_law_told {f : Addr} {fd : FuncData} (T : Bi mg) (D_law_draw : DefX P w K mg base ad 2 "_law_draw" ["_law_source_here", "_law_many"] d_law_draw) (D_law_reduced : DefX P w K mg base ad 1 "_law_reduced" ["_law_words_here"] d_law_reduced) (F : FnP K "_law_told" s_law_told f fd) : FnOk P w K mg base (L2.CX P w) 3 f fd ["_law_source_here", "_law_rows_here", "_law_words_here"] (spD ad d_law_told) := fnX F sc_law_told (rd_law_told T D_law_draw D_law_reduced) sem_law_told
theorem ok_Book_eq {f : Addr} {fd : FuncData} (T : Bi mg) (CT : ClsTab K ad tab0) (O_Book : OwEq K (ad "Book")) (g_Book : mg "Book" = some (.ref (ad "Book"))) (F : FunD K "__eq__" "Book.__eq__" (defArgs s_Book_eq) (defBody s_Book_eq) (defScope s_Book_eq) [] [] f fd) : FnOk P w K mg base (L2.CX P w) 1 f fd ["self", "other"] (spD ad d_Book_eq) := fnX F sc_Book_eq (rd_Book_eq T CT O_Book g_Book) sem_Book_eq
theorem ok_law_words_hold {f : Addr} {fd : FuncData} (T : Bi mg) (T2 : Bi2 mg) (CT : ClsTab K ad tab0) (D_law_flag : DefX P w K mg base ad 1 "_law_flag" ["_law_actual", "_law_expected"] d_law_flag) (D_law_lot : DefX P w K mg base ad 1 "_law_lot" ["_law_mask"] d_law_lot) (D_law_lots_equal : DefX P w K mg base ad 2 "_law_lots_equal" ["_law_actual", "_law_expected"] d_law_lots_equal) (M_Book_holds : MetX P w K mg base ad 5 "Book" "holds" ["self", "word"] d_Book_holds) (M_Book_words : MetX P w K mg base ad 4 "Book" "words" ["self"] d_Book_words) (F : FnP K "_law_words_hold" s_law_words_hold f fd) : FnOk P w K mg base (L2.CX P w) 6 f fd ["_law_book", "_law_size", "_law_words_here"] (spD ad d_law_words_hold) := fnX F sc_law_words_hold (rd_law_words_hold T T2 CT D_law_flag D_law_lot D_law_lots_equal M_Book_holds M_Book_words) sem_law_words_hold
theorem ok_law_sums_hold {f : Addr} {fd : FuncData} (T : Bi mg) (CT : ClsTab K ad tab0) (D_law_lot : DefX P w K mg base ad 1 "_law_lot" ["_law_mask"] d_law_lot) (D_law_same : DefY P w K mg base ad 1 "_law_same" ["_law_actual", "_law_expected"] d_law_same) (M_Book_word_of : MetX P w K mg base ad 5 "Book" "word_of" ["self", "numbers"] d_Book_word_of) (F : FnP K "_law_sums_hold" s_law_sums_hold f fd) : FnG P w K mg base 6 f fd ["_law_book", "_law_rows_here", "_law_dim_here"] (spD ad d_law_sums_hold) := fnY F sc_law_sums_hold (rd_law_sums_hold T CT D_law_lot D_law_same M_Book_word_of) sem_law_sums_hold
theorem ok_law_equal_holds {f : Addr} {fd : FuncData} (T2 : Bi2 mg) (D_law_draw : DefX P w K mg base ad 2 "_law_draw" ["_law_source_here", "_law_many"] d_law_draw) (D_law_flag : DefX P w K mg base ad 1 "_law_flag" ["_law_actual", "_law_expected"] d_law_flag) (D_law_lot : DefX P w K mg base ad 1 "_law_lot" ["_law_mask"] d_law_lot) (D_law_rows : DefX P w K mg base ad 3 "_law_rows" ["_law_source_here", "_law_size"] d_law_rows) (D_law_told : DefX P w K mg base ad 3 "_law_told" ["_law_source_here", "_law_rows_here", "_law_words_here"] d_law_told) (D_law_words : DefX P w K mg base ad 1 "_law_words" ["_law_rows_here"] d_law_words) (M_Book_eq : MetX P w K mg base ad 1 "Book" "__eq__" ["self", "other"] d_Book_eq) (Mk_Book : MakX P w K mg base ad 6 "Book" ["self", "size", "rows"] d_Book) (O_Book : OwEq K (ad "Book")) (F : FnP K "_law_equal_holds" s_law_equal_holds f fd) : FnOk P w K mg base (L2.CX P w) 8 f fd ["_law_source_here", "_law_book", "_law_size", "_law_rows_here", "_law_words_here"] (spD ad d_law_equal_holds) := fnX F sc_law_equal_holds (rd_law_equal_holds T2 D_law_draw D_law_flag D_law_lot D_law_rows D_law_told D_law_words M_Book_eq Mk_Book O_Book) sem_law_equal_holds
theorem ok_law {f : Addr} {fd : FuncData} (CT : ClsTab K ad tab0) (D_law_dim : DefX P w K mg base ad 1 "_law_dim" ["_law_words_here"] d_law_dim) (D_law_draw : DefX P w K mg base ad 2 "_law_draw" ["_law_source_here", "_law_many"] d_law_draw) (D_law_equal_holds : DefX P w K mg base ad 8 "_law_equal_holds" ["_law_source_here", "_law_book", "_law_size", "_law_rows_here", "_law_words_here"] d_law_equal_holds) (D_law_lot : DefX P w K mg base ad 1 "_law_lot" ["_law_mask"] d_law_lot) (D_law_lots_equal : DefX P w K mg base ad 2 "_law_lots_equal" ["_law_actual", "_law_expected"] d_law_lots_equal) (D_law_reduced : DefX P w K mg base ad 1 "_law_reduced" ["_law_words_here"] d_law_reduced) (D_law_rows : DefX P w K mg base ad 3 "_law_rows" ["_law_source_here", "_law_size"] d_law_rows) (D_law_same : DefY P w K mg base ad 1 "_law_same" ["_law_actual", "_law_expected"] d_law_same) (D_law_sums_hold : DefY P w K mg base ad 6 "_law_sums_hold" ["_law_book", "_law_rows_here", "_law_dim_here"] d_law_sums_hold) (D_law_words : DefX P w K mg base ad 1 "_law_words" ["_law_rows_here"] d_law_words) (D_law_words_hold : DefX P w K mg base ad 6 "_law_words_hold" ["_law_book", "_law_size", "_law_words_here"] d_law_words_hold) (M_Book_rows : MetX P w K mg base ad 2 "Book" "rows" ["self"] d_Book_rows) (Mk_Book : MakX P w K mg base ad 6 "Book" ["self", "size", "rows"] d_Book) (DSrc : DefOk P w K mg base CX0 1 "_law_source" ["_law_script"] (spSource K)) (F : FnP K "law" s_law f fd) : FnG P w K mg base 9 f fd ["_law_script"] (spLaw K) := by
  refine okG_of F sc_law (fun vs H Q E h => ?_) (fun cdv A outer s H vs Q hr gd h => ?_)
  · obtain ⟨a, ns, rfl, _⟩ := h
    rfl
  · obtain ⟨a, ns, rfl, hS, k⟩ := h
    refine ⟨_, pss_cons (ps_set (i := 1) sc_law.nd rfl (Or.inl rfl) (pe_d DSrc hr rfl (pa_cons (pv 0) pa_nil))) (rd_law CT D_law_dim D_law_draw D_law_equal_holds D_law_lot D_law_lots_equal D_law_reduced D_law_rows D_law_same D_law_sums_hold D_law_words D_law_words_hold M_Book_rows Mk_Book cdv A outer s H (fun _ _ _ => False) hr gd).ps, ?_⟩
    exact ⟨_, rfl, a, ns, rfl, hS, fun p l G1 hp s1 src => law_go (n := 8) src rfl rfl k sem_law⟩
end
end DL

set_option Elab.async false
set_option linter.all false
set_option maxRecDepth 100000
set_option maxHeartbeats 0
namespace BT
open PySem PySem.Spec PyProof.Rows L2 DL
/-! ### the head: what stands behind the top -/
def dI : He.DefD := ⟨("BlindError", some "__init__"), "__init__", "BlindError.__init__", defArgs s_BlindError_init, defBody s_BlindError_init, defScope s_BlindError_init, [.non], []⟩
def plainD (x : Str) (st : Stmt) : He.DefD := ⟨(x, none), x, x, defArgs st, defBody st, defScope st, [], []⟩
def methD (c x q : Str) (st : Stmt) : He.DefD := ⟨(c, some x), x, q, defArgs st, defBody st, defScope st, [], []⟩
def fnK : List He.DefD := dI :: [plainD "mask_of" s_mask_of, plainD "lot_of" s_lot_of, plainD "is_number" s_is_number, plainD "is_lot" s_is_lot, plainD "need_lot" s_need_lot, plainD "need_each_lot" s_need_each_lot, plainD "_law_source" s_law_source, plainD "_law_next" s_law_next, plainD "_law_mixed" s_law_mixed, plainD "_law_draw" s_law_draw, plainD "lowest" s_lowest, plainD "cleared" s_cleared, plainD "sweep" s_sweep, plainD "reduce_rows" s_reduce_rows, plainD "picked" s_picked, plainD "span" s_span, plainD "need_lots" s_need_lots, methD "Book" "__init__" "Book.__init__" s_Book_init, plainD "_told" s_told, methD "Book" "rows" "Book.rows" s_Book_rows] ++ [methD "Book" "holds" "Book.holds" s_Book_holds, methD "Book" "_need_places" "Book._need_places" s_Book_need_places, methD "Book" "on" "Book.on" s_Book_on, methD "Book" "words" "Book.words" s_Book_words, methD "Book" "word_of" "Book.word_of" s_Book_word_of, plainD "_law_lot" s_law_lot, plainD "_law_integer" s_law_integer, plainD "_law_flag" s_law_flag, plainD "_law_same" s_law_same, plainD "_law_lots_equal" s_law_lots_equal, plainD "_law_copied" s_law_copied, plainD "_law_rolled" s_law_rolled, plainD "_law_rows" s_law_rows, plainD "_law_words" s_law_words, plainD "_law_dim" s_law_dim, plainD "_law_reduced" s_law_reduced, plainD "_law_told" s_law_told, methD "Book" "__eq__" "Book.__eq__" s_Book_eq, plainD "_law_words_hold" s_law_words_hold, plainD "_law_sums_hold" s_law_sums_hold] ++ [plainD "_law_equal_holds" s_law_equal_holds, plainD "law" s_law]
def faK : List He.Fa := [.free "int", .free "bool", .free "tuple", .free "list", .free "range", .free "len", .free "isinstance", .free "enumerate", .free "abs", .free "min", .free "repr", .free "sorted", .free "any", .free "all", .free "sum", .int "ALL_PLACES" (-1), .int "MOST_LOTS" 60, .int "MOST_PLACES" 60, .int "MOST_SIZE" 24, .int "MOST_WORDS" 4096] ++ [.glo "mask_of", .glo "lot_of", .glo "is_number", .glo "is_lot", .glo "need_lot", .glo "need_each_lot", .glo "_law_source", .glo "_law_next", .glo "_law_mixed", .glo "_law_draw", .glo "lowest", .glo "cleared", .glo "sweep", .glo "reduce_rows", .glo "picked", .glo "span", .glo "need_lots", .glo "_told", .glo "_law_lot", .glo "_law_integer"] ++ [.glo "_law_flag", .glo "_law_same", .glo "_law_lots_equal", .glo "_law_copied", .glo "_law_rolled", .glo "_law_rows", .glo "_law_words", .glo "_law_dim", .glo "_law_reduced", .glo "_law_told", .glo "_law_words_hold", .glo "_law_sums_hold", .glo "_law_equal_holds", .glo "law", .glo "Book", .cls "Book", .noat "Book" "size", .noat "Book" "masks", .noat "Book" "dim", .mkr "Book"] ++ [.meth "Book" "rows", .meth "Book" "holds", .meth "Book" "_need_places", .meth "Book" "on", .meth "Book" "words", .meth "Book" "word_of", .meth "Book" "__eq__"]
def xsK : List Str := ["BadSize", "BadLot", "BadLots", "TooMany"]
abbrev R : PySem.W.OpenRow := PySem.W.OpenLaw.row PySem.Challenge.rw_blindtwins_k03_whole_words
def owK : List Str := ["Book"]
abbrev hkK : PySem.W.Hook := hookZ 5 faK fnK xsK owK
def obK (s : PySem.W.SharedT) : AlX := obsZG 5 faK fnK xsK owK (HandSHeadRun.getT s)
theorem obK_eq (s : PySem.W.SharedT) : obK s = hkK.obs s.abs := obsZG_eq (HandSHeadRun.getT_eq s)
def looseK : List Str := (R.prog.main.scope.names.filter fun p => p.2 == .local && p.1 != ("law" : Str) && p.1 != ("__name__" : Str)).map (·.1)
theorem runK (w : World) : HandSHeadRun.RunEq R (PySem.W.view R.prog [50]) hkK obK 4000 looseK w := by
  intro os
  kernel_rfl
theorem factsK {P : Program} {w : World} {K : PySem.W.Frag} {h : Heap} {mg : Str → Option Value} {f : Addr} (X : K.In h) (G : h.Ns mainGlobals mg) (hfa : mg ("law" : Str) = some (.ref f)) (ce : (xsK.all (errB K) && owK.all (owB K)) = true) (c : He.SaysD faK fnK K) :
    ∃ fd : FuncData, (∀ (s : Shared) (v : Value), BindsTo s fd ⟨[v], []⟩ [("_law_script", v)]) ∧ ∀ base : Heap, K.In base → base.Ns mainGlobals mg → FnG P w K mg base 9 f fd ["_law_script"] (spLaw K) := by
  obtain ⟨ce, co⟩ := Bool.and_eq_true_iff.mp ce
  have T : Bi mg := ⟨He.free_ok X G (c.fact 0 rfl), He.free_ok X G (c.fact 1 rfl), He.free_ok X G (c.fact 2 rfl), He.free_ok X G (c.fact 3 rfl), He.free_ok X G (c.fact 4 rfl), He.free_ok X G (c.fact 5 rfl), He.free_ok X G (c.fact 6 rfl), He.free_ok X G (c.fact 7 rfl), He.free_ok X G (c.fact 8 rfl), He.free_ok X G (c.fact 9 rfl), He.free_ok X G (c.fact 10 rfl)⟩
  have T2 : Bi2 mg := ⟨He.free_ok X G (c.fact 11 rfl), He.free_ok X G (c.fact 12 rfl), He.free_ok X G (c.fact 13 rfl), He.free_ok X G (c.fact 14 rfl)⟩
  obtain ⟨tALL_PLACES, hALL_PLACES⟩ := He.int_ok X G (c.fact 15 rfl)
  obtain ⟨tMOST_LOTS, hMOST_LOTS⟩ := He.int_ok X G (c.fact 16 rfl)
  obtain ⟨tMOST_PLACES, hMOST_PLACES⟩ := He.int_ok X G (c.fact 17 rfl)
  obtain ⟨tMOST_SIZE, hMOST_SIZE⟩ := He.int_ok X G (c.fact 18 rfl)
  obtain ⟨tMOST_WORDS, hMOST_WORDS⟩ := He.int_ok X G (c.fact 19 rfl)
  obtain ⟨fdI, FI⟩ := c.def_ 0 (d := dI) rfl
  have FI : FunD K "__init__" "BlindError.__init__" (defArgs s_BlindError_init) (defBody s_BlindError_init) (defScope s_BlindError_init) [.non] [] (He.fAd K ("BlindError", some "__init__")) fdI := FI
  have bI : Binds K fdI ["self", "what"] [] := by
    obtain ⟨ds, r, b⟩ := FI.binds1 (ps := ["self", "what"]) 2 1 (by simp) rfl fun _ _ _ _ _ _ _ us its hu hi => match us, its, hu, hi with | [_, _], [_], _, _ => ⟨_, rfl, rfl⟩
    cases r
    exact b
  obtain ⟨fd0, F0⟩ := c.def_ 1 (d := plainD "mask_of" s_mask_of) rfl
  have b0 : Binds K fd0 ["lot"] [] := FunD.bindsN F0 fun _ _ _ _ _ _ us hl => match us, hl with | [_], _ => rfl
  have g0 := He.glo_ok X G (c.fact 20 rfl)
  obtain ⟨fd1, F1⟩ := c.def_ 2 (d := plainD "lot_of" s_lot_of) rfl
  have b1 : Binds K fd1 ["mask"] [] := FunD.bindsN F1 fun _ _ _ _ _ _ us hl => match us, hl with | [_], _ => rfl
  have g1 := He.glo_ok X G (c.fact 21 rfl)
  obtain ⟨fd2, F2⟩ := c.def_ 3 (d := plainD "is_number" s_is_number) rfl
  have b2 : Binds K fd2 ["value"] [] := FunD.bindsN F2 fun _ _ _ _ _ _ us hl => match us, hl with | [_], _ => rfl
  have g2 := He.glo_ok X G (c.fact 22 rfl)
  obtain ⟨fd3, F3⟩ := c.def_ 4 (d := plainD "is_lot" s_is_lot) rfl
  have b3 : Binds K fd3 ["value", "size"] [] := FunD.bindsN F3 fun _ _ _ _ _ _ us hl => match us, hl with | [_, _], _ => rfl
  have g3 := He.glo_ok X G (c.fact 23 rfl)
  obtain ⟨fd4, F4⟩ := c.def_ 5 (d := plainD "need_lot" s_need_lot) rfl
  have b4 : Binds K fd4 ["value", "size"] [] := FunD.bindsN F4 fun _ _ _ _ _ _ us hl => match us, hl with | [_, _], _ => rfl
  have g4 := He.glo_ok X G (c.fact 24 rfl)
  obtain ⟨fd5, F5⟩ := c.def_ 6 (d := plainD "need_each_lot" s_need_each_lot) rfl
  have b5 : Binds K fd5 ["values", "size"] [] := FunD.bindsN F5 fun _ _ _ _ _ _ us hl => match us, hl with | [_, _], _ => rfl
  have g5 := He.glo_ok X G (c.fact 25 rfl)
  obtain ⟨fd6, F6⟩ := c.def_ 7 (d := plainD "_law_source" s_law_source) rfl
  have b6 : Binds K fd6 ["_law_script"] [] := FunD.bindsN F6 fun _ _ _ _ _ _ us hl => match us, hl with | [_], _ => rfl
  have g6 := He.glo_ok X G (c.fact 26 rfl)
  obtain ⟨fd7, F7⟩ := c.def_ 8 (d := plainD "_law_next" s_law_next) rfl
  have b7 : Binds K fd7 ["_law_source_here"] [] := FunD.bindsN F7 fun _ _ _ _ _ _ us hl => match us, hl with | [_], _ => rfl
  have g7 := He.glo_ok X G (c.fact 27 rfl)
  obtain ⟨fd8, F8⟩ := c.def_ 9 (d := plainD "_law_mixed" s_law_mixed) rfl
  have b8 : Binds K fd8 ["_law_cell", "_law_whole", "_law_count"] [] := FunD.bindsN F8 fun _ _ _ _ _ _ us hl => match us, hl with | [_, _, _], _ => rfl
  have g8 := He.glo_ok X G (c.fact 28 rfl)
  obtain ⟨fd9, F9⟩ := c.def_ 10 (d := plainD "_law_draw" s_law_draw) rfl
  have b9 : Binds K fd9 ["_law_source_here", "_law_many"] [] := FunD.bindsN F9 fun _ _ _ _ _ _ us hl => match us, hl with | [_, _], _ => rfl
  have g9 := He.glo_ok X G (c.fact 29 rfl)
  obtain ⟨fd10, F10⟩ := c.def_ 11 (d := plainD "lowest" s_lowest) rfl
  have b10 : Binds K fd10 ["mask"] [] := FunD.bindsN F10 fun _ _ _ _ _ _ us hl => match us, hl with | [_], _ => rfl
  have g10 := He.glo_ok X G (c.fact 30 rfl)
  obtain ⟨fd11, F11⟩ := c.def_ 12 (d := plainD "cleared" s_cleared) rfl
  have b11 : Binds K fd11 ["mask", "rows", "part"] [] := FunD.bindsN F11 fun _ _ _ _ _ _ us hl => match us, hl with | [_, _, _], _ => rfl
  have g11 := He.glo_ok X G (c.fact 31 rfl)
  obtain ⟨fd12, F12⟩ := c.def_ 13 (d := plainD "sweep" s_sweep) rfl
  have b12 : Binds K fd12 ["masks", "part"] [] := FunD.bindsN F12 fun _ _ _ _ _ _ us hl => match us, hl with | [_, _], _ => rfl
  have g12 := He.glo_ok X G (c.fact 32 rfl)
  obtain ⟨fd13, F13⟩ := c.def_ 14 (d := plainD "reduce_rows" s_reduce_rows) rfl
  have b13 : Binds K fd13 ["masks"] [] := FunD.bindsN F13 fun _ _ _ _ _ _ us hl => match us, hl with | [_], _ => rfl
  have g13 := He.glo_ok X G (c.fact 33 rfl)
  obtain ⟨fd14, F14⟩ := c.def_ 15 (d := plainD "picked" s_picked) rfl
  have b14 : Binds K fd14 ["mask", "places"] [] := FunD.bindsN F14 fun _ _ _ _ _ _ us hl => match us, hl with | [_, _], _ => rfl
  have g14 := He.glo_ok X G (c.fact 34 rfl)
  obtain ⟨fd15, F15⟩ := c.def_ 16 (d := plainD "span" s_span) rfl
  have b15 : Binds K fd15 ["masks"] [] := FunD.bindsN F15 fun _ _ _ _ _ _ us hl => match us, hl with | [_], _ => rfl
  have g15 := He.glo_ok X G (c.fact 35 rfl)
  obtain ⟨fd16, F16⟩ := c.def_ 17 (d := plainD "need_lots" s_need_lots) rfl
  have b16 : Binds K fd16 ["value", "size"] [] := FunD.bindsN F16 fun _ _ _ _ _ _ us hl => match us, hl with | [_, _], _ => rfl
  have g16 := He.glo_ok X G (c.fact 36 rfl)
  obtain ⟨fd17, F17⟩ := c.def_ 18 (d := methD "Book" "__init__" "Book.__init__" s_Book_init) rfl
  have b17 : Binds K fd17 ["self", "size", "rows"] [] := FunD.bindsN F17 fun _ _ _ _ _ _ us hl => match us, hl with | [_, _, _], _ => rfl
  obtain ⟨fd18, F18⟩ := c.def_ 19 (d := plainD "_told" s_told) rfl
  have b18 : Binds K fd18 ["size", "masks"] [] := FunD.bindsN F18 fun _ _ _ _ _ _ us hl => match us, hl with | [_, _], _ => rfl
  have g18 := He.glo_ok X G (c.fact 37 rfl)
  obtain ⟨fd19, F19⟩ := c.def_ 20 (d := methD "Book" "rows" "Book.rows" s_Book_rows) rfl
  have b19 : Binds K fd19 ["self"] [] := FunD.bindsN F19 fun _ _ _ _ _ _ us hl => match us, hl with | [_], _ => rfl
  obtain ⟨fd20, F20⟩ := c.def_ 21 (d := methD "Book" "holds" "Book.holds" s_Book_holds) rfl
  have b20 : Binds K fd20 ["self", "word"] [] := FunD.bindsN F20 fun _ _ _ _ _ _ us hl => match us, hl with | [_, _], _ => rfl
  obtain ⟨fd21, F21⟩ := c.def_ 22 (d := methD "Book" "_need_places" "Book._need_places" s_Book_need_places) rfl
  have b21 : Binds K fd21 ["self", "part"] [] := FunD.bindsN F21 fun _ _ _ _ _ _ us hl => match us, hl with | [_, _], _ => rfl
  obtain ⟨fd22, F22⟩ := c.def_ 23 (d := methD "Book" "on" "Book.on" s_Book_on) rfl
  have b22 : Binds K fd22 ["self", "part"] [] := FunD.bindsN F22 fun _ _ _ _ _ _ us hl => match us, hl with | [_, _], _ => rfl
  obtain ⟨fd23, F23⟩ := c.def_ 24 (d := methD "Book" "words" "Book.words" s_Book_words) rfl
  have b23 : Binds K fd23 ["self"] [] := FunD.bindsN F23 fun _ _ _ _ _ _ us hl => match us, hl with | [_], _ => rfl
  obtain ⟨fd24, F24⟩ := c.def_ 25 (d := methD "Book" "word_of" "Book.word_of" s_Book_word_of) rfl
  have b24 : Binds K fd24 ["self", "numbers"] [] := FunD.bindsN F24 fun _ _ _ _ _ _ us hl => match us, hl with | [_, _], _ => rfl
  obtain ⟨fd25, F25⟩ := c.def_ 26 (d := plainD "_law_lot" s_law_lot) rfl
  have b25 : Binds K fd25 ["_law_mask"] [] := FunD.bindsN F25 fun _ _ _ _ _ _ us hl => match us, hl with | [_], _ => rfl
  have g25 := He.glo_ok X G (c.fact 38 rfl)
  obtain ⟨fd26, F26⟩ := c.def_ 27 (d := plainD "_law_integer" s_law_integer) rfl
  have b26 : Binds K fd26 ["_law_value"] [] := FunD.bindsN F26 fun _ _ _ _ _ _ us hl => match us, hl with | [_], _ => rfl
  have g26 := He.glo_ok X G (c.fact 39 rfl)
  obtain ⟨fd27, F27⟩ := c.def_ 28 (d := plainD "_law_flag" s_law_flag) rfl
  have b27 : Binds K fd27 ["_law_actual", "_law_expected"] [] := FunD.bindsN F27 fun _ _ _ _ _ _ us hl => match us, hl with | [_, _], _ => rfl
  have g27 := He.glo_ok X G (c.fact 40 rfl)
  obtain ⟨fd28, F28⟩ := c.def_ 29 (d := plainD "_law_same" s_law_same) rfl
  have b28 : Binds K fd28 ["_law_actual", "_law_expected"] [] := FunD.bindsN F28 fun _ _ _ _ _ _ us hl => match us, hl with | [_, _], _ => rfl
  have g28 := He.glo_ok X G (c.fact 41 rfl)
  obtain ⟨fd29, F29⟩ := c.def_ 30 (d := plainD "_law_lots_equal" s_law_lots_equal) rfl
  have b29 : Binds K fd29 ["_law_actual", "_law_expected"] [] := FunD.bindsN F29 fun _ _ _ _ _ _ us hl => match us, hl with | [_, _], _ => rfl
  have g29 := He.glo_ok X G (c.fact 42 rfl)
  obtain ⟨fd30, F30⟩ := c.def_ 31 (d := plainD "_law_copied" s_law_copied) rfl
  have b30 : Binds K fd30 ["_law_row", "_law_one", "_law_other"] [] := FunD.bindsN F30 fun _ _ _ _ _ _ us hl => match us, hl with | [_, _, _], _ => rfl
  have g30 := He.glo_ok X G (c.fact 43 rfl)
  obtain ⟨fd31, F31⟩ := c.def_ 32 (d := plainD "_law_rolled" s_law_rolled) rfl
  have b31 : Binds K fd31 ["_law_row", "_law_turn", "_law_size"] [] := FunD.bindsN F31 fun _ _ _ _ _ _ us hl => match us, hl with | [_, _, _], _ => rfl
  have g31 := He.glo_ok X G (c.fact 44 rfl)
  obtain ⟨fd32, F32⟩ := c.def_ 33 (d := plainD "_law_rows" s_law_rows) rfl
  have b32 : Binds K fd32 ["_law_source_here", "_law_size"] [] := FunD.bindsN F32 fun _ _ _ _ _ _ us hl => match us, hl with | [_, _], _ => rfl
  have g32 := He.glo_ok X G (c.fact 45 rfl)
  obtain ⟨fd33, F33⟩ := c.def_ 34 (d := plainD "_law_words" s_law_words) rfl
  have b33 : Binds K fd33 ["_law_rows_here"] [] := FunD.bindsN F33 fun _ _ _ _ _ _ us hl => match us, hl with | [_], _ => rfl
  have g33 := He.glo_ok X G (c.fact 46 rfl)
  obtain ⟨fd34, F34⟩ := c.def_ 35 (d := plainD "_law_dim" s_law_dim) rfl
  have b34 : Binds K fd34 ["_law_words_here"] [] := FunD.bindsN F34 fun _ _ _ _ _ _ us hl => match us, hl with | [_], _ => rfl
  have g34 := He.glo_ok X G (c.fact 47 rfl)
  obtain ⟨fd35, F35⟩ := c.def_ 36 (d := plainD "_law_reduced" s_law_reduced) rfl
  have b35 : Binds K fd35 ["_law_words_here"] [] := FunD.bindsN F35 fun _ _ _ _ _ _ us hl => match us, hl with | [_], _ => rfl
  have g35 := He.glo_ok X G (c.fact 48 rfl)
  obtain ⟨fd36, F36⟩ := c.def_ 37 (d := plainD "_law_told" s_law_told) rfl
  have b36 : Binds K fd36 ["_law_source_here", "_law_rows_here", "_law_words_here"] [] := FunD.bindsN F36 fun _ _ _ _ _ _ us hl => match us, hl with | [_, _, _], _ => rfl
  have g36 := He.glo_ok X G (c.fact 49 rfl)
  obtain ⟨fd37, F37⟩ := c.def_ 38 (d := methD "Book" "__eq__" "Book.__eq__" s_Book_eq) rfl
  have b37 : Binds K fd37 ["self", "other"] [] := FunD.bindsN F37 fun _ _ _ _ _ _ us hl => match us, hl with | [_, _], _ => rfl
  obtain ⟨fd38, F38⟩ := c.def_ 39 (d := plainD "_law_words_hold" s_law_words_hold) rfl
  have b38 : Binds K fd38 ["_law_book", "_law_size", "_law_words_here"] [] := FunD.bindsN F38 fun _ _ _ _ _ _ us hl => match us, hl with | [_, _, _], _ => rfl
  have g38 := He.glo_ok X G (c.fact 50 rfl)
  obtain ⟨fd39, F39⟩ := c.def_ 40 (d := plainD "_law_sums_hold" s_law_sums_hold) rfl
  have b39 : Binds K fd39 ["_law_book", "_law_rows_here", "_law_dim_here"] [] := FunD.bindsN F39 fun _ _ _ _ _ _ us hl => match us, hl with | [_, _, _], _ => rfl
  have g39 := He.glo_ok X G (c.fact 51 rfl)
  obtain ⟨fd40, F40⟩ := c.def_ 41 (d := plainD "_law_equal_holds" s_law_equal_holds) rfl
  have b40 : Binds K fd40 ["_law_source_here", "_law_book", "_law_size", "_law_rows_here", "_law_words_here"] [] := FunD.bindsN F40 fun _ _ _ _ _ _ us hl => match us, hl with | [_, _, _, _, _], _ => rfl
  have g40 := He.glo_ok X G (c.fact 52 rfl)
  obtain ⟨fd41, F41⟩ := c.def_ 42 (d := plainD "law" s_law) rfl
  have eL := hfa.symm.trans (He.glo_ok X G (c.fact 53 rfl))
  cases eL
  have bL := FunD.bindsA (ps := ["_law_script"]) F41 fun _ _ _ _ _ _ us hl => match us, hl with | [_], _ => rfl
  refine ⟨fd41, fun s v => bL s [v] rfl, fun base hK hN => ?_⟩
  have gCBook := He.glo_ok X G (c.fact 54 rfl)
  have mkBook := He.mkr_ok (c.fact 59 rfl)
  have BC : BookC K (He.ga K "Book") := ⟨He.cls_ok (c.fact 55 rfl), He.noat_ok (c.fact 56 rfl), He.noat_ok (c.fact 57 rfl), He.noat_ok (c.fact 58 rfl)⟩
  have O_Book : OwEq K (He.ga K "Book") := owB_ok (He.cls_ok (c.fact 55 rfl)) (ow_of co 0)
  have CT : ClsTab K (He.ga K) tab0 := tab_one (He.cls_ok (c.fact 55 rfl)) (fun f hf => by simp only [List.mem_cons, List.not_mem_nil, or_false] at hf; rcases hf with rfl | rfl | rfl <;> first | exact He.noat_ok (c.fact 56 rfl) | exact He.noat_ok (c.fact 57 rfl) | exact He.noat_ok (c.fact 58 rfl))
  have me_rows := He.meth_ok (c.fact 60 rfl)
  have me_holds := He.meth_ok (c.fact 61 rfl)
  have me__need_places := He.meth_ok (c.fact 62 rfl)
  have me_on := He.meth_ok (c.fact 63 rfl)
  have me_words := He.meth_ok (c.fact 64 rfl)
  have me_word_of := He.meth_ok (c.fact 65 rfl)
  have me___eq__ := He.meth_ok (c.fact 66 rfl)
  have EBadSize : ErrC P w K mg base "BadSize" (He.ga K "BadSize") := errB_ok X G (err_of ce 0) (ok_init FI) bI
  have EBadLot : ErrC P w K mg base "BadLot" (He.ga K "BadLot") := errB_ok X G (err_of ce 1) (ok_init FI) bI
  have EBadLots : ErrC P w K mg base "BadLots" (He.ga K "BadLots") := errB_ok X G (err_of ce 2) (ok_init FI) bI
  have ETooMany : ErrC P w K mg base "TooMany" (He.ga K "TooMany") := errB_ok X G (err_of ce 3) (ok_init FI) bI
  generalize He.ga K "BadSize" = CBadSize at EBadSize
  generalize He.ga K "BadLot" = CBadLot at EBadLot
  generalize He.ga K "BadLots" = CBadLots at EBadLots
  generalize He.ga K "TooMany" = CTooMany at ETooMany
  have D_mask_of := DefOk.mk (x := "mask_of") ⟨_, fd0, ok_mask_of (P := P) (w := w) (base := base) F0, g0, F0.kp, b0⟩
  have D_lot_of := DefOk.mk (x := "lot_of") ⟨_, fd1, ok_lot_of (P := P) (w := w) (base := base) T F1, g1, F1.kp, b1⟩
  have D_is_number := DefOk.mk (x := "is_number") ⟨_, fd2, ok_is_number (P := P) (w := w) (base := base) T F2, g2, F2.kp, b2⟩
  have D_is_lot := DefOk.mk (x := "is_lot") ⟨_, fd3, ok_is_lot (P := P) (w := w) (base := base) T hMOST_PLACES EBadSize D_is_number F3, g3, F3.kp, b3⟩
  have D_need_lot := DefOk.mk (x := "need_lot") ⟨_, fd4, ok_need_lot (P := P) (w := w) (base := base) EBadLot D_is_lot F4, g4, F4.kp, b4⟩
  have D_need_each_lot := DefOk.mk (x := "need_each_lot") ⟨_, fd5, ok_need_each_lot (P := P) (w := w) (base := base) T EBadLots D_is_lot F5, g5, F5.kp, b5⟩
  have D__law_source := DefOk.mk (x := "_law_source") ⟨_, fd6, ok_law_source (P := P) (w := w) (base := base) T F6, g6, F6.kp, b6⟩
  have D__law_next := DefOk.mk (x := "_law_next") ⟨_, fd7, ok_law_next (P := P) (w := w) (base := base) T F7, g7, F7.kp, b7⟩
  have D__law_mixed := DefOk.mk (x := "_law_mixed") ⟨_, fd8, ok_law_mixed (P := P) (w := w) (base := base) T F8, g8, F8.kp, b8⟩
  have D__law_draw := DefOk.mk (x := "_law_draw") ⟨_, fd9, ok_law_draw (P := P) (w := w) (base := base) T D__law_next D__law_mixed F9, g9, F9.kp, b9⟩
  have X__law_draw := cv_law_draw (ad := He.ga K) D__law_draw
  have D_lowest := DefOk.mk (x := "lowest") ⟨_, fd10, ok_lowest (P := P) (w := w) (base := base) F10, g10, F10.kp, b10⟩
  have D_cleared := DefOk.mk (x := "cleared") ⟨_, fd11, ok_cleared (P := P) (w := w) (base := base) D_lowest F11, g11, F11.kp, b11⟩
  have D_sweep := DefOk.mk (x := "sweep") ⟨_, fd12, ok_sweep (P := P) (w := w) (base := base) D_lowest D_cleared F12, g12, F12.kp, b12⟩
  have D_reduce_rows := DefOk.mk (x := "reduce_rows") ⟨_, fd13, ok_reduce_rows (P := P) (w := w) (base := base) T2 hALL_PLACES D_lowest D_sweep F13, g13, F13.kp, b13⟩
  have D_picked := DefOk.mk (x := "picked") ⟨_, fd14, ok_picked (P := P) (w := w) (base := base) T F14, g14, F14.kp, b14⟩
  have D_span := DefOk.mk (x := "span") ⟨_, fd15, ok_span (P := P) (w := w) (base := base) F15, g15, F15.kp, b15⟩
  have D_need_lots := DefOk.mk (x := "need_lots") ⟨_, fd16, ok_need_lots (P := P) (w := w) (base := base) T hMOST_LOTS EBadLots D_need_each_lot F16, g16, F16.kp, b16⟩
  have Mk_Book := MakeOk.mk (x := "Book") gCBook ⟨_, fd17, ok_Book_init (P := P) (w := w) (base := base) T BC hMOST_SIZE EBadSize D_is_number D_need_lots D_mask_of D_reduce_rows F17, mkBook, b17⟩
  have MkX_Book := cv_Book (ad := He.ga K) Mk_Book
  have D__told := DefOk.mk (x := "_told") ⟨_, fd18, ok_told (P := P) (w := w) (base := base) Mk_Book D_lot_of F18, g18, F18.kp, b18⟩
  have M_rows := MethOk.mk (m := "rows") ⟨_, fd19, ok_Book_rows (P := P) (w := w) (base := base) BC D_lot_of F19, me_rows, b19⟩
  have MX_rows := cv_Book_rows (ad := He.ga K) M_rows
  have M_holds := MethOk.mk (m := "holds") ⟨_, fd20, ok_Book_holds (P := P) (w := w) (base := base) BC hALL_PLACES D_need_lot D_mask_of D_cleared F20, me_holds, b20⟩
  have MX_holds := cv_Book_holds (ad := He.ga K) M_holds
  have M__need_places := MethOk.mk (m := "_need_places") ⟨_, fd21, ok_Book_need_places (P := P) (w := w) (base := base) T BC EBadLot D_is_lot F21, me__need_places, b21⟩
  have M_on := MethOk.mk (m := "on") ⟨_, fd22, ok_Book_on (P := P) (w := w) (base := base) T BC M__need_places D_picked D__told F22, me_on, b22⟩
  have M_words := MethOk.mk (m := "words") ⟨_, fd23, ok_Book_words (P := P) (w := w) (base := base) T2 BC hMOST_WORDS ETooMany D_lot_of D_span F23, me_words, b23⟩
  have MX_words := cv_Book_words (ad := He.ga K) M_words
  have M_word_of := MethOk.mk (m := "word_of") ⟨_, fd24, ok_Book_word_of (P := P) (w := w) (base := base) BC D_need_lot D_lot_of F24, me_word_of, b24⟩
  have MX_word_of := cv_Book_word_of (ad := He.ga K) M_word_of
  have X__law_lot := DefOk.mk (x := "_law_lot") ⟨_, fd25, DL.ok_law_lot (P := P) (w := w) (base := base) (ad := He.ga K) T F25, g25, F25.kp, b25⟩
  have X__law_integer := DefOk.mk (x := "_law_integer") ⟨_, fd26, DL.ok_law_integer (P := P) (w := w) (base := base) (ad := He.ga K) T F26, g26, F26.kp, b26⟩
  have X__law_flag := DefOk.mk (x := "_law_flag") ⟨_, fd27, DL.ok_law_flag (P := P) (w := w) (base := base) (ad := He.ga K) T F27, g27, F27.kp, b27⟩
  have X__law_same := DefG.mk (x := "_law_same") ⟨_, fd28, DL.ok_law_same (P := P) (w := w) (base := base) (ad := He.ga K) T F28, g28, F28.kp, b28⟩
  have X__law_lots_equal := DefOk.mk (x := "_law_lots_equal") ⟨_, fd29, DL.ok_law_lots_equal (P := P) (w := w) (base := base) (ad := He.ga K) T X__law_integer F29, g29, F29.kp, b29⟩
  have X__law_copied := DefOk.mk (x := "_law_copied") ⟨_, fd30, DL.ok_law_copied (P := P) (w := w) (base := base) (ad := He.ga K) F30, g30, F30.kp, b30⟩
  have X__law_rolled := DefOk.mk (x := "_law_rolled") ⟨_, fd31, DL.ok_law_rolled (P := P) (w := w) (base := base) (ad := He.ga K) F31, g31, F31.kp, b31⟩
  have X__law_rows := DefOk.mk (x := "_law_rows") ⟨_, fd32, DL.ok_law_rows (P := P) (w := w) (base := base) (ad := He.ga K) T X__law_copied X__law_draw X__law_rolled F32, g32, F32.kp, b32⟩
  have X__law_words := DefOk.mk (x := "_law_words") ⟨_, fd33, DL.ok_law_words (P := P) (w := w) (base := base) (ad := He.ga K) F33, g33, F33.kp, b33⟩
  have X__law_dim := DefOk.mk (x := "_law_dim") ⟨_, fd34, DL.ok_law_dim (P := P) (w := w) (base := base) (ad := He.ga K) T F34, g34, F34.kp, b34⟩
  have X__law_reduced := DefOk.mk (x := "_law_reduced") ⟨_, fd35, DL.ok_law_reduced (P := P) (w := w) (base := base) (ad := He.ga K) T F35, g35, F35.kp, b35⟩
  have X__law_told := DefOk.mk (x := "_law_told") ⟨_, fd36, DL.ok_law_told (P := P) (w := w) (base := base) (ad := He.ga K) T X__law_draw X__law_reduced F36, g36, F36.kp, b36⟩
  have MX___eq__ := MethOk.mk (m := "__eq__") ⟨_, fd37, DL.ok_Book_eq (P := P) (w := w) (base := base) (ad := He.ga K) T CT O_Book gCBook F37, me___eq__, b37⟩
  have X__law_words_hold := DefOk.mk (x := "_law_words_hold") ⟨_, fd38, DL.ok_law_words_hold (P := P) (w := w) (base := base) (ad := He.ga K) T T2 CT X__law_flag X__law_lot X__law_lots_equal MX_holds MX_words F38, g38, F38.kp, b38⟩
  have X__law_sums_hold := DefG.mk (x := "_law_sums_hold") ⟨_, fd39, DL.ok_law_sums_hold (P := P) (w := w) (base := base) (ad := He.ga K) T CT X__law_lot X__law_same MX_word_of F39, g39, F39.kp, b39⟩
  have X__law_equal_holds := DefOk.mk (x := "_law_equal_holds") ⟨_, fd40, DL.ok_law_equal_holds (P := P) (w := w) (base := base) (ad := He.ga K) T2 X__law_draw X__law_flag X__law_lot X__law_rows X__law_told X__law_words MX___eq__ MkX_Book O_Book F40, g40, F40.kp, b40⟩
  exact DL.ok_law (ad := He.ga K) CT X__law_dim X__law_draw X__law_equal_holds X__law_lot X__law_lots_equal X__law_reduced X__law_rows X__law_same X__law_sums_hold X__law_words X__law_words_hold MX_rows MkX_Book D__law_source F41
end BT
open PySem PySem.W PySem.Calls PyProof.Rows
theorem PySem.Challenge.cw_blindtwins_k03_whole_words_holds : PySem.Challenge.rw_blindtwins_k03_whole_words.Holds := by
  w_on; o_law
  refine HandSHeadRun.head_any (r := OpenLaw.row PySem.Challenge.rw_blindtwins_k03_whole_words) (q := view (OpenLaw.row PySem.Challenge.rw_blindtwins_k03_whole_words).prog [50]) (H := BT.hkK) (ob := BT.obK) (M := 4000) (loose := BT.looseK) (d := HandSHeadRun.topDef (OpenLaw.row PySem.Challenge.rw_blindtwins_k03_whole_words).prog 50) (kwd := []) BT.obK_eq
    (by kernel_rfl) (fun s => by kernel_rfl) BT.runK (by kernel_rfl) (by kernel_rfl) (by kernel_rfl) (by rfl) (by first | assumption | decide +kernel) (by decide +kernel) ⟨rfl, rfl, rfl, rfl, rfl, by decide +kernel⟩ ?hw ?hc
  case hw => w_witness2
  case hc =>
    refine BT.walk_G (l := PySem.Challenge.rw_blindtwins_k03_whole_words) (n := 63) (k := 9) (x := "_law_script") rfl (by decide) (by kernel_rfl) ⟨rfl, by decide, by decide⟩ ?F
    intro w mg fa h Y G hmg0
    obtain ⟨K, KX, ce, c⟩ := Y
    have hmg : mg ("law" : PySem.Str) = some (.ref fa) := by
      have e : (HandSHeadRun.topDef (OpenLaw.row PySem.Challenge.rw_blindtwins_k03_whole_words).prog 50).name = ("law" : PySem.Str) := by kernel_rfl
      rw [← e]
      exact hmg0
    obtain ⟨fd, hb, hF⟩ := BT.factsK (P := (PySem.Challenge.rw_blindtwins_k03_whole_words).prog) (w := w) KX G hmg ce c
    exact ⟨K, fd, DL.spLaw K, KX, hb, fun H a ns hl hS => ⟨a, ns, rfl, hS, fun _ => rfl⟩, hF⟩

