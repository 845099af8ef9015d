import PyProof.Rows.All
import Wide.All
import OpenK.AllK
import Wide.FinOn
import PyProof.FString3
import PyProof.Rows.StrIntSpec
import PyProof.EqAt
import PyProof.EqKinds
import PyProof.TupleCall
import HandS.ForExc
import HandS.Comp
import HandS.Iter
import HandS.Dict
import HandS.Walk
import HandS.IsInst
import HandS.ExcInit
import HandS.ExcField
import HandS.WideBits
import HandS.TupAny
import HandS.Deep
import HandS.Conv
import HandS.FStr
import HandS.Text
import HandS.Defaults
import HandS.ExcOwn
import KE.BitLaws
import KE.OsArith
import KE.KStateDown
import HandS.Ends
import HandS.Head0
import HandS.Head1
import HandS.Head2
import HandS.HeadHook1
import HandS.HeadHook2
import PyProof.Rows.BitMore
import KE.KSortKey
import HandS.SortKw
import HandS.Keys
import PyProof.Draws
import PyProof.EnumMake
import KE.GoesMore
import HandS.CallSlots
import KE.SortCalls
import HandS.SortInts
import PyProof.TupleOfSeq
import HandS.Exc
import HandS.Codes
import PySem.Challenge.RW_blindtwins_k02_books_refuse
set_option linter.all false
namespace BT
/-! ### masks and lots -/
theorem or_and_add : ∀ (a b : Nat), (a ||| b) + (a &&& b) = a + b := by
  intro a
  induction a using Nat.strongRecOn with
  | _ a ih =>
    intro b
    by_cases h : a = 0
    · subst h; simp
    · have ih' := ih (a / 2) (by omega) (b / 2)
      have e1 : (a ||| b) = 2 * (a / 2 ||| b / 2) + ((a % 2) ||| (b % 2)) := by
        apply Nat.eq_of_testBit_eq
        intro i
        cases i with
        | zero =>
          simp [Nat.testBit_zero, Nat.or_mod_two_eq_one, Nat.add_mod, Nat.mul_mod]
        | succ i =>
          rw [Nat.testBit_succ, Nat.testBit_succ]
          have : (2 * (a / 2 ||| b / 2) + (a % 2 ||| b % 2)) / 2 = (a / 2 ||| b / 2) := by
            rcases Nat.mod_two_eq_zero_or_one a with h1 | h1 <;> rcases Nat.mod_two_eq_zero_or_one b with h2 | h2 <;> simp [h1, h2] <;> omega
          rw [this, Nat.or_div_two]
      have e2 : (a &&& b) = 2 * (a / 2 &&& b / 2) + ((a % 2) &&& (b % 2)) := by
        apply Nat.eq_of_testBit_eq
        intro i
        cases i with
        | zero =>
          simp [Nat.testBit_zero, Nat.and_mod_two_eq_one, Nat.add_mod, Nat.mul_mod]
        | succ i =>
          rw [Nat.testBit_succ, Nat.testBit_succ]
          have : (2 * (a / 2 &&& b / 2) + (a % 2 &&& b % 2)) / 2 = (a / 2 &&& b / 2) := by
            rcases Nat.mod_two_eq_zero_or_one a with h1 | h1 <;> rcases Nat.mod_two_eq_zero_or_one b with h2 | h2 <;> simp [h1, h2] <;> omega
          rw [this, Nat.and_div_two]
      rw [e1, e2]
      rcases Nat.mod_two_eq_zero_or_one a with h1 | h1 <;> rcases Nat.mod_two_eq_zero_or_one b with h2 | h2 <;> simp [h1, h2] <;> omega
theorem xor_and_add : ∀ (a b : Nat), (a ^^^ b) + 2 * (a &&& b) = a + b := by
  intro a b
  have h := or_and_add a b
  have e : (a ||| b) = (a ^^^ b) ||| (a &&& b) := by
    apply Nat.eq_of_testBit_eq
    intro i
    simp only [Nat.testBit_or, Nat.testBit_xor, Nat.testBit_and]
    cases a.testBit i <;> cases b.testBit i <;> rfl
  have d : (a ^^^ b) &&& (a &&& b) = 0 := by
    apply Nat.eq_of_testBit_eq
    intro i
    simp only [Nat.testBit_and, Nat.testBit_xor, Nat.zero_testBit]
    cases a.testBit i <;> cases b.testBit i <;> rfl
  have h2 := or_and_add (a ^^^ b) (a &&& b)
  rw [d] at h2
  omega
/-- the mask of a lot -/
def maskN (l : List Nat) : Nat := l.foldl (fun m p => m ||| 2 ^ p) 0
theorem maskN_nil : maskN [] = 0 := rfl
theorem maskN_snoc (l : List Nat) (p : Nat) : maskN (l ++ [p]) = maskN l ||| 2 ^ p := by
  unfold maskN; rw [List.foldl_append]; rfl
theorem testBit_foldl : ∀ (l : List Nat) (m i : Nat), (l.foldl (fun m p => m ||| 2 ^ p) m).testBit i = (m.testBit i || decide (i ∈ l))
  | [], m, i => by simp
  | p :: l, m, i => by
    rw [List.foldl_cons, testBit_foldl l, Nat.testBit_or, Nat.testBit_two_pow]
    by_cases h : p = i
    · subst h; simp
    · have h' : ¬ i = p := fun e => h e.symm
      simp [h, h']
theorem testBit_maskN (l : List Nat) (i : Nat) : (maskN l).testBit i = decide (i ∈ l) := by
  unfold maskN; rw [testBit_foldl]; simp
theorem maskN_lt {l : List Nat} {n : Nat} (h : ∀ p ∈ l, p < n) : maskN l < 2 ^ n := by
  apply Nat.lt_pow_two_of_testBit
  intro i hi
  rw [testBit_maskN]
  exact decide_eq_false fun hm => by have := h i hm; omega
/-- the lot of a mask, looked for below n -/
def lotB (n m : Nat) : List Nat := (List.range n).filter m.testBit
theorem lotB_mem {n m p : Nat} : p ∈ lotB n m ↔ p < n ∧ m.testBit p = true := by unfold lotB; simp
theorem lotB_asc (n m : Nat) : (lotB n m).Pairwise (· < ·) := List.Pairwise.filter _ List.pairwise_lt_range
theorem asc_ext : ∀ {a b : List Nat}, a.Pairwise (· < ·) → b.Pairwise (· < ·) → (∀ p, p ∈ a ↔ p ∈ b) → a = b
  | [], [], _, _, _ => rfl
  | [], y :: b, _, _, h => absurd ((h y).mpr (List.mem_cons_self ..)) (by simp)
  | x :: a, [], _, _, h => absurd ((h x).mp (List.mem_cons_self ..)) (by simp)
  | x :: a, y :: b, ha, hb, h => by
    have ha' := List.pairwise_cons.mp ha
    have hb' := List.pairwise_cons.mp hb
    have e : x = y := by
      have h1 := (h x).mp (List.mem_cons_self ..)
      have h2 := (h y).mpr (List.mem_cons_self ..)
      rcases List.mem_cons.mp h1 with e | e
      · exact e
      · rcases List.mem_cons.mp h2 with e2 | e2
        · exact e2.symm
        · have := hb'.1 x e
          have := ha'.1 y e2
          omega
    subst e
    rw [asc_ext ha'.2 hb'.2 fun p => ?_]
    constructor
    · intro hp
      rcases List.mem_cons.mp ((h p).mp (List.mem_cons_of_mem _ hp)) with e | e
      · have := ha'.1 p hp; omega
      · exact e
    · intro hp
      rcases List.mem_cons.mp ((h p).mpr (List.mem_cons_of_mem _ hp)) with e | e
      · have := hb'.1 p hp; omega
      · exact e
theorem lotB_more {n k m : Nat} (hm : m < 2 ^ n) (h : n ≤ k) : lotB k m = lotB n m := by
  refine asc_ext (lotB_asc _ _) (lotB_asc _ _) fun p => ?_
  rw [lotB_mem, lotB_mem]
  constructor
  · rintro ⟨h1, h2⟩
    refine ⟨?_, h2⟩
    refine Nat.lt_of_not_le fun hp => ?_
    rw [Nat.testBit_lt_two_pow (Nat.lt_of_lt_of_le hm (Nat.pow_le_pow_right (by omega) hp))] at h2
    cases h2
  · rintro ⟨h1, h2⟩
    exact ⟨by omega, h2⟩
theorem lotB_same {n k m : Nat} (hn : m < 2 ^ n) (hk : m < 2 ^ k) : lotB n m = lotB k m := by
  rcases Nat.le_total n k with h | h
  · exact (lotB_more hn h).symm
  · exact lotB_more hk h
theorem lotB_maskN {l : List Nat} {n : Nat} (ha : l.Pairwise (· < ·)) (h : ∀ p ∈ l, p < n) : lotB n (maskN l) = l := by
  refine asc_ext (lotB_asc _ _) ha fun p => ?_
  rw [lotB_mem, testBit_maskN]
  simp
  exact fun hp => h p hp
/-- the number of bits -/
def bitsN (m : Nat) : Nat := if m = 0 then 0 else m.log2 + 1
theorem lt_bitsN (m : Nat) : m < 2 ^ bitsN m := by
  unfold bitsN
  by_cases h : m = 0
  · subst h; simp
  · rw [if_neg h]; exact Nat.lt_log2_self
theorem bitsN_le {m n : Nat} (h : m < 2 ^ n) : bitsN m ≤ n := by
  unfold bitsN
  by_cases h0 : m = 0
  · simp [h0]
  · rw [if_neg h0]; exact (Nat.log2_lt h0).mpr h
/-- the lot of a mask -/
def lotN (m : Nat) : List Nat := lotB (bitsN m) m
theorem lotN_eq {n m : Nat} (h : m < 2 ^ n) : lotN m = lotB n m := lotB_same (lt_bitsN m) h
theorem lotN_asc (m : Nat) : (lotN m).Pairwise (· < ·) := lotB_asc _ _
theorem lotN_lt {n m : Nat} (h : m < 2 ^ n) : ∀ p ∈ lotN m, p < n := fun p hp => by
  rw [lotN_eq h] at hp; exact (lotB_mem.mp hp).1
theorem mem_lotN {m p : Nat} : p ∈ lotN m ↔ m.testBit p = true := by
  unfold lotN
  rw [lotB_mem]
  constructor
  · exact fun h => h.2
  · intro h
    refine ⟨Nat.lt_of_not_le fun hp => ?_, h⟩
    rw [Nat.testBit_lt_two_pow (Nat.lt_of_lt_of_le (lt_bitsN m) (Nat.pow_le_pow_right (by omega) hp))] at h
    cases h
theorem lotN_maskN {l : List Nat} (ha : l.Pairwise (· < ·)) : lotN (maskN l) = l := by
  refine asc_ext (lotN_asc _) ha fun p => ?_
  rw [mem_lotN, testBit_maskN]; simp
theorem maskN_lotN (m : Nat) : maskN (lotN m) = m := by
  apply Nat.eq_of_testBit_eq
  intro i
  rw [testBit_maskN]
  by_cases h : m.testBit i = true
  · rw [h]; exact decide_eq_true (mem_lotN.mpr h)
  · have h' : m.testBit i = false := by simpa using h
    rw [h']; exact decide_eq_false fun q => h (mem_lotN.mp q)
/-! ### the number of ones -/
def pop (m : Nat) : Nat := (lotN m).length
theorem range_succ_map (n : Nat) : List.range (n + 1) = 0 :: (List.range n).map Nat.succ := List.range_succ_eq_map
theorem lotB_succ (n m : Nat) : lotB (n + 1) m = (if m % 2 = 1 then [0] else []) ++ (lotB n (m / 2)).map Nat.succ := by
  unfold lotB
  rw [range_succ_map, List.filter_cons]
  have e : (List.map Nat.succ (List.range n)).filter m.testBit = ((List.range n).filter (m / 2).testBit).map Nat.succ := by
    rw [List.filter_map]
    congr 1
    apply List.filter_congr
    intro x _
    simp [Function.comp, Nat.testBit_succ]
  rw [e]
  have e0 : m.testBit 0 = decide (m % 2 = 1) := Nat.testBit_zero m
  rw [e0]
  by_cases h : m % 2 = 1 <;> simp [h]
theorem pop_zero : pop 0 = 0 := rfl
theorem pop_step (m : Nat) : pop m = m % 2 + pop (m / 2) := by
  have h1 : m < 2 ^ (bitsN (m / 2) + 1) := by
    have := lt_bitsN (m / 2)
    rw [Nat.pow_succ]; omega
  unfold pop
  rw [lotN_eq h1, lotB_succ, List.length_append, List.length_map, lotN_eq (lt_bitsN (m / 2))]
  rcases Nat.mod_two_eq_zero_or_one m with h | h <;> simp [h]
/-- the ones among the binary digits -/
theorem count_digits (m : Nat) : (Nat.toDigits 2 m).count '1' = pop m := by
  induction m using Nat.strongRecOn with
  | _ m ih =>
    by_cases h : m < 2
    · rcases (by omega : m = 0 ∨ m = 1) with rfl | rfl
      · rfl
      · decide
    · have e : Nat.toDigits 2 m = Nat.toDigits 2 (m / 2) ++ Nat.toDigits 2 (m % 2) := by
        rw [Nat.toDigits_append_toDigits (by omega) (by omega) (by omega)]
        congr 1
        omega
      rw [e, List.count_append, ih (m / 2) (by omega), ih (m % 2) (by omega), pop_step m]
      rcases Nat.mod_two_eq_zero_or_one m with h2 | h2
      · rw [h2]; show pop (m / 2) + 0 = 0 + pop (m / 2); omega
      · rw [h2]; have : pop 1 = 1 := by decide
        rw [this]; omega
/-- the common places of two lots, counted -/
theorem pop_and {a b : List Nat} (ha : a.Pairwise (· < ·)) : pop (maskN a &&& maskN b) = (a.filter fun p => decide (p ∈ b)).length := by
  unfold pop
  congr 1
  refine asc_ext (lotN_asc _) (ha.filter _) fun p => ?_
  rw [mem_lotN, Nat.testBit_and, testBit_maskN, testBit_maskN]
  simp
/-! ### sums -/
/-- in how many of the lots the place is -/
def oftenL (lots : List (List Nat)) (p : Nat) : Nat := (lots.map fun l => l.count p).sum
def xorL (lots : List (List Nat)) : Nat := lots.foldl (fun m l => m ^^^ maskN l) 0
theorem xorL_snoc (ls : List (List Nat)) (l : List Nat) : xorL (ls ++ [l]) = xorL ls ^^^ maskN l := by
  unfold xorL; rw [List.foldl_append]; rfl
theorem asc_nodup {l : List Nat} (h : l.Pairwise (· < ·)) : l.Nodup := h.imp fun hab => by omega
theorem asc_count {l : List Nat} (h : l.Pairwise (· < ·)) (p : Nat) : l.count p = if p ∈ l then 1 else 0 := by
  by_cases hm : p ∈ l
  · rw [if_pos hm]
    have h1 : l.count p ≤ 1 := List.nodup_iff_count.mp (asc_nodup h) p
    have h2 := List.count_pos_iff.mpr hm
    omega
  · rw [if_neg hm]; exact List.count_eq_zero.mpr hm
theorem testBit_xorF : ∀ (ls : List (List Nat)) (m i : Nat), (∀ l ∈ ls, l.Pairwise (· < ·)) →
    (ls.foldl (fun m l => m ^^^ maskN l) m).testBit i = decide (((if m.testBit i then 1 else 0) + oftenL ls i) % 2 = 1)
  | [], m, i, _ => by
    cases h : m.testBit i <;> simp [h, oftenL]
  | l :: ls, m, i, h => by
    rw [List.foldl_cons, testBit_xorF ls _ i fun l' hl => h l' (List.mem_cons_of_mem _ hl), Nat.testBit_xor, testBit_maskN]
    have e : oftenL (l :: ls) i = (if i ∈ l then 1 else 0) + oftenL ls i := by
      unfold oftenL
      rw [List.map_cons, List.sum_cons, asc_count (h l (List.mem_cons_self ..))]
    rw [e]
    by_cases hi : i ∈ l <;> cases hm : m.testBit i <;> simp [hi, hm] <;> omega
theorem testBit_xorL {ls : List (List Nat)} (h : ∀ l ∈ ls, l.Pairwise (· < ·)) (i : Nat) : (xorL ls).testBit i = decide (oftenL ls i % 2 = 1) := by
  unfold xorL; rw [testBit_xorF ls 0 i h]; simp
theorem xorF_lt {n : Nat} : ∀ (ls : List (List Nat)) (m : Nat), m < 2 ^ n → (∀ l ∈ ls, ∀ p ∈ l, p < n) → ls.foldl (fun m l => m ^^^ maskN l) m < 2 ^ n
  | [], m, hm, _ => hm
  | l :: ls, m, hm, h => xorF_lt ls _ (Nat.xor_lt_two_pow hm (maskN_lt (h l (List.mem_cons_self ..)))) fun l' hl => h l' (List.mem_cons_of_mem _ hl)
theorem xorL_lt {n : Nat} {ls : List (List Nat)} (h : ∀ l ∈ ls, ∀ p ∈ l, p < n) : xorL ls < 2 ^ n := xorF_lt ls 0 (Nat.two_pow_pos n) h
/-- the sum as the law counts it -/
theorem lotN_xorL {n : Nat} {ls : List (List Nat)} (ha : ∀ l ∈ ls, l.Pairwise (· < ·)) (h : ∀ l ∈ ls, ∀ p ∈ l, p < n) :
    lotN (xorL ls) = (List.range n).filter fun p => decide (oftenL ls p % 2 = 1) := by
  rw [lotN_eq (xorL_lt h)]
  unfold lotB
  apply List.filter_congr
  intro p _
  exact testBit_xorL ha p
end BT

set_option Elab.async false
set_option linter.all false
set_option maxRecDepth 100000
set_option maxHeartbeats 2000000
namespace BT
open PySem PySem.Spec PyProof.Rows Builtin Builtin.Float
/-- the binary digits of a number as a text -/
def binText (n : Nat) : Str := ⟨((Nat.toDigits 2 n).map Char.toNat).toArray⟩
section
variable {prog : Program} {w : World} {A : Around} {E : Value → Shared → Prop} {s : Shared}
def fB : FormatSpec := { align := 62, type := some 98 }
theorem fB_eq : parseFormatSpec (Str.ofString "b").cps.toList "int" 62 = .ok fB := by rfl
theorem binText_len {n k : Nat} (h : n < 2 ^ k) (hk : 1 ≤ k) : (binText n).length ≤ k := by
  show ((Nat.toDigits 2 n).map Char.toNat).toArray.size ≤ k
  rw [List.size_toArray, List.length_map]
  induction k generalizing n with
  | zero => omega
  | succ k ih =>
    by_cases h2 : n < 2
    · rw [Nat.toDigits_of_lt_base h2]; show 1 ≤ k + 1; omega
    · have e : Nat.toDigits 2 n = Nat.toDigits 2 (n / 2) ++ Nat.toDigits 2 (n % 2) := by
        rw [Nat.toDigits_append_toDigits (by omega) (by omega) (by omega)]
        congr 1
        omega
      have hk1 : 1 ≤ k := by
        rcases Nat.eq_zero_or_pos k with e0 | e0
        · subst e0; exact absurd h h2
        · exact e0
      have q := ih (n := n / 2) (by rw [Nat.pow_succ] at h; omega) hk1
      rw [e, List.length_append, Nat.toDigits_of_lt_base (show n % 2 < 2 by omega)]
      show _ + 1 ≤ _
      omega
theorem ret_as {x y : Str} {Q : Fin → Shared → Prop} (e : x = y) (h : wpAny (model prog w) A (retStr y) Q E s) : wpAny (model prog w) A (retStr x) Q E s := e ▸ h
theorem fmt_b {n k : Nat} {t : Tok} {Q : Value → Shared → Prop} (hk : n < 2 ^ k) (h1 : 1 ≤ k) (hk2 : k ≤ 1000)
    (h : Q (.str (binText n) (s.toks + 1)) { s with toks := s.toks + 1 + 1 }) : wpAny (model prog w) A (formatField (.int (n : Int) t) (Str.ofString "b")) Q E s := by
  have hlen : (binText n).length ≤ sizeLine := Nat.le_trans (binText_len hk h1) (Nat.le_trans hk2 (by decide))
  have hb : (Str.ofString "b").length ≤ sizeLine := by decide
  show wpAny _ _ (holding [.int (n : Int) t] (pyFormat (.int (n : Int) t) (Str.ofString "b"))) Q E s
  apply wpAny_holding
  unfold pyFormat
  refine (wpAny_bind (wpAny_mkStr ?_ hb) :)
  refine (wpAny_bind (m := callSpecial? (.int (n : Int) t) (Str.ofString "__format__") [.str (Str.ofString "b") s.toks]) (wpAny_callSpecial?_slot (name := Str.ofString "__format__") (typeIs_int _ _ t) slot_int_format ?_) :)
  refine (wpAny_call (codeAny_call_builtin slot_int_format.plain entry_int_format (slot_int_format.check _ _ _ _ _ _ _ _ (typeIs_int _ _ t) (args_int_format _ _) ?_)) :)
  unfold Builtin.«int.__format__»
  have hne : ((Str.ofString "b").length == 0) = false := by decide
  have hasc : (((Str.ofString "b").cps.toList.drop 1).any (· ≥ 128) || ((Str.ofString "b").cps.getD 0 0 ≥ 128 && !([60, 62, 61, 94] : List Nat).contains ((Str.ofString "b").cps.getD 1 0))) = false := by decide
  simp only [selfAndOne, noKeywords, Int.intOfSelf, asInt?, asStr?, List.isEmpty_nil, if_true, pure_bind, bind_pure, bind_assoc, hne, hasc, Bool.false_eq_true, if_false,
    show (Value.str (Str.ofString "b") s.toks == Value.none) = false from rfl]
  refine (wpAny_bind (wpAny_typeNameOf (T := "str") (typeIs_str _ _ _) (by decide) fun _ => ?_) :)
  refine (wpAny_bind (wpAny_typeNameOfCut_int ?_) :)
  obtain ⟨f, hf⟩ : ∃ f : FormatSpec, f = fB := ⟨_, rfl⟩
  have hp : parseFormatSpec (Str.ofString "b").cps.toList "int" 62 = .ok f := by rw [hf]; exact fB_eq
  have f1 : f.type = some 98 := by rw [hf]; rfl
  have f2 : f.precision = none := by rw [hf]; rfl
  have f3 : f.noNeg0 = false := by rw [hf]; rfl
  have f4 : f.width = none := by rw [hf]; rfl
  simp only [hp, f1]
  rw [if_pos (by decide)]
  show wpAny _ _ (if _ then _ else _) _ _ _
  rw [if_neg (by simp [f2])]
  show wpAny _ _ (if _ then _ else _) _ _ _
  rw [if_neg (by simp [f3])]
  show wpAny _ _ (if _ then _ else _) _ _ _
  rw [if_neg (by decide)]
  show wpAny _ _ (if _ then _ else _) _ _ _
  rw [if_neg (by decide)]
  show wpAny _ _ (if _ then _ else _) _ _ _
  rw [if_neg (by simp [f4])]
  show wpAny _ _ (retStr _) _ _ _
  have hdig : (Nat.toDigits 2 n).isEmpty = false := by
    have q := tDigits_len_ge 2 n
    cases e : Nat.toDigits 2 n with
    | nil => rw [e] at q; simp at q
    | cons _ _ => rfl
  have hneg : decide ((n : Int) < 0) = false := decide_eq_false (by omega)
  refine ret_as (y := binText n) ?_ ?_
  · rw [hneg, hf]
    conv => lhs; whnf
    apply congrArg Str.mk
    apply congrArg List.toArray
    have hemp : Nat.toDigits 2 n ≠ [] := fun e => by rw [e] at hdig; cases hdig
    have e88 : (((some 98).getD (if ((Str.ofString "b").cps.back? == some 0) = true then 0 else 100) == 88) = true) ↔ False := by decide
    have e2 : ((n : Int).natAbs) = n := rfl
    simp [fB, hemp, e88, e2]
  unfold retStr
  refine wpAny_bind (wpAny_mkStr (wpAny_pure ?_) hlen)
  show wpAny _ _ (isInstance _ _ >>= _) _ _ _
  exact wpAny_bind (wpAny_isInstance (typeIs_str _ _ _) isSubtype_str_str (wpAny_pure h))
end
end BT

set_option Elab.async false
set_option linter.all false
set_option maxRecDepth 100000
set_option maxHeartbeats 2000000
namespace BT
open PySem PySem.Spec PyProof.Rows L2
/-! ### data that lies in the tracked heap -/
def kD : Key → PyData
  | .inl i => .int i
  | .inr x => .str x
mutual
inductive Dv (H : Hp) : V → PyData → Prop
  | non : Dv H .non .none
  | bl (b : Bool) : Dv H (.bl b) (.bool b)
  | int (i : Int) : Dv H (.int i) (.int i)
  | str (x : Str) : Dv H (.str x) (.str x)
  | lst {a : Addr} {xs : List V} {ds : List PyData} : H a = some (.lst xs) → DvA H xs ds → Dv H (.ref a) (.list ds)
  | tup {a : Addr} {xs : List V} {ds : List PyData} : H a = some (.tup xs) → DvA H xs ds → Dv H (.ref a) (.tuple ds)
  | dct {a : Addr} {kvs : List (Key × V)} {es : List (PyData × PyData)} : H a = some (.dK kvs) → DvK H kvs es → Dv H (.ref a) (.dict es)
inductive DvA (H : Hp) : List V → List PyData → Prop
  | nil : DvA H [] []
  | cons {v : V} {vs : List V} {d : PyData} {ds : List PyData} : Dv H v d → DvA H vs ds → DvA H (v :: vs) (d :: ds)
inductive DvK (H : Hp) : List (Key × V) → List (PyData × PyData) → Prop
  | nil : DvK H [] []
  | cons {k : Key} {v : V} {r : List (Key × V)} {d : PyData} {es : List (PyData × PyData)} : Dv H v d → DvK H r es → DvK H ((k, v) :: r) ((kD k, d) :: es)
end
mutual
theorem Dv.mono {H H' : Hp} (S : Same H H') : ∀ (d : PyData) (v : V), Dv H v d → Dv H' v d
  | .none, _, h => by cases h; exact .non
  | .bool b, _, h => by cases h; exact .bl b
  | .int i, _, h => by cases h; exact .int i
  | .str x, _, h => by cases h; exact .str x
  | .list ds, _, h => by
    cases h with
    | lst e a => exact .lst (S _ _ e) (DvA.mono S ds _ a)
  | .tuple ds, _, h => by
    cases h with
    | tup e a => exact .tup (S _ _ e) (DvA.mono S ds _ a)
  | .dict es, _, h => by
    cases h with
    | dct e a => exact .dct (S _ _ e) (DvK.mono S es _ a)
theorem DvA.mono {H H' : Hp} (S : Same H H') : ∀ (ds : List PyData) (vs : List V), DvA H vs ds → DvA H' vs ds
  | [], _, h => by cases h; exact .nil
  | d :: ds, _, h => by
    cases h with
    | cons h1 h2 => exact .cons (Dv.mono S d _ h1) (DvA.mono S ds _ h2)
theorem DvK.mono {H H' : Hp} (S : Same H H') : ∀ (es : List (PyData × PyData)) (vs : List (Key × V)), DvK H vs es → DvK H' vs es
  | [], _, h => by cases h; exact .nil
  | (_, d) :: es, _, h => by
    cases h with
    | cons h1 h2 => exact .cons (Dv.mono S d _ h1) (DvK.mono S es _ h2)
end
theorem DvA.append {H : Hp} : ∀ {xs : List V} {ds : List PyData} {ys : List V} {es : List PyData}, DvA H xs ds → DvA H ys es → DvA H (xs ++ ys) (ds ++ es)
  | _, _, _, _, .nil, h => h
  | _, _, _, _, .cons a r, h => .cons a (DvA.append r h)
theorem DvA.length {H : Hp} : ∀ {xs : List V} {ds : List PyData}, DvA H xs ds → xs.length = ds.length
  | _, _, .nil => rfl
  | _, _, .cons _ r => congrArg Nat.succ (DvA.length r)
theorem DvA.get {H : Hp} : ∀ {xs : List V} {ds : List PyData} {i : Nat} {v : V}, DvA H xs ds → xs[i]? = some v → ∃ d, ds[i]? = some d ∧ Dv H v d
  | _, _, _, _, .nil, h => by simp at h
  | _, _, 0, v, .cons (d := d) a r, h => ⟨d, rfl, by have e : _ = v := Option.some.inj h; rw [← e]; exact a⟩
  | _, _, i + 1, v, .cons a r, h => by
    obtain ⟨d, h1, h2⟩ := DvA.get (i := i) r h
    exact ⟨d, h1, h2⟩
/-! ### lots -/
/-- a lot as values, as data -/
def lotV (l : List Nat) : List V := l.map fun p : Nat => .int (p : Int)
def lotD (l : List Nat) : PyData := .tuple (l.map fun p : Nat => .int (p : Int))
theorem lotA (H : Hp) : ∀ l : List Nat, DvA H (lotV l) (l.map fun p : Nat => PyData.int (p : Int))
  | [] => .nil
  | p :: l => .cons (.int _) (lotA H l)
theorem Dv.lot {H : Hp} {a : Addr} {l : List Nat} (h : H a = some (.tup (lotV l))) : Dv H (.ref a) (lotD l) := .tup h (lotA H l)
/-! ### what holds no lists, what no dicts -/
mutual
def hasList : PyData → Bool
  | .none | .bool _ | .int _ | .str _ => false
  | .list _ => true
  | .tuple xs => hasListA xs
  | .dict kvs => hasListK kvs
def hasListA : List PyData → Bool
  | [] => false
  | x :: xs => hasList x || hasListA xs
def hasListK : List (PyData × PyData) → Bool
  | [] => false
  | (_, v) :: r => hasList v || hasListK r
end
section
variable {X : Cx} {pins : List (Addr × Obj)} {σ : L2.St} {H : Hp} {s : Shared}
theorem pairs_reads {h : Heap} {w : World} {P : Program} : ∀ (ds : List (PyData × PyData)) {es : List DictEntry} {vs : List (Key × Value)} {kvs : List (Key × V)}, Pairs (mixKind P w) es vs → KV kvs vs → DvK H kvs ds →
    ReadsAll h (es.map (·.key)) (ds.map (·.1)) [] ∧ es.map (·.val) = vs.map (·.2)
  | [], es, vs, kvs, hp, r, a => by
    cases a
    cases r
    cases hp
    exact ⟨.nil, rfl⟩
  | (kd, d) :: ds, es, vs, kvs, hp, r, a => by
    cases a with
    | cons a1 a2 =>
      cases r with
      | cons r1 r2 =>
        cases hp with
        | cons hk hv hp2 =>
          rename_i k v kvr q vr e er
          obtain ⟨h1, h2⟩ := pairs_reads ds hp2 r2 a2
          obtain ⟨qk, qv⟩ := q
          obtain ⟨rk, _⟩ := r1
          have rk' : k = qk := rk
          subst rk'
          refine ⟨?_, ?_⟩
          · have hk' : keyIs k e.key = true := hk
            rcases keyIs_shape hk' with ⟨i, t, e1, e2⟩ | ⟨x, t, e1, e2⟩
            · subst e1
              show ReadsAll h (e.key :: _) (PyData.int i :: _) ([] ++ [])
              rw [e2]
              exact .cons (.int i t) h1
            · subst e1
              show ReadsAll h (e.key :: _) (PyData.str x :: _) ([] ++ [])
              rw [e2]
              exact .cons (.str x t) h1
          · show e.val :: _ = qv :: _
            rw [h2, hv]
mutual
theorem Dv.reads (I : Inv X pins σ H s) : ∀ (d : PyData) (v : V) (u : Value), Dv H v d → RelV v u → ∃ as, Reads s.heap u d as ∧ (hasList d = false → sysModules ∉ as)
  | .none, _, _, h, r => by cases h; cases r; exact ⟨_, .none, fun _ => by simp⟩
  | .bool b, _, _, h, r => by cases h; cases r; exact ⟨_, .bool b, fun _ => by simp⟩
  | .int i, _, _, h, r => by cases h; obtain ⟨t, rfl⟩ := r; exact ⟨_, .int i t, fun _ => by simp⟩
  | .str x, _, _, h, r => by cases h; obtain ⟨t, rfl⟩ := r; exact ⟨_, .str x t, fun _ => by simp⟩
  | .list ds, _, _, h, r => by
    cases h with
    | lst hs ha =>
      cases r
      obtain ⟨its, rv, ⟨o, n, ho, hc, _, hd⟩, _⟩ := I.list (.inl (.inl hs))
      obtain ⟨as, hr, _⟩ := Dv.readsAll I ds _ its ha rv
      exact ⟨_, .list ho hc hd hr, fun z => by simp [hasList] at z⟩
  | .tuple ds, _, _, h, r => by
    cases h with
    | tup hs ha =>
      cases r
      obtain ⟨its, rv, ⟨o, ho, hc, n, hd⟩, _⟩ := I.tuple (.inl (.inl hs))
      obtain ⟨as, hr, hn⟩ := Dv.readsAll I ds _ its ha rv
      exact ⟨_, .tuple ho hc hd hr, fun z => hn (by simpa [hasList] using z)⟩
  | .dict es, _, _, h, r => by
    cases h with
    | dct hs ha =>
      cases r
      obtain ⟨_, hm, vs, kv, o, ens, ep, ho, hx, hd, _, hp, _⟩ := (show ObjOk X.prog X.w H s.heap _ (.dK _) from I.hok _ _ hs)
      obtain ⟨h1, h2⟩ := pairs_reads (h := s.heap) _ hp kv ha
      obtain ⟨bs, h3, h4⟩ := Dv.readsK I es _ vs ha kv
      refine ⟨_, .dict ho hx.1 hd h1 (by rw [h2]; exact h3), fun z hb => ?_⟩
      have hne := beq_eq_false_iff_ne.mp hm
      rcases List.mem_append.mp hb with hb | hb
      · rcases List.mem_cons.mp hb with e | e
        · exact hne e.symm
        · simp at e
      · exact h4 (by simpa [hasList] using z) hb
theorem Dv.readsAll (I : Inv X pins σ H s) : ∀ (ds : List PyData) (vs : List V) (us : List Value), DvA H vs ds → Vals vs us → ∃ as, ReadsAll s.heap us ds as ∧ (hasListA ds = false → sysModules ∉ as)
  | [], _, _, h, r => by cases h; cases r; exact ⟨_, .nil, fun _ => by simp⟩
  | d :: ds, _, _, h, r => by
    cases h with
    | cons h1 h2 =>
      cases r with
      | cons r1 r2 =>
        obtain ⟨as, q1, n1⟩ := Dv.reads I d _ _ h1 r1
        obtain ⟨bs, q2, n2⟩ := Dv.readsAll I ds _ _ h2 r2
        refine ⟨_, .cons q1 q2, fun z hb => ?_⟩
        simp only [hasListA, Bool.or_eq_false_iff] at z
        rcases List.mem_append.mp hb with hb | hb
        · exact n1 z.1 hb
        · exact n2 z.2 hb
theorem Dv.readsK (I : Inv X pins σ H s) : ∀ (es : List (PyData × PyData)) (kvs : List (Key × V)) (vs : List (Key × Value)), DvK H kvs es → KV kvs vs → ∃ as, ReadsAll s.heap (vs.map (·.2)) (es.map (·.2)) as ∧ (hasListK es = false → sysModules ∉ as)
  | [], _, _, h, r => by cases h; cases r; exact ⟨_, .nil, fun _ => by simp⟩
  | (_, d) :: es, _, _, h, r => by
    cases h with
    | cons h1 h2 =>
      cases r with
      | cons r1 r2 =>
        obtain ⟨as, q1, n1⟩ := Dv.reads I d _ _ h1 r1.2
        obtain ⟨bs, q2, n2⟩ := Dv.readsK I es _ _ h2 r2
        refine ⟨_, .cons q1 q2, fun z hb => ?_⟩
        simp only [hasListK, Bool.or_eq_false_iff] at z
        rcases List.mem_append.mp hb with hb | hb
        · exact n1 z.1 hb
        · exact n2 z.2 hb
end
end
/-! ### the size of the text of data -/
def strOk (x : Str) : Bool := x.cps.toList.all fun c => decide (c < 16 ^ 8)
mutual
def okI : PyData → Bool
  | .none | .bool _ => true
  | .int i => decide (i.natAbs < 10 ^ 40)
  | .str x => strOk x
  | .list xs | .tuple xs => okIA xs
  | .dict kvs => okIK kvs
def okIA : List PyData → Bool
  | [] => true
  | x :: xs => okI x && okIA xs
def okIK : List (PyData × PyData) → Bool
  | [] => true
  | (k, v) :: r => okI k && okI v && okIK r
end
mutual
def dW : PyData → Nat
  | .none => 4
  | .bool _ => 5
  | .int _ => 41
  | .str x => 10 * x.length + 2
  | .list xs | .tuple xs => dWA xs + 3
  | .dict kvs => dWK kvs + 2
def dWA : List PyData → Nat
  | [] => 0
  | x :: xs => dW x + 2 + dWA xs
def dWK : List (PyData × PyData) → Nat
  | [] => 0
  | (k, v) :: r => dW k + dW v + 4 + dWK r
end
theorem join_le : ∀ ts : List Str, (Str.join ", " ts).length ≤ piled ts
  | [] => Nat.zero_le _
  | t :: ts => by have := join_length_add (t :: ts) (by simp); omega
theorem len1 : (("(" : String) : Str).length = 1 := rfl
theorem len2 : (("{" : String) : Str).length = 1 := rfl
theorem len3 : (("}" : String) : Str).length = 1 := rfl
theorem len4 : ((": " : String) : Str).length = 2 := rfl
theorem len5 : (("[" : String) : Str).length = 1 := rfl
theorem len6 : (("]" : String) : Str).length = 1 := rfl
theorem tupleText_le (ts : List Str) : (tupleText ts).length ≤ piled ts + 3 := by
  have e3 : (((if ts.length == 1 then ",)" else ")" : String) : Str)).length ≤ 2 := by split <;> decide
  have := join_le ts
  unfold tupleText
  rw [strLen_append, strLen_append, len1]
  omega
theorem dictText_le (ts : List Str) : (dictText ts).length ≤ piled ts + 2 := by
  have := join_le ts
  unfold dictText
  rw [strLen_append, strLen_append, len2, len3]
  omega
theorem listText_le (ts : List Str) : (listText ts).length ≤ piled ts + 2 := by
  unfold listText
  rw [strLen_append, len6]
  cases ts with
  | nil => decide
  | cons t ts =>
    show (textFrom (0 + 1) _ ts).length + 1 ≤ _
    rw [textFrom_length_pos ts (0 + 1) _ (by omega), strLen_append, strLen_append, len5]
    show 1 + 0 + t.length + piled ts + 1 ≤ (t.length + 2) + piled ts + 2
    omega
theorem piled_cons' (t : Str) (ts : List Str) : piled (t :: ts) = t.length + 2 + piled ts := by simp [piled]
theorem strOk_of {x : Str} (h : strOk x = true) : ∀ c ∈ x.cps.toList, c < 16 ^ 8 := fun c hc => of_decide_eq_true (List.all_eq_true.mp h c hc)
theorem int_shown {i : Int} (h : i.natAbs < 10 ^ 40) : (Str.ofString (toString i)).length ≤ 41 := by
  rw [PySem.ofString_length]
  exact int_text_length_le10 (by decide) h
mutual
theorem shown_le : ∀ d : PyData, okI d = true → d.shown.length ≤ dW d
  | .none, _ => by decide
  | .bool b, _ => by cases b <;> decide
  | .int i, h => int_shown (of_decide_eq_true (by simpa only [okI] using h))
  | .str x, h => by
    simp only [PyData.shown, dW]
    exact StrLaws.reprText_len x (strOk_of (by simpa only [okI] using h))
  | .list xs, h => by
    have q := shownA_le xs (by simpa only [okI] using h)
    have := listText_le (PyData.shownAll xs)
    simp only [PyData.shown, dW]
    omega
  | .tuple xs, h => by
    have q := shownA_le xs (by simpa only [okI] using h)
    have := tupleText_le (PyData.shownAll xs)
    simp only [PyData.shown, dW]
    omega
  | .dict es, h => by
    have q := shownK_le es (by simpa only [okI] using h)
    have := dictText_le (PyData.shownKv es)
    simp only [PyData.shown, dW]
    omega
theorem shownA_le : ∀ ds : List PyData, okIA ds = true → piled (PyData.shownAll ds) ≤ dWA ds
  | [], _ => Nat.le_refl _
  | d :: ds, h => by
    simp only [okIA, Bool.and_eq_true] at h
    have h1 := shown_le d h.1
    have h2 := shownA_le ds h.2
    simp only [PyData.shownAll, dWA]
    rw [piled_cons']
    omega
theorem shownK_le : ∀ es : List (PyData × PyData), okIK es = true → piled (PyData.shownKv es) ≤ dWK es
  | [], _ => Nat.le_refl _
  | (k, v) :: es, h => by
    simp only [okIK, Bool.and_eq_true] at h
    have h1 := shown_le k h.1.1
    have h2 := shown_le v h.1.2
    have h3 := shownK_le es h.2
    simp only [PyData.shownKv, dWK]
    rw [piled_cons', strLen_append, strLen_append, len4]
    omega
end
theorem log40 {i : Int} (h : i.natAbs < 10 ^ 40) : i.natAbs.log2 < 1920 := by
  by_cases h0 : i.natAbs = 0
  · rw [h0]; decide
  · exact (Nat.log2_lt h0).mpr (Nat.lt_trans h (by decide +kernel))
mutual
theorem showable_of : ∀ d : PyData, okI d = true → d.showable = true
  | .none, _ => rfl
  | .bool _, _ => rfl
  | .int i, h => by
    simp only [okI] at h
    simp only [PyData.showable]
    exact decide_eq_true (log40 (of_decide_eq_true h))
  | .str _, _ => rfl
  | .list xs, h => by
    simp only [PyData.showable]
    exact showableA_of xs (by simpa only [okI] using h)
  | .tuple xs, h => by
    simp only [PyData.showable]
    exact showableA_of xs (by simpa only [okI] using h)
  | .dict es, h => by
    simp only [PyData.showable]
    exact showableK_of es (by simpa only [okI] using h)
theorem showableA_of : ∀ ds : List PyData, okIA ds = true → PyData.showableAll ds = true
  | [], _ => rfl
  | d :: ds, h => by
    simp only [okIA, Bool.and_eq_true] at h
    simp only [PyData.showableAll, Bool.and_eq_true]
    exact ⟨showable_of d h.1, showableA_of ds h.2⟩
theorem showableK_of : ∀ es : List (PyData × PyData), okIK es = true → PyData.showableKv es = true
  | [], _ => rfl
  | (k, v) :: es, h => by
    simp only [okIK, Bool.and_eq_true] at h
    simp only [PyData.showableKv, Bool.and_eq_true]
    exact ⟨⟨showable_of k h.1.1, showable_of v h.1.2⟩, showableK_of es h.2⟩
end
/-- data whose text is short: n, a bound of it -/
structure Sm (n : Nat) (d : PyData) : Prop where
  ok : okI d = true
  w : dW d ≤ n
  dp : d.depth ≤ 40
  dl : d.hasDict = true → hasList d = false
/-- data that repr can take -/
structure Sr (d : PyData) : Prop where
  ok : okI d = true
  w : dW d ≤ 1000000
  dp : d.depth ≤ 60
  dl : d.hasDict = true → hasList d = false
theorem Sm.mono {n m : Nat} {d : PyData} (h : Sm n d) (l : n ≤ m) : Sm m d := ⟨h.ok, Nat.le_trans h.w l, h.dp, h.dl⟩
theorem Sm.sr {n : Nat} {d : PyData} (h : Sm n d) (l : n ≤ 1000000) : Sr d := ⟨h.ok, Nat.le_trans h.w l, by have := h.dp; omega, h.dl⟩
section
variable {X : Cx}
/-- repr(x), x a tuple (or another object) of short data -/
def rRepr : List V → Hp → VK → Prop := fun xs H Q => ∃ (a : Addr) (d : PyData), xs = [.ref a] ∧ Dv H (.ref a) d ∧ Sr d ∧ Q (.str d.shown) H
theorem call_repr (hg : X.A.guards = some []) (hu : X.A.units + 64 < cLine) : CallR X (.builtin "repr") rRepr := by
  intro pins s σ H xs us Q I r h
  obtain ⟨a, d, rfl, hd, sm, q⟩ := h
  obtain ⟨u, rfl, r1⟩ := vals1 r
  cases (show u = Value.ref a from r1)
  obtain ⟨as, rd, hn⟩ := Dv.reads I d (.ref a) (.ref a) hd rfl
  have hz : d.shown.length ≤ sizeLine := by
    have h1 := shown_le d sm.ok
    have h2 := sm.w
    rw [sizeLine_eq]
    omega
  refine repr_of_reads' rd (showable_of d sm.ok) (fun z => hn (sm.dl z)) hg (by have := sm.dp; omega) (fun _ _ e => e) (fun h' u tk k => ?_) hz
  exact ⟨.str d.shown, H, I.kept (h' := h') (t' := tk) k, ⟨u, rfl⟩, q⟩
/-- f'{n:b}' -/
def tFmtB (te : TE) : TE := fun σ H Q => te σ H fun x H1 => ∃ (n k : Nat), x = .int (n : Int) ∧ n < 2 ^ k ∧ 1 ≤ k ∧ k ≤ 1000 ∧ Q (.str (binText n)) H1
theorem pe_fmtB {e : Expr} {te : TE} {j : Nat} {p1 p2 p3 : Pos} (he : PE X e te) : PE X (.JoinedStr [.FormattedValue e (-1) (some (.JoinedStr [.Constant (.str (Str.ofString "b")) j p1] p2)) p3] pos) (tFmtB te) := by
  refine pe_joined1 ⟨fun pins s σ H Q I h => ?_⟩
  refine wpAny_FormattedValue_spec (thn (he.run pins s σ H _ I h) fun v s1 hv => ?_)
  obtain ⟨x, H1, I1, r1, n, k, rfl, hk, h1, h2, q⟩ := hv
  obtain ⟨t, rfl⟩ := r1
  refine thn ((pe_joined1 (pe_str (x := Str.ofString "b"))).run pins s1 σ H1 (fun v H' => v = .str (Str.ofString "b") ∧ Q (.str (binText n)) H') I1 ⟨rfl, q⟩) fun u s2 hu => ?_
  obtain ⟨y, H2, I2, r2, rfl, q2⟩ := hu
  obtain ⟨t2, rfl⟩ := r2
  exact ⟨_, _, rfl, fmt_b hk h1 h2 ⟨.str (binText n), H2, I2.tok _, ⟨_, rfl⟩, q2⟩⟩
end
end BT

set_option Elab.async false
set_option linter.all false
set_option maxRecDepth 100000
set_option maxHeartbeats 2000000
namespace BT
open PySem PySem.Spec PyProof.Rows L2
/-! ### defs that want to know that no repr is under way: as FnOk, with that one premise more -/
structure FnG (P : Program) (w : World) (K : PySem.W.Frag) (mg : Str → Option Value) (base : Heap) (k : Nat) (f : Addr) (fd : FuncData) (ps : List Str) (sp : Sp) : Prop where
  many : ∀ vs H Q E, sp vs H Q E → vs.length = ps.length
  goes : ∀ (A : Around) (outer : List Env) (s : Shared) (H : Hp) (args : Args) (us : List Value) (vs : List V) (Q : VK), Room k A → A.guards = some [] → Env0 P w K mg base A outer s H → BindsTo s fd args (ps.zip us) → Vals vs us → sp vs H Q E0 →
    codeAny (model P w) A (.call (.ref f) args) (CR CX0 outer P w H s Q E0) s
section
variable {P : Program} {w : World} {K : PySem.W.Frag} {mg : Str → Option Value} {base : Heap}
theorem fn_ofG {k : Nat} {f : Addr} {nm qual : Str} {pr : Arguments} {bd : List Stmt} {sc : Scope} {dV kV dc pm cdv ct oc : Value} {an od : Option Addr}
    {sl : Array (Option Value)} {N ps : List Str} {sp : Sp} (lk : K.lookup f = some ⟨oc, od, .func (PySem.W.fnOf nm qual pr bd sc dV kV dc pm an cdv ct), sl⟩) (hcd : PySem.W.codeIn K cdv qual = true) (S : FnScope N ps sc)
    (many : ∀ vs H Q E, sp vs H Q E → vs.length = ps.length)
    (hbody : ∀ (A : Around) (outer : List Env) (s : Shared) (H : Hp) (vs : List V) (Q : VK), Room k (A.deeper (envOfC qual sc s.heap.objs.size f cdv)) → A.guards = some [] → sp vs H Q E0 →
      ∃ t, PSs (cxOf CX0 P w K mg base N qual sc f cdv A outer s H E0) bd t ∧ t { nx := fun _ H' => Q .non H', rt := Q } (start N vs) H) :
    FnG P w K mg base (k + 1) f (PySem.W.fnOf nm qual pr bd sc dV kV dc pm an cdv ct) ps sp := by
  refine ⟨many, fun A outer s H args us vs Q room gd e0 bind rel hsp => ?_⟩
  have hlen := many _ _ _ _ hsp
  have keepB : ∀ b o, base.get? b = some o → s.heap.get? b = some o := fun b o e => (e0.bs b o e).1
  have KX : K.In s.heap := e0.mod.kin.keeps keepB
  have noLim : s.heap.NoLimit := e0.mod.nolimit.keeps keepB
  have kinds : ∀ y ∈ ps.zip us, sc.names.lookup y.1 = some .local ∨ (sc.names.lookup y.1 = some .cell ∧ ((cellsFrom (s.heap.objs.size + 1) sc.names []).lookup y.1).isSome = true) := by
    rintro ⟨n, v⟩ hy
    have hn := (List.of_mem_zip hy).1
    rcases S.par n hn with q | q
    · left; exact q
    · right; exact ⟨q, PySem.W.cellsFrom_some _ _ _ (.inl q)⟩
  refine codeAny_call_function room.depth (KX _ _ lk) rfl S.co S.gen rfl (PySem.W.codeRec_of KX hcd) (bind _ _ _ _ ?g1)
  refine wpAny_newFunctionEnv_cells S.kind kinds (fun env he s1 x => ?g2)
  subst he
  refine And.intro (noLim.keeps x.toInCall.keep) (codeAny_func ?g3)
  obtain ⟨t, run, hq⟩ := hbody A outer s H vs Q (room.deeper _) gd hsp
  have I := inv_start (CX := CX0) (E := E0) S room.hd e0 hlen rel x
  refine wpAny_mono (run.run [] s1 (start N vs) H _ I hq) (fun fl s' out => ?g4) (fun _ _ out => out)
  have done : ∀ {τ : L2.St} {H' : Hp} {v : V} {u : Value}, Inv (cxOf CX0 P w K mg base N qual sc f cdv A outer s H E0) [] τ H' s' → RelV v u → Q v H' → CE outer P w H s Q u s' := by
    intro τ H' v u J rv q
    exact ⟨v, H', J.os, J.bare, J.base, J.hok, rv, q⟩
  cases fl with
  | brk => obtain ⟨_, _, _, q⟩ := out; exact q.elim
  | cont => obtain ⟨_, _, _, q⟩ := out; exact q.elim
  | next => obtain ⟨τ, H', J, q⟩ := out; exact done (v := V.non) (u := Value.none) J rfl q
  | ret u => obtain ⟨v, τ, H', J, rv, q⟩ := out; exact done J rv q
theorem Fun.okG {x qual : Str} {st : Stmt} {f : Addr} {fd : FuncData} {N ps : List Str} {k : Nat} {sp : Sp} (F : Fun K x qual st f fd) (S : FnScope N ps (defScope st)) (many : ∀ vs H Q E, sp vs H Q E → vs.length = ps.length)
    (hbody : ∀ (cdv : Value) (A : Around) (outer : List Env) (s : Shared) (H : Hp) (vs : List V) (Q : VK), Room k (A.deeper (envOfC qual (defScope st) s.heap.objs.size f cdv)) → A.guards = some [] → sp vs H Q E0 →
      ∃ t, PSs (cxOf CX0 P w K mg base N qual (defScope st) f cdv A outer s H E0).nox (defBody st) t ∧ t { nx := fun _ H' => Q .non H', rt := Q } (start N vs) H) : FnG P w K mg base (k + 1) f fd ps sp := by
  obtain ⟨oc, od, kV, dc, pm, an, cdv, ct, sl, e, lk, hcd⟩ := F.ex
  subst e
  refine fn_ofG lk hcd S many fun A outer s H vs Q room gd hsp => ?_
  obtain ⟨t, h, q⟩ := hbody cdv A outer s H vs Q room gd hsp
  exact ⟨t, h.nox, q⟩
end
section
variable {X : Cx} {k : Nat} {f : Addr} {fd : FuncData} {ps : List Str} {sp : Sp} {x : Str} {p pos : Pos} {e : Expr} {es : List Expr} {t : TA}
theorem run_fnG {pins : List (Addr × Obj)} {σ : L2.St} {H : Hp} {s : Shared} {Q : VK} {us : List Value} {vs : List V} (F : FnG X.prog X.w X.K X.mg X.base k f fd ps sp) (room : Room k X.A) (gd : X.A.guards = some []) (hb : Binds X.K fd ps [])
    (I : Inv X pins σ H s) (r : Vals vs us) (h : sp vs H Q E0) : wpAny (model X.prog X.w) X.A (call (.ref f) us) (EP X pins σ Q) X.xe s := by
  have many : us.length = ps.length := r.length.symm.trans (F.many _ _ _ _ h)
  have bt := hb s us I.kIn (by rw [List.append_nil]; exact many)
  rw [List.append_nil] at bt
  refine wpAny_call (codeAny_mono (F.goes X.A X.stack s H ⟨us, []⟩ us vs Q room gd I.env0 bt r h) fun res s' out => ?_)
  cases res with
  | error er => exact False.elim out
  | ok fl =>
    cases fl with
    | next => exact out.elim
    | brk => exact out.elim
    | cont => exact out.elim
    | ret u => exact I.after out
theorem pe_callG (F : FnG X.prog X.w X.K X.mg X.base k f fd ps sp) (room : Room k X.A) (gd : X.A.guards = some []) (hg : Gl X x) (hm : X.mg x = some (.ref f)) (hk : PySem.W.keepIn X.K (.ref f) = true) (hb : Binds X.K fd ps [])
    (ha : PA X (e :: es) t) (hdb : (x == ("__debug__" : Str)) = false := by decide) (he : starEach (e :: es) X.env = (false, eval e X.env) :: starEach es X.env := by rfl) (hpl : (backTo pos (starEach es X.env)).any (·.1) = false := by rfl) :
    PE X (.Call (.Name x p) (e :: es) [] pos) (fun σ H Q => t σ H fun vs H1 => sp vs H1 Q E0) := by
  refine ⟨fun pins s σ H Q I h => wpAny_Call_Name_kw (ld_glob I hg hm ?_ hdb)⟩
  refine PySem.W.callWith_K (h₀ := X.base) I.ok.mod.kin hk (thn (ha.run pos pins s σ H _ I h) fun us s1 out => ?_) he hpl
  obtain ⟨vs, H1, I1, r, q⟩ := out
  exact ⟨I1.kIn, run_fnG F room gd hb I1 r q⟩
end
end BT

set_option Elab.async false
set_option linter.all false
set_option maxRecDepth 100000
set_option maxHeartbeats 2000000
namespace BT
open PySem PySem.Spec PyProof.Rows L2
/-! ### heaps: the law's source of draws -/
theorem del_get {H : Hp} {a b : Addr} {o : HO} (h : L2.del H a b = some o) : b ≠ a ∧ H b = some o := by
  by_cases e : b = a
  · rw [e, del_same] at h; cases h
  · rw [del_ne e] at h; exact ⟨e, h⟩
/-- at a the source stands: the list at l with the script's numbers, and six numbers more -/
structure Src (l a : Addr) (H : Hp) : Prop where
  at_ : ∃ i b c cl n w : Int, 0 ≤ i ∧ H a = some (.lst [.ref l, .int i, .int b, .int c, .int cl, .int n, .int w])
  nums : ∃ ns : List Int, H l = some (.lst (ns.map V.int))
theorem Src.ne {l a : Addr} {H : Hp} (s : Src l a H) : l ≠ a := fun e => by
  obtain ⟨i, b, c, cl, n, w, _, h1⟩ := s.at_
  obtain ⟨ns, h2⟩ := s.nums
  rw [e, h1] at h2
  have h3 := Option.some.inj h2
  injection h3 with h4
  cases ns with
  | nil => cases h4
  | cons x r =>
    rw [List.map_cons] at h4
    injection h4 with h5 _
    cases h5
/-- behind some deeds that draw from the source at a: it stands as a source, all else stands as it stood -/
structure Keeps (l a : Addr) (H H' : Hp) : Prop where
  src : Src l a H'
  same : ∀ b o, b ≠ a → H b = some o → H' b = some o
theorem Keeps.refl {l a : Addr} {H : Hp} (s : Src l a H) : Keeps l a H H := ⟨s, fun _ _ _ h => h⟩
theorem Keeps.trans {l a : Addr} {H H1 H2 : Hp} (k : Keeps l a H H1) (j : Keeps l a H1 H2) : Keeps l a H H2 := ⟨j.src, fun b o n h => j.same b o n (k.same b o n h)⟩
theorem Keeps.del {l a : Addr} {H H' : Hp} (k : Keeps l a H H') : Same (L2.del H a) (L2.del H' a) := fun b o h => by
  obtain ⟨n, e⟩ := del_get h
  rw [del_ne n]
  exact k.same b o n e
theorem Keeps.of_same {l a : Addr} {H H' : Hp} (s : Src l a H) (k : Same H H') : Keeps l a H H' := by
  obtain ⟨i, b, c, cl, n, w, h0, h1⟩ := s.at_
  obtain ⟨ns, h2⟩ := s.nums
  exact ⟨⟨⟨i, b, c, cl, n, w, h0, k _ _ h1⟩, ⟨ns, k _ _ h2⟩⟩, fun b o _ h => k b o h⟩
theorem Src.free_ne {l a : Addr} {H : Hp} (s : Src l a H) {p : Addr} (h : H p = none) : p ≠ a ∧ p ≠ l := by
  obtain ⟨i, b, c, cl, n, w, h0, h1⟩ := s.at_
  obtain ⟨ns, h2⟩ := s.nums
  exact ⟨fun e => (by rw [e, h1] at h; cases h), fun e => (by rw [e, h2] at h; cases h)⟩
/-- an object that is new since H is laid or written -/
theorem Keeps.own {l a : Addr} {H H' : Hp} (s : Src l a H) (k : Keeps l a H H') {p : Addr} {o : HO} (h : H p = none) : Keeps l a H (upd H' p o) := by
  obtain ⟨n1, n2⟩ := s.free_ne h
  obtain ⟨i, b, c, cl, n, w, h0, h1⟩ := k.src.at_
  obtain ⟨ns, h2⟩ := k.src.nums
  refine ⟨⟨⟨i, b, c, cl, n, w, h0, by rw [upd_ne (Ne.symm n1)]; exact h1⟩, ⟨ns, by rw [upd_ne (Ne.symm n2)]; exact h2⟩⟩, fun q u hq e => ?_⟩
  rw [upd_ne (ne_of_none e h)]
  exact k.same q u hq e
theorem Keeps.free {l a : Addr} {H H' : Hp} (s : Src l a H) (k : Keeps l a H H') {p : Addr} (h : H' p = none) : H p = none := by
  cases e : H p with
  | none => rfl
  | some o =>
    by_cases q : p = a
    · obtain ⟨i, b, c, cl, n, w, h0, h1⟩ := k.src.at_
      rw [q, h1] at h; cases h
    · rw [k.same p o q e] at h; cases h
theorem Keeps.new {l a : Addr} {H H' : Hp} (s : Src l a H) (k : Keeps l a H H') {p : Addr} {o : HO} (h : H' p = none) : Keeps l a H (upd H' p o) := k.own s (k.free s h)
theorem Same.new {H H' : Hp} (k : Same H H') {p : Addr} {o : HO} (h : H' p = none) : Same H (upd H' p o) := fun b u e => by
  rw [upd_ne (ne_of_none (k b u e) h)]; exact k b u e
theorem Same.own {H H' : Hp} (k : Same H H') {p : Addr} {o : HO} (h : H p = none) : Same H (upd H' p o) := fun b u e => by
  rw [upd_ne (ne_of_none e h)]; exact k b u e
theorem Dv.keeps {l a : Addr} {H H' : Hp} {v : V} {d : PyData} (k : Keeps l a H H') (h : Dv (L2.del H a) v d) : Dv (L2.del H' a) v d := Dv.mono k.del d v h
theorem Dv.undel {a : Addr} {H : Hp} {v : V} {d : PyData} (h : Dv (L2.del H a) v d) : Dv H v d := Dv.mono (fun b o e => (del_get e).2) d v h
/-! ### a def that stands: its name, its promise -/
structure DefOk (P : Program) (w : World) (K : PySem.W.Frag) (mg : Str → Option Value) (base : Heap) (CX : CXT) (k : Nat) (x : Str) (ps : List Str) (sp : Sp) : Prop where
  ex : ∃ (f : Addr) (fd : FuncData), FnOk P w K mg base CX k f fd ps sp ∧ mg x = some (.ref f) ∧ PySem.W.keepIn K (.ref f) = true ∧ Binds K fd ps []
structure DefG (P : Program) (w : World) (K : PySem.W.Frag) (mg : Str → Option Value) (base : Heap) (k : Nat) (x : Str) (ps : List Str) (sp : Sp) : Prop where
  ex : ∃ (f : Addr) (fd : FuncData), FnG P w K mg base k f fd ps sp ∧ mg x = some (.ref f) ∧ PySem.W.keepIn K (.ref f) = true ∧ Binds K fd ps []
abbrev FnP (K : PySem.W.Frag) (x : Str) (st : Stmt) (f : Addr) (fd : FuncData) : Prop := FunD K x x (defArgs st) (defBody st) (defScope st) [] [] f fd
section
variable {P : Program} {w : World} {K : PySem.W.Frag} {mg : Str → Option Value} {base : Heap}
theorem okG_of {x : Str} {st : Stmt} {f : Addr} {fd : FuncData} {N ps : List Str} {k : Nat} {sp : Sp} (F : FnP K x st f fd) (S : FnScope N ps (defScope st)) (many : ∀ vs H Q E, sp vs H Q E → vs.length = ps.length)
    (hbody : ∀ (cdv : Value) (A : Around) (outer : List Env) (s : Shared) (H : Hp) (vs : List V) (Q : VK), Room k (A.deeper (envOfC x (defScope st) s.heap.objs.size f cdv)) → A.guards = some [] → sp vs H Q E0 →
      ∃ t, PSs (cxOf CX0 P w K mg base N x (defScope st) f cdv A outer s H E0).nox (defBody st) t ∧ t { nx := fun _ H' => Q .non H', rt := Q } (start N vs) H) : FnG P w K mg base (k + 1) f fd ps sp := by
  obtain ⟨oc, od, dV, kV, dc, pm, an, cdv, ct, sl, e, lk, hcd, _⟩ := F.ex
  subst e
  refine fn_ofG lk hcd S many fun A outer s H vs Q room gd hsp => ?_
  obtain ⟨t, h, q⟩ := hbody cdv A outer s H vs Q room gd hsp
  exact ⟨t, h.nox, q⟩
end
section
variable {X : Cx} {k j : Nat} {ps : List Str} {sp : Sp} {x : Str} {p pos : Pos} {e : Expr} {es : List Expr} {t : TA}
theorem pe_d (D : DefOk X.prog X.w X.K X.mg X.base CX0 k x ps sp) (hr : Room j X.A) (hg : Gl X x) (ha : PA X (e :: es) t) (hk : k ≤ j := by decide) (hdb : (x == ("__debug__" : Str)) = false := by decide)
    (he : starEach (e :: es) X.env = (false, eval e X.env) :: starEach es X.env := by rfl) (hpl : (backTo pos (starEach es X.env)).any (·.1) = false := by rfl) : PE X (.Call (.Name x p) (e :: es) [] pos) (tCall sp [] E0 t) := by
  obtain ⟨f, fd, F, hm, hkp, hb⟩ := D.ex
  exact pe_call F (hr.mono hk) hg hm hkp hb .nil pass0 ha hdb he hpl
theorem pe_dX {E : XK} (D : DefOk X.prog X.w X.K X.mg X.base (L2.CX X.prog X.w) k x ps sp) (hr : Room j X.A) (hg : Gl X x) (hx : Passes (L2.CX X.prog X.w) X E) (ha : PA X (e :: es) t) (hk : k ≤ j := by decide) (hdb : (x == ("__debug__" : Str)) = false := by decide)
    (he : starEach (e :: es) X.env = (false, eval e X.env) :: starEach es X.env := by rfl) (hpl : (backTo pos (starEach es X.env)).any (·.1) = false := by rfl) : PE X (.Call (.Name x p) (e :: es) [] pos) (tCall sp [] E t) := by
  obtain ⟨f, fd, F, hm, hkp, hb⟩ := D.ex
  exact pe_call F (hr.mono hk) hg hm hkp hb .nil hx ha hdb he hpl
/-- a def that may raise, called where nothing may be raised (its promise tells that it is not) -/
theorem pe_dN (D : DefOk X.prog X.w X.K X.mg X.base (L2.CX X.prog X.w) k x ps sp) (hr : Room j X.A) (hg : Gl X x) (ha : PA X (e :: es) t) (hk : k ≤ j := by decide) (hdb : (x == ("__debug__" : Str)) = false := by decide)
    (he : starEach (e :: es) X.env = (false, eval e X.env) :: starEach es X.env := by rfl) (hpl : (backTo pos (starEach es X.env)).any (·.1) = false := by rfl) : PE X (.Call (.Name x p) (e :: es) [] pos) (tCall sp [] E0 t) := pe_dX D hr hg passL ha hk hdb he hpl
theorem pe_dS {E : L2.St → XK} (D : DefOk X.prog X.w X.K X.mg X.base (L2.CX X.prog X.w) k x ps sp) (hr : Room j X.A) (hg : Gl X x) (hx : ∀ σ, PassesAt (L2.CX X.prog X.w) X σ (E σ)) (ha : PA X (e :: es) t) (hk : k ≤ j := by decide) (hdb : (x == ("__debug__" : Str)) = false := by decide)
    (he : starEach (e :: es) X.env = (false, eval e X.env) :: starEach es X.env := by rfl) (hpl : (backTo pos (starEach es X.env)).any (·.1) = false := by rfl) : PE X (.Call (.Name x p) (e :: es) [] pos) (tCallS sp E t) := by
  obtain ⟨f, fd, F, hm, hkp, hb⟩ := D.ex
  exact pe_callS F (hr.mono hk) hg hm hkp hb hx ha hdb he hpl
theorem pe_dG (D : DefG X.prog X.w X.K X.mg X.base k x ps sp) (hr : Room j X.A) (gd : X.A.guards = some []) (hg : Gl X x) (ha : PA X (e :: es) t) (hk : k ≤ j := by decide) (hdb : (x == ("__debug__" : Str)) = false := by decide)
    (he : starEach (e :: es) X.env = (false, eval e X.env) :: starEach es X.env := by rfl) (hpl : (backTo pos (starEach es X.env)).any (·.1) = false := by rfl) : PE X (.Call (.Name x p) (e :: es) [] pos) (fun σ H Q => t σ H fun vs H1 => sp vs H1 Q E0) := by
  obtain ⟨f, fd, F, hm, hkp, hb⟩ := D.ex
  exact pe_callG F (hr.mono hk) gd hg hm hkp hb ha hdb he hpl
end
/-! ### the package's errors: one __init__, its attribute what -/
def spInit (K : PySem.W.Frag) : Sp := fun vs H Q _ => ∃ (a C : Addr) (y : V), vs = [.ref a, y] ∧ OexC K C ∧ PySem.W.findIn K (.ref C) "what" = some none ∧ H a = some (exo a C none) ∧
  ∀ dx, H dx = none → dx ≠ a → Q .non (upd (upd H dx (exd dx [("what", y)])) a (exo a C (some dx)))
structure ErrC (P : Program) (w : World) (K : PySem.W.Frag) (mg : Str → Option Value) (base : Heap) (x : Str) (C : Addr) : Prop where
  g : mg x = some (.ref C)
  oex : OexC K C
  xf : XfC K C
  noW : PySem.W.findIn K (.ref C) "what" = some none
  exm : PySem.W.exmOne K (.ref C) (.ref C) = some true
  ini : ∃ (fI : Addr) (fd : FuncData), PySem.W.findIn K (.ref C) "__init__" = some (some (.ref fI)) ∧ PySem.W.typeIn K (.ref fI) = some (.type "function") ∧
    FnOk P w K mg base CX0 1 fI fd ["self", "what"] (spInit K) ∧ Binds K fd ["self", "what"] []
/-- a reading that may be weakened -/
def MonoE (te : TE) : Prop := ∀ (σ : L2.St) (H : Hp) (Q Q' : VK), (∀ v H', Q v H' → Q' v H') → te σ H Q → te σ H Q'
theorem mono_var (i : Nat) : MonoE (tVar i) := fun _ _ _ _ h ⟨v, e, q⟩ => ⟨v, e, h _ _ q⟩
theorem mono_int (i : Int) : MonoE (tC (.int i)) := fun _ _ _ _ h q => h _ _ q
theorem mono_neg (i : Int) : MonoE (tUn (rU fun i => .int (-i)) (tC (.int i))) := fun _ _ _ _ h ⟨j, e, q⟩ => ⟨j, e, h _ _ q⟩
theorem upd_comm_del {H : Hp} {a d : Addr} {u o1 o2 o3 : HO} (ha : H a = none) (hda : d ≠ a) : upd (L2.del (upd (upd (upd H a o1) d o2) a o3) a) d u = upd H d u := by
  funext b
  by_cases hb : b = d
  · rw [hb, upd_same, upd_same]
  · rw [upd_ne hb, upd_ne hb]
    by_cases hc : b = a
    · rw [hc, del_same, ha]
    · rw [del_ne hc, upd_ne hc, upd_ne hb, upd_ne hc]
section
variable {X : Cx} {k : Nat} {x : Str} {C : Addr} {e : Expr} {te : TE} {p pos p2 : Pos}
theorem pmk_err (D : ErrC X.prog X.w X.K X.mg X.base x C) (hr : Room k X.A) (hg : Gl X x) (he : PE X e te) (mono : MonoE te) (hk : 2 ≤ k := by decide)
    (hdb : (x == ("__debug__" : Str)) = false := by decide) (hs : starEach [e] X.env = (false, eval e X.env) :: starEach [] X.env := by rfl) (hpl : (backTo pos (starEach [] X.env)).any (·.1) = false := by rfl) :
    PMk X (.Call (.Name x p) [e] [] pos) (fun σ H Q => te σ H fun v H1 => ∀ d, H1 d = none → Q (.ref C) (some d) (upd H1 d (.xd [("what", v)]))) := by
  obtain ⟨fI, fd, iC, tI, F, hb⟩ := D.ini
  have q := pmk_oex (X := X) (CX := CX0) (x := x) (p := p) (pos := pos) (C := C) (e := e) (es := []) D.oex iC tI F (hr.mono hk) hb .nil pass0 hg D.g (pa_cons he pa_nil hs) hdb hs hpl
  intro pins s σ H Q I h
  refine q pins s σ H Q I (mono σ H _ _ (fun v H1 h1 => ?_) h)
  refine ⟨(by show 1 ≤ 1000; decide), fun a ha => ⟨a, C, v, rfl, D.oex, D.noW, upd_same, fun dx hd hne => ?_⟩⟩
  have hd1 : H1 dx = none := by rw [upd_ne hne] at hd; exact hd
  refine ⟨rfl, dx, [("what", v)], upd_same, by rw [upd_ne hne, upd_same], hd1, ?_⟩
  rw [upd_comm_del ha hne]
  exact h1 dx hd1
/-- raise X(e) in a def that errors leave -/
theorem ps_err {W : WX} (D : ErrC X.prog X.w X.K X.mg X.base x C) (hr : Room k X.A) (hc : X.calm = true) (tk : Takes X W) (hg : Gl X x) (he : PE X e te) (mono : MonoE te) (hk : 2 ≤ k := by decide)
    (hdb : (x == ("__debug__" : Str)) = false := by decide) (hs : starEach [e] X.env = (false, eval e X.env) :: starEach [] X.env := by rfl) (hpl : (backTo pos (starEach [] X.env)).any (·.1) = false := by rfl) :
    PS X (.Raise (some (.Call (.Name x p) [e] [] pos)) none p2) (fun _ σ H => te σ H fun v H1 => ∀ d, H1 d = none → W (.ref C) (some d) σ (upd H1 d (.xd [("what", v)]))) :=
  ps_raise hc tk (pmk_err D hr hg he mono hk hdb hs hpl)
end
/-! ### kinds of values -/
def tyD : PyData → String
  | .none => "NoneType"
  | .bool _ => "bool"
  | .int _ => "int"
  | .str _ => "str"
  | .list _ => "list"
  | .tuple _ => "tuple"
  | .dict _ => "dict"
theorem Dv.ty {K : PySem.W.Frag} {H : Hp} {v : V} {d : PyData} (h : Dv H v d) : TyX K H v (.type (tyD d)) := by
  cases h with
  | non => exact .base .non
  | bl b => exact .base (.bl b)
  | int i => exact .base (.int i)
  | str x => exact .base (.str x)
  | lst e _ => exact .base (.lst e)
  | tup e _ => exact .base (.tup e)
  | dct e _ => exact .base (.dK e)
def isS (T t : String) : Bool := t == T || (T == "int" && t == "bool")
def isD (T : String) (d : PyData) : Bool := isS T (tyD d)
def kinds : List String := ["NoneType", "bool", "int", "str", "list", "tuple", "dict"]
theorem tyD_mem (d : PyData) : tyD d ∈ kinds := by cases d <;> simp [tyD, kinds]
theorem kit_of {K : PySem.W.Frag} {T : String} (h : (kinds.all fun t => decide (kitB t T = some (isS T t))) = true) (d : PyData) : PySem.W.kitOne K (.type (tyD d)) (.type T) = some (isD T d) :=
  kit_ty (of_decide_eq_true (List.all_eq_true.mp h _ (tyD_mem d)))
theorem kit_int {K : PySem.W.Frag} (d : PyData) : PySem.W.kitOne K (.type (tyD d)) (.type "int") = some (isD "int" d) := kit_of (by decide +kernel) d
theorem kit_bool {K : PySem.W.Frag} (d : PyData) : PySem.W.kitOne K (.type (tyD d)) (.type "bool") = some (isD "bool" d) := kit_of (by decide +kernel) d
theorem kit_tuple {K : PySem.W.Frag} (d : PyData) : PySem.W.kitOne K (.type (tyD d)) (.type "tuple") = some (isD "tuple" d) := kit_of (by decide +kernel) d
theorem kit_list {K : PySem.W.Frag} (d : PyData) : PySem.W.kitOne K (.type (tyD d)) (.type "list") = some (isD "list" d) := kit_of (by decide +kernel) d
theorem kit_dict {K : PySem.W.Frag} (d : PyData) : PySem.W.kitOne K (.type (tyD d)) (.type "dict") = some (isD "dict" d) := kit_of (by decide +kernel) d
/-- isinstance(x, T), T a built-in class, x data -/
def rIsD (T : String) : List V → Hp → VK → Prop := fun xs H Q => ∃ (x : V) (d : PyData), xs = [x, .ty T] ∧ Dv H x d ∧ Q (.bl (isD T d)) H
section
variable {X : Cx}
theorem call_isD {T : String} (hk : ∀ d, PySem.W.kitOne X.K (.type (tyD d)) (.type T) = some (isD T d)) : CallR X (.builtin "isinstance") (rIsD T) := by
  intro pins s σ H xs us Q I r h
  obtain ⟨x, d, rfl, hd, q⟩ := h
  exact call_isi pins s σ H _ us Q I r ⟨x, .ty T, _, _, _, rfl, .ty T, hd.ty, hk d, q⟩
/-- isinstance(e, T) -/
theorem pe_isD {T : String} {e : Expr} {te : TE} {x : Str} {p p2 pos : Pos} (hg : Gl X "isinstance") (hm : X.mg "isinstance" = none) (gT : Gl X x) (mT : X.mg x = none) (bT : bootBuiltins x = some (.type T)) (hk : ∀ d, PySem.W.kitOne X.K (.type (tyD d)) (.type T) = some (isD T d)) (he : PE X e te)
    (hn : x ≠ "__name__" := by decide) (hdb : (x == ("__debug__" : Str)) = false := by decide)
    (hs : starEach [e, .Name x p2] X.env = (false, eval e X.env) :: starEach [.Name x p2] X.env := by rfl) (hs2 : starEach [.Name x p2] X.env = (false, eval (.Name x p2) X.env) :: starEach [] X.env := by rfl) (hpl : (backTo pos (starEach [.Name x p2] X.env)).any (·.1) = false := by rfl) :
    PE X (.Call (.Name "isinstance" p) [e, .Name x p2] [] pos) (tCB (rIsD T) (tCons te (tCons (tC (.ty T)) tNil))) :=
  pe_callB (call_isD hk) hg hm PyProof.Rows.boot_isinstance (pa_cons he (pa_cons (pe_bltn (v := .ty T) gT mT bT rfl hn hdb) pa_nil hs2) hs) (by decide) (by decide) hs hpl
end
end BT

set_option Elab.async false
set_option linter.all false
set_option maxRecDepth 100000
set_option maxHeartbeats 4000000
namespace BT
open PySem PySem.Spec PyProof.Rows L2
/-! ### the end: the law's def called with the script, where no repr is under way -/
/-- the heap that knows the script alone (where the module does not hold it) -/
def scrH (K : PySem.W.Frag) (a : Addr) (o : Obj) (xs : List V) : Hp := fun b => if b = a ∧ K.lookup a = none then some (.frz o (.lst xs)) else none
theorem scrH_cases (K : PySem.W.Frag) (a : Addr) (o : Obj) (xs : List V) (b : Addr) : scrH K a o xs b = none ∨ (b = a ∧ K.lookup a = none ∧ scrH K a o xs b = some (.frz o (.lst xs))) := by
  by_cases h : b = a ∧ K.lookup a = none
  · exact .inr ⟨h.1, h.2, if_pos h⟩
  · exact .inl (if_neg h)
theorem scrH_some {K : PySem.W.Frag} {a b : Addr} {o : Obj} {xs : List V} {u : HO} (h : scrH K a o xs b = some u) : b = a ∧ K.lookup a = none ∧ u = .frz o (.lst xs) := by
  rcases scrH_cases K a o xs b with q | ⟨h1, h2, q⟩
  · rw [h] at q; cases q
  · rw [h] at q
    exact ⟨h1, h2, Option.some.inj q⟩
theorem law_callG {P : Program} {w : World} {K : PySem.W.Frag} {mg mb : Str → Option Value} {k : Nat} {fa a : Addr} {fd : FuncData} {x : Str} {sp : Sp} {s : Shared} {vs : List Value} {ns : List Int}
    (hK : K.In s.heap) (hm : s.heap.Ns mainGlobals mg) (hb : s.heap.Ns builtinsNs mb) (hbb : ∀ x : Str, x ≠ "__name__" → mb x = bootBuiltins x) (hlim : s.heap.NoLimit) (hg : s.gens = #[])
    (ha : s.heap.get? a = some { cls := .type "list", data := .seq vs.toArray }) (hi : IntsAre vs ns) (hl : ns.length ≤ sizeLine) (hr : Room k callerA)
    (F : ∀ base : Heap, K.In base → base.Ns mainGlobals mg → FnG P w K mg base k fa fd [x] sp) (hbind : ∀ (s : Shared) (u : Value), BindsTo s fd ⟨[u], []⟩ [(x, u)])
    (hsp : ∀ H : Hp, SqL K H a (ns.map V.int) → sp [.ref a] H (fun v _ => v = .bl true) E0) :
    codeAny (model P w) callerA (.call (.ref fa) ⟨[.ref a], []⟩) (fun r s' => r = .ok (.ret (.bool true)) ∧ OldK s.heap s'.heap ∧ s'.os = s.os ∧ AllBare s'.gens) s := by
  have rv := vals_ints hi
  have hlen := hi.length
  obtain ⟨o, ho⟩ : ∃ o : Obj, o = { cls := .type "list", data := .seq vs.toArray } := ⟨_, rfl⟩
  rw [← ho] at ha
  obtain ⟨H, hH⟩ : ∃ H : Hp, H = scrH K a o (ns.map V.int) := ⟨_, rfl⟩
  have inv : ∀ {b : Addr} {u : HO}, H b = some u → b = a ∧ K.lookup a = none ∧ u = .frz o (.lst (ns.map V.int)) := fun e => scrH_some (hH ▸ e)
  have hS : SqL K H a (ns.map V.int) := by
    cases e : K.lookup a with
    | none =>
      refine .inl (.inr ⟨o, ?_⟩)
      rw [hH]; exact if_pos ⟨rfl, e⟩
    | some ob =>
      have e2 := hK a ob e
      rw [ha] at e2
      cases Option.some.inj e2
      exact .inr ⟨o, vs.toArray, _, e, by rw [ho], by rw [ho], by rw [ho], by rw [List.size_toArray, hlen]; exact hl, rv⟩
  have hok : HOk P w H s.heap := fun b u e => by
    obtain ⟨rfl, _, rfl⟩ := inv e
    rw [ho] at ha ⊢
    exact ⟨ha, by rw [List.length_map]; exact hl, vs, _, rv, ha⟩
  -- what the base keeps
  have keep : ∀ {b : Addr} {ob : Obj}, s.heap.get? b = some ob → H b = none → (hidT s.heap H).get? b = some ob := fun e n => hidT_get e n
  have noDict : ∀ {b : Addr} {ob : Obj} {es : Array DictEntry} {ep : Nat}, s.heap.get? b = some ob → ob.data = .dict es ep → H b = none := fun {b ob es ep} e d => by
    cases q : H b with
    | none => rfl
    | some u =>
      obtain ⟨rfl, _, _⟩ := inv q
      rw [ha] at e
      cases Option.some.inj e
      rw [ho] at d
      cases (show Data.seq vs.toArray _ = Data.dict es ep from d)
  have nsB : ∀ {b : Addr} {m : Str → Option Value}, s.heap.Ns b m → (hidT s.heap H).Ns b m := fun {b m} h => by
    obtain ⟨ob, es, ep, e, d, r⟩ := h
    exact ⟨ob, es, ep, keep e (noDict e d), d, r⟩
  have kB : K.In (hidT s.heap H) := fun b ob e => keep (hK b ob e) (by
    cases q : H b with
    | none => rfl
    | some u =>
      obtain ⟨rfl, n, _⟩ := inv q
      rw [n] at e; cases e)
  have limB : (hidT s.heap H).NoLimit := by
    obtain ⟨mc, h1, h2⟩ := hlim
    exact ⟨mc, nsB h1, h2⟩
  have env : Env0 P w K mg (hidT s.heap H) callerA [] s H :=
    { frames := rfl, mod := ⟨kB, nsB hm, ⟨mb, nsB hb, hbb⟩, limB⟩, bs := fun b ob e => of_hidT e, bsz := Nat.le_of_eq (hidT_size _ _), funs := trivial, frf := fun b hb => absurd (show b ∈ ([] : List Addr) from hb) (by simp), hok := hok, bare := .of_eq hg }
  refine codeAny_mono ((F _ kB (nsB hm)).goes callerA [] s H ⟨[.ref a], []⟩ [.ref a] [.ref a] _ hr rfl env (hbind s (.ref a)) (.cons rfl .nil) (hsp H hS)) fun r s' out => ?_
  rcases r with er | fl
  · exact (show False from out).elim
  · cases fl with
    | ret u =>
      obtain ⟨v, H', hos, hbare, un, hok', r1, q⟩ := out
      cases (show v = .bl true from q)
      cases (show u = Value.bool true from r1)
      refine ⟨rfl, OldK.of_keep fun b ob e => ?_, hos, hbare⟩
      cases q : H b with
      | none => exact un.keep b ob e q (fun z => nomatch (show b ∈ ([] : List Addr) from z)) (by simp)
      | some u =>
        obtain ⟨rfl, _, rfl⟩ := inv q
        have z := un.frzs b o _ q
        obtain ⟨e1, _⟩ := hok b _ q
        obtain ⟨e2, _⟩ := hok' b _ z
        rw [e1] at e
        cases Option.some.inj e
        exact e2
    | next => exact (show False from out).elim
    | brk => exact (show False from out).elim
    | cont => exact (show False from out).elim
theorem walk_G {l : PySem.W.OpenLaw} {n k : Nat} {q : Program} {loose : List Str} {XP : (Str → Option Value) → Heap → Prop} {YP : World → Heap → Prop} {d : DefRec} {x : Str}
    (hn : l.most = some n) (hz : n ≤ sizeLine) (hd : d.params.defaults = []) (hr : Room k callerA)
    (F : ∀ (w : World) (mg : Str → Option Value) (fa : Addr) (h : Heap), YP w h → h.Ns mainGlobals mg → mg d.name = some (.ref fa) →
      ∃ (K : PySem.W.Frag) (fd : FuncData) (sp : Sp), K.In h ∧ (∀ (s : Shared) (u : Value), BindsTo s fd ⟨[u], []⟩ [(x, u)]) ∧
        (∀ (H : Hp) (a : Addr) (ns : List Int), ns.length ≤ n → SqL K H a (ns.map V.int) → sp [.ref a] H (fun v _ => v = .bl true) E0) ∧
        ∀ base : Heap, K.In base → base.Ns mainGlobals mg → FnG l.prog w K mg base k fa fd [x] sp) :
    PySem.W.WalkO q loose XP YP l.row.toRowW d [] (fun f vs => PySem.call f vs) := by
  refine Att.attach_call hn hd fun w s0 s mg mb fa o pm cd doc a vs ns G Y ho hdt hcd hmg hobj hints hlen hg => ?_
  obtain ⟨K, fd, sp, hK, hbind, hsp, hF⟩ := F w mg fa _ Y G.T.g hmg
  exact law_callG hK G.T.g G.T.b G.T.builtins G.T.nolimit hg hobj hints (Nat.le_trans hlen hz) hr hF hbind fun H hS => hsp H a ns hlen hS
/-! ### the package's error classes, looked at -/
def oexB (K : PySem.W.Frag) (C : Addr) : Bool := match K.lookup C with
  | some ⟨.type "type", _, .cls cd, sl⟩ => (match cd.mro, sl.toList with
    | .ref C' :: bm, [_, _, _, _, some (.builtin n), _] => decide (C' = C) && (decide (n = "ValueError.__new__") && ((!cd.hasDel) && (cd.hasDict && PySem.HandSPX.refsVE bm)))
    | _, _ => false)
  | _ => false
theorem oexB_ok {K : PySem.W.Frag} {C : Addr} (h : oexB K C = true) : ∃ nm q N bs bm sn sub ab col dd k0 k1 k2 k3 k5, K.lookup C = some (excClassObj nm q C N bs bm true sn sub ab col dd k0 k1 k2 k3 k5 "ValueError.__new__") ∧ PySem.HandSPX.refsVE bm = true := by
  unfold oexB at h
  split at h
  · rename_i dd cd sl e
    split at h
    · rename_i C' bm k0 k1 k2 k3 n k5 hm hs
      simp only [Bool.and_eq_true, decide_eq_true_eq, Bool.not_eq_true'] at h
      obtain ⟨rfl, rfl, h1, h2, h3⟩ := h
      obtain ⟨nm, bs, mro, N, qn, hd, sn, sub, ab, col, del⟩ := cd
      dsimp only at hm h1 h2
      subst hm h1 h2
      obtain ⟨l⟩ := sl
      dsimp only at hs
      subst hs
      exact ⟨nm, qn, N, bs, bm, sn, sub, ab, col, dd, k0, k1, k2, k3, k5, e, h3⟩
    · cases h
  · cases h
/-- an error class x: over BlindError, with its __init__ -/
def errB (K : PySem.W.Frag) (x : Str) : Bool :=
  oexB K (He.ga K x) && (decide (PySem.W.findIn K (.ref (He.ga K x)) "__setattr__" = some (some (.builtin "object.__setattr__"))) && (decide (PySem.W.subIn K (.ref (He.ga K x)) (.type "BaseException") = some true) && (decide (PySem.W.typeIn K (.ref (He.ga K x)) = some (.type "type")) &&
  (PySem.W.keepIn K (.ref (He.ga K x)) && (xfB K (He.ga K x) && (decide (PySem.W.findIn K (.ref (He.ga K x)) "what" = some none) && (decide (PySem.W.exmOne K (.ref (He.ga K x)) (.ref (He.ga K x)) = some true) &&
  (decide (PySem.W.findIn K (.ref (He.ga K x)) "__init__" = some (some (.ref (He.fAd K ("BlindError", some "__init__"))))) && (decide (PySem.W.typeIn K (.ref (He.fAd K ("BlindError", some "__init__"))) = some (.type "function")) && He.eqO (PySem.W.nsIn K mainGlobals x) (some (some (.ref (He.ga K x)))))))))))))
theorem errB_ok {P : Program} {w : World} {K : PySem.W.Frag} {mg : Str → Option Value} {base h : Heap} {x : Str} {fd : FuncData} (X : K.In h) (G : h.Ns mainGlobals mg) (b : errB K x = true)
    (F : FnOk P w K mg base CX0 1 (He.fAd K ("BlindError", some "__init__")) fd ["self", "what"] (spInit K)) (hb : Binds K fd ["self", "what"] []) : ErrC P w K mg base x (He.ga K x) := by
  unfold errB at b
  simp only [Bool.and_eq_true, decide_eq_true_eq] at b
  obtain ⟨b1, b2, b3, b4, b5, b6, b7, b8, b9, b10, b11⟩ := b
  exact ⟨PySem.W.mg_of X G (He.eqO_ok b11), ⟨oexB_ok b1, b2, b3, b4, b5⟩, xfB_ok b6, b7, b8, ⟨_, fd, b9, b10, F, hb⟩⟩
/-! ### the hook -/
abbrev AlX : Type := Bool × He.AlD
def obsX (fa : List He.Fa) (fn : List He.DefD) (xs : List Str) (K : PySem.W.Frag) : AlX := (xs.all (errB K), He.obsD fa fn K)
def obsXG (n : Nat) (fa : List He.Fa) (fn : List He.DefD) (xs : List Str) (g : Addr → Option Obj) : AlX := obsX fa fn xs (He.frG g (He.asD g n))
def hookX (n : Nat) (fa : List He.Fa) (fn : List He.DefD) (xs : List Str) : PySem.W.Hook where
  α := AlX
  obs := fun s => obsXG n fa fn xs s.heap.get?
  val := fun _ => (true, He.valD fn)
  says := fun _ h => ∃ K : PySem.W.Frag, K.In h ∧ xs.all (errB K) = true ∧ He.SaysD fa fn K
  of := fun _ _ e => ⟨_, He.frG_in, congrArg (fun z : AlX => z.1) e, congrArg (fun z : AlX => z.2) e⟩
  keeps := fun _ _ _ h k => by
    obtain ⟨K, h1, h2, h3⟩ := h
    exact ⟨K, PySem.W.Frag.In.keeps h1 k, h2, h3⟩
theorem obsXG_eq {n : Nat} {fa : List He.Fa} {fn : List He.DefD} {xs : List Str} {g : Addr → Option Obj} {s : Shared} (h : ∀ a, g a = s.heap.get? a) : obsXG n fa fn xs g = (hookX n fa fn xs).obs s := by
  cases (show g = s.heap.get? from funext h)
  rfl
theorem err_of {K : PySem.W.Frag} {xs : List Str} (c : xs.all (errB K) = true) (i : Nat) {x : Str} (h : xs[i]? = some x := by rfl) : errB K x = true := List.all_eq_true.mp c x (List.mem_of_getElem? h)
end BT

set_option linter.all false
namespace BT
open PySem PySem.Spec PyProof.Rows
/-! ### bits of numbers of any sign -/
def iBit (y : Int) (i : Nat) : Bool := if 0 ≤ y then y.toNat.testBit i else !(Builtin.bitNot y).toNat.testBit i
def andN (m : Nat) (y : Int) : Nat := if 0 ≤ y then m &&& y.toNat else m ^^^ (m &&& (Builtin.bitNot y).toNat)
theorem bitAnd_andN (m : Nat) (y : Int) : Builtin.bitAnd (m : Int) y = ((andN m y : Nat) : Int) := by
  unfold andN
  by_cases h : 0 ≤ y
  · rw [if_pos h, bitAnd_pp (Int.natCast_nonneg _) h, Int.toNat_natCast]
  · rw [if_neg h, bitAnd_pn (Int.natCast_nonneg _) h, Int.toNat_natCast]
    generalize (Builtin.bitNot y).toNat = z
    have h1 := xor_and_add m (m &&& z)
    have h2 : m &&& (m &&& z) = m &&& z := by
      apply Nat.eq_of_testBit_eq
      intro i
      simp only [Nat.testBit_and]
      cases m.testBit i <;> simp
    rw [h2] at h1
    omega
theorem testBit_andN (m : Nat) (y : Int) (i : Nat) : (andN m y).testBit i = (m.testBit i && iBit y i) := by
  unfold andN iBit
  by_cases h : 0 ≤ y
  · rw [if_pos h, if_pos h, Nat.testBit_and]
  · rw [if_neg h, if_neg h, Nat.testBit_xor, Nat.testBit_and]
    cases m.testBit i <;> cases (Builtin.bitNot y).toNat.testBit i <;> rfl
theorem iBit_nat (y i : Nat) : iBit (y : Int) i = y.testBit i := by
  unfold iBit; rw [if_pos (Int.natCast_nonneg _), Int.toNat_natCast]
theorem iBit_neg1 (i : Nat) : iBit (-1) i = true := by
  unfold iBit
  rw [if_neg (by decide)]
  have e : (Builtin.bitNot (-1)).toNat = 0 := by decide
  rw [e, Nat.zero_testBit]; rfl
theorem iBit_not (y i : Nat) : iBit (Builtin.bitNot (y : Int)) i = !y.testBit i := by
  unfold iBit
  have h : ¬ 0 ≤ Builtin.bitNot (y : Int) := by unfold Builtin.bitNot; omega
  have e : (Builtin.bitNot (Builtin.bitNot (y : Int))).toNat = y := by unfold Builtin.bitNot; omega
  rw [if_neg h, e]
theorem andN_nat (m y : Nat) : andN m (y : Int) = m &&& y := by
  apply Nat.eq_of_testBit_eq
  intro i
  rw [testBit_andN, iBit_nat, Nat.testBit_and]
theorem andN_neg1 (m : Nat) : andN m (-1) = m := by
  apply Nat.eq_of_testBit_eq
  intro i
  rw [testBit_andN, iBit_neg1, Bool.and_true]
theorem two_pow_inj {a b : Nat} (h : 2 ^ a = 2 ^ b) : a = b := by
  have q := congrArg Nat.log2 h
  rwa [Nat.log2_two_pow, Nat.log2_two_pow] at q
/-! ### the lowest one -/
def lowN (m : Nat) : Nat := andN m (-(m : Int))
theorem bitAnd_low (m : Nat) : Builtin.bitAnd (m : Int) (-(m : Int)) = ((lowN m : Nat) : Int) := bitAnd_andN m _
theorem lowN_zero : lowN 0 = 0 := rfl
theorem low_even (k : Nat) : lowN (2 * k) = 2 * lowN k := by
  rcases Nat.eq_zero_or_pos k with h | h
  · subst h; rfl
  · have e : ∀ m : Nat, 0 < m → lowN m = m ^^^ (m &&& (m - 1)) := fun m hm => by
      unfold lowN andN
      rw [if_neg (by omega)]
      have e2 : (Builtin.bitNot (-(m : Int))).toNat = m - 1 := by unfold Builtin.bitNot; omega
      rw [e2]
    rw [e _ (by omega), e _ h]
    apply Nat.eq_of_testBit_eq
    intro i
    cases i with
    | zero =>
      simp only [Nat.testBit_xor, Nat.testBit_and, Nat.testBit_zero]
      have h1 : (2 * k) % 2 = 0 := by omega
      have h2 : (2 * (k ^^^ (k &&& (k - 1)))) % 2 = 0 := by omega
      simp [h1, h2]
    | succ i =>
      have h1 : (2 * k) / 2 = k := by omega
      have h2 : (2 * k - 1) / 2 = k - 1 := by omega
      have h3 : (2 * (k ^^^ (k &&& (k - 1)))) / 2 = k ^^^ (k &&& (k - 1)) := by omega
      rw [Nat.testBit_xor, Nat.testBit_and, Nat.testBit_succ, Nat.testBit_succ, Nat.testBit_succ, h1, h2, h3, Nat.testBit_xor, Nat.testBit_and]
theorem low_odd (k : Nat) : lowN (2 * k + 1) = 1 := by
  unfold lowN andN
  rw [if_neg (by omega)]
  have e2 : (Builtin.bitNot (-((2 * k + 1 : Nat) : Int))).toNat = 2 * k := by unfold Builtin.bitNot; omega
  rw [e2]
  apply Nat.eq_of_testBit_eq
  intro i
  cases i with
  | zero =>
    simp only [Nat.testBit_xor, Nat.testBit_and, Nat.testBit_zero]
    have h1 : (2 * k + 1) % 2 = 1 := by omega
    have h2 : (2 * k) % 2 = 0 := by omega
    simp [h1, h2]
  | succ i =>
    have h1 : (2 * k + 1) / 2 = k := by omega
    have h2 : (2 * k) / 2 = k := by omega
    rw [Nat.testBit_xor, Nat.testBit_and, Nat.testBit_succ, Nat.testBit_succ, Nat.testBit_succ, h1, h2]
    cases k.testBit i <;> simp
/-- the place of the lowest one -/
theorem low_spec : ∀ m : Nat, m ≠ 0 → ∃ k, lowN m = 2 ^ k ∧ m.testBit k = true ∧ ∀ j, j < k → m.testBit j = false := by
  intro m
  induction m using Nat.strongRecOn with
  | _ m ih =>
    intro h
    rcases Nat.mod_two_eq_zero_or_one m with h2 | h2
    · have e : m = 2 * (m / 2) := by omega
      obtain ⟨k, h3, h4, h5⟩ := ih (m / 2) (by omega) (by omega)
      refine ⟨k + 1, ?_, ?_, fun j hj => ?_⟩
      · rw [e, low_even, h3, Nat.pow_succ]; omega
      · rw [Nat.testBit_succ]; exact h4
      · cases j with
        | zero => rw [Nat.testBit_zero, h2]; rfl
        | succ j => rw [Nat.testBit_succ]; exact h5 j (by omega)
    · have e : m = 2 * (m / 2) + 1 := by omega
      refine ⟨0, ?_, ?_, fun j hj => absurd hj (by omega)⟩
      · rw [e, low_odd]
      · rw [Nat.testBit_zero, h2]; rfl
theorem low_ne {m : Nat} (h : m ≠ 0) : lowN m ≠ 0 := by
  obtain ⟨k, e, _⟩ := low_spec m h
  rw [e]; exact Nat.ne_of_gt (Nat.two_pow_pos k)
theorem low_eq_zero {m : Nat} : lowN m = 0 ↔ m = 0 := ⟨fun h => Classical.byContradiction fun q => low_ne q h, fun h => by rw [h]; rfl⟩
theorem and_pow_ne {m k : Nat} : m &&& 2 ^ k ≠ 0 ↔ m.testBit k = true := by
  constructor
  · intro h
    refine Classical.byContradiction fun q => h ?_
    apply Nat.eq_of_testBit_eq
    intro i
    rw [Nat.testBit_and, Nat.testBit_two_pow, Nat.zero_testBit]
    by_cases e : k = i
    · subst e; simp [q]
    · simp [e]
  · intro h e
    have q := congrArg (fun z => z.testBit k) e
    simp only [Nat.testBit_and, Nat.testBit_two_pow, Nat.zero_testBit, h] at q
    exact absurd q (by simp)
theorem and_pow_zero {m k : Nat} : m &&& 2 ^ k = 0 ↔ m.testBit k = false := by
  constructor
  · intro h
    cases e : m.testBit k with
    | false => rfl
    | true => exact absurd h (and_pow_ne.mpr e)
  · intro h
    refine Classical.byContradiction fun q => ?_
    rw [and_pow_ne.mp q] at h; cases h
/-! ### rows: as the program reckons them -/
def clearStep (part : Int) (m row : Nat) : Nat := if m &&& lowN (andN row part) ≠ 0 then m ^^^ row else m
def clearedF (part : Int) (m : Nat) (rows : List Nat) : Nat := rows.foldl (clearStep part) m
def sweepStep (part : Int) (st : List Nat × List Nat) (mask : Nat) : List Nat × List Nat :=
  if lowN (andN (clearedF part mask st.1) part) ≠ 0 then
    (st.1.map (fun row => if row &&& lowN (andN (clearedF part mask st.1) part) ≠ 0 then row ^^^ clearedF part mask st.1 else row) ++ [clearedF part mask st.1], st.2)
  else (st.1, st.2 ++ [clearedF part mask st.1])
def sweepF (part : Int) (masks : List Nat) : List Nat × List Nat := masks.foldl (sweepStep part) ([], [])
theorem sweepF_snoc (part : Int) (ms : List Nat) (m : Nat) : sweepF part (ms ++ [m]) = sweepStep part (sweepF part ms) m := by
  unfold sweepF; rw [List.foldl_append]; rfl
theorem clearedF_snoc (part : Int) (m : Nat) (rows : List Nat) (r : Nat) : clearedF part m (rows ++ [r]) = clearStep part (clearedF part m rows) r := by
  unfold clearedF; rw [List.foldl_append]; rfl
/-- rows whose firsts in the part stand alone -/
def Alone (part : Int) (rows : List Nat) : Prop := ∃ ks : List Nat, ks.length = rows.length ∧
  ∀ (i : Nat) (r k : Nat), rows[i]? = some r → ks[i]? = some k → lowN (andN r part) = 2 ^ k ∧ ∀ (j : Nat) (s : Nat), rows[j]? = some s → (s.testBit k = true ↔ j = i)
theorem clearedF_bits {part : Int} {rows ks : List Nat} (hl : ks.length = rows.length) (h : ∀ (i : Nat) (r k : Nat), rows[i]? = some r → ks[i]? = some k → lowN (andN r part) = 2 ^ k ∧ ∀ (j : Nat) (s : Nat), rows[j]? = some s → (s.testBit k = true ↔ j = i)) (m : Nat) :
    ∀ n, n ≤ rows.length → ∀ (i k : Nat), ks[i]? = some k → (clearedF part m (rows.take n)).testBit k = if i < n then false else m.testBit k := by
  intro n
  induction n with
  | zero => intro _ i k _; simp [clearedF]
  | succ n ih =>
    intro hn i k hk
    have hlt : n < rows.length := by omega
    have hrow : rows[n]? = some rows[n] := List.getElem?_eq_getElem hlt
    rw [List.take_add_one, hrow]
    show (clearedF part m (rows.take n ++ [rows[n]])).testBit k = _
    rw [clearedF_snoc]
    obtain ⟨kn, hkn⟩ : ∃ kn, ks[n]? = some kn := ⟨_, List.getElem?_eq_getElem (by omega)⟩
    obtain ⟨e1, e2⟩ := h n _ kn hrow hkn
    have ik : i < ks.length := (List.getElem?_eq_some_iff.mp hk).1
    have hri : rows[i]? = some rows[i] := List.getElem?_eq_getElem (by omega)
    obtain ⟨f1, f2⟩ := h i _ k hri hk
    have old := ih (by omega) i k hk
    have oldn := ih (by omega) n kn hkn
    unfold clearStep
    rw [e1]
    have bn : rows[n].testBit k = decide (n = i) := by
      have q := f2 n _ hrow
      by_cases e : n = i
      · rw [decide_eq_true e]; exact q.mpr e
      · rw [decide_eq_false e]
        cases z : rows[n].testBit k with
        | false => rfl
        | true => exact absurd (q.mp z) e
    by_cases c : clearedF part m (rows.take n) &&& 2 ^ kn ≠ 0
    · rw [if_pos c, Nat.testBit_xor, old, bn]
      have c2 := and_pow_ne.mp c
      by_cases e : n = i
      · subst e
        have ek : k = kn := Option.some.inj (hk.symm.trans hkn)
        subst ek
        rw [old] at c2
        rw [if_neg (by omega)] at c2
        rw [if_neg (by omega), if_pos (by omega), c2, decide_eq_true rfl]; rfl
      · rw [decide_eq_false e, Bool.xor_false]
        by_cases g : i < n
        · rw [if_pos g, if_pos (by omega)]
        · rw [if_neg g, if_neg (by omega)]
    · rw [if_neg c, old]
      have c2 : (clearedF part m (rows.take n)).testBit kn = false := by
        cases z : (clearedF part m (rows.take n)).testBit kn with
        | false => rfl
        | true => exact absurd (and_pow_ne.mpr z) c
      by_cases e : n = i
      · subst e
        have ek : k = kn := Option.some.inj (hk.symm.trans hkn)
        subst ek
        rw [old] at c2
        rw [if_neg (by omega)] at c2
        rw [if_neg (by omega), if_pos (by omega), c2]
      · by_cases g : i < n
        · rw [if_pos g, if_pos (by omega)]
        · rw [if_neg g, if_neg (by omega)]
theorem alone_nil (part : Int) : Alone part [] := ⟨[], rfl, fun i r k h => by simp at h⟩
theorem alone_step {part : Int} {rows : List Nat} (A : Alone part rows) (mask : Nat) (hlow : lowN (andN (clearedF part mask rows) part) ≠ 0) :
    Alone part (rows.map (fun row => if row &&& lowN (andN (clearedF part mask rows) part) ≠ 0 then row ^^^ clearedF part mask rows else row) ++ [clearedF part mask rows]) := by
  obtain ⟨ks, hl, h⟩ := A
  have hb := clearedF_bits hl h mask rows.length (Nat.le_refl _)
  rw [List.take_length] at hb
  have hne : andN (clearedF part mask rows) part ≠ 0 := fun e => hlow (by rw [e]; rfl)
  obtain ⟨kr, ek, b1, b2⟩ := low_spec _ hne
  generalize clearedF part mask rows = rest at hb ek b1 b2
  rw [ek]
  have rk : rest.testBit kr = true ∧ iBit part kr = true := by
    rw [testBit_andN, Bool.and_eq_true] at b1; exact b1
  -- no first of a row is kr
  have kne : ∀ (i k : Nat), ks[i]? = some k → k ≠ kr ∧ rest.testBit k = false := fun i k hk => by
    have q := hb i k hk
    have ik : i < ks.length := (List.getElem?_eq_some_iff.mp hk).1
    rw [if_pos (by omega)] at q
    exact ⟨fun e => (by rw [e, rk.1] at q; cases q), q⟩
  have bits : ∀ (row i k : Nat), rows[i]? = some row → ks[i]? = some k → ∀ j, j < k → (row.testBit j && iBit part j) = false := fun row i k hr hk j hj => by
    obtain ⟨e1, _⟩ := h i row k hr hk
    have hn : andN row part ≠ 0 := fun e => by
      rw [e, lowN_zero] at e1
      exact absurd e1.symm (Nat.ne_of_gt (Nat.two_pow_pos k))
    obtain ⟨k2, e2, _, e4⟩ := low_spec _ hn
    have ee : k2 = k := two_pow_inj (e2.symm.trans e1)
    subst ee
    rw [← testBit_andN]; exact e4 j hj
  have uniq : ∀ {m k : Nat}, m.testBit k = true → (∀ j, j < k → m.testBit j = false) → lowN m = 2 ^ k := fun {m k} h1 h2 => by
    have hm : m ≠ 0 := fun e => by rw [e, Nat.zero_testBit] at h1; cases h1
    obtain ⟨k2, e1, e2, e3⟩ := low_spec m hm
    have : k2 = k := by
      rcases Nat.lt_trichotomy k2 k with q | q | q
      · rw [h2 k2 q] at e2; cases e2
      · exact q
      · rw [e3 k q] at h1; cases h1
    rw [e1, this]
  refine ⟨ks ++ [kr], by simp [hl], fun i r k hr hk => ?_⟩
  have lm : (rows.map fun row => if row &&& 2 ^ kr ≠ 0 then row ^^^ rest else row).length = rows.length := List.length_map ..
  have getNew : ∀ (j s : Nat), (rows.map (fun row => if row &&& 2 ^ kr ≠ 0 then row ^^^ rest else row) ++ [rest])[j]? = some s → (j < rows.length ∧ ∃ row, rows[j]? = some row ∧ s = if row &&& 2 ^ kr ≠ 0 then row ^^^ rest else row) ∨ (j = rows.length ∧ s = rest) := fun j s hs => by
    by_cases hj : j < rows.length
    · left
      rw [List.getElem?_append_left (by rw [lm]; exact hj), List.getElem?_map] at hs
      rw [List.getElem?_eq_getElem hj] at hs
      exact ⟨hj, _, List.getElem?_eq_getElem hj, (Option.some.inj hs).symm⟩
    · right
      have hj2 := (List.getElem?_eq_some_iff.mp hs).1
      rw [List.length_append, lm, List.length_singleton] at hj2
      have ej : j = rows.length := by omega
      subst ej
      rw [List.getElem?_append_right (by rw [lm]; exact Nat.le_refl _), lm, Nat.sub_self] at hs
      exact ⟨rfl, (Option.some.inj hs).symm⟩
  rcases getNew i r hr with ⟨hi, row, hrow, rfl⟩ | ⟨rfl, rfl⟩
  · rw [List.getElem?_append_left (by omega)] at hk
    obtain ⟨e1, e2⟩ := h i row k hrow hk
    obtain ⟨kn, rn⟩ := kne i k hk
    have rb : row.testBit k = true := (e2 i row hrow).mpr rfl
    have low := bits row i k hrow hk
    have pk : iBit part k = true := by
      have hn : andN row part ≠ 0 := fun e => by
        rw [e, lowN_zero] at e1
        exact absurd e1.symm (Nat.ne_of_gt (Nat.two_pow_pos k))
      obtain ⟨k2, q2, q3, _⟩ := low_spec _ hn
      have ee : k2 = k := two_pow_inj (q2.symm.trans e1)
      subst ee
      rw [testBit_andN, Bool.and_eq_true] at q3; exact q3.2
    refine ⟨uniq ?_ fun j hj => ?_, fun j s hs => ?_⟩
    · rw [testBit_andN, pk, Bool.and_true]
      split
      · rw [Nat.testBit_xor, rb, rn]; rfl
      · exact rb
    · rw [testBit_andN]
      split
      · rename_i c
        have c2 := and_pow_ne.mp c
        -- the row has kr, so kr is no place below its first
        have hkr : k < kr := by
          rcases Nat.lt_trichotomy k kr with q | q | q
          · exact q
          · exact absurd q kn
          · have z := low kr q
            rw [c2, rk.2] at z; cases z
        have z1 := low j hj
        have z2 := b2 j (by omega)
        rw [testBit_andN] at z2
        rw [Nat.testBit_xor]
        cases p : iBit part j with
        | false => rw [Bool.and_false]
        | true =>
          rw [p, Bool.and_true] at z1 z2
          rw [z1, z2]; rfl
      · exact low j hj
    · rcases getNew j s hs with ⟨hj, row2, hrow2, rfl⟩ | ⟨rfl, rfl⟩
      · have q := e2 j row2 hrow2
        split
        · rw [Nat.testBit_xor, rn, Bool.xor_false]; exact q
        · exact q
      · rw [rn]
        exact ⟨fun z => absurd z (by decide), fun z => absurd z (by omega)⟩
  · rw [List.getElem?_append_right (by omega), hl, Nat.sub_self] at hk
    have ekk : kr = k := Option.some.inj hk
    subst ekk
    refine ⟨ek, fun j s hs => ?_⟩
    rcases getNew j s hs with ⟨hj, row2, hrow2, rfl⟩ | ⟨rfl, rfl⟩
    · constructor
      · intro z
        split at z
        · rename_i c
          rw [Nat.testBit_xor, and_pow_ne.mp c, rk.1] at z; cases z
        · rename_i c
          exact absurd (and_pow_ne.mpr z) c
      · intro z; omega
    · exact ⟨fun _ => rfl, fun _ => rk.1⟩
theorem sweep_alone (part : Int) (ms : List Nat) : Alone part (sweepF part ms).1 := by
  have key : ∀ (ms : List Nat) (st : List Nat × List Nat), Alone part st.1 → Alone part (ms.foldl (sweepStep part) st).1 := by
    intro ms
    induction ms with
    | nil => intro st h; exact h
    | cons m ms ih =>
      intro st h
      rw [List.foldl_cons]
      refine ih _ ?_
      unfold sweepStep
      split
      · rename_i c
        exact alone_step h m c
      · exact h
  exact key ms ([], []) (alone_nil part)
end BT

set_option Elab.async false
set_option linter.all false
set_option maxRecDepth 100000
set_option maxHeartbeats 4000000
namespace BT
open PySem PySem.Spec PySem.Calls PyProof.Rows
section
variable {prog : Program} {w : World} {A : Around} {E : Value → Shared → Prop} {s : Shared} {a kS : Addr} {vs : List Value} {kz : List Int} {keys : Array Value} {e e1 : Nat} {P : PySem.Fin → Shared → Prop}
/-- the heap when the keys are let go and the sorted items are put back -/
def putBack (h : Heap) (kS a : Addr) (out : Array Value) : Heap := (h.update kS (Obj.mapSeq fun _ => #[])).update a (Obj.mapSeq fun _ => out)
theorem key_tail {st : SortSt} (gk : s.heap.get? kS = some (seqObj "list" keys e)) (ga : s.heap.get? a = some (seqObj "list" #[] e1)) (ne : kS ≠ a) (hk : IntsAre keys.toList kz) (hl : kz.length = vs.length) (lim : vs.length < 64)
    (hp : (arrOf st).Perm (keys.zip vs.toArray)) (hs : SortedTo (arrOf st) (arrOf st).size) (hf : failedOf st = none)
    (h : ∀ out : Array Value, KskOut false kz vs out.toList → out.size = vs.length → P (.done (.ret .none)) { s with heap := putBack s.heap kS a out }) :
    wpAny (model prog w) A (ksk_tail a false e1 (.ref kS) st) P E s := by
  have sk : keys.size = vs.length := by
    have := hk.length
    rw [Array.length_toList] at this
    omega
  have so : ((arrOf st).map (·.2)).size = vs.length := by rw [Array.size_map, hp.size_eq, Array.size_zip, sk, List.size_toArray, Nat.min_self]
  have lim2 : vs.length ≤ sizeLine := by rw [sizeLine_eq]; omega
  have keep := Heap.SameBut.update s.heap kS (Obj.mapSeq fun _ => (#[] : Array Value))
  have ga2 : (s.heap.update kS (Obj.mapSeq fun _ => (#[] : Array Value))).get? a = some (seqObj "list" #[] e1) := (keep.2 a (Ne.symm ne)).trans ga
  unfold ksk_tail
  dsimp only
  refine wpAny_bind (listUpdate_at gk rfl ?_ (by rw [sk]; exact lim2) (Nat.zero_le _))
  refine wpAny_bind (wpAny_letGo (wpAny_bind (seqEpoch_at ga2 rfl ?_)))
  refine wpAny_bind (listUpdate_at ga2 rfl ?_ (Nat.zero_le _) ?_)
  · rw [hf]
    simp only [bne_self_eq_false, Bool.false_eq_true, if_false]
    exact wpAny_pure (h _ (ksk_out (b := false) hk hp hs) so)
  · show ((arrOf st).map (·.2)).size ≤ _
    rw [so]; omega
theorem key_end (gk : s.heap.get? kS = some (seqObj "list" keys e)) (ga : s.heap.get? a = some (seqObj "list" #[] e1)) (ne : kS ≠ a) (hk : IntsAre keys.toList kz) (hl : kz.length = vs.length) (lim : vs.length < 64)
    (h : ∀ out : Array Value, KskOut false kz vs out.toList → out.size = vs.length → P (.done (.ret .none)) { s with heap := putBack s.heap kS a out }) :
    wpAny (model prog w) A (ksk_end a false vs.toArray e1 (.ref kS) keys) P E s := by
  have sk : keys.size = vs.length := by
    have := hk.length
    rw [Array.length_toList] at this
    omega
  have sz : (keys.zip vs.toArray).size = vs.length := by rw [Array.size_zip, sk, List.size_toArray, Nat.min_self]
  unfold ksk_end
  simp only [Bool.false_eq_true, if_false]
  by_cases few : vs.toArray.size < 2
  · rw [if_pos few, if_pos few]
    refine wpAny_bind (wpAny_pure ?_)
    rw [StateT.run_pure]
    refine wpAny_bind (wpAny_pure ?_)
    dsimp only
    refine key_tail (st := SortSt.mk' general' (keys.zip vs.toArray) #[] 7 none) gk ga ne hk hl lim (Array.Perm.refl _) (fun i j hij hj => ?_) rfl h
    have hj' : j < (keys.zip vs.toArray).size := hj
    rw [sz] at hj'
    rw [List.size_toArray] at few
    obtain rfl : i = j := by omega
    exact Int.le_refl _
  · rw [if_neg few, if_neg few]
    rw [List.size_toArray] at few
    rw [ksk_kind hk (by rw [sk]; omega)]
    refine wpAny_bind (wpAny_pure (wpAny_bind (wpAny_mono (wpS_sortRuns (a₀ := keys.zip vs.toArray) (st := SortSt.mk' oneType' (keys.zip vs.toArray) #[] 7 none)
      (Q := fun _ z => (arrOf z).Perm (keys.zip vs.toArray) ∧ failedOf z = none ∧ SortedTo (arrOf z) (keys.zip vs.toArray).size) (ksk_intKeys hk) ⟨Array.Perm.refl _, rfl, rfl, rfl⟩ (by rw [sz]; omega) (by rw [sz]; exact lim) fun z h1 h2 h3 => ⟨h1, h2, h3⟩) ?_ fun _ _ x => x)))
    rintro ⟨⟨⟩, z⟩ s' ⟨rfl, hp, hf, hs⟩
    dsimp only
    exact key_tail gk ga ne hk hl lim hp (by rw [hp.size_eq]; exact hs) hf h
end
end BT
namespace BT
open PySem PySem.Spec PyProof.Rows L2
section
variable {X : Cx} {pins : List (Addr × Obj)} {σ : L2.St} {H : Hp} {s : Shared}
/-- what the keys are: f answers .int (kz i) for the i-th item, and changes nothing -/
def KeyTurn (X : Cx) (H : Hp) (f : Value) (vs : List Value) (kz : List Int) : Prop := ∀ (i : Nat) (v : Value) (k : Int), vs[i]? = some v → kz[i]? = some k → ∀ (pins : List (Addr × Obj)) (σ : L2.St) (s : Shared), Inv X pins σ H s →
  wpAny (model X.prog X.w) X.A.in1.in1 (call f [v]) (fun r s' => ∃ t, r = .int k t ∧ Inv X pins σ H s') (fun _ _ => False) s
theorem key_rest {f : Value} {vs : List Value} {kz : List Int} {a kS : Addr} {e1 : Nat} {P : PySem.Fin → Shared → Prop} {E : Value → Shared → Prop} (I : Inv X pins σ H s) (turn : KeyTurn X H f vs kz) (hl : kz.length = vs.length) (lim : vs.length < 64) (ne : kS ≠ a)
    (fa : FpOk X pins H a) (fk : FpOk X pins H kS) (ga : s.heap.get? a = some (seqObj "list" #[] e1)) (gk : s.heap.get? kS = some (seqObj "list" #[] 0))
    (h : ∀ (s' : Shared) (out : Array Value), Inv X pins σ H s' → KskOut false kz vs out.toList → out.size = vs.length → (∃ n, s'.heap.get? a = some (seqObj "list" out n)) → P (.done (.ret .none)) s') :
    wpAny (model X.prog X.w) X.A.in1.in1 (ksk_rest a f false vs.toArray e1 (.ref kS)) P E s := by
  have pinOk : ∀ {s' : Shared} {kA : Array Value} {n : Nat}, s'.heap.get? a = some (seqObj "list" #[] e1) → s'.heap.get? kS = some (seqObj "list" kA n) → Inv X pins σ H s' → Inv X (pins ++ pinsAt [a, kS] s'.heap) σ H s' := fun {s' kA n} g1 g2 I' => by
    refine I'.pinned (fun b hb => ?_) (fun b hb => ?_)
    · rcases List.mem_cons.mp hb with rfl | hb
      · exact fa
      · rw [List.mem_singleton.mp hb]; exact fk
    · rcases List.mem_cons.mp hb with rfl | hb
      · exact ⟨_, g1, fun v z => by cases z⟩
      · rw [List.mem_singleton.mp hb]
        exact ⟨_, g2, fun v z => by cases z⟩
  unfold ksk_rest
  refine wpAny_bind (wpAny_rule ?_)
  rw [List.forIn_toArray]
  refine wpAny_bind (ksk_fold (fun i s' => Inv X pins σ H s' ∧ s'.heap.get? a = some (seqObj "list" #[] e1) ∧ ∃ kA n, s'.heap.get? kS = some (seqObj "list" kA n) ∧ IntsAre kA.toList (kz.take i)) vs 0 s ⟨I, ga, #[], 0, gk, by simpa using IntsAre.nil⟩ ?_ ?_)
  · rintro j x s1 hx ⟨I1, g1, kA, n, g2, hk⟩
    rw [Nat.zero_add] at hk ⊢
    have hj := (List.getElem?_eq_some_iff.mp hx).1
    obtain ⟨k, hkj⟩ : ∃ k, kz[j]? = some k := ⟨_, List.getElem?_eq_getElem (by omega)⟩
    have Ip := pinOk g1 g2 I1
    refine wpAny_bind (wpAny_attempt (wpAny_mono (turn j x k hx hkj _ σ s1 Ip) (fun r s2 hr => ?_) fun _ _ no => no.elim))
    obtain ⟨t, rfl, I2⟩ := hr
    have p1 := (I2.pin (a, seqObj "list" #[] e1) (List.mem_append_right _ (List.mem_append_right _ (mem_pinsAt (by simp) g1)))).1
    have p2 := (I2.pin (kS, seqObj "list" kA n) (List.mem_append_right _ (List.mem_append_right _ (mem_pinsAt (by simp) g2)))).1
    have I3 := I2.unpinned
    have size : kA.size ≤ 63 := by
      have q := hk.length
      rw [Array.length_toList, List.length_take] at q
      omega
    have sb := Heap.SameBut.update s2.heap kS (Obj.mapSeq (·.push (.int k t)))
    obtain ⟨n2, g3⟩ : ∃ n2, (s2.heap.update kS (Obj.mapSeq (·.push (.int k t)))).get? kS = some (seqObj "list" (kA.push (.int k t)) n2) := ⟨_, get?_update_seq p2 (·.push (.int k t))⟩
    refine wpAny_bind (listUpdate_at p2 rfl ?_ (by rw [sizeLine_eq]; omega) (by rw [Array.size_push, sizeLine_eq]; omega))
    refine wpAny_pure ⟨rfl, ?_, (sb.2 a (Ne.symm ne)).trans p1, kA.push (.int k t), n2, g3, ?_⟩
    · exact I3.turned (t' := s2.toks) (fun b o hb e => (sb.2 b hb).trans e) fk.1 fk.2.1 fk.2.2.2.1 fk.2.2.2.2.1 fk.2.2.2.2.2
    · have e1 : kz.take (j + 1) = kz.take j ++ [k] := by rw [List.take_add_one, hkj]; rfl
      rw [e1, Array.toList_push]
      exact ksk_snoc hk
  · rintro s1 ⟨I1, g1, kA, n, g2, hk⟩
    rw [List.take_of_length_le (by omega)] at hk
    refine wpAny_bind (listItems_at g2 rfl ?_)
    refine key_end g2 g1 ne hk hl lim fun out ho hz => ?_
    have b1 := Heap.SameBut.update s1.heap kS (Obj.mapSeq fun _ => (#[] : Array Value))
    have I2 := I1.turned (t' := s1.toks) (fun b o hb e => (b1.2 b hb).trans e) fk.1 fk.2.1 fk.2.2.2.1 fk.2.2.2.2.1 fk.2.2.2.2.2
    have g3 : (s1.heap.update kS (Obj.mapSeq fun _ => (#[] : Array Value))).get? a = some (seqObj "list" #[] e1) := (b1.2 a (Ne.symm ne)).trans g1
    have b2 := Heap.SameBut.update (s1.heap.update kS (Obj.mapSeq fun _ => (#[] : Array Value))) a (Obj.mapSeq fun _ => out)
    have I3 := I2.turned (t' := s1.toks) (fun b o hb e => (b2.2 b hb).trans e) fa.1 fa.2.1 fa.2.2.2.1 fa.2.2.2.2.1 fa.2.2.2.2.2
    exact h _ out I3 ho hz ⟨_, get?_update_seq g3 fun _ => out⟩
/-- the sorted list is a new one -/
def KeyOut (kz : List Int) (xs ys : List V) : Prop := ∃ ps : List (Int × V), ps.Perm (kz.zip xs) ∧ ys = ps.map Prod.snd ∧ ps.Pairwise fun p q => p.1 ≤ q.1
theorem key_out {kz : List Int} {xs : List V} {vs out : List Value} (r : Vals xs vs) (h : KskOut false kz vs out) : ∃ ys, Vals ys out ∧ KeyOut kz xs ys := by
  obtain ⟨ps, hp, rfl, hs⟩ := h
  obtain ⟨qs, h1, h2, h3⟩ : ∃ qs : List (Int × V), qs.Perm (kz.zip xs) ∧ Vals (qs.map Prod.snd) (ps.map Prod.snd) ∧ qs.map Prod.fst = ps.map Prod.fst := by
    have base : ∃ zs : List ((Int × V) × (Int × Value)), zs.map Prod.fst = kz.zip xs ∧ zs.map Prod.snd = kz.zip vs ∧ ∀ z ∈ zs, z.1.1 = z.2.1 ∧ RelV z.1.2 z.2.2 := by
      clear hp hs
      induction r generalizing kz with
      | nil => exact ⟨[], by simp, by simp, fun _ h => nomatch h⟩
      | cons rv _ ih =>
        cases kz with
        | nil => exact ⟨[], by simp, by simp, fun _ h => nomatch h⟩
        | cons k kz =>
          obtain ⟨zs, e1, e2, e3⟩ := ih (kz := kz)
          refine ⟨((k, _), (k, _)) :: zs, by rw [List.map_cons, List.zip_cons_cons, e1], by rw [List.map_cons, List.zip_cons_cons, e2], fun z hz => ?_⟩
          rcases List.mem_cons.mp hz with rfl | hz
          · exact ⟨rfl, rv⟩
          · exact e3 z hz
    obtain ⟨zs, e1, e2, e3⟩ := base
    rw [← e2] at hp
    have key : ∀ {ps : List (Int × Value)} {zs : List ((Int × V) × (Int × Value))}, ps.Perm (zs.map Prod.snd) → ∃ ws : List ((Int × V) × (Int × Value)), ws.Perm zs ∧ ws.map Prod.snd = ps := by
      intro ps
      induction ps with
      | nil =>
        intro zs h
        have := h.symm.eq_nil
        cases zs with
        | nil => exact ⟨[], .refl _, rfl⟩
        | cons z zs => cases this
      | cons p ps ih =>
        intro zs h
        have hm : p ∈ zs.map Prod.snd := h.mem_iff.mp (List.mem_cons_self ..)
        obtain ⟨z, hz, rfl⟩ := List.mem_map.mp hm
        obtain ⟨l1, l2, rfl⟩ := List.append_of_mem hz
        have h2 : ps.Perm ((l1 ++ l2).map Prod.snd) := by
          have h3 : ((l1 ++ z :: l2).map Prod.snd).Perm (z.2 :: (l1 ++ l2).map Prod.snd) := by
            rw [List.map_append, List.map_cons, List.map_append]
            exact List.perm_middle
          exact (List.perm_cons _).mp (h.trans h3)
        obtain ⟨ws, q1, q2⟩ := ih h2
        exact ⟨z :: ws, ((List.perm_cons _).mpr q1).trans List.perm_middle.symm, by rw [List.map_cons, q2]⟩
    obtain ⟨ws, q1, q2⟩ := key hp
    refine ⟨ws.map Prod.fst, by rw [← e1]; exact q1.map _, ?_, ?_⟩
    · rw [← q2]
      have rel : ∀ z ∈ ws, RelV z.1.2 z.2.2 := fun z hz => (e3 z (q1.mem_iff.mp hz)).2
      clear q2 q1
      induction ws with
      | nil => exact .nil
      | cons z ws ih => exact .cons (rel z (List.mem_cons_self ..)) (ih fun y hy => rel y (List.mem_cons_of_mem _ hy))
    · rw [← q2, List.map_map, List.map_map]
      exact List.map_congr_left fun z hz => (e3 z (q1.mem_iff.mp hz)).1
  refine ⟨_, h2, qs, h1, rfl, ?_⟩
  have e : ∀ {as : List (Int × V)} {bs : List (Int × Value)}, as.map Prod.fst = bs.map Prod.fst → bs.Pairwise (fun p q => if false = true then q.1 ≤ p.1 else p.1 ≤ q.1) → as.Pairwise fun p q => p.1 ≤ q.1 := by
    intro as bs e hb
    have e2 : (as.map Prod.fst).Pairwise (· ≤ ·) := by
      rw [e, List.pairwise_map]
      exact hb.imp fun h => by simpa using h
    rw [List.pairwise_map] at e2
    exact e2
  exact e h3 hs
theorem sorted_key {f : Value} {kz : List Int} {l : Addr} {xs : List V} {Q : VK} (I : Inv X pins σ H s) (hs : SqL X.K H l xs) (hl : kz.length = xs.length) (lim : xs.length < 64) (ha1 : argsOk "sorted" ⟨[.ref l], [(Str.ofString "key", f)]⟩) (ha2 : ∀ x, argsOk "list.sort" ⟨[.ref x], [(Str.ofString "key", f)]⟩)
    (ht : ∀ x, Builtin.«list.sort» ⟨[.ref x], [(Str.ofString "key", f)]⟩ = ksk_tree x f false) (turn : ∀ vs : List Value, Vals xs vs → KeyTurn X H f vs kz)
    (q : ∀ (ys : List V) (p : Addr), KeyOut kz xs ys → H p = none → Q (.ref p) (upd H p (.lst ys))) :
    wpAny (model X.prog X.w) X.A (call (.builtin "sorted") [.ref l] [(Str.ofString "key", f)]) (EP X pins σ Q) X.xe s := by
  obtain ⟨vs, rv, pl, hz⟩ := I.list hs
  have lv : xs.length = vs.length := rv.length
  have lim2 : vs.length ≤ sizeLine := by rw [sizeLine_eq]; omega
  refine call_function_entry_kw kind_sorted plain_sorted entry_sorted ha1 ?_
  unfold Builtin.«sorted»
  refine wpAny_bind (m := checkCount "sorted" 1 1 _) (wpAny_pure (wpAny_bind (collect_list pl.isList ?_ lim2)))
  refine wpAny_bind (wpAny_newList ?_ lim2)
  -- the heap with the list to sort
  have sb := Heap.SameBut.update (s.heap.push (seqObj "list" #[] 0)) s.heap.objs.size (Obj.mapSeq (· ++ vs.toArray))
  generalize hh1 : (s.heap.push (seqObj "list" #[] 0)).update s.heap.objs.size (Obj.mapSeq (· ++ vs.toArray)) = h1 at sb
  have s1 : h1.objs.size = s.heap.objs.size + 1 := by rw [← hh1, Heap.size_update, size_push']
  have keep1 : ∀ b o, s.heap.get? b = some o → h1.get? b = some o := fun b o e => by
    have hb := Heap.lt_size e
    rw [sb.2 b (Nat.ne_of_lt hb), Heap.get?_push_ne _ _ _ (Nat.ne_of_lt hb)]
    exact e
  have I1 : Inv X pins σ H { s with heap := h1, toks := s.toks } := I.kept keep1
  generalize hs1 : ({ s with heap := h1, toks := s.toks } : Shared) = t1 at I1
  have e1 : t1.heap = h1 := by rw [← hs1]
  have fa : FpOk X pins H t1.heap.objs.size := I1.fpOk (Nat.le_refl _) (I1.hok.fresh (Nat.le_refl _))
  have I2 : Inv X pins σ H { t1 with heap := t1.heap.push (seqObj "list" vs.toArray 0), toks := t1.toks } := I1.kept fun b o e => Heap.get?_push_of_some _ e
  have g2 : (t1.heap.push (seqObj "list" vs.toArray 0)).get? t1.heap.objs.size = some (seqObj "list" vs.toArray 0) := Heap.get?_push_size _ rfl
  show wpAny _ _ _ _ _ { t1 with heap := t1.heap.push (seqObj "list" vs.toArray 0), toks := t1.toks }
  generalize ha : t1.heap.objs.size = a at fa g2 ⊢
  have alt : a < (t1.heap.push (seqObj "list" vs.toArray 0)).objs.size := by rw [size_push', ha]; exact Nat.lt_succ_self _
  generalize hs2 : ({ t1 with heap := t1.heap.push (seqObj "list" vs.toArray 0), toks := t1.toks } : Shared) = t2 at I2 ⊢
  have e2 : t2.heap = t1.heap.push (seqObj "list" vs.toArray 0) := by rw [← hs2]
  rw [← e2] at g2 alt
  clear hs2 e2
  refine wpAny_bind (wpAny_holding (wpAny_call_entry_kw slot_list_sort ⟨_, g2, rfl⟩ entry_list_sort ?_ (ha2 _)))
  show wpAny (model X.prog X.w) X.A.in1.in1 (Builtin.«list.sort» ⟨[.ref a], [(Str.ofString "key", f)]⟩) _ _ _
  rw [ht a]
  unfold ksk_tree
  obtain ⟨n3, g3⟩ : ∃ n3, (t2.heap.update a (Obj.mapSeq fun _ => (#[] : Array Value))).get? a = some (seqObj "list" #[] n3) := ⟨_, get?_update_seq g2 fun _ => #[]⟩
  have b3 := Heap.SameBut.update t2.heap a (Obj.mapSeq fun _ => (#[] : Array Value))
  refine wpAny_bind (listItems_at g2 rfl (wpAny_bind (listUpdate_at g2 rfl ?_ (by rw [List.size_toArray]; exact lim2) (Nat.zero_le _))))
  refine wpAny_bind (seqEpoch_at g3 rfl (wpAny_bind (wpAny_newTuple ?_ (by show vs.length ≤ _; exact lim2))))
  refine wpAny_bind (wpAny_newList ?_ (Nat.zero_le _))
  refine wpAny_holding ?_
  have I3 := I2.turned (t' := t2.toks) (fun b o hb e => (b3.2 b hb).trans e) fa.1 fa.2.1 fa.2.2.2.1 fa.2.2.2.2.1 fa.2.2.2.2.2
  generalize hs3 : ({ t2 with heap := t2.heap.update a (Obj.mapSeq fun _ => #[]), toks := t2.toks } : Shared) = t3 at I3 ⊢
  have e3 : t3.heap = t2.heap.update a (Obj.mapSeq fun _ => #[]) := by rw [← hs3]
  rw [← e3] at g3
  have a3 : a < t3.heap.objs.size := Heap.lt_size g3
  have I4 : Inv X pins σ H { t3 with heap := t3.heap.push (seqObj "tuple" vs.toArray.toList.toArray 0), toks := t3.toks } := I3.kept fun b o e => Heap.get?_push_of_some _ e
  have g4 : (t3.heap.push (seqObj "tuple" vs.toArray.toList.toArray 0)).get? a = some (seqObj "list" #[] n3) := Heap.get?_push_of_some _ g3
  have a4 : a < (t3.heap.push (seqObj "tuple" vs.toArray.toList.toArray 0)).objs.size := by rw [size_push']; exact Nat.lt_succ_of_lt a3
  generalize hs4 : ({ t3 with heap := t3.heap.push (seqObj "tuple" vs.toArray.toList.toArray 0), toks := t3.toks } : Shared) = t4 at I4 ⊢
  have e4 : t4.heap = t3.heap.push (seqObj "tuple" vs.toArray.toList.toArray 0) := by rw [← hs4]
  rw [← e4] at g4 a4
  have fk : FpOk X pins H t4.heap.objs.size := I4.fpOk (Nat.le_refl _) (I4.hok.fresh (Nat.le_refl _))
  have I5 : Inv X pins σ H { t4 with heap := t4.heap.push (seqObj "list" #[] 0), toks := t4.toks } := I4.kept fun b o e => Heap.get?_push_of_some _ e
  refine key_rest (kS := t4.heap.objs.size) I5 (turn vs rv) (by omega) (by omega) (Nat.ne_of_gt a4) fa fk (Heap.get?_push_of_some _ g4) (Heap.get?_push_size _ rfl) fun s' out I' ho hz' hg => ?_
  obtain ⟨n, hg⟩ := hg
  obtain ⟨ys, ry, hy⟩ := key_out rv ho
  refine ⟨_, rfl, wpAny_pure ⟨_, rfl, .ref a, upd H a (.lst ys), ?_, rfl, q ys a hy fa.1⟩⟩
  refine I'.take (t' := s'.toks) (fun b ob _ e => e) fa ⟨?_, out.toList, n, ry, by rw [Array.toArray_toList]; exact hg⟩
  rw [ry.length, Array.length_toList, hz']; exact lim2
def rSortedKey (K : PySem.W.Frag) (f : Addr) (sp : Sp) : List V → List V → Hp → VK → Prop := fun vs zs H Q => ∃ (l : Addr) (xs : List V) (kz : List Int), vs = [.ref l] ∧ zs = [.ref f] ∧ SqL K H l xs ∧ kz.length = xs.length ∧ xs.length < 64 ∧
  (∀ (i : Nat) (x : V) (k : Int), xs[i]? = some x → kz[i]? = some k → sp [x] H (fun v H' => v = .int k ∧ H' = H) E0) ∧ ∀ (ys : List V) (p : Addr), KeyOut kz xs ys → H p = none → Q (.ref p) (upd H p (.lst ys))
theorem vals_at {xs : List V} {vs : List Value} (r : Vals xs vs) : ∀ {i : Nat} {v : Value}, vs[i]? = some v → ∃ x, xs[i]? = some x ∧ RelV x v := by
  induction r with
  | nil => intro i v h; simp at h
  | cons rv _ ih =>
    intro i v h
    cases i with
    | zero =>
      have e := Option.some.inj h
      exact ⟨_, rfl, e ▸ rv⟩
    | succ i => exact ih h
theorem cr_sortedKeyF {k : Nat} {f : Addr} {fd : FuncData} {y : Str} {sp : Sp} (F : FnOk X.prog X.w X.K X.mg X.base CX0 k f fd [y] sp) (hr : Room (k + 2) X.A) (hb : Binds X.K fd [y] []) : CallRK X (.builtin "sorted") [Str.ofString "key"] (rSortedKey X.K f sp) := by
  intro pins s σ H vs zs us ws Q I r rz h
  obtain ⟨l, xs, kz, rfl, rfl, hs, hl, lim, hk, q⟩ := h
  obtain ⟨u1, rfl, r1⟩ := vals1 r
  obtain ⟨w1, rfl, r2⟩ := vals1 rz
  cases (show u1 = Value.ref l from r1)
  cases (show w1 = Value.ref f from r2)
  refine sorted_key I hs hl lim (ksk_s1 _ _) (fun x => ksk_l1 _ _) (fun x => ksk_t1 _ _) (fun vs rv i v k hv hk2 pins σ s I' => ?_) q
  obtain ⟨x, hx, rx⟩ := vals_at rv hv
  refine wpAny_call (codeAny_mono (F.run X.A.in1.in1 X.stack s H ⟨[v], []⟩ [v] [x] _ E0 hr.in1.in1 I'.env0.in1.in1 (hb s [v] I'.kIn rfl) (.cons rx .nil) (hk i x k hx hk2)) fun r s' hq => ?_)
  cases r with
  | error e => exact hq.elim
  | ok fl =>
    cases fl with
    | ret u =>
      obtain ⟨v', H', I2, rv', e, e2⟩ := I'.after hq
      subst e e2
      obtain ⟨t, rfl⟩ := rv'
      exact ⟨t, rfl, I2⟩
    | next => exact False.elim hq
    | brk => exact False.elim hq
    | cont => exact False.elim hq
end
section
variable {X : Cx} {k j : Nat} {y x : Str} {sp : Sp} {p p2 kpos pos : Pos} {e : Expr} {te : TE}
/-- sorted(e, key=x), x a def of one number that changes nothing -/
def tSortedKey (K : PySem.W.Frag) (mg : Str → Option Value) (x : Str) (sp : Sp) (te : TE) : TE := fun σ H Q => ∃ f, mg x = some (.ref f) ∧ tCKw (rSortedKey K f sp) (tCons te tNil) (tCons (tC (.ref f)) tNil) σ H Q
theorem pe_sortedKey (D : DefOk X.prog X.w X.K X.mg X.base CX0 k x [y] sp) (hr : Room j X.A) (hg : Gl X "sorted") (hm : X.mg "sorted" = none) (hgx : Gl X x) (he : PE X e te) (hk : k + 2 ≤ j := by decide) (hdb : (x == ("__debug__" : Str)) = false := by decide)
    (h1 : backTo pos (starEach [e] X.env) = (false, eval e X.env) :: backTo pos (starEach [] X.env) := by rfl) (h2 : (backTo pos (starEach [e] X.env)).any (·.1) = false := by rfl) (h0 : starEach [e] X.env = (false, eval e X.env) :: starEach [] X.env := by rfl)
    (h3 : (backToKw pos (keywordEach [⟨some (Str.ofString "key"), .Name x p2, kpos⟩] X.env)).all (·.1.isSome) = true := by rfl) (h4 : (backToKw pos (keywordEach [⟨some (Str.ofString "key"), .Name x p2, kpos⟩] X.env)).any (·.1.isNone) = false := by rfl)
    (h5 : (backToKw pos (keywordEach [⟨some (Str.ofString "key"), .Name x p2, kpos⟩] X.env)).filterMap (·.1) = [Str.ofString "key"] := by rfl) :
    PE X (.Call (.Name "sorted" p) [e] [⟨some (Str.ofString "key"), .Name x p2, kpos⟩] pos) (tSortedKey X.K X.mg x sp te) := by
  obtain ⟨f, fd, F, hmx, hkp, hb⟩ := D.ex
  have q := pe_callBK (X := X) (x := "sorted") (p := p) (pos := pos) (e := e) (es := []) (kws := [⟨some (Str.ofString "key"), .Name x p2, kpos⟩]) (cr_sortedKeyF F (hr.mono hk) hb) hg hm (by decide +kernel) (pa_cons he pa_nil h0) (pk_cons (pe_glob (v := .ref f) (hd := hdb) hgx hmx rfl) pk_nil) (by decide) (by decide) h1 h2 h3 h4 h5
  refine ⟨fun pins s σ H Q I h => ?_⟩
  obtain ⟨f2, e2, h⟩ := h
  rw [hmx] at e2
  cases e2
  exact q.run pins s σ H Q I h
end
end BT

set_option Elab.async false
set_option linter.all false
namespace BT
open PySem PySem.Spec PyProof.Rows L2
theorem perm_map_inv {α β : Type} (F : α → β) : ∀ {ps : List β} {zs : List α}, ps.Perm (zs.map F) → ∃ ws : List α, ws.Perm zs ∧ ws.map F = ps
  | [], zs, h => by
    have e := h.symm.eq_nil
    cases zs with
    | nil => exact ⟨[], .refl _, rfl⟩
    | cons z zs => cases e
  | p :: ps, zs, h => by
    obtain ⟨z, hz, rfl⟩ := List.mem_map.mp (h.mem_iff.mp (List.mem_cons_self ..))
    obtain ⟨l1, l2, rfl⟩ := List.append_of_mem hz
    have h3 : ((l1 ++ z :: l2).map F).Perm (F z :: (l1 ++ l2).map F) := by
      rw [List.map_append, List.map_cons, List.map_append]
      exact List.perm_middle
    obtain ⟨ws, q1, q2⟩ := perm_map_inv F ((List.perm_cons _).mp (h.trans h3))
    exact ⟨z :: ws, ((List.perm_cons _).mpr q1).trans List.perm_middle.symm, by rw [List.map_cons, q2]⟩
theorem sorted_one {α : Type} (key : α → Nat) : ∀ {a b : List α}, a.Perm b → a.Pairwise (fun x y => key x ≤ key y) → b.Pairwise (fun x y => key x ≤ key y) → (∀ x ∈ b, ∀ y ∈ b, key x = key y → x = y) → a = b
  | [], b, h, _, _, _ => h.symm.eq_nil.symm
  | x :: a, [], h, _, _, _ => by have := h.eq_nil; cases this
  | x :: a, y :: b, h, ha, hb, hk => by
    have ha' := List.pairwise_cons.mp ha
    have hb' := List.pairwise_cons.mp hb
    have hx : x ∈ y :: b := h.mem_iff.mp (List.mem_cons_self ..)
    have hy : y ∈ x :: a := h.mem_iff.mpr (List.mem_cons_self ..)
    have e : x = y := by
      rcases List.mem_cons.mp hx with e | hx2
      · exact e
      · rcases List.mem_cons.mp hy with e | hy2
        · exact e.symm
        · exact hk x hx y (List.mem_cons_self ..) (Nat.le_antisymm (ha'.1 y hy2) (hb'.1 x hx2))
    subst e
    rw [sorted_one key ((List.perm_cons _).mp h) ha'.2 hb'.2 fun p hp q hq => hk p (List.mem_cons_of_mem _ hp) q (List.mem_cons_of_mem _ hq)]
/-- sorted by the lowest place -/
def insLow (x : Nat) : List Nat → List Nat
  | [] => [x]
  | y :: r => if lowN x ≤ lowN y then x :: y :: r else y :: insLow x r
def sortLow (l : List Nat) : List Nat := l.foldr insLow []
theorem insLow_perm (x : Nat) : ∀ l : List Nat, (insLow x l).Perm (x :: l)
  | [] => .refl _
  | y :: r => by
    unfold insLow
    split
    · exact .refl _
    · exact ((insLow_perm x r).cons y).trans (List.Perm.swap x y r)
theorem sortLow_perm : ∀ l : List Nat, (sortLow l).Perm l
  | [] => .refl _
  | x :: l => (insLow_perm x (sortLow l)).trans ((sortLow_perm l).cons x)
theorem insLow_sorted (x : Nat) : ∀ l : List Nat, l.Pairwise (fun a b => lowN a ≤ lowN b) → (insLow x l).Pairwise fun a b => lowN a ≤ lowN b
  | [], _ => List.pairwise_singleton _ _
  | y :: r, h => by
    have h' := List.pairwise_cons.mp h
    unfold insLow
    split
    · rename_i c
      refine List.pairwise_cons.mpr ⟨fun z hz => ?_, h⟩
      rcases List.mem_cons.mp hz with rfl | hz
      · exact c
      · exact Nat.le_trans c (h'.1 z hz)
    · rename_i c
      refine List.pairwise_cons.mpr ⟨fun z hz => ?_, insLow_sorted x r h'.2⟩
      rcases List.mem_cons.mp ((insLow_perm x r).mem_iff.mp hz) with rfl | hz
      · omega
      · exact h'.1 z hz
theorem sortLow_sorted : ∀ l : List Nat, (sortLow l).Pairwise fun a b => lowN a ≤ lowN b
  | [] => .nil
  | x :: l => insLow_sorted x _ (sortLow_sorted l)
def reduceF (ms : List Nat) : List Nat := sortLow (sweepF (-1) ms).1
theorem alone_inj {rows : List Nat} (A : Alone (-1) rows) : ∀ x ∈ rows, ∀ y ∈ rows, lowN x = lowN y → x = y := fun x hx y hy e => by
  obtain ⟨ks, hl, h⟩ := A
  obtain ⟨i, hi, rfl⟩ := List.getElem_of_mem hx
  obtain ⟨j, hj, rfl⟩ := List.getElem_of_mem hy
  obtain ⟨a1, a2⟩ := h i _ ks[i] (List.getElem?_eq_getElem hi) (List.getElem?_eq_getElem (by omega))
  obtain ⟨b1, b2⟩ := h j _ ks[j] (List.getElem?_eq_getElem hj) (List.getElem?_eq_getElem (by omega))
  rw [andN_neg1] at a1 b1
  have ek : ks[i] = ks[j] := two_pow_inj (a1.symm.trans (e.trans b1))
  have q := (b2 j _ (List.getElem?_eq_getElem hj)).mpr rfl
  have z := (a2 j _ (List.getElem?_eq_getElem hj)).mp (by rw [ek]; exact q)
  subst z; rfl
theorem zip_map2 {α β γ : Type} (f : α → β) (g : α → γ) : ∀ l : List α, (l.map f).zip (l.map g) = l.map fun x => (f x, g x)
  | [] => rfl
  | x :: l => by rw [List.map_cons, List.map_cons, List.zip_cons_cons, zip_map2 f g l, List.map_cons]
theorem key_reduce {ms : List Nat} {ys : List V} (h : KeyOut ((sweepF (-1) ms).1.map fun m => ((lowN m : Nat) : Int)) (lotV (sweepF (-1) ms).1) ys) : ys = lotV (reduceF ms) := by
  obtain ⟨ps, hp, rfl, hs⟩ := h
  unfold lotV at hp
  rw [zip_map2] at hp
  obtain ⟨ws, h1, rfl⟩ := perm_map_inv _ hp
  have hw : ws.Pairwise fun a b => lowN a ≤ lowN b := by
    rw [List.pairwise_map] at hs
    exact hs.imp fun h => Int.ofNat_le.mp h
  have e : ws = reduceF ms := sorted_one lowN (h1.trans (sortLow_perm _).symm) hw (sortLow_sorted _) fun x hx y hy => alone_inj (sweep_alone (-1) ms) x ((sortLow_perm _).mem_iff.mp hx) y ((sortLow_perm _).mem_iff.mp hy)
  rw [List.map_map, ← e]
  rfl
end BT

set_option Elab.async false
set_option linter.all false
set_option maxRecDepth 100000
set_option maxHeartbeats 2000000
namespace BT
open PySem PySem.Spec PyProof.Rows L2
/-! ### walks over a list or a tuple -/
def iSeq (K : PySem.W.Frag) (te : TE) : TI := fun σ H R => te σ H fun x H1 => ∃ (a : Addr) (xs : List V), x = .ref a ∧ ((SqL K H1 a xs ∧ R (Itl K a) H1) ∨ (SqT K H1 a xs ∧ R (Itt K a) H1))
section
variable {X : Cx} {tg e : Expr} {te : TE}
theorem pi_seq (he : PE X e te) : PI X tg e (iSeq X.K te) := by
  refine ⟨fun pins s σ H R I h => thn (he.run pins s σ H _ I h) fun v s1 out => ?_⟩
  obtain ⟨x, H1, I1, r, a, xs, rfl, w⟩ := out
  cases r
  rcases w with ⟨hq, q⟩ | ⟨hq, q⟩
  · obtain ⟨its, rv, p, hz⟩ := I1.list hq
    exact wpAny_pyIter_list p.isList (pi_one (tk := s1.toks) I1 _ (turn_list a _) ⟨_, Heap.get?_push_size _ rfl, rfl, rfl⟩ q)
  · obtain ⟨its, rv, p, hz⟩ := I1.tuple hq
    exact wpAny_pyIter_tuple (show s1.heap.IsTuple a its.toArray from p) (pi_one (tk := s1.toks) I1 _ (turn_tuple a _) ⟨_, Heap.get?_push_size _ rfl, rfl, rfl⟩ q)
end
/-- numbers in a list or a tuple -/
def NatsAt (H : Hp) (a : Addr) (ns : List Nat) : Prop := H a = some (.lst (lotV ns)) ∨ H a = some (.tup (lotV ns))
theorem NatsAt.same {H H' : Hp} {a : Addr} {ns : List Nat} (s : Same H H') (h : NatsAt H a ns) : NatsAt H' a ns := h.imp (s a _) (s a _)
theorem for_seq {K : PySem.W.Frag} {a : Addr} {xs : List V} {g : TG} {tb : TS} {D : Ends} {σ : L2.St} {H : Hp} (Pv : Nat → L2.St → Hp → Prop) (h0 : Pv 0 σ H) (hl : (∀ i σ H, i ≤ xs.length → Pv i σ H → H a = some (.lst xs)) ∨ (∀ i σ H, i ≤ xs.length → Pv i σ H → H a = some (.tup xs)))
    (hs : ∀ i x σ H, xs[i]? = some x → Pv i σ H → g x σ H fun σ2 H2 => tb { D with nx := Pv (i + 1), ct := Pv (i + 1), bk := D.nx } σ2 H2) (hd : ∀ σ H, Pv xs.length σ H → D.nx σ H) :
    (SqL K H a xs ∧ ∃ W : Nat → Nat → L2.St → Hp → Prop, (∃ m, W 0 m σ H) ∧ ∀ i m σ H, W i m σ H → ((Itl K a).stop i H ∧ D.nx σ H) ∨ ((Itl K a).go i H ∧ ∃ N : L2.St → Hp → Prop, (∀ σ' H', N σ' H' → ∃ m', m' < m ∧ W (i + 1) m' σ' H') ∧ ∀ x H', (Itl K a).yld i H x H' → g x σ H' fun σ2 H2 => tb { D with nx := N, ct := N, bk := D.nx } σ2 H2)) ∨
    (SqT K H a xs ∧ ∃ W : Nat → Nat → L2.St → Hp → Prop, (∃ m, W 0 m σ H) ∧ ∀ i m σ H, W i m σ H → ((Itt K a).stop i H ∧ D.nx σ H) ∨ ((Itt K a).go i H ∧ ∃ N : L2.St → Hp → Prop, (∀ σ' H', N σ' H' → ∃ m', m' < m ∧ W (i + 1) m' σ' H') ∧ ∀ x H', (Itt K a).yld i H x H' → g x σ H' fun σ2 H2 => tb { D with nx := N, ct := N, bk := D.nx } σ2 H2)) := by
  rcases hl with hl | hl
  · exact .inl ⟨.inl (.inl (hl 0 σ H (Nat.zero_le _) h0)), for_list Pv h0 (fun i σ H hi p => .inl (.inl (hl i σ H hi p))) hs hd⟩
  · exact .inr ⟨.inl (.inl (hl 0 σ H (Nat.zero_le _) h0)), for_tup Pv h0 (fun i σ H hi p => .inl (.inl (hl i σ H hi p))) hs hd⟩
/-- the same in a comprehension -/
theorem lc_seq {K : PySem.W.Frag} {a : Addr} {xs : List V} {g : TG} {tt : TT} {te : TE} {vs : List Nat} {σ : L2.St} {H0 : Hp} {Qd : Addr → Hp → Prop} (hn : H0 a = some (.lst xs) ∨ H0 a = some (.tup xs)) (Pv : Addr → Nat → Hp → Prop) (h0 : ∀ D, H0 D = none → Pv D 0 (upd H0 D (.lst [])))
    (hl : ∀ D i H, H0 D = none → i ≤ xs.length → Pv D i H → ∀ o, H0 a = some o → H a = some o)
    (hs : ∀ D i x H, H0 D = none → xs[i]? = some x → Pv D i H → g x (wipe σ vs) H fun σ2 H2 => wipe σ2 vs = wipe σ vs ∧ tt σ2 H2 fun b H3 => if b = true then te σ2 H3 fun y H4 => ∃ acc, H4 D = some (.lst acc) ∧ acc.length < sizeLine ∧ Pv D (i + 1) (upd H4 D (.lst (acc ++ [y]))) else Pv D (i + 1) H3)
    (hd : ∀ D H, H0 D = none → Pv D xs.length H → Qd D H) :
    (SqL K H0 a xs ∧ ∀ D, H0 D = none → ∃ W : Nat → Nat → Hp → Prop, (∃ m, W 0 m (upd H0 D (.lst []))) ∧ ∀ i m H, W i m H → ((Itl K a).stop i H ∧ Qd D H) ∨ ((Itl K a).go i H ∧ ∃ Nx : Hp → Prop, (∀ H', Nx H' → ∃ m', m' < m ∧ W (i + 1) m' H') ∧ ∀ x H', (Itl K a).yld i H x H' → g x (wipe σ vs) H' fun σ2 H2 => wipe σ2 vs = wipe σ vs ∧ tt σ2 H2 fun b H3 => if b = true then te σ2 H3 fun y H4 => ∃ acc, H4 D = some (.lst acc) ∧ acc.length < sizeLine ∧ Nx (upd H4 D (.lst (acc ++ [y]))) else Nx H3)) ∨
    (SqT K H0 a xs ∧ ∀ D, H0 D = none → ∃ W : Nat → Nat → Hp → Prop, (∃ m, W 0 m (upd H0 D (.lst []))) ∧ ∀ i m H, W i m H → ((Itt K a).stop i H ∧ Qd D H) ∨ ((Itt K a).go i H ∧ ∃ Nx : Hp → Prop, (∀ H', Nx H' → ∃ m', m' < m ∧ W (i + 1) m' H') ∧ ∀ x H', (Itt K a).yld i H x H' → g x (wipe σ vs) H' fun σ2 H2 => wipe σ2 vs = wipe σ vs ∧ tt σ2 H2 fun b H3 => if b = true then te σ2 H3 fun y H4 => ∃ acc, H4 D = some (.lst acc) ∧ acc.length < sizeLine ∧ Nx (upd H4 D (.lst (acc ++ [y]))) else Nx H3)) := by
  rcases hn with hn | hn
  · exact .inl ⟨.inl (.inl hn), fun D hD => lc_list (Pv D) (h0 D hD) (fun i H hi p => .inl (.inl (hl D i H hD hi p _ hn))) (fun i x H hx p => hs D i x H hD hx p) fun H p => hd D H hD p⟩
  · exact .inr ⟨.inl (.inl hn), fun D hD => lc_tup (Pv D) (h0 D hD) (fun i H hi p => .inl (.inl (hl D i H hD hi p _ hn))) (fun i x H hx p => hs D i x H hD hx p) fun H p => hd D H hD p⟩
end BT

set_option Elab.async false
set_option linter.all false
set_option maxRecDepth 100000
set_option maxHeartbeats 4000000
namespace PySem
open AutoSeq1 (wpAny_loadPart')
/-- enumerate of a tuple: its iterator, then the enumerate object -/
theorem BT_enum_new (t : Addr) (items : Array Value) (n : Nat) (dct : Option Addr) (sl : Array (Option Value)) :
    Meets (Builtin.«enumerate.__new__» ⟨[.type "enumerate", .ref t], []⟩) (fun _ R s => s.heap.get? t = some { cls := .type "tuple", dict := dct, data := .seq items n, slots := sl } ∧
      R (.ok (.ret (.ref (s.heap.push { cls := .type "tuple_iterator", data := .fields #[.ref t, .int 0 0] }).objs.size)))
        { s with heap := (s.heap.push { cls := .type "tuple_iterator", data := .fields #[.ref t, .int 0 0] }).push { cls := .type "enumerate", data := .fields #[.none, .bool false, .ref s.heap.objs.size, rawInt 0, .none, .none] } }) :=
  .of_wp fun prog w A R s h => by
    obtain ⟨hp, g, d, tk, os⟩ := s; obtain ⟨ht, h⟩ := h
    have hT : Heap.IsTuple (Shared.heap ⟨hp, g, d, tk, os⟩) t items := ⟨_, ht, rfl, n, rfl⟩
    have sub := sub_enumerate
    wp_walk using wpAny_loadPart' ht
    refine wpAny_stack_any fun st => wpAny_pure ?_
    split
    · rename_i c _ _ _ _ _
      cases (c == Value.type "enumerate") <;> (wp_walk using wpAny_loadPart' ht, wpAny_pyIter_tuple hT; exact ⟨_, rfl, h⟩)
    · wp_walk using wpAny_loadPart' ht, wpAny_pyIter_tuple hT
      exact ⟨_, rfl, h⟩
end PySem
namespace BT
open PySem PySem.Spec PyProof.Rows L2
section
variable {prog : Program} {w : World} {A : Around} {E : Value → Shared → Prop} {s : Shared}
theorem call_enum_tup {t : Addr} {items : Array Value} {Q : Value → Shared → Prop} (hT : s.heap.IsTuple t items)
    (h : ∀ h' : Heap, IsEnum h' (s.heap.objs.size + 1) s.heap.objs.size 0 .none → h'.IsTupleIter s.heap.objs.size t 0 → (∀ b o, s.heap.get? b = some o → h'.get? b = some o) → Q (.ref (s.heap.objs.size + 1)) { s with heap := h' }) :
    wpAny (model prog w) A (call (.type "enumerate") [.ref t]) Q E s := by
  obtain ⟨⟨c, dct, dt, sl⟩, ht, hc, n, hd⟩ := hT
  cases (show c = .type "tuple" from hc)
  cases (show dt = .seq items n from hd)
  refine callType_new F.called_enumerate (by decide) (F.typeCall_enumerate_1 _) (F.newCall_enumerate_1 _) (fun _ => F.args_object_init_2 _ _) F.entry_enumerate_new (BT_enum_new t items n dct sl) ⟨ht, ?_⟩
  have size1 : (s.heap.push { cls := .type "tuple_iterator", data := .fields #[.ref t, .int 0 0] }).objs.size = s.heap.objs.size + 1 := Heap.size_push ..
  show _ ∧ _
  rw [size1]
  have he : IsEnum ((s.heap.push { cls := .type "tuple_iterator", data := .fields #[.ref t, .int 0 0] }).push { cls := .type "enumerate", data := .fields #[.none, .bool false, .ref s.heap.objs.size, rawInt 0, .none, .none] }) (s.heap.objs.size + 1) s.heap.objs.size 0 .none := by
    rw [← size1]
    exact Heap.get?_push_size _ rfl
  exact ⟨⟨_, he, rfl⟩, h _ he ⟨_, Heap.get?_push_of_some _ (Heap.get?_push_size _ rfl), rfl, rfl⟩ fun b o x => Heap.get?_push_of_some _ (Heap.get?_push_of_some _ x)⟩
theorem draws_tup (hh : A.handled = none) (it t : Addr) (ne : t ≠ it) (items : Array Value) : Draws prog w A it [it, t] items.size (fun i v => items[i]? = some v) (fun i h => h.IsTupleIter it t i ∧ h.IsTuple t items) := by
  constructor
  · rintro i h ⟨⟨o, ho, _⟩, _⟩
    exact ⟨o, ho⟩
  · rintro i h h' ⟨⟨o, ho, r⟩, ⟨u, hu, q⟩⟩ k
    exact ⟨⟨o, k it (by simp) o ho, r⟩, ⟨u, k t (by simp) u hu, q⟩⟩
  · rintro i s Q E hi ⟨h1, h2⟩ hQ
    exact wpAny_nextOf_tuple_item h1 h2 (x := items[i]) (by simp [hi]) fun h' g1 sb => hQ _ h' s.toks (by simp [hi]) ⟨g1, h2.extBut sb.extBut ne⟩ sb
  · rintro s Q E ⟨h1, h2⟩ hE
    exact wpAny_nextOf_tuple_end hh h1 h2 (by simp) hE
end
/-- the tuple at a, its items with their numbers in new pairs -/
def IteT (K : PySem.W.Frag) (a : Addr) : It where
  go := fun i H => ∃ (xs : List V) (x : V), SqT K H a xs ∧ xs[i]? = some x
  yld := fun i H v H' => ∃ T x, v = .ref T ∧ H T = none ∧ H' = upd H T (.tup [.int (i : Nat), x]) ∧ ∀ xs, SqT K H a xs → xs[i]? = some x
  stop := fun i H => ∃ xs : List V, SqT K H a xs ∧ xs.length = i
theorem turn_enumT {P : Program} {w : World} {K : PySem.W.Frag} {elts : List Expr} {kk : Nat} {tpos : Pos} (a e it : Addr) :
    Turn P w K (.Tuple elts kk tpos) (IteT K a) [e, it] e (fun i h => (∃ old, IsEnum h e it ((i : Nat) : Int) old) ∧ h.IsTupleIter it a i ∧ e ≠ it ∧ a ≠ e ∧ a ≠ it) where
  mem := List.mem_cons_self ..
  obj := by
    rintro i h ⟨⟨old, he⟩, ⟨o, ho, _, hd⟩, _⟩ b hb
    rcases List.mem_cons.mp hb with rfl | hb
    · exact ⟨_, he, fun v q => by cases q⟩
    · rw [List.mem_singleton.mp hb]
      exact ⟨o, ho, fun v q => by rw [hd] at q; cases q⟩
  keep := by
    rintro i h h' ⟨⟨old, he⟩, ⟨o, ho, r⟩, n⟩ k
    exact ⟨⟨old, k e (by simp) _ he⟩, ⟨o, k it (by simp) _ ho, r⟩, n⟩
  item := by
    intro X hP hw hK hc i pins s σ H E I hf st hg
    subst hP hw hK
    obtain ⟨⟨old, he⟩, hit, ne, n1, n2⟩ := st
    obtain ⟨xs, x, hq, hx⟩ := hg
    obtain ⟨its, rv, p, hz⟩ := I.tuple hq
    obtain ⟨u, hu, ru⟩ := rv.get hx
    have lt1 := Heap.lt_size he
    have lt2 : it < s.heap.objs.size := by obtain ⟨_, q, _⟩ := hit; exact Heap.lt_size q
    have hi : i < its.toArray.size := by
      rw [List.size_toArray]
      exact (List.getElem?_eq_some_iff.mp hu).1
    refine wpAny_pyNext_enum_itemD (draws_tup (A := X.A.in1) (I.ok.hd hc) it a n2 its.toArray) he ⟨hit, show s.heap.IsTuple a its.toArray from p⟩ hi ne (by simp [ne, Ne.symm n1]) fun y h' tk hy ho hst hT hsz hk => ?_
    have ey : y = u := by
      rw [List.getElem?_toArray] at hy
      exact Option.some.inj (hy.symm.trans hu)
    subst ey
    refine ⟨_, rfl, wpAny_letOwnedTupleGo_enum (s := { s with heap := h', toks := tk + 1 }) ho fun h2 he2 sb => ?_⟩
    have g : h2.get? s.heap.objs.size = some { cls := .type "tuple", data := .seq #[.int i tk, y] } := (sb.2 _ (Nat.ne_of_gt lt1)).trans hT
    have new : ObjOk X.prog X.w (upd H s.heap.objs.size (.tup [.int (i : Nat), x])) h2 s.heap.objs.size (.tup [.int (i : Nat), x]) := ⟨by show 2 ≤ sizeLine; decide, [.int i tk, y], .cons ⟨_, rfl⟩ (.cons ru .nil), ⟨_, g, rfl, _, rfl⟩⟩
    have I1 : Inv X pins σ (upd H s.heap.objs.size (.tup [.int (i : Nat), x])) { s with heap := h2, toks := tk + 1 } :=
      I.turnedNew (ch := [e, it]) (fun b ob hb q => (sb.2 b fun z => hb (by simp [z])).trans (hk b ob (fun z => hb (by simp [z])) (fun z => hb (by simp [z])) q)) hf (Nat.le_refl _) new
    refine ⟨.ref s.heap.objs.size, _, I1, rfl, ⟨_, x, rfl, I.hok.fresh (Nat.le_refl _), rfl, fun ys hy => by rw [I.tuple_inj hy hq]; exact hx⟩, ⟨⟨y, ?_⟩, ?_, ne, n1, n2⟩, fun b hb => ?_⟩
    · have e1 : ((i + 1 : Nat) : Int) = (i : Int) + 1 := by omega
      rw [e1]
      exact he2
    · obtain ⟨⟨o, q1, r⟩, _⟩ := hst
      exact ⟨o, (sb.2 it (Ne.symm ne)).trans q1, r⟩
    · have hlt : b < s.heap.objs.size := by
        rcases List.mem_cons.mp hb with rfl | hb
        · exact lt1
        · rw [List.mem_singleton.mp hb]; exact lt2
      rw [upd_ne (Nat.ne_of_lt hlt)]
      exact (hf b hb).1
  done := by
    intro X hP hw hK hc i pins s σ H E I hf st hg
    subst hP hw hK
    obtain ⟨⟨old, he⟩, hit, ne, n1, n2⟩ := st
    obtain ⟨xs, hq, hx⟩ := hg
    obtain ⟨its, rv, p, hz⟩ := I.tuple hq
    obtain ⟨f0, f1, f2, f3, f4, f5⟩ := hf it (by simp)
    have hl := rv.length
    have en : its.toArray.size = i := by rw [List.size_toArray, ← hl, hx]
    subst en
    exact wpAny_pyNext_enum_endD (draws_tup (A := X.A.in1) (I.ok.hd hc) it a n2 its.toArray) he ⟨hit, show s.heap.IsTuple a its.toArray from p⟩ fun h' eb => ⟨rfl, I.turned (t' := s.toks) (fun b o hb q => eb b o hb q) f0 f1 f3 f4 f5⟩
  self := fun A i s Q E st h => let ⟨⟨_, he⟩, _⟩ := st; wpAny_pyIter_enum he h
/-- enumerate of a list or a tuple -/
def iEnumA (K : PySem.W.Frag) (ta : TA) : TI := fun σ H R => ta σ H fun vs H1 => ∃ (a : Addr) (xs : List V), vs = [.ref a] ∧ ((SqL K H1 a xs ∧ R (Ite K a) H1) ∨ (SqT K H1 a xs ∧ R (IteT K a) H1))
theorem pi_enumA {X : Cx} {e : Expr} {ta : TA} {p pos tpos : Pos} {elts : List Expr} {kk : Nat} (hg : Gl X "enumerate") (hm : X.mg "enumerate" = none) (ha : PA X [e] ta) (hs : starEach [e] X.env = [(false, eval e X.env)] := by rfl) :
    PI X (.Tuple elts kk tpos) (.Call (.Name "enumerate" p) [e] [] pos) (iEnumA X.K ta) := by
  refine ⟨fun pins s σ H R I h => Call_ (ld_blt I hg hm boot_enumerate (PyProof.Rows.callWith_type1 (thn (ha.run pos pins s σ H _ I h) fun us s1 out => ?_) hs rfl))⟩
  obtain ⟨vs, H1, I1, r1, a, xs, rfl, w⟩ := out
  obtain ⟨u, rfl, r2⟩ := vals1 r1
  cases (show u = Value.ref a from r2)
  have fresh : ∀ b : Addr, b = s1.heap.objs.size + 1 ∨ b = s1.heap.objs.size → FpOk X pins H1 b := fun b hb => by
    have hle : s1.heap.objs.size ≤ b := by
      rcases hb with z | z
      · rw [z]; exact Nat.le_add_right _ _
      · rw [z]; exact Nat.le_refl _
    exact I1.fpOk hle (I1.hok.fresh hle)
  rcases w with ⟨hq, q⟩ | ⟨hq, q⟩
  · obtain ⟨its, rv, p', hz⟩ := I1.list hq
    refine call_enumerate_list p'.isList fun h' he hit _ hk => wpAny_pyIter_enum he ?_
    exact ⟨_, [s1.heap.objs.size + 1, s1.heap.objs.size], _, _, H1, rfl, I1.kept (t' := s1.toks) hk, turn_enum a _ _, ⟨⟨.none, he⟩, hit, Nat.succ_ne_self _⟩, fun b hb => fresh b (by simpa using hb), q⟩
  · obtain ⟨its, rv, p', hz⟩ := I1.tuple hq
    obtain ⟨ob, hob, _⟩ := id p'
    have lt := Heap.lt_size hob
    refine call_enum_tup (show s1.heap.IsTuple a its.toArray from p') fun h' he hit hk => wpAny_pyIter_enum he ?_
    exact ⟨_, [s1.heap.objs.size + 1, s1.heap.objs.size], _, _, H1, rfl, I1.kept (t' := s1.toks) hk, turn_enumT a _ _, ⟨⟨.none, he⟩, hit, Nat.succ_ne_self _, Nat.ne_of_lt (Nat.lt_succ_of_lt lt), Nat.ne_of_lt lt⟩, fun b hb => fresh b (by simpa using hb), q⟩
theorem walk_enumT {K : PySem.W.Frag} {a : Addr} {xs : List V} : Walk (IteT K a) xs.length (fun H => SqT K H a xs) (YPair (fun i => some (.int (i : Nat))) (fun i => xs[i]?)) := by
  constructor
  · intro i H hi q
    exact ⟨xs, xs[i], q, List.getElem?_eq_getElem hi⟩
  · intro H q
    exact ⟨xs, q, rfl⟩
  · rintro i H v H' _ q ⟨T, x, h1, h2, h3, h4⟩
    exact ⟨T, .int (i : Nat), x, h1, h2, h3, rfl, h4 xs q⟩
/-- a loop over enumerate of a list or a tuple of numbers -/
theorem for_enumA {K : PySem.W.Frag} {a : Addr} {xs : List V} {g : TG} {tb : TS} {D : Ends} {σ : L2.St} {H : Hp} (hn : H a = some (.lst xs) ∨ H a = some (.tup xs)) (Pv : Nat → L2.St → Hp → Prop) (h0 : Pv 0 σ H) (hl : ∀ i σ H', i ≤ xs.length → Pv i σ H' → ∀ o, H a = some o → H' a = some o)
    (hs : ∀ i x σ H' T, xs[i]? = some x → Pv i σ H' → H' T = none → g (.ref T) σ (upd H' T (.tup [.int (i : Nat), x])) fun σ2 H2 => tb { D with nx := Pv (i + 1), ct := Pv (i + 1), bk := D.nx } σ2 H2) (hd : ∀ σ H', Pv xs.length σ H' → D.nx σ H') :
    (SqL K H a xs ∧ ∃ W : Nat → Nat → L2.St → Hp → Prop, (∃ m, W 0 m σ H) ∧ ∀ i m σ H, W i m σ H → ((Ite K a).stop i H ∧ D.nx σ H) ∨ ((Ite K a).go i H ∧ ∃ N : L2.St → Hp → Prop, (∀ σ' H', N σ' H' → ∃ m', m' < m ∧ W (i + 1) m' σ' H') ∧ ∀ x H', (Ite K a).yld i H x H' → g x σ H' fun σ2 H2 => tb { D with nx := N, ct := N, bk := D.nx } σ2 H2)) ∨
    (SqT K H a xs ∧ ∃ W : Nat → Nat → L2.St → Hp → Prop, (∃ m, W 0 m σ H) ∧ ∀ i m σ H, W i m σ H → ((IteT K a).stop i H ∧ D.nx σ H) ∨ ((IteT K a).go i H ∧ ∃ N : L2.St → Hp → Prop, (∀ σ' H', N σ' H' → ∃ m', m' < m ∧ W (i + 1) m' σ' H') ∧ ∀ x H', (IteT K a).yld i H x H' → g x σ H' fun σ2 H2 => tb { D with nx := N, ct := N, bk := D.nx } σ2 H2)) := by
  have turn : ∀ i x σ H1 H2, i < xs.length → Pv i σ H1 → YPair (fun i => some (.int (i : Nat))) (fun i => xs[i]?) i H1 x H2 → g x σ H2 fun σ2 H2 => tb { D with nx := Pv (i + 1), ct := Pv (i + 1), bk := D.nx } σ2 H2 := by
    rintro i v σ H1 H2 hi p ⟨T, x, y, rfl, hT, rfl, hx, hy⟩
    have ex : V.int (i : Nat) = x := Option.some.inj hx
    subst ex
    exact hs i y σ H1 T hy p hT
  rcases hn with hn | hn
  · exact .inl ⟨.inl (.inl hn), for_it walk_enum Pv h0 (fun i σ H' hi p => .inl (.inl (hl i σ H' hi p _ hn))) turn hd⟩
  · exact .inr ⟨.inl (.inl hn), for_it walk_enumT Pv h0 (fun i σ H' hi p => .inl (.inl (hl i σ H' hi p _ hn))) turn hd⟩
end BT

set_option Elab.async false
set_option linter.all false
set_option maxRecDepth 100000
set_option maxHeartbeats 4000000
namespace BT
open PySem PySem.Spec PyProof.Rows L2
/-! ### methods that stand, classes that make -/
structure MethOk (P : Program) (w : World) (K : PySem.W.Frag) (mg : Str → Option Value) (base : Heap) (CX : CXT) (k : Nat) (C : Addr) (m : Str) (ps : List Str) (sp : Sp) : Prop where
  ex : ∃ (f : Addr) (fd : FuncData), FnOk P w K mg base CX k f fd ps sp ∧ Meth K C m f ∧ Binds K fd ps []
structure MakeOk (P : Program) (w : World) (K : PySem.W.Frag) (mg : Str → Option Value) (base : Heap) (CX : CXT) (k : Nat) (C : Addr) (x : Str) (ps : List Str) (sp : Sp) : Prop where
  g : mg x = some (.ref C)
  ex : ∃ (f : Addr) (fd : FuncData), FnOk P w K mg base CX k f fd ps sp ∧ Mk K C f ∧ Binds K fd ps []
abbrev FnM (K : PySem.W.Frag) (x qual : Str) (st : Stmt) (f : Addr) (fd : FuncData) : Prop := FunD K x qual (defArgs st) (defBody st) (defScope st) [] [] f fd
/-- the answer of a method, a call where what is raised is wished for at the slots -/
def tMethS (C : Addr) (m : Str) (sp : Sp) (E : L2.St → XK) (ta : TE) (t : TA) : TE := fun σ H Q => ta σ H fun x H1 => ∃ a dx fs, x = .ref a ∧ H1 a = some (.ins C dx fs) ∧ fs.lookup m = none ∧ t σ H1 fun vs H2 => sp (x :: vs) H2 Q (E σ)
def tMakeS (C : Addr) (sp : Sp) (E : L2.St → XK) (t : TA) : TE := fun σ H Q => t σ H fun vs H1 => ∀ x dx, H1 x = none → H1 dx = none → dx ≠ x → sp (.ref x :: vs) (upd (upd H1 dx (.own x)) x (.ins C dx [])) (fun v H2 => v = .non ∧ Q (.ref x) H2) (E σ)
section
variable {X : Cx} {CX : CXT} {k j : Nat} {C : Addr} {ps : List Str} {sp : Sp} {x m : Str} {p pos apos : Pos} {e o : Expr} {es : List Expr} {ta : TE} {t : TA}
theorem pe_mX {E : XK} {pl : Sem Bool} (D : MethOk X.prog X.w X.K X.mg X.base CX k C m ps sp) (c : Cls X.K C) (he : PE X o ta) (hr : Room j X.A) (hx : Passes CX X E) (ha : PA X (e :: es) t) (hk : k ≤ j := by decide)
    (h1 : starEach (e :: es) X.env = (false, eval e X.env) :: starEach es X.env := by rfl) (h2 : (backTo pos (starEach es X.env)).any (·.1) = false := by rfl)
    (h3 : eval (.Call (.Attribute o m apos) (e :: es) [] pos) X.env = (do
      let v ← eval o X.env
      standAt apos.atName
      let (f, first) ← holding [v] (getMethod v m pl)
      callWith pos f first (backTo pos (starEach (e :: es) X.env)) (backToKw pos (keywordEach [] X.env))) := by rfl) :
    PE X (.Call (.Attribute o m apos) (e :: es) [] pos) (tMeth C m sp [] E ta t) := by
  obtain ⟨f, fd, F, hm, hb⟩ := D.ex
  exact pe_meth (pl := pl) he c hm F (hr.mono hk) hb .nil hx ha h1 h2 h3
theorem pe_m0X {E : XK} {pl : Sem Bool} (D : MethOk X.prog X.w X.K X.mg X.base CX k C m ps sp) (c : Cls X.K C) (he : PE X o ta) (hr : Room j X.A) (hx : Passes CX X E) (hk : k ≤ j := by decide)
    (h3 : eval (.Call (.Attribute o m apos) [] [] pos) X.env = (do
      let v ← eval o X.env
      standAt apos.atName
      let (f, first) ← holding [v] (getMethod v m pl)
      callWith pos f first (backTo pos (starEach [] X.env)) (backToKw pos (keywordEach [] X.env))) := by rfl) :
    PE X (.Call (.Attribute o m apos) [] [] pos) (tMeth C m sp [] E ta tNil) := by
  obtain ⟨f, fd, F, hm, hb⟩ := D.ex
  exact pe_meth0 (pl := pl) he c hm F (hr.mono hk) hb .nil hx h3
theorem pe_mkX {E : XK} (D : MakeOk X.prog X.w X.K X.mg X.base CX k C x ps sp) (hr : Room j X.A) (hg : Gl X x) (hx : Passes CX X E) (ha : PA X (e :: es) t) (hk : k + 1 ≤ j := by decide) (hdb : (x == ("__debug__" : Str)) = false := by decide)
    (h1 : starEach (e :: es) X.env = (false, eval e X.env) :: starEach es X.env := by rfl) (h2 : (backTo pos (starEach es X.env)).any (·.1) = false := by rfl) : PE X (.Call (.Name x p) (e :: es) [] pos) (tMake C sp [] E t) := by
  obtain ⟨f, fd, F, hm, hb⟩ := D.ex
  exact pe_make hm F (hr.mono hk) hg D.g hb .nil hx ha hdb h1 h2
theorem pe_mS {E : L2.St → XK} {pl : Sem Bool} (D : MethOk X.prog X.w X.K X.mg X.base CX k C m ps sp) (c : Cls X.K C) (he : PE X o ta) (hr : Room j X.A) (hx : ∀ σ, PassesAt CX X σ (E σ)) (ha : PA X (e :: es) t) (hk : k ≤ j := by decide)
    (h1 : starEach (e :: es) X.env = (false, eval e X.env) :: starEach es X.env := by rfl) (h2 : (backTo pos (starEach es X.env)).any (·.1) = false := by rfl)
    (h3 : eval (.Call (.Attribute o m apos) (e :: es) [] pos) X.env = (do
      let v ← eval o X.env
      standAt apos.atName
      let (f, first) ← holding [v] (getMethod v m pl)
      callWith pos f first (backTo pos (starEach (e :: es) X.env)) (backToKw pos (keywordEach [] X.env))) := by rfl) :
    PE X (.Call (.Attribute o m apos) (e :: es) [] pos) (tMethS C m sp E ta t) := by
  obtain ⟨f, fd, F, hm, hb⟩ := D.ex
  refine ⟨fun pins s σ H Q I h => PySem.W.methodCall_KW (pl := pl) (thn (he.run pins s σ H _ I h) fun u s1 out => ?_) h3⟩
  obtain ⟨y, H1, I1, ry, a, dx, fs, rfl, ea, l, q⟩ := out
  cases (show u = Value.ref a from ry)
  refine getmeth_ok I1 ea c hm l (PySem.W.callWith_K (first := [.ref a]) (h₀ := X.base) I.ok.mod.kin hm.kp (thn (ha.run pos pins s1 σ H1 _ I1 q) fun us s2 out => ?_) h1 h2)
  obtain ⟨vs, H2, I2, r, q2⟩ := out
  exact ⟨I2.kIn, run_fnSD (us := .ref a :: us) (vs := .ref a :: vs) F (hr.mono hk) hb .nil (hx σ) I2 (.cons rfl r) (by rw [List.append_nil]; exact q2)⟩
theorem pe_m0S {E : L2.St → XK} {pl : Sem Bool} (D : MethOk X.prog X.w X.K X.mg X.base CX k C m ps sp) (c : Cls X.K C) (he : PE X o ta) (hr : Room j X.A) (hx : ∀ σ, PassesAt CX X σ (E σ)) (hk : k ≤ j := by decide)
    (h3 : eval (.Call (.Attribute o m apos) [] [] pos) X.env = (do
      let v ← eval o X.env
      standAt apos.atName
      let (f, first) ← holding [v] (getMethod v m pl)
      callWith pos f first (backTo pos (starEach [] X.env)) (backToKw pos (keywordEach [] X.env))) := by rfl) :
    PE X (.Call (.Attribute o m apos) [] [] pos) (tMethS C m sp E ta tNil) := by
  obtain ⟨f, fd, F, hm, hb⟩ := D.ex
  refine ⟨fun pins s σ H Q I h => PySem.W.methodCall_KW (pl := pl) (thn (he.run pins s σ H _ I h) fun u s1 out => ?_) h3⟩
  obtain ⟨y, H1, I1, ry, a, dx, fs, rfl, ea, l, q⟩ := out
  cases (show u = Value.ref a from ry)
  refine getmeth_ok I1 ea c hm l ?_
  exact PySem.W.callWith_K0 (first := [.ref a]) I1.kIn hm.kp (run_fnSD (us := [.ref a]) (vs := [.ref a]) F (hr.mono hk) hb .nil (hx σ) I1 (.cons rfl .nil) q)
theorem pe_mkS {E : L2.St → XK} (D : MakeOk X.prog X.w X.K X.mg X.base CX k C x ps sp) (hr : Room j X.A) (hg : Gl X x) (hx : ∀ σ, PassesAt CX X σ (E σ)) (ha : PA X (e :: es) t) (hk : k + 1 ≤ j := by decide) (hdb : (x == ("__debug__" : Str)) = false := by decide)
    (h1 : starEach (e :: es) X.env = (false, eval e X.env) :: starEach es X.env := by rfl) (h2 : (backTo pos (starEach es X.env)).any (·.1) = false := by rfl) : PE X (.Call (.Name x p) (e :: es) [] pos) (tMakeS C sp E t) := by
  obtain ⟨f, fd, F, M, hb⟩ := D.ex
  refine ⟨fun pins s σ H Q I h => wpAny_Call_Name_kw (ld_glob I hg D.g (PySem.W.callWith_K (h₀ := X.base) I.ok.mod.kin M.kp (thn (ha.run pos pins s σ H _ I h) fun us s1 out => ?_) h1 h2) hdb)⟩
  obtain ⟨vs, H1, I1, r, q⟩ := out
  refine ⟨I1.kIn, ?_⟩
  have hq := q (s1.heap.objs.size + 1) s1.heap.objs.size (I1.hok.fresh (Nat.le_succ _)) (I1.hok.fresh (Nat.le_refl _)) (Nat.ne_of_lt (Nat.lt_succ_self _))
  have I2 := Inv.made (C := C) I1
  have r2 : Vals (V.ref (s1.heap.objs.size + 1) :: vs) (Value.ref (s1.heap.objs.size + 1) :: us) := .cons rfl r
  have len : (Value.ref (s1.heap.objs.size + 1) :: us).length = ps.length := by
    rw [← r2.length]
    exact F.len _ _ _ _ hq
  have bt := hb _ (Value.ref (s1.heap.objs.size + 1) :: us) I2.kIn (by rw [List.append_nil]; exact len)
  rw [List.append_nil] at bt
  refine wpAny_call (make_map (f := f) I1.kIn M.makes M.init (beq_iff_eq.mp M.fn) (codeAny_mono (F.run _ X.stack _ _ ⟨Value.ref (s1.heap.objs.size + 1) :: us, []⟩ (Value.ref (s1.heap.objs.size + 1) :: us) _ _ (E σ) ((hr.mono hk).make C us []) (I2.env0.make C us []) bt r2 hq) fun r s' out => ?_))
  cases r with
  | error er => exact hx σ pins _ _ er s' I2 out
  | ok fl =>
    cases fl with
    | ret u =>
      obtain ⟨v, H', I3, rv, ev, q3⟩ := I2.after out
      subst ev
      exact ⟨rv, ⟨V.ref (s1.heap.objs.size + 1), H', I3, rfl, q3⟩⟩
    | next => exact False.elim out
    | brk => exact False.elim out
    | cont => exact False.elim out
end
end BT

set_option Elab.async false
set_option linter.all false
set_option maxRecDepth 100000
set_option maxHeartbeats 4000000
namespace BT
open PySem PySem.Spec PyProof.Rows L2
theorem ints_at : ∀ {vs : List Value} {ns : List Int}, IntsAre vs ns → ∀ {i : Nat} {v : Value}, vs[i]? = some v → ∃ t, v = .int (ns.getD i 0) t
  | _, _, .nil, i, v, h => by simp at h
  | _, _, .cons n t r, 0, v, h => ⟨t, (Option.some.inj h).symm⟩
  | _, _, .cons n t r, i + 1, v, h => ints_at r (i := i) h
theorem any_ints : ∀ ns : List Int, (List.range ns.length).any (fun i => ns.getD i 0 != 0) = ns.any (· != 0)
  | [] => rfl
  | n :: ns => by
    rw [List.length_cons, List.range_succ_eq_map, List.any_cons, List.any_map, List.any_cons, ← any_ints ns]
    rfl
/-- any of a list of whole numbers -/
def rAnyI (K : PySem.W.Frag) : List V → Hp → VK → Prop := fun vs H Q => ∃ (a : Addr) (ns : List Int), vs = [V.ref a] ∧ SqL K H a (ns.map V.int) ∧ Q (.bl (ns.any (· != 0))) H
theorem cr_anyI {X : Cx} (hc : X.calm = true) : CallR X (.builtin "any") (rAnyI X.K) := by
  intro pins s σ H vs us Q I r h
  obtain ⟨a, ns, rfl, hs, q⟩ := h
  obtain ⟨u, rfl, r1⟩ := vals1 r
  cases (show u = Value.ref a from r1)
  obtain ⟨its, rv, hl, _⟩ := I.list hs
  have hi : IntsAre its ns := rv.ints
  have tr : TruthOf X.prog X.w X.A.in1 (fun i v => its.toArray[i]? = some v) (fun i => ns.getD i 0 != 0) := fun i v s Q E hv hq => by
    have hv : its.toArray[i]? = some v := hv
    rw [List.getElem?_toArray] at hv
    obtain ⟨t, rfl⟩ := ints_at hi hv
    exact truthy_int hq
  refine call_any_walk (iter_any hl.isList fun s2 e2 st hne => ?_)
  subst e2
  refine ⟨_, _, _, _, _, _, _, rfl, Walks.list (A := X.A.in1) (I.ok.hd hc) _ a hne its.toArray, st, tr, fun h' tk hk => ⟨.bl _, H, I.kept fun b o eo => hk b o (fun hm => ?_) (Heap.get?_push_of_some _ eo), ?_, q⟩⟩
  · rcases List.mem_cons.mp hm with e | hm
    · exact absurd (e ▸ Heap.lt_size eo) (Nat.lt_irrefl _)
    · cases hm
  · show Value.bool _ = Value.bool _
    rw [← any_ints, List.size_toArray, hi.length]
end BT

set_option Elab.async false
set_option linter.all false
set_option maxRecDepth 100000
set_option maxHeartbeats 4000000
namespace BT
open PySem PySem.W PySem.SeqAt PySem.Calls PyProof.Rows
section
variable {prog : Program} {w : World} {A : Around} {E : Value → Shared → Prop} {s : Shared}
theorem call_tup_lt {Q : Value → Shared → Prop} {l b : Addr} {items items2 : Array Value} {e r : Nat → Bool} (hl : s.heap.IsTuple l items) (hb : s.heap.IsTuple b items2)
    (he : ∀ j (h1 : j < items.size) (h2 : j < items2.size), EqAt A.in1 s items[j] items2[j] (e j)) (hr : ∀ j (h1 : j < items.size) (h2 : j < items2.size), e j = false → RcLt A.in1 s items[j] items2[j] (r j))
    (h : Q (.bool (firstLt e r (decide (items.size < items2.size)) (List.range (min items.size items2.size)))) s) : wpAny (model prog w) A (call (.builtin "tuple.__lt__") [.ref l, .ref b]) Q E s := by
  obtain ⟨⟨c1, d1, t1, sl1⟩, ho, hc, n, hd⟩ := id hl
  obtain ⟨⟨c2, d2, t2, sl2⟩, ho2, hc2, n2, hd2⟩ := id hb
  simp only at hc hd hc2 hd2
  subst hc hd hc2 hd2
  exact call_meets F.slot_tuple_lt ⟨_, ho, rfl⟩ F.entry_tuple_lt (F.args_tuple_lt_2 _ _) (tuple_ltAt l b items items2 n n2 d1 d2 sl1 sl2 e r) ⟨ho, ho2, he, hr, h⟩
/-- a tuple against a tuple, in whatever way the sort compares -/
theorem one_lt_tup {f : Bool} {xs ys : List PyData} {a b : Value} {as bs : List Addr} {Q : Bool → Shared → Prop} (ra : Reads s.heap a (.tuple xs) as) (rb : Reads s.heap b (.tuple ys) bs) (h : alikeAll xs ys = true)
    (hu : A.units + min (PyData.tuple xs).depth (PyData.tuple ys).depth < cLine) (hq : Q (dataLt (.tuple xs) (.tuple ys)) s) : wpAny (model prog w) A (oneLt' f a b) Q E s := by
  cases f with
  | false => exact oneLt_alike (fun h => by cases h) ra rb (by simpa [alike] using h) (by simp) hu hq
  | true =>
    cases ra with
    | @tuple l o vs n _ as1 h1 h2 h3 h4 =>
      cases rb with
      | @tuple l' o' vs' n' _ bs1 k1 k2 k3 k4 =>
        have n1 : vs.size = xs.length := by simpa using ReadsAll.length _ _ _ h4
        have n2 : vs'.size = ys.length := by simpa using ReadsAll.length _ _ _ k4
        rw [dataLt_tuple, ← firstLt_toks xs ys h, ← n1, ← n2] at hq
        rw [oneLt'_eq]
        simp only [if_true]
        refine wpAny_bind (wpAny_cRoomFor (room_here hu) (wpAny_bind (wpAny_callSpecialIfBound?_slot (T := "tuple") ⟨_, h1, h2⟩ F.slot_tuple_lt
          (call_tup_lt (e := pairEq xs ys) (r := fun j => dataLt (xs.getD j .none) (ys.getD j .none)) ⟨_, h1, h2, _, h3⟩ ⟨_, k1, k2, _, k3⟩ (fun j j1 j2 => ?_) (fun j j1 j2 hj => ?_) ?_))))
        · have q := eqAt_alikeAll xs ys A.in1 s vs.toList vs'.toList _ _ h4 k4 h (room_in hu) j (by simpa using j1) (by simpa using j2)
          simpa using q
        · have q := rcLt_alikeAll xs ys A.in1 s vs.toList vs'.toList _ _ h4 k4 h (room_in hu) j (by simpa using j1) (by simpa using j2) hj
          simpa using q
        · exact wpAny_truthy_bool hq
end
section
variable {M : Model} {A : Around} {E : Value → Shared → Prop} {s : Shared}
theorem mapM_each {α β : Type} {f : α → Sem β} {R : α → β → Prop} : ∀ (l : List α) {Q : List β → Shared → Prop}, (∀ v ∈ l, ∃ r, R v r ∧ ∀ (Q' : β → Shared → Prop), Q' r s → wpAny M A (f v) Q' E s) → (∀ rs : List β, EachIs R l rs → Q rs s) → wpAny M A (l.mapM f) Q E s
  | [], _, _, h => by
    rw [List.mapM_nil]
    exact wpAny_pure (h [] .nil)
  | x :: l, Q, hf, h => by
    rw [List.mapM_cons]
    obtain ⟨r, hr, hx⟩ := hf x (List.mem_cons_self ..)
    exact wpAny_bind (hx _ (wpAny_bind (mapM_each l (Q := fun bs s' => wpAny M A (pure (r :: bs)) Q E s') (fun v hv => hf v (List.mem_cons_of_mem _ hv)) fun rs hrs => wpAny_pure (h (r :: rs) (.cons hr hrs)))))
end
section
variable {prog : Program} {w : World} {A : Around} {s : Shared}
/-- tuples of any lengths that are alike can be sorted -/
theorem sorts_tups {vs : List Value} {ds : List PyData} (e : EachIs (fun v d => ∃ as, Reads s.heap v d as) vs ds) (hal : AllAlike ds) (ht : ∀ d, d ∈ ds → ∃ xs, d = .tuple xs) (hu : ∀ d, d ∈ ds → A.units + d.depth < cLine) : SortsAt prog w A s (dataKind s.heap ds) vs := by
  by_cases full : ∀ d, d ∈ ds → ∃ x r, d = .tuple (x :: r)
  · exact SortsAt.data e hal (.inl full) hu
  -- one at least is empty
  have room : ∀ {d d' : PyData}, d ∈ ds → A.units + min d.depth d'.depth < cLine := fun {d d'} hd => Nat.lt_of_le_of_lt (Nat.add_le_add_left (Nat.min_le_left _ _) _) (hu d hd)
  have lt : ∀ f : Bool, ∀ (E : Value → Shared → Prop) (x y : Value) (a b : (dataKind s.heap ds).α) {Q : Bool → Shared → Prop}, (dataKind s.heap ds).keyOf x = some a → (dataKind s.heap ds).keyOf y = some b → Q ((dataKind s.heap ds).blt a b) s → wpAny (model prog w) A (oneLt' f x y) Q E s := by
    intro f E x y a b Q ha hb hq
    obtain ⟨d, as, hd, ra, rfl⟩ := dataKind_inv ha
    obtain ⟨d', as', hd', rb, rfl⟩ := dataKind_inv hb
    obtain ⟨xs, rfl⟩ := ht d hd
    obtain ⟨ys, rfl⟩ := ht d' hd'
    exact one_lt_tup ra rb (by simpa [alike] using hal _ hd _ hd') (room hd) hq
  refine ⟨fun v hv => ?_, ?_⟩
  · obtain ⟨d, hd, as, r⟩ := e.left v hv
    exact ⟨_, dataKind_some hal hd r⟩
  have firsts : ∀ v, v ∈ vs → ∃ r : Option Value, (∃ d as, d ∈ ds ∧ Reads s.heap v d as ∧ (r.isSome = true ↔ ∃ x t, d = .tuple (x :: t))) ∧ ∀ {E : Value → Shared → Prop} (Q' : Option Value → Shared → Prop), Q' r s → wpAny (model prog w) A (firstOfTuple' v) Q' E s := by
    intro v hv
    obtain ⟨d, hd, as, r⟩ := e.left v hv
    obtain ⟨xs, rfl⟩ := ht d hd
    have r' := r
    cases r with
    | @tuple l o vs n _ as1 h1 h2 h3 h4 =>
      refine ⟨vs[0]?, ⟨_, _, hd, r', ?_⟩, fun {E} Q' hq => ?_⟩
      · have n1 : vs.size = xs.length := by simpa using ReadsAll.length _ _ _ h4
        cases xs with
        | nil =>
          have : vs[0]? = none := by simp at n1 ⊢; exact n1
          rw [this]
          exact ⟨fun h => absurd h (by decide), fun ⟨x, t, h⟩ => PyData.noConfusion h fun h => by cases h⟩
        | cons x t =>
          have h0 : 0 < vs.size := by rw [n1]; simp
          rw [Array.getElem?_eq_getElem h0]
          exact ⟨fun _ => ⟨x, t, rfl⟩, fun _ => rfl⟩
      · rw [kas_first_eq]
        refine wpAny_bind (wpAny_typeOf (T := "tuple") ⟨_, h1, h2⟩ ?_)
        rw [if_neg (by simp)]
        exact wpAny_bind (listItems_at h1 h3 (wpAny_pure hq))
  cases ds with
  | nil => exact absurd (fun d hd => by cases hd) full
  | cons d0 ds0 =>
    obtain ⟨xs0, e0⟩ := ht d0 (List.mem_cons_self ..)
    cases vs with
    | nil => cases e
    | cons v0 vs0 =>
      have e' := e
      cases e with
      | cons h0 t0 =>
        obtain ⟨as0, rd0⟩ := h0
        have notall : ∀ rs : List (Option Value), EachIs (fun v r => ∃ d as, d ∈ d0 :: ds0 ∧ Reads s.heap v d as ∧ (r.isSome = true ↔ ∃ x t, d = .tuple (x :: t))) (v0 :: vs0) rs → ¬ (rs.toArray.all (·.isSome)) = true := by
          intro rs hrs hall
          refine full fun d hd => ?_
          have key : ∀ {vs : List Value} {ds : List PyData} {rs : List (Option Value)}, EachIs (fun v d => ∃ as, Reads s.heap v d as) vs ds → EachIs (fun v r => ∃ d as, d ∈ d0 :: ds0 ∧ Reads s.heap v d as ∧ (r.isSome = true ↔ ∃ x t, d = .tuple (x :: t))) vs rs → (∀ d ∈ ds, d ∈ d0 :: ds0) → (∀ r ∈ rs, r.isSome = true) → ∀ d ∈ ds, ∃ x t, d = .tuple (x :: t) := by
            intro vs ds rs h1
            induction h1 generalizing rs with
            | nil => intro _ _ _ d hd; cases hd
            | cons hr _ ih =>
              intro h2 hm hsome d hd
              cases h2 with
              | cons q t =>
                rcases List.mem_cons.mp hd with rfl | hd
                · obtain ⟨d2, as2, m2, r2, i2⟩ := q
                  obtain ⟨as1, r1⟩ := hr
                  have ed : d2 = d := alike_unique _ _ _ _ _ (hal _ m2 _ (hm d (List.mem_cons_self ..))) r2 r1
                  rw [← ed]
                  exact i2.mp (hsome _ (List.mem_cons_self ..))
                · exact ih t (fun d hd => hm d (List.mem_cons_of_mem _ hd)) (fun r hr => hsome r (List.mem_cons_of_mem _ hr)) d hd
          refine key e' hrs (fun d hd => hd) (fun r hr => ?_) d hd
          simp only [List.all_toArray, List.all_eq_true] at hall
          exact hall r hr
        have kinds : ∀ (E : Value → Shared → Prop) {Q : SortKind → Shared → Prop}, Q (if xs0.isEmpty = true then oneType' else general') s → wpAny (model prog w) A (keyKind' (v0 :: vs0).toArray) Q E s := by
          intro E Q hq
          rw [keyKind'_eq, List.mapM_toArray, map_eq_pure_bind]
          refine wpAny_bind (wpAny_bind (mapM_each (R := fun v r => ∃ d as, d ∈ d0 :: ds0 ∧ Reads s.heap v d as ∧ (r.isSome = true ↔ ∃ x t, d = .tuple (x :: t))) _ (fun v hv => ?_) fun rs hrs => wpAny_pure ?_))
          · obtain ⟨r, h1, h2⟩ := firsts v hv
            exact ⟨r, h1, h2⟩
          · rw [if_neg (notall rs hrs)]
            cases hrs with
            | cons q t =>
              obtain ⟨d2, as2, m2, r2, i2⟩ := q
              have ed : d2 = d0 := alike_unique _ _ _ _ _ (hal _ m2 _ (List.mem_cons_self ..)) r2 rd0
              subst ed
              subst e0
              rename_i r rs2
              cases xs0 with
              | nil =>
                have hr0 : r = none := by
                  cases hr : r with
                  | none => rfl
                  | some z =>
                    obtain ⟨x, t, e⟩ := i2.mp (by rw [hr]; rfl)
                    cases e
                subst hr0
                rw [if_neg (by simp)]
                rw [oneTypeOnly'_eq, List.mapM_toArray, map_eq_pure_bind]
                refine wpAny_bind (wpAny_bind (wpAny_bind (kas_mapM (r := Value.type "tuple") _ (fun v hv Q' hq' => ?_) (wpAny_pure ?_))))
                · obtain ⟨d, hd, as, rr⟩ := e'.left v hv
                  obtain ⟨xs, rfl⟩ := ht d hd
                  cases rr with
                  | @tuple l o ws n _ as1 h1 h2 h3 h4 => exact wpAny_typeOf (T := "tuple") ⟨_, h1, h2⟩ hq'
                · have hall : ((List.map (fun _ => Value.type "tuple") (v0 :: vs0)).toArray.all fun x => x == Value.type "tuple") = true := by
                    simp only [List.all_toArray, List.all_map, List.all_eq_true]
                    intro _ _
                    rfl
                  have h00 : (List.map (fun _ => Value.type "tuple") (v0 :: vs0)).toArray[0]? = some (Value.type "tuple") := by simp
                  rw [h00]
                  simp only [hall, if_true]
                  exact wpAny_pure (wpAny_pure hq)
              | cons x0 t0' =>
                have hr0 : r.isSome = true := i2.mpr ⟨x0, t0', rfl⟩
                obtain ⟨z, rfl⟩ := Option.isSome_iff_exists.mp hr0
                rw [if_pos (by simp)]
                exact wpAny_pure hq
        refine ⟨if xs0.isEmpty = true then oneType' else general', ?_, fun _ E Q hq => kinds E hq⟩
        cases xs0 with
        | nil =>
          intro E x y a b Q ha hb hq
          show wpAny (model prog w) A (oneLt' true x y) Q E s
          exact lt true E x y a b ha hb hq
        | cons x t =>
          intro E x y a b Q ha hb hq
          show wpAny (model prog w) A (oneLt' false x y) Q E s
          exact lt false E x y a b ha hb hq
end
end BT
namespace BT
open PySem PySem.Spec PySem.W PySem.SeqAt PyProof.Rows L2
/-- data sorted by the order of tuples -/
noncomputable def sortD (ds : List PyData) : List PyData := ds.mergeSort (sortLe (listOrd itemOrd) false keyToks)
/-- tuples of whole numbers -/
def TupD (d : PyData) : Prop := ∃ ns : List Int, d = .tuple (ns.map PyData.int)
theorem alike_ints : ∀ a b : List Int, alikeAll (a.map PyData.int) (b.map PyData.int) = true
  | [], _ => by simp [alikeAll]
  | _ :: _, [] => by simp [alikeAll]
  | x :: a, y :: b => by
    rw [List.map_cons, List.map_cons, alikeAll, alike, alike_ints a b]; rfl
theorem tups_alike {ds : List PyData} (h : ∀ d ∈ ds, TupD d) : AllAlike ds := fun d hd e he => by
  obtain ⟨a, rfl⟩ := h d hd
  obtain ⟨b, rfl⟩ := h e he
  simp only [alike]
  exact alike_ints a b
theorem tup_depth {d : PyData} (h : TupD d) : d.depth ≤ 1 := by
  obtain ⟨a, rfl⟩ := h
  have : PyData.depthAll (a.map PyData.int) ≤ 0 := by
    induction a with
    | nil => simp [PyData.depthAll]
    | cons x a ih =>
      rw [List.map_cons]
      simp only [PyData.depthAll, PyData.depth]
      omega
  simp only [PyData.depth]
  omega
section
variable {X : Cx}
/-- sorted(xs), xs a list of tuples of whole numbers of any lengths -/
def rSortedD (K : PySem.W.Frag) : List V → Hp → VK → Prop := fun vs H Q => ∃ (a : Addr) (xs : List V) (ds : List PyData), vs = [V.ref a] ∧ H a = some (.lst xs) ∧ DvA H xs ds ∧ (∀ d ∈ ds, TupD d) ∧ ∀ (ys : List V) (p : Addr), DvA H ys (sortD ds) → H p = none → Q (.ref p) (upd H p (.lst ys))
theorem each_of {H : Hp} : ∀ {xs : List V} {ds : List PyData} {vs : List Value}, DvA H xs ds → Vals xs vs → EachIs (fun v d => ∃ x, RelV x v ∧ Dv H x d) vs ds
  | _, _, _, .nil, .nil => .nil
  | _, _, _, .cons h1 h2, .cons r1 r2 => .cons ⟨_, r1, h1⟩ (each_of h2 r2)
theorem of_each {H : Hp} : ∀ {ds : List PyData} {vs : List Value}, EachIs (fun v d => ∃ x, RelV x v ∧ Dv H x d) vs ds → ∃ xs, Vals xs vs ∧ DvA H xs ds
  | _, _, .nil => ⟨[], .nil, .nil⟩
  | _, _, .cons h t => by
    obtain ⟨x, r, d⟩ := h
    obtain ⟨xs, rs, ds⟩ := of_each t
    exact ⟨x :: xs, .cons r rs, .cons d ds⟩
theorem each_and {α β : Type} {R : α → β → Prop} {S : β → Prop} : ∀ {as : List α} {bs : List β}, EachIs R as bs → (∀ b ∈ bs, S b) → EachIs (fun a b => R a b ∧ S b) as bs
  | _, _, .nil, _ => .nil
  | _, _, .cons h t, hs => .cons ⟨h, hs _ (List.mem_cons_self ..)⟩ (each_and t fun b hb => hs b (List.mem_cons_of_mem _ hb))
theorem cr_sortedD (hu : X.A.units + 64 < cLine) : CallR X (.builtin "sorted") (rSortedD X.K) := by
  intro pins s σ H vs us Q I r h
  obtain ⟨a, xs, ds, rfl, ha, hA, ht, q⟩ := h
  obtain ⟨u, rfl, r1⟩ := vals1 r
  cases (show u = Value.ref a from r1)
  obtain ⟨its, rv, pl, hz⟩ := I.list (.inl (.inl ha))
  have lv := rv.length
  have I2 : Inv X pins σ H { s with heap := sortingHeap (copyHeap s.heap its) (s.heap.objs.size + 1) its, toks := s.toks } := I.kept fun b o e => sorting_copy_old e
  have each := each_of hA rv
  have reads : EachIs (fun v d => ∃ as, Reads (sortingHeap (copyHeap s.heap its) (s.heap.objs.size + 1) its) v d as) its ds := each.mono fun v d h => by
    obtain ⟨x, rx, dx⟩ := h
    obtain ⟨as, h1, _⟩ := Dv.reads I2 d x v dx rx
    exact ⟨as, h1⟩
  have hal := tups_alike ht
  have S : SortsAt X.prog X.w X.A.in1.in1 { s with heap := sortingHeap (copyHeap s.heap its) (s.heap.objs.size + 1) its } (dataKind (sortingHeap (copyHeap s.heap its) (s.heap.objs.size + 1) its) ds) its :=
    sorts_tups (s := { s with heap := sortingHeap (copyHeap s.heap its) (s.heap.objs.size + 1) its }) reads hal (fun d hd => by obtain ⟨ns, e⟩ := ht d hd; exact ⟨_, e⟩) fun d hd => by
      have := tup_depth (ht d hd)
      show X.A.units + 1 + 1 + d.depth < cLine
      omega
  refine sorted_vals pl.isList S (by rw [← lv]; exact hz) ?_
  have keys : EachIs (fun v d => (dataKind (sortingHeap (copyHeap s.heap its) (s.heap.objs.size + 1) its) ds).keyOf v = some (keyToks d)) its ds := (each_and reads (S := fun d => d ∈ ds) fun d hd => hd).mono fun v d h => by
    obtain ⟨⟨as, r⟩, hd⟩ := h
    exact dataKind_some hal hd r
  have out := sortVals_each (κ := dataKind (sortingHeap (copyHeap s.heap its) (s.heap.objs.size + 1) its) ds) (rev := false) keyToks each keys
  obtain ⟨ys, ry, hy⟩ := of_each out
  obtain ⟨ep, he⟩ := PyProof.Rows.sortedAll_at s.heap its (sortVals (dataKind (sortingHeap (copyHeap s.heap its) (s.heap.objs.size + 1) its) ds) false its its).toArray
  refine ⟨.ref _, upd H (s.heap.objs.size + 1) (.lst ys), I.laid (t' := s.toks) (fun _ _ => PyProof.Rows.sortedAll_old) (Nat.le_succ _) ⟨?_, _, ep, ry, he⟩, rfl, q ys _ hy (I.hok.fresh (Nat.le_succ _))⟩
  rw [ry.length, sortVals_length false rfl, ← lv]
  exact hz
end
end BT

set_option Elab.async false
set_option linter.all false
set_option maxRecDepth 100000
set_option maxHeartbeats 4000000
namespace BT
open PySem PySem.Spec PySem.Calls PyProof.Rows L2
section
variable {X : Cx}
/-- sorted(t), t a tuple of whole numbers -/
def rSortedTI (K : PySem.W.Frag) : List V → Hp → VK → Prop := fun vs H Q => ∃ (a : Addr) (ns : List Int), vs = [V.ref a] ∧ H a = some (.tup (ns.map V.int)) ∧ ∀ (ns' : List Int) (p : Addr), ns'.Perm ns → ns'.Pairwise (· ≤ ·) → H p = none → Q (.ref p) (upd H p (.lst (ns'.map V.int)))
theorem cr_sortedTI : CallR X (.builtin "sorted") (rSortedTI X.K) := by
  intro pins s σ H vs us Q I r h
  obtain ⟨a, ns, rfl, ha, q⟩ := h
  obtain ⟨u, rfl, r1⟩ := vals1 r
  cases (show u = Value.ref a from r1)
  obtain ⟨its, rv, tp, hz⟩ := I.tuple (.inl (.inl ha))
  have hi := rv.ints
  have lv := rv.length
  have lim : its.length ≤ sizeLine := by rw [← lv]; exact hz
  obtain ⟨o, ho, hc, n, hd⟩ := id tp
  refine Calls.call_function_entry kind_sorted plain_sorted entry_sorted (args_sorted1 _) ?_
  unfold Builtin.«sorted»
  refine wpAny_bind (m := checkCount "sorted" 1 1 _) (wpAny_pure (wpAny_bind (wpAny_collect_seq a (.inr rfl) ho hc hd (fun h1 keep => ?_) (by rw [List.size_toArray]; exact lim))))
  have I1 : Inv X pins σ H { s with heap := h1, toks := s.toks } := I.kept keep
  show wpAny _ _ _ _ _ { s with heap := h1, toks := s.toks }
  generalize ({ s with heap := h1, toks := s.toks } : Shared) = t1 at I1 ⊢
  have el : its.toArray.toList = its := by simp
  rw [el]
  refine wpAny_bind (wpAny_newList ?_ lim)
  have fresh : H t1.heap.objs.size = none := I1.hok.fresh (Nat.le_refl _)
  have g2 : (t1.heap.push (seqObj "list" its.toArray 0)).get? t1.heap.objs.size = some (seqObj "list" its.toArray 0) := Heap.get?_push_size _ rfl
  have I2 : Inv X pins σ (upd H t1.heap.objs.size (.lst (ns.map V.int))) { t1 with heap := t1.heap.push (seqObj "list" its.toArray 0), toks := t1.toks } :=
    I1.laid (fun b o e => Heap.get?_push_of_some _ e) (Nat.le_refl _) ⟨hz, its, 0, rv, g2⟩
  show wpAny _ _ _ _ _ { t1 with heap := t1.heap.push (seqObj "list" its.toArray 0), toks := t1.toks }
  generalize ha2 : t1.heap.objs.size = b at fresh g2 I2 ⊢
  generalize hs2 : ({ t1 with heap := t1.heap.push (seqObj "list" its.toArray 0), toks := t1.toks } : Shared) = t2 at I2 ⊢
  have e2 : t2.heap = t1.heap.push (seqObj "list" its.toArray 0) := by rw [← hs2]
  rw [← e2] at g2
  refine wpAny_bind (wpAny_holding (wpAny_call_entry slot_list_sort ⟨_, g2, rfl⟩ entry_list_sort (SrtO.list_sort_ord SrtO.swo_int g2 lim (fun h2 => SrtO.ints_sortable hi h2) fun out h1 h2 => ⟨_, rfl, ?_⟩) (args_list_sort _)))
  obtain ⟨k1, k2, k3⟩ := SrtO.ints_out hi h1 h2
  obtain ⟨ep, he⟩ := PyProof.Rows.sortedHeap_at (vs := its) (out := out.toArray) g2
  have hlen : ((out.map SrtO.iv).map V.int).length ≤ sizeLine := by
    rw [List.length_map, k2.length_eq]
    rw [List.length_map] at hz
    exact hz
  refine wpAny_pure ⟨_, rfl, .ref b, upd (upd H b (.lst (ns.map V.int))) b (.lst ((out.map SrtO.iv).map V.int)), I2.write (e := b) (t' := t2.toks) (by rw [upd_same]; trivial) (.inl rfl) (fun c u hb hu => ?_) ⟨_, he⟩ ⟨hlen, out, ep, vals_of_ints k1, he⟩, rfl, ?_⟩
  · rw [PyProof.Rows.sortedHeap_old hb (Heap.lt_size hu)]
    exact hu
  · rw [upd_upd]
    exact q _ b k2 k3 fresh
end
/-! ### the order of sorted tuples is one -/
theorem sortD_perm (ds : List PyData) : (sortD ds).Perm ds := List.mergeSort_perm _ _
end BT

set_option Elab.async false
set_option linter.all false
set_option maxRecDepth 100000
set_option maxHeartbeats 4000000
namespace BT
open PySem PySem.Spec PyProof.Rows L2
/-! ### try with more than one clause 'except x as n' -/
/-- the clauses, and what they wish, each behind those ahead of it -/
inductive Clauses (X : Cx) (Wout : WX) : List ExceptHandler → (Ends → WX) → Prop
  | nil : Clauses X Wout [] fun _ => Wout
  | cons {x n : Str} {c : Value} {i : Nat} {ts : Addr → Value → Option Addr → TS} {b₀ : Stmt} {suite : List Stmt} {np pos' : Pos} {hds : List ExceptHandler} {W : Ends → WX} (hi : X.N[i]? = some n) (hln : X.env.kindOf n = some .local) (hc : Names X x c)
      (hsu : ∀ (a : Addr) (oe : Obj) (cls : Value) (d : Option Addr) (pn : List (Addr × Obj)), Zc cls d oe → (∃ vs, oe.data = .fields vs) → PSs (X.suite a ((a, oe) :: pn)) (b₀ :: suite) (ts a cls d)) (r : Clauses X Wout hds W) :
      Clauses X Wout (.ExceptHandler (some (.Name x np)) (some n) (b₀ :: suite) pos' :: hds) fun D => wAs X.K c i ts (W D) D
/-- an exception that has come down to the clauses -/
structure Down (X : Cx) (pins : List (Addr × Obj)) (σ : L2.St) (H : Hp) (cls : Value) (d : Option Addr) (B : Heap) (a : Addr) (sI s : Shared) : Prop where
  inv : Inv X pins σ H sI
  nb : ∀ b o, sI.heap.get? b = some o → b ∉ frs X.stack → B.get? b = some o
  up : sI.heap.UpToSlots s.heap
  na : H a = none
  os : s.os = sI.os
  ag : AllBare s.gens
  fl : HandSPX.FlyingZ B (X.env :: X.outer) a (Zc cls d) s.heap
section
variable {X : Cx} {pins : List (Addr × Obj)} {σ : L2.St} {H : Hp} {cls : Value} {d : Option Addr} {B : Heap} {a : Addr} {sI s : Shared} {Wout : WX}
theorem Down.now (q : Down X pins σ H cls d B a sI s) : Inv X pins σ H s := q.inv.landed q.nb q.fl.1 q.up q.os q.ag
theorem Down.obj (q : Down X pins σ H cls d B a sI s) (hf : X.env.frame = some X.env.locals) : ∃ oe vs, s.heap.get? a = some oe ∧ Zc cls d oe ∧ oe.data = .fields vs ∧ a ≠ X.env.locals ∧ a ∉ X.fs := by
  obtain ⟨oe, vs, e, z, dt⟩ := q.fl.there
  have no : a ∉ frs (X.env :: X.outer) := fun hm => by
    obtain ⟨_, o2, e2, bad⟩ := q.fl.2.2.1.mem hm
    rw [e] at e2
    cases e2
    exact bad _ dt
  refine ⟨oe, vs, e, z, dt, fun h => no ?_, fun h => no ?_⟩
  · exact List.mem_filterMap.mpr ⟨X.env, List.mem_cons_self, by rw [hf, h]⟩
  · obtain ⟨v, hv, p⟩ := List.mem_filterMap.mp h
    exact List.mem_filterMap.mpr ⟨v, List.mem_cons_of_mem _ hv, p⟩
theorem Down.rest {D : Ends} (ok : X.Ok) (hs : X.stack = X.env :: X.outer) (hf : X.env.frame = some X.env.locals) (hN : X.N.Nodup) (tk : Takes X Wout) {hds : List ExceptHandler} {W : Ends → WX} (hh : Clauses X Wout hds W) :
    ∀ {s : Shared}, Down X pins σ H cls d B a sI s → W D cls d σ H → wpAny (model X.prog X.w) X.A (handleBy (.ref a) X.env hds) (SP X pins D) X.xe s := by
  induction hh with
  | nil =>
    intro s q w
    obtain ⟨oe, vs, T, oT, ty, he, hz, hd, h1, hr⟩ := q.fl.2.2.2
    refine wpAny_handleBy_nil ?_
    unfold PySem.passOn
    refine wpAny_bind (wpAny_field he hd h1 ?_)
    rw [if_neg (show ¬ ((Value.ref T == Value.none) = true) from by simp)]
    have last : wpAny (model X.prog X.w) X.A (setFlight (.ref a) X.env.frame) (fun _ s4 => wpAny (model X.prog X.w) X.A (throw (.ref a) : Sem Flow) (SP X pins D) X.xe s4) X.xe s := by
      rw [hf]
      exact HandSPX.setFlight_upZ q.fl fun h4 held up4 => wpAny_throw (tk _ _ ⟨a, B, sI, pins, σ, H, cls, d, rfl, q.inv, q.nb, q.up.trans up4, .inr (.inr (by rw [hs]; exact held)), q.na, q.os, q.ag, w⟩)
    first
      | exact wpAny_bind (wpAny_pure (wpAny_bind last))
      | exact wpAny_bind last
  | @cons x n c i ts b₀ suite np pos' hds W hi hln hc hsu r ih =>
    intro s q w
    obtain ⟨b, hb, yes, no⟩ := w
    obtain ⟨oe, vs, e, z, dt, nL, nF⟩ := q.obj hf
    have inS := q.now.suite e dt q.na nL nF
    have ty : PySem.W.Looks (model X.prog X.w) s.heap (typeOf (.ref a)) cls := fun A Q E s k p => wpAny_typeOf_ref (k _ _ e) (by rw [z.1]; exact p)
    have ask : ∀ {Q : Value → Shared → Prop} {E : Value → Shared → Prop}, Q c s → wpAny (model X.prog X.w) (X.A.mark (some (.ref a))) (eval (.Name x np) X.env) Q E s := fun {Q E} p => by
      rcases hc with ⟨g, nd, m | ⟨m, bt, nn⟩⟩
      · exact ld_glob (X := X.suite a ((a, oe) :: (X.pn ++ pins))) inS g m p nd
      · exact ld_blt (X := X.suite a ((a, oe) :: (X.pn ++ pins))) inS g m bt p nn nd
    refine wpAny_handleBy_cons (codeAny_handlers_test ?_) (by intro p; cases p)
    refine ask ((PySem.W.exm_one (M := model X.prog X.w) q.now.kIn ty hb).here ?_)
    cases b with
    | false => exact ih q (no rfl)
    | true =>
      refine codeAny_handlers_suite_as (HandSPX.lands_againZ q.fl fun h4 fl4 up4 => ?_)
      have q4 : Down X pins σ H cls d B a sI { s with heap := h4 } := ⟨q.inv, q.nb, q.up.trans up4, q.na, q.os, q.ag, fl4⟩
      obtain ⟨oe4, vs4, e4, z4, dt4, nL4, nF4⟩ := q4.obj hf
      refine store_ok (X := X.suite a ((a, oe4) :: (X.pn ++ pins))) (v := .ref a) (q4.now.suite e4 dt4 q.na nL4 nF4) hN hi (.inl hln) rfl (fun s5 I5 => ?_) (.inr hln)
      refine wpAny_mono ((hsu a oe4 cls d (X.pn ++ pins) z4 ⟨_, dt4⟩).run [] s5 _ H _ I5 (yes rfl a q.na)) (fun f s6 hsp => ?_) (fun _ _ p => False.elim p)
      have leave : ∀ {σ6 : L2.St} {H6 : Hp} {Q : Shared → Prop}, Inv (X.suite a ((a, oe4) :: (X.pn ++ pins))) [] σ6 H6 s6 → (∀ s7, Inv X pins (σ6.set i none) H6 s7 → Q s7) →
          wpAny (model X.prog X.w) X.A (do bindName X.env n .none; unbindBehindTheSuite X.env n pos') (fun _ s7 => Q s7) X.xe s6 := fun I6 k => gone_ok (I6.unsuite ok) hN hi hln k
      cases f with
      | next => obtain ⟨_, _, I6, p⟩ := hsp; exact leave I6 fun _ I7 => ⟨_, _, I7, p⟩
      | brk => obtain ⟨_, _, I6, p⟩ := hsp; exact leave I6 fun _ I7 => ⟨_, _, I7, p⟩
      | cont => obtain ⟨_, _, I6, p⟩ := hsp; exact leave I6 fun _ I7 => ⟨_, _, I7, p⟩
      | ret u => obtain ⟨_, _, _, I6, rv, p⟩ := hsp; exact leave I6 fun _ I7 => ⟨_, _, _, I7, rv, p⟩
theorem ps_tryAs {body : List Stmt} {h₀ : ExceptHandler} {hds : List ExceptHandler} {pos : Pos} {tb : WX → TS} {W : Ends → WX} (hs : X.stack = X.env :: X.outer) (hf : X.env.frame = some X.env.locals) (hN : X.N.Nodup) (tk : Takes X Wout)
    (hb : ∀ (W : WX) (pn : List (Addr × Obj)) (xe : Value → Shared → Prop), Takes (X.tr pn xe) W → PassesOwn (model X.prog X.w) X.A X.env xe → PSs (X.tr pn xe) body (tb W)) (hh : Clauses X Wout (h₀ :: hds) W) :
    PS X (.Try body (h₀ :: hds) [] [] pos) (fun D σ H => tb (W D) D σ H) := by
  refine ⟨fun pins s σ H D I h => ?_⟩
  have ok := I.ok
  have hfr : X.A.frames = some (X.env :: X.outer) := by rw [ok.frames, hs]
  refine wpAny_Try_except (wpAny_mono ((hb (W D) (X.pn ++ pins) (fun e s₁ => wpAny (model X.prog X.w) X.A (noteFrame e X.env) (fun _ s₂ => wpAny (model X.prog X.w) X.A (setFlight e none) (fun _ s₃ =>
    wpAny (model X.prog X.w) X.A (handleBy e X.env (h₀ :: hds)) (SP X pins D) X.xe s₃) X.xe s₂) X.xe s₁) (fun u s' thrown => ?_) PassesOwn.looking).run [] s σ H D (I.toTry _) h) (fun f s1 hsp => ?_) fun e s1 he => he)
  · obtain ⟨a, B, sI, pins', σ', H', cls, d, rfl, I', nb, up, sky, na, os, ag, w⟩ := thrown
    have sky' : Sky B (X.env :: X.outer) a (Zc cls d) X.env.locals s'.heap := by rw [← hs]; exact sky
    exact Sky.land Zc.steady hfr hf sky' fun h3 fl3 up3 => Down.rest (pins := pins) ok hs hf hN tk hh (s := { s' with heap := h3 }) ⟨I'.ofTry ok, nb, up.trans up3, na, os, ag, fl3⟩ w
  · cases f with
    | next => obtain ⟨_, _, I1, p⟩ := hsp; exact wpAny_execs_nil ⟨_, _, I1.ofTry ok, p⟩
    | brk => obtain ⟨_, _, I1, p⟩ := hsp; exact ⟨_, _, I1.ofTry ok, p⟩
    | cont => obtain ⟨_, _, I1, p⟩ := hsp; exact ⟨_, _, I1.ofTry ok, p⟩
    | ret u => obtain ⟨_, _, _, I1, rv, p⟩ := hsp; exact ⟨_, _, _, I1.ofTry ok, rv, p⟩
end
end BT

set_option Elab.async false
set_option linter.all false
set_option maxRecDepth 100000
namespace BT
open PySem PySem.Spec PyProof.Rows L2
def top (i : Nat) : Stmt := PySem.Challenge.pw_blindtwins_k02_books_refuse.main.body.getD i (.Pass ⟨0, 0, 0, 0⟩)
abbrev s_BlindError_init : Stmt := inClass (top 1) 0
abbrev s_mask_of : Stmt := top 10
abbrev s_lot_of : Stmt := top 11
abbrev s_lowest : Stmt := top 12
abbrev s_odd : Stmt := top 13
abbrev s_picked : Stmt := top 14
abbrev s_cleared : Stmt := top 15
abbrev s_sweep : Stmt := top 16
abbrev s_unseen : Stmt := top 17
abbrev s_reduce_rows : Stmt := top 18
abbrev s_check_rows : Stmt := top 19
abbrev s_span : Stmt := top 20
abbrev s_is_number : Stmt := top 24
abbrev s_is_between : Stmt := top 25
abbrev s_need_size : Stmt := top 26
abbrev s_is_lot : Stmt := top 27
abbrev s_need_lot : Stmt := top 28
abbrev s_need_each_lot : Stmt := top 29
abbrev s_need_lots : Stmt := top 30
abbrev s_plus : Stmt := top 31
abbrev s_need_book_size : Stmt := top 35
abbrev s_Book_init : Stmt := inClass (top 36) 0
abbrev s_Book_eq : Stmt := inClass (top 36) 1
abbrev s_Book_rows : Stmt := inClass (top 36) 2
abbrev s_Book_checks : Stmt := inClass (top 36) 3
abbrev s_Book_holds : Stmt := inClass (top 36) 4
abbrev s_Book_is_check : Stmt := inClass (top 36) 5
abbrev s_Book_tell_same : Stmt := inClass (top 36) 6
abbrev s_Book_turned : Stmt := inClass (top 36) 7
abbrev s_Book_within : Stmt := inClass (top 36) 8
abbrev s_Book_shown : Stmt := inClass (top 36) 9
abbrev s_Book_on : Stmt := inClass (top 36) 10
abbrev s_Book_under : Stmt := inClass (top 36) 11
abbrev s_Book_join : Stmt := inClass (top 36) 12
abbrev s_Book_meet : Stmt := inClass (top 36) 13
abbrev s_Book_beside : Stmt := inClass (top 36) 14
abbrev s_Book_moved : Stmt := inClass (top 36) 15
abbrev s_Book_with_sum : Stmt := inClass (top 36) 16
abbrev s_Book_words : Stmt := inClass (top 36) 17
abbrev s_Book_word_of : Stmt := inClass (top 36) 18
abbrev s_Book_need_places : Stmt := inClass (top 36) 19
abbrev s_told : Stmt := top 37
abbrev s_is_order : Stmt := top 38
abbrev s_law_source : Stmt := top 40
abbrev s_law_next : Stmt := top 41
abbrev s_law_mixed : Stmt := top 42
abbrev s_law_draw : Stmt := top 43
abbrev s_law_great : Stmt := top 44
abbrev s_law_lot : Stmt := top 45
abbrev s_law_integer : Stmt := top 46
abbrev s_law_same : Stmt := top 47
abbrev s_law_nested : Stmt := top 48
abbrev s_law_bad_lot : Stmt := top 49
abbrev s_law_made : Stmt := top 50
abbrev s_law_asked : Stmt := top 51
abbrev s_law_paired : Stmt := top 52
abbrev s_law_moved : Stmt := top 53
abbrev s_law_order : Stmt := top 54
abbrev s_law_bad_order : Stmt := top 55
abbrev s_law_made_holds : Stmt := top 56
abbrev s_law_methods_hold : Stmt := top 57
abbrev s_law_pairs_hold : Stmt := top 58
abbrev s_law : Stmt := top 59
end BT

set_option Elab.async false
set_option linter.all false
set_option maxRecDepth 100000
set_option maxHeartbeats 4000000
namespace BT
open PySem PySem.Spec PyProof.Rows L2
/-- the built-in names that the text leaves alone -/
structure Bi (mg : Str → Option Value) : Prop where
  int : mg "int" = none
  bool : mg "bool" = none
  tuple : mg "tuple" = none
  list : mg "list" = none
  range : mg "range" = none
  len : mg "len" = none
  isinstance : mg "isinstance" = none
  enumerate : mg "enumerate" = none
  abs : mg "abs" = none
  min : mg "min" = none
  repr : mg "repr" = none
theorem lotV_get {l : List Nat} {i : Nat} {x : V} (h : (lotV l)[i]? = some x) : ∃ p, l[i]? = some p ∧ x = .int (p : Int) := by
  unfold lotV at h
  rw [List.getElem?_map] at h
  cases e : l[i]? with
  | none => rw [e] at h; cases h
  | some p => rw [e] at h; exact ⟨p, rfl, (Option.some.inj h).symm⟩
theorem take_snoc {α : Type} {l : List α} {i : Nat} {x : α} (h : l[i]? = some x) : l.take (i + 1) = l.take i ++ [x] := by
  rw [List.take_add_one, h]; rfl
theorem lotV_len (l : List Nat) : (lotV l).length = l.length := List.length_map ..
section
variable {P : Program} {w : World} {K : PySem.W.Frag} {mg : Str → Option Value} {base : Heap}
/-! ### mask_of -/
def spMaskOf : Sp := fun vs H Q _ => ∃ (t : Addr) (l : List Nat), vs = [.ref t] ∧ H t = some (.tup (lotV l)) ∧ (∀ p ∈ l, p < 1000) ∧ Q (.int (maskN l : Nat)) H
theorem bitOr_nat (a b : Nat) : Builtin.bitOr (a : Int) (b : Int) = ((a ||| b : Nat) : Int) := by
  rw [bitOr_and, bitAnd_pp (Int.natCast_nonneg _) (Int.natCast_nonneg _), Int.toNat_natCast, Int.toNat_natCast]
  have := or_and_add a b
  omega
theorem scMaskOf : FnScope ["lot", "mask", "place"] ["lot"] (defScope s_mask_of) := ⟨rfl, rfl, rfl, by decide +kernel, rfl, by decide +kernel, by decide +kernel⟩
theorem ok_mask_of {f : Addr} {fd : FuncData} (F : FnP K "mask_of" s_mask_of f fd) : FnOk P w K mg base CX0 1 f fd ["lot"] spMaskOf := by
  refine F.ok scMaskOf (fun vs H Q E h => ?_) (fun cdv A outer s H vs Q E hr h => ?_)
  · obtain ⟨t, l, rfl, _⟩ := h
    rfl
  · obtain ⟨t, l, rfl, ht, hb, k⟩ := h
    refine ⟨_, PSs.nox (pss_cons (ps_set (i := 1) scMaskOf.nd rfl (Or.inl rfl) pe_int)
      (pss_cons (ps_for PassesOwn.never rfl (pi_tup (pv 0)) (pg_name (i := 2) scMaskOf.nd rfl (Or.inl rfl)) (pss_one (ps_aug (i := 1) scMaskOf.nd rfl (Or.inl rfl) (pe_op op_shl pe_int (pv 2)) iop_or)))
      (pss_one (ps_ret (pv 1))))), ?_⟩
    refine ⟨_, rfl, t, rfl, ⟨_, .inl (.inl ht)⟩, for_tup (K := K) (a := t) (xs := lotV l) (fun i σ H' => H' = H ∧ ∃ v : Option V, σ = [some (.ref t), some (.int (maskN (l.take i) : Nat)), v])
      ⟨rfl, none, rfl⟩ (fun i σ H' _ ⟨e, _⟩ => e ▸ .inl (.inl ht)) ?_ ?_⟩
    · rintro i x σ H' hi ⟨rfl, v, rfl⟩
      obtain ⟨p, hp, rfl⟩ := lotV_get hi
      have hpl := hb p (List.mem_of_getElem? hp)
      refine ⟨_, rfl, _, rfl, 1, (p : Int), rfl, rfl, ⟨by omega, by omega, by decide⟩, _, _, rfl, rfl, ?_⟩
      refine ⟨rfl, some (.int (p : Int)), ?_⟩
      rw [take_snoc hp, maskN_snoc, ← bitOr_nat]
      simp
    · rintro σ H' ⟨rfl, v, rfl⟩
      refine ⟨_, rfl, ?_⟩
      rw [lotV_len, List.take_length]
      exact k
end
end BT

set_option Elab.async false
set_option linter.all false
set_option maxRecDepth 100000
set_option maxHeartbeats 4000000
namespace BT
open PySem PySem.Spec PyProof.Rows L2
theorem intBits_nat (m : Nat) : Builtin.Int.intBits (m : Int) = bitsN m := by
  unfold Builtin.Int.intBits bitsN
  by_cases h : m = 0
  · subst h; rfl
  · rw [if_neg (by simpa using h), if_neg h]; rfl
theorem shr_bit (m p : Nat) : (Builtin.bitAnd ((m : Int) / 2 ^ ((p : Int).toNat)) 1 != 0) = m.testBit p := by
  rw [bitAnd_m1, Int.toNat_natCast, Nat.testBit_eq_decide_div_mod_eq]
  have e : ((m : Int) / 2 ^ p) % 2 = ((m / 2 ^ p % 2 : Nat) : Int) := by
    rw [Int.natCast_emod, Int.natCast_ediv, Int.natCast_pow]; rfl
  rw [e]
  rcases Nat.mod_two_eq_zero_or_one (m / 2 ^ p) with h | h <;> rw [h] <;> rfl
theorem lotB_step (m i : Nat) : lotB (i + 1) m = if m.testBit i = true then lotB i m ++ [i] else lotB i m := by
  unfold lotB
  rw [List.range_succ, List.filter_append]
  by_cases h : m.testBit i = true <;> simp [h]
theorem lotB_yes {m i : Nat} (h : m.testBit i = true) : lotB (i + 1) m = lotB i m ++ [i] := by rw [lotB_step, if_pos h]
theorem lotB_no {m i : Nat} (h : m.testBit i = false) : lotB (i + 1) m = lotB i m := by rw [lotB_step, h]; rfl
theorem lotB_len (n m : Nat) : (lotB n m).length ≤ n := by
  unfold lotB
  exact Nat.le_trans (List.length_filter_le _ _) (by rw [List.length_range]; exact Nat.le_refl _)
section
variable {P : Program} {w : World} {K : PySem.W.Frag} {mg : Str → Option Value} {base : Heap}
/-! ### lot_of -/
def spLotOf : Sp := fun vs H Q _ => ∃ m : Nat, vs = [.int (m : Int)] ∧ m < 2 ^ 1000 ∧ ∀ (p : Addr) (H' : Hp), H p = none → Same H H' → H' p = some (.tup (lotV (lotN m))) → Q (.ref p) H'
/-- mask >> place & 1, as a test -/
def tBitAt (K : PySem.W.Frag) (i j : Nat) : TT := fun σ H Q => (tOp (rI0 fun i j => .int (Builtin.bitAnd i j)) (tOp (rI (fun _ j => 0 ≤ j) fun i j => .int (i / 2 ^ j.toNat)) (tVar i) (tVar j)) (tC (.int 1))) σ H fun x H' => ∃ k, TruV K x H' k ∧ Q k H'
theorem scLotOf : FnScope ["mask", "place"] ["mask"] (defScope s_lot_of) := ⟨rfl, rfl, rfl, by decide +kernel, rfl, by decide +kernel, by decide +kernel⟩
theorem ok_lot_of {f : Addr} {fd : FuncData} (T : Bi mg) (F : FnP K "lot_of" s_lot_of f fd) : FnOk P w K mg base CX0 1 f fd ["mask"] spLotOf := by
  refine F.ok scLotOf (fun vs H Q E h => ?_) (fun cdv A outer s H vs Q E hr h => ?_)
  · obtain ⟨m, rfl, _⟩ := h
    rfl
  · obtain ⟨m, rfl, hm, k⟩ := h
    refine ⟨_, PSs.nox (pss_one (ps_ret (pe_tupleOf rfl T.tuple (pe_lc (own := [("place", 1)]) (g := gName 1) (tt := tBitAt K 0 1) (te := tVar 1) rfl scLotOf.nd (pi_range1 rfl T.range (pa_cons (pe_bits (pv 0)) pa_nil))
      (blkOk_by (N := ["mask", "place"]) (sc := defScope s_lot_of) (by decide +kernel)) (fun _ _ _ _ _ => pg_name (i := 1) scLotOf.nd rfl (Or.inl rfl))
      (fun _ _ _ _ _ => pts_one (by exact pt_truth (pe_op op_and (pe_op op_shr (pv 0) (pv 1)) pe_int) (fun _ => rfl))) (fun _ _ _ _ _ => pv 1))))), ?_⟩
    have hb : bitsN m ≤ 1000 := bitsN_le hm
    refine ⟨_, rfl, (m : Int), rfl, _, rfl, by omega, ?_, fun D hD => ?_⟩
    · rw [intBits_nat]; omega
    rw [intBits_nat, Int.toNat_natCast]
    refine lc_range (lo := 0) (n := bitsN m) (fun i H' => Same H H' ∧ H' D = some (.lst (lotV (lotB i m)))) ⟨Same.new (Same.refl H) hD, upd_same⟩ ?_ ?_
    · rintro i H' hi ⟨s5, hd⟩
      refine ⟨rfl, _, rfl, _, rfl, (m : Int), 0 + (i : Int), rfl, rfl, (by omega), _, _, rfl, rfl, _, rfl, ?_⟩
      rw [Int.zero_add, shr_bit]
      rcases Bool.eq_false_or_eq_true (m.testBit i) with hb | hb
      · rw [hb, lotB_yes hb]
        refine iteT ⟨_, rfl, _, hd, ?_, Same.own s5 hD, ?_⟩
        · rw [lotV_len]
          exact Nat.lt_of_le_of_lt (lotB_len i m) (by rw [sizeLine_eq]; omega)
        · rw [upd_same]
          unfold lotV
          rw [List.map_append]; rfl
      · rw [hb, lotB_no hb]
        exact iteF ⟨s5, hd⟩
    · rintro H' ⟨s5, hd⟩
      refine .inl ⟨D, _, rfl, .inl (.inl hd), fun p hp => ?_⟩
      exact k p _ (s5.free hp) (Same.new s5 hp) upd_same
end
end BT

set_option Elab.async false
set_option linter.all false
set_option maxRecDepth 100000
set_option maxHeartbeats 4000000
namespace BT
open PySem PySem.Spec PyProof.Rows L2
theorem cnt_list (c : Nat) : ∀ l : List Nat, PyProof.Rows.cnt c l = ((l.count c : Nat) : Int)
  | [] => rfl
  | n :: r => by
    rw [PyProof.Rows.cnt_cons, cnt_list c r, List.count_cons]
    by_cases h : n = c <;> simp [h] <;> omega
theorem count_bin (m : Nat) : (Txt.count (binText m) (Str.ofString "1") : Int) = ((pop m : Nat) : Int) := by
  have e : Str.ofString "1" = ⟨#[49]⟩ := rfl
  rw [e, count_cnt, cnt_list]
  congr 1
  show ((Nat.toDigits 2 m).map Char.toNat).count 49 = pop m
  rw [← count_digits m]
  induction Nat.toDigits 2 m with
  | nil => rfl
  | cons c l ih =>
    rw [List.map_cons, List.count_cons, List.count_cons, ih]
    have e2 : (c.toNat == 49) = (c == '1') := by
      by_cases h : c = '1'
      · subst h; rfl
      · have h2 : c.toNat ≠ 49 := fun q => h (by
          apply Char.ext
          apply UInt32.toNat_inj.mp
          exact q)
        rw [beq_eq_false_iff_ne.mpr h, beq_eq_false_iff_ne.mpr h2]
    rw [e2]
section
variable {P : Program} {w : World} {K : PySem.W.Frag} {mg : Str → Option Value} {base : Heap} {tM : Tok}
/-! ### odd -/
def spOdd : Sp := fun vs H Q _ => ∃ m : Nat, vs = [.int (m : Int)] ∧ m < 2 ^ 1000 ∧ Q (.int ((pop m % 2 : Nat) : Int)) H
theorem scOdd : FnScope ["mask", "digits"] ["mask"] (defScope s_odd) := ⟨rfl, rfl, rfl, by decide +kernel, rfl, by decide +kernel, by decide +kernel⟩
theorem ok_odd {f : Addr} {fd : FuncData} (F : FnP K "odd" s_odd f fd) : FnOk P w K mg base CX0 1 f fd ["mask"] spOdd := by
  refine F.ok scOdd (fun vs H Q E h => ?_) (fun cdv A outer s H vs Q E hr h => ?_)
  · obtain ⟨m, rfl, _⟩ := h
    rfl
  · obtain ⟨m, rfl, hm, k⟩ := h
    refine ⟨_, PSs.nox (pss_cons (ps_set (i := 1) scOdd.nd rfl (Or.inl rfl) (pe_fmtB (pv 0)))
      (pss_one (ps_ret (pe_op op_and (pe_m1 PySem.F.slot_str_count PySem.F.type_str_count mt_count (pv 1) pe_str) pe_int)))), ?_⟩
    refine ⟨_, rfl, m, 1000, rfl, hm, by decide, by decide, ?_⟩
    refine ⟨_, rfl, ⟨_, rfl⟩, _, _, rfl, rfl, _, _, rfl, rfl, ?_⟩
    show Q (.int (Builtin.bitAnd (Txt.count (binText m) (Str.ofString "1")) 1)) H
    rw [bitAnd_m1, count_bin]
    exact k
/-! ### is_number -/
def numD : PyData → Bool
  | .int _ => true
  | _ => false
theorem numD_eq (d : PyData) : (isD "int" d && !isD "bool" d) = numD d := by cases d <;> rfl
def spIsNumber : Sp := fun vs H Q _ => ∃ (v : V) (d : PyData), vs = [v] ∧ Dv H v d ∧ Q (.bl (numD d)) H
theorem scIsNumber : FnScope ["value"] ["value"] (defScope s_is_number) := ⟨rfl, rfl, rfl, by decide +kernel, rfl, by decide +kernel, by decide +kernel⟩
theorem ok_is_number {f : Addr} {fd : FuncData} (T : Bi mg) (F : FnP K "is_number" s_is_number f fd) : FnOk P w K mg base CX0 1 f fd ["value"] spIsNumber := by
  refine F.ok scIsNumber (fun vs H Q E h => ?_) (fun cdv A outer s H vs Q E hr h => ?_)
  · obtain ⟨v, d, rfl, _⟩ := h
    rfl
  · obtain ⟨v, d, rfl, hd, k⟩ := h
    refine ⟨_, PSs.nox (pss_one (ps_ret (pe_and (pe_isD rfl T.isinstance rfl T.int PyProof.Rows.boot_int kit_int (pv 0))
      (pe_one (pe_not (pe_isD rfl T.isinstance rfl T.bool PyProof.Rows.boot_bool kit_bool (pv 0))))))), ?_⟩
    refine ⟨_, rfl, v, d, rfl, hd, _, rfl, ?_⟩
    have e := numD_eq d
    cases hi : isD "int" d with
    | true =>
      rw [hi, Bool.true_and] at e
      refine iteT ⟨_, rfl, v, d, rfl, hd, _, rfl, ?_⟩
      rw [e]
      exact k
    | false =>
      rw [hi, Bool.false_and] at e
      refine iteF ?_
      show Q (.bl false) H
      rw [e]
      exact k
/-! ### is_between -/
def btwD (a b : Int) : PyData → Bool
  | .int i => decide (a ≤ i) && decide (i ≤ b)
  | _ => false
def spBetween : Sp := fun vs H Q _ => ∃ (v : V) (d : PyData) (a b : Int), vs = [v, .int a, .int b] ∧ Dv H v d ∧ Q (.bl (btwD a b d)) H
theorem scBetween : FnScope ["value", "least", "most"] ["value", "least", "most"] (defScope s_is_between) := ⟨rfl, rfl, rfl, by decide +kernel, rfl, by decide +kernel, by decide +kernel⟩
theorem ok_is_between {f : Addr} {fd : FuncData} (DN : DefOk P w K mg base CX0 1 "is_number" ["value"] spIsNumber) (F : FnP K "is_between" s_is_between f fd) : FnOk P w K mg base CX0 2 f fd ["value", "least", "most"] spBetween := by
  refine F.ok scBetween (fun vs H Q E h => ?_) (fun cdv A outer s H vs Q E hr h => ?_)
  · obtain ⟨v, d, a, b, rfl, _⟩ := h
    rfl
  · obtain ⟨v, d, a, b, rfl, hd, k⟩ := h
    refine ⟨_, PSs.nox (pss_one (ps_ret (pe_and (pe_d DN hr rfl (pa_cons (pv 0) pa_nil)) (pe_one (pe_chain op_le op_le (pv 1) (pv 0) (pv 2)))))), ?_⟩
    refine ⟨_, rfl, v, d, rfl, hd, _, rfl, ?_⟩
    cases hd with
    | int i =>
      refine iteT ⟨_, rfl, _, rfl, _, _, rfl, rfl, _, rfl, ?_⟩
      have k : Q (.bl (decide (a ≤ i) && decide (i ≤ b))) H := k
      cases h : decide (a ≤ i) with
      | false => rw [h] at k; exact iteF k
      | true => rw [h] at k; exact iteT ⟨_, rfl, _, _, rfl, rfl, k⟩
    | _ => exact iteF k
/-! ### need_size -/
def sizeD : PyData → Bool
  | .int i => decide (0 ≤ i) && decide (i ≤ 60)
  | _ => false
theorem btw_size (d : PyData) : btwD 0 60 d = sizeD d := by cases d <;> rfl
def spNeedSize (C : Addr) : Sp := fun vs H Q E => ∃ (z : V) (e : PyData), vs = [z] ∧ Dv H z e ∧ (sizeD e = true → Q .non H) ∧ (sizeD e = false → ∀ x, H x = none → E (.ref C) (some x) (upd H x (.xd [("what", z)])))
theorem scNeedSize : FnScope ["size"] ["size"] (defScope s_need_size) := ⟨rfl, rfl, rfl, by decide +kernel, rfl, by decide +kernel, by decide +kernel⟩
theorem ok_need_size {f C : Addr} {fd : FuncData} (hM : mg "MOST_PLACES" = some (.int 60 tM)) (EC : ErrC P w K mg base "BadSize" C) (DB : DefOk P w K mg base CX0 2 "is_between" ["value", "least", "most"] spBetween) (F : FnP K "need_size" s_need_size f fd) :
    FnOk P w K mg base (L2.CX P w) 3 f fd ["size"] (spNeedSize C) := by
  refine F.ok scNeedSize (fun vs H Q E h => ?_) (fun cdv A outer s H vs Q E hr h => ?_)
  · obtain ⟨z, e, rfl, _⟩ := h
    rfl
  · obtain ⟨z, e, rfl, he, kY, kN⟩ := h
    have tk : Takes (cxOf (L2.CX P w) P w K mg base ["size"] "need_size" (defScope s_need_size) f cdv A outer s H E) (fun cls d _ H => E cls d H) := takes_of rfl rfl rfl rfl
    refine ⟨_, pss_one (ps_if (pt_not (pt_val (pe_d DB hr rfl (pa_cons (pv 0) (pa_cons pe_int (pa_cons (pe_glob (v := .int 60) rfl hM ⟨_, rfl⟩) pa_nil)))))) (pss_one (ps_err EC hr rfl tk rfl (pv 0) (mono_var 0))) pss_nil), ?_⟩
    refine ⟨_, rfl, z, e, 0, 60, rfl, he, _, rfl, ?_⟩
    rw [btw_size]
    cases h : sizeD e with
    | true => exact iteF (kY h)
    | false => exact iteT ⟨_, rfl, fun x hx => kN h x hx⟩
/-! ### is_lot -/
def lotFrom (n : Int) : Int → List PyData → Bool
  | _, [] => true
  | low, .int i :: r => decide (low ≤ i) && decide (i < n) && lotFrom n (i + 1) r
  | _, _ :: _ => false
def isLotD (n : Int) : PyData → Bool
  | .tuple ds => lotFrom n 0 ds
  | _ => false
def spIsLot (C : Addr) : Sp := fun vs H Q E => ∃ (v : V) (d : PyData) (z : V) (e : PyData), vs = [v, z] ∧ Dv H v d ∧ Dv H z e ∧
  (∀ i, e = .int i → 0 ≤ i → i ≤ 60 → Q (.bl (isLotD i d)) H) ∧ (sizeD e = false → ∀ x, H x = none → E (.ref C) (some x) (upd H x (.xd [("what", z)])))
theorem scIsLot : FnScope ["value", "size", "least", "place"] ["value", "size"] (defScope s_is_lot) := ⟨rfl, rfl, rfl, by decide +kernel, rfl, by decide +kernel, by decide +kernel⟩
theorem lotFrom_cons {n low : Int} {d : PyData} {r : List PyData} : lotFrom n low (d :: r) = (numD d && (match d with | .int i => decide (low ≤ i) && decide (i < n) && lotFrom n (i + 1) r | _ => false)) := by
  cases d <;> simp [lotFrom, numD]
theorem ok_is_lot {f C : Addr} {fd : FuncData} (T : Bi mg) (DS : DefOk P w K mg base (L2.CX P w) 3 "need_size" ["size"] (spNeedSize C)) (DN : DefOk P w K mg base CX0 1 "is_number" ["value"] spIsNumber) (F : FnP K "is_lot" s_is_lot f fd) :
    FnOk P w K mg base (L2.CX P w) 4 f fd ["value", "size"] (spIsLot C) := by
  refine F.ok scIsLot (fun vs H Q E h => ?_) (fun cdv A outer s H vs Q E hr h => ?_)
  · obtain ⟨v, d, z, e, rfl, _⟩ := h
    rfl
  · obtain ⟨v, d, z, e, rfl, hd, he, kY, kN⟩ := h
    have tk : Takes (cxOf (L2.CX P w) P w K mg base ["value", "size", "least", "place"] "is_lot" (defScope s_is_lot) f cdv A outer s H E) (fun cls d _ H => E cls d H) := takes_of rfl rfl rfl rfl
    refine ⟨_, pss_cons (ps_expr (pe_dX DS hr rfl (passes_call tk (fun _ _ _ _ h => h)) (pa_cons (pv 1) pa_nil)))
      (pss_cons (ps_if (pt_not (pt_val (pe_isD rfl T.isinstance rfl T.tuple PyProof.Rows.boot_tuple kit_tuple (pv 0)))) (pss_one (ps_ret pe_bl)) pss_nil)
      (pss_cons (ps_set (i := 2) scIsLot.nd rfl (Or.inl rfl) pe_int)
      (pss_cons (ps_for (passes_of rfl) rfl (pi_tup (pv 0)) (pg_name (i := 3) scIsLot.nd rfl (Or.inl rfl))
        (pss_cons (ps_if (PW.pt (pw_or (pt_not (pt_val (pe_d DN hr rfl (pa_cons (pv 3) pa_nil)))) (pw_or1 (pt_not (pt_chain op_le op_lt (pv 2) (pv 3) (pv 1)))))) (pss_one (ps_ret pe_bl)) pss_nil)
          (pss_one (ps_set (i := 2) scIsLot.nd rfl (Or.inl rfl) (pe_op op_add (pv 3) pe_int)))))
      (pss_one (ps_ret pe_bl))))), ?_⟩
    -- the body behind the size's test
    have rest : ∀ i : Int, e = .int i → 0 ≤ i → i ≤ 60 → z = .int i → (∀ D' : Ends, D'.rt = Q → tSeq (tIfS (tNot (tB (tCB (rIsD "tuple") (tCons (tVar 0) (tCons (tC (.ty "tuple")) tNil))))) (tRet (tC (.bl false))) tNext)
        (tSeq (tAsg (tC (.int 0)) (gName 2)) (tSeq (tFor (iTup K (tVar 0)) (gName 3) (tSeq (tIfS (tOr (tNot (tB (tCall spIsNumber [] E0 (tCons (tVar 3) tNil)))) (tNot (tTest (tChain (rI0 fun i j => .bl (decide (i ≤ j))) (rI0 fun i j => .bl (decide (i < j))) (tVar 2) (tVar 3) (tVar 1))))) (tRet (tC (.bl false))) tNext)
          (tAsg (tOp (rI0 fun i j => .int (i + j)) (tVar 3) (tC (.int 1))) (gName 2)))) (tRet (tC (.bl true))))) D' [some v, some z, none, none] H) := by
      intro i ei h0 h1 ez D' hD'
      subst ei ez
      refine ⟨_, rfl, v, d, rfl, hd, _, rfl, ?_⟩
      have kk := kY i rfl h0 h1
      rw [← hD'] at kk
      cases hd with
      | tup ha hds =>
        rename_i a xs ds
        refine iteF ⟨_, rfl, a, rfl, ⟨_, .inl (.inl ha)⟩, ?_⟩
        refine for_tup (K := K) (a := a) (xs := xs) (fun j σ H' => H' = H ∧ ∃ (low : Int) (y : Option V), σ = [some (.ref a), some (.int i), some (.int low), y] ∧ lotFrom i 0 ds = lotFrom i low (ds.drop j))
          ⟨rfl, 0, none, rfl, rfl⟩ (fun j σ H' _ ⟨e, _⟩ => e ▸ .inl (.inl ha)) ?_ ?_
        · rintro j x σ H' hj ⟨rfl, low, y, rfl, el⟩
          obtain ⟨dj, hdj, hx⟩ := hds.get hj
          have edrop : ds.drop j = dj :: ds.drop (j + 1) := by
            obtain ⟨hlt, hget⟩ := List.getElem?_eq_some_iff.mp hdj
            rw [List.drop_eq_getElem_cons hlt, hget]
          rw [edrop] at el
          refine ⟨_, rfl, x, dj, rfl, hx, _, rfl, ?_⟩
          cases hx with
          | int p =>
            refine iteF ⟨_, rfl, _, rfl, _, _, rfl, rfl, _, rfl, ?_⟩
            have el2 : lotFrom i 0 ds = (decide (low ≤ p) && decide (p < i) && lotFrom i (p + 1) (ds.drop (j + 1))) := el
            cases h2 : decide (low ≤ p) with
            | false =>
              refine iteF ⟨_, rfl, iteT ?_⟩
              rw [h2] at el2
              have e3 : isLotD i (.tuple ds) = false := by
                show lotFrom i 0 ds = false
                rw [el2]; rfl
              rw [e3] at kk
              exact kk
            | true =>
              refine iteT ⟨_, rfl, _, _, rfl, rfl, _, rfl, ?_⟩
              rw [h2] at el2
              cases h3 : decide (p < i) with
              | false =>
                refine iteT ?_
                rw [h3] at el2
                have e3 : isLotD i (.tuple ds) = false := by
                  show lotFrom i 0 ds = false
                  rw [el2]; rfl
                rw [e3] at kk
                exact kk
              | true =>
                rw [h3] at el2
                refine iteF ⟨_, rfl, _, _, rfl, rfl, rfl, p + 1, some (.int p), rfl, ?_⟩
                rw [el2]; rfl
          | _ =>
            refine iteT (iteT ?_)
            have e3 : isLotD i (.tuple ds) = false := by
              show lotFrom i 0 ds = false
              rw [el]; rfl
            rw [e3] at kk
            exact kk
        · rintro σ H' ⟨rfl, low, y, rfl, el⟩
          have e3 : isLotD i (.tuple ds) = true := by
            show lotFrom i 0 ds = true
            rw [el, DvA.length hds, List.drop_length]; rfl
          rw [e3] at kk
          exact kk
      | _ =>
        refine iteT ?_
        exact kk
    refine ⟨_, rfl, z, e, rfl, he, fun hs => ?_, kN⟩
    cases he with
    | int i =>
      have h := hs
      simp only [sizeD, Bool.and_eq_true, decide_eq_true_eq] at h
      exact rest i rfl h.1 h.2 rfl _ rfl
    | _ => cases hs
end
end BT

set_option Elab.async false
set_option linter.all false
set_option maxRecDepth 100000
set_option maxHeartbeats 4000000
namespace BT
open PySem PySem.Spec PyProof.Rows L2
/-! ### lots as data -/
/-- a lot of size n -/
structure IsLot (n : Nat) (l : List Nat) : Prop where
  asc : l.Pairwise (· < ·)
  lt : ∀ p ∈ l, p < n
theorem lotFrom_inv {n : Nat} : ∀ {ds : List PyData} {low : Int}, 0 ≤ low → lotFrom (n : Int) low ds = true → ∃ l : List Nat, ds = l.map (fun p : Nat => PyData.int (p : Int)) ∧ l.Pairwise (· < ·) ∧ ∀ p ∈ l, low ≤ (p : Int) ∧ p < n
  | [], _, _, _ => ⟨[], rfl, .nil, fun _ h => nomatch h⟩
  | d :: r, low, h0, h => by
    cases d with
    | int i =>
      have h' : (decide (low ≤ i) && decide (i < (n : Int)) && lotFrom (n : Int) (i + 1) r) = true := h
      simp only [Bool.and_eq_true, decide_eq_true_eq] at h'
      obtain ⟨⟨h1, h2⟩, h3⟩ := h'
      obtain ⟨l, e, hp, hm⟩ := lotFrom_inv (by omega) h3
      obtain ⟨p, rfl⟩ := Int.eq_ofNat_of_zero_le (show 0 ≤ i by omega)
      refine ⟨p :: l, by rw [e]; rfl, List.pairwise_cons.mpr ⟨fun q hq => by have := (hm q hq).1; omega, hp⟩, fun q hq => ?_⟩
      rcases List.mem_cons.mp hq with rfl | hq
      · exact ⟨h1, by omega⟩
      · have := hm q hq
        exact ⟨by omega, this.2⟩
    | _ => exact absurd (show false = true from h) (by decide)
theorem lotFrom_of {n : Nat} : ∀ {l : List Nat} {low : Int}, l.Pairwise (· < ·) → (∀ p ∈ l, low ≤ (p : Int) ∧ p < n) → lotFrom (n : Int) low (l.map fun p : Nat => PyData.int (p : Int)) = true
  | [], _, _, _ => rfl
  | p :: l, low, hp, hm => by
    have hp' := List.pairwise_cons.mp hp
    have h1 := hm p (List.mem_cons_self ..)
    show (decide (low ≤ (p : Int)) && decide ((p : Int) < (n : Int)) && lotFrom (n : Int) ((p : Int) + 1) (l.map fun p : Nat => PyData.int (p : Int))) = true
    rw [decide_eq_true h1.1, decide_eq_true (show (p : Int) < (n : Int) by omega), Bool.true_and, Bool.true_and]
    exact lotFrom_of hp'.2 fun q hq => ⟨by have := hp'.1 q hq; omega, (hm q (List.mem_cons_of_mem _ hq)).2⟩
theorem isLotD_inv {n : Nat} {d : PyData} (h : isLotD (n : Int) d = true) : ∃ l, d = lotD l ∧ IsLot n l := by
  cases d with
  | tuple ds =>
    obtain ⟨l, e, hp, hm⟩ := lotFrom_inv (by omega) (show lotFrom (n : Int) 0 ds = true from h)
    exact ⟨l, by rw [e]; rfl, hp, fun p hq => (hm p hq).2⟩
  | _ => exact absurd (show false = true from h) (by decide)
theorem isLotD_of {n : Nat} {l : List Nat} (h : IsLot n l) : isLotD (n : Int) (lotD l) = true := lotFrom_of h.asc fun p hp => ⟨by omega, h.lt p hp⟩
theorem DvA.lot_inv {H : Hp} : ∀ {l : List Nat} {xs : List V}, DvA H xs (l.map fun p : Nat => PyData.int (p : Int)) → xs = lotV l
  | [], xs, h => by cases h; rfl
  | p :: l, xs, h => by
    cases h with
    | cons h1 h2 =>
      cases h1
      rw [DvA.lot_inv h2]; rfl
theorem Dv.lot_inv {H : Hp} {v : V} {l : List Nat} (h : Dv H v (lotD l)) : ∃ a, v = .ref a ∧ H a = some (.tup (lotV l)) := by
  cases h with
  | tup ha hd => exact ⟨_, rfl, by rw [DvA.lot_inv hd] at ha; exact ha⟩
section
variable {P : Program} {w : World} {K : PySem.W.Frag} {mg : Str → Option Value} {base : Heap} {tM : Tok}
/-! ### need_lot -/
def spNeedLot (C : Addr) : Sp := fun vs H Q E => ∃ (v : V) (d : PyData) (n : Nat), vs = [v, .int (n : Int)] ∧ Dv H v d ∧ n ≤ 60 ∧ (isLotD (n : Int) d = true → Q .non H) ∧
  (isLotD (n : Int) d = false → ∀ x, H x = none → E (.ref C) (some x) (upd H x (.xd [("what", v)])))
theorem scNeedLot : FnScope ["value", "size"] ["value", "size"] (defScope s_need_lot) := ⟨rfl, rfl, rfl, by decide +kernel, rfl, by decide +kernel, by decide +kernel⟩
theorem ok_need_lot {f C CS : Addr} {fd : FuncData} (EC : ErrC P w K mg base "BadLot" C) (DL : DefOk P w K mg base (L2.CX P w) 4 "is_lot" ["value", "size"] (spIsLot CS)) (F : FnP K "need_lot" s_need_lot f fd) :
    FnOk P w K mg base (L2.CX P w) 5 f fd ["value", "size"] (spNeedLot C) := by
  refine F.ok scNeedLot (fun vs H Q E h => ?_) (fun cdv A outer s H vs Q E hr h => ?_)
  · obtain ⟨v, d, n, rfl, _⟩ := h
    rfl
  · obtain ⟨v, d, n, rfl, hd, hn, kY, kN⟩ := h
    have tk : Takes (cxOf (L2.CX P w) P w K mg base ["value", "size"] "need_lot" (defScope s_need_lot) f cdv A outer s H E) (fun cls d _ H => E cls d H) := takes_of rfl rfl rfl rfl
    refine ⟨_, pss_one (ps_if (pt_not (pt_val (pe_dX DL hr rfl (passes_call tk (fun _ _ _ _ h => h)) (pa_cons (pv 0) (pa_cons (pv 1) pa_nil))))) (pss_one (ps_err EC hr rfl tk rfl (pv 0) (mono_var 0))) pss_nil), ?_⟩
    refine ⟨_, rfl, _, rfl, v, d, .int (n : Int), .int (n : Int), rfl, hd, .int _, fun i ei h0 h1 => ⟨_, rfl, ?_⟩, fun hs => ?_⟩
    · injection ei with ei
      subst ei
      cases e : isLotD (n : Int) d with
      | true => exact iteF (kY e)
      | false => exact iteT ⟨_, rfl, fun x hx => kN e x hx⟩
    · have e : (decide (0 ≤ (n : Int)) && decide ((n : Int) ≤ 60)) = true := by
        rw [decide_eq_true (by omega), decide_eq_true (by omega)]; rfl
      have e2 : (decide (0 ≤ (n : Int)) && decide ((n : Int) ≤ 60)) = false := hs
      rw [e] at e2; cases e2
/-! ### need_each_lot -/
def spNeedEach (C : Addr) : Sp := fun vs H Q E => ∃ (a : Addr) (xs : List V) (ds : List PyData) (n : Nat), vs = [.ref a, .int (n : Int)] ∧ H a = some (.lst xs) ∧ DvA H xs ds ∧ n ≤ 60 ∧
  ((∀ (j : Nat) (d : PyData), ds[j]? = some d → isLotD (n : Int) d = true) → ∀ H', Same H H' → Q .non H') ∧
  (∀ (j : Nat) (d : PyData), ds[j]? = some d → isLotD (n : Int) d = false → (∀ (m : Nat) (d' : PyData), m < j → ds[m]? = some d' → isLotD (n : Int) d' = true) →
    ∀ (H' : Hp) (x : Addr), Same H H' → H' x = none → E (.ref C) (some x) (upd H' x (.xd [("what", .int (j : Nat))])))
theorem scNeedEach : FnScope ["values", "size", "index", "value"] ["values", "size"] (defScope s_need_each_lot) := ⟨rfl, rfl, rfl, by decide +kernel, rfl, by decide +kernel, by decide +kernel⟩
theorem ok_need_each_lot {f C CS : Addr} {fd : FuncData} (T : Bi mg) (EC : ErrC P w K mg base "BadLots" C) (DL : DefOk P w K mg base (L2.CX P w) 4 "is_lot" ["value", "size"] (spIsLot CS)) (F : FnP K "need_each_lot" s_need_each_lot f fd) :
    FnOk P w K mg base (L2.CX P w) 5 f fd ["values", "size"] (spNeedEach C) := by
  refine F.ok scNeedEach (fun vs H Q E h => ?_) (fun cdv A outer s H vs Q E hr h => ?_)
  · obtain ⟨a, xs, ds, n, rfl, _⟩ := h
    rfl
  · obtain ⟨a, xs, ds, n, rfl, ha, hds, hn, kY, kN⟩ := h
    have tk : Takes (cxOf (L2.CX P w) P w K mg base ["values", "size", "index", "value"] "need_each_lot" (defScope s_need_each_lot) f cdv A outer s H E) (fun cls d _ H => E cls d H) := takes_of rfl rfl rfl rfl
    refine ⟨_, pss_one (ps_for (passes_of rfl) rfl (pi_enum rfl T.enumerate (pa_cons (pv 0) pa_nil)) (pg_tup rfl (pgs_cons (pg_name (i := 2) scNeedEach.nd rfl (Or.inl rfl)) (pgs_cons (pg_name (i := 3) scNeedEach.nd rfl (Or.inl rfl)) pgs_nil)))
      (pss_one (ps_if (pt_not (pt_val (pe_dX DL hr rfl (passes_call tk (fun _ _ _ _ h => h)) (pa_cons (pv 3) (pa_cons (pv 1) pa_nil))))) (pss_one (ps_err EC hr rfl tk rfl (pv 2) (mono_var 2))) pss_nil))), ?_⟩
    have hlen := DvA.length hds
    refine ⟨_, rfl, a, xs, rfl, .inl (.inl ha), for_it (walk_enum (K := K) (a := a) (xs := xs)) (fun j σ H' => Same H H' ∧ (∃ y z : Option V, σ = [some (.ref a), some (.int (n : Int)), y, z]) ∧ ∀ (m : Nat) (d' : PyData), m < j → ds[m]? = some d' → isLotD (n : Int) d' = true)
      ⟨Same.refl H, ⟨none, none, rfl⟩, fun m d' hm => absurd hm (Nat.not_lt_zero _)⟩ (fun j σ H' _ ⟨s5, _⟩ => s5.seq (.inl (.inl ha))) ?_ ?_⟩
    · rintro j v σ H1 H2 hj ⟨s5, ⟨y, z, rfl⟩, hall⟩ ⟨T1, x, u, rfl, hT, rfl, hx, hu⟩
      have ex : V.int (j : Nat) = x := Option.some.inj hx
      subst ex
      obtain ⟨d, hd, hdv⟩ := hds.get hu
      have s6 : Same H (upd H1 T1 (.tup [.int (j : Nat), u])) := Same.new s5 hT
      have hdv2 : Dv (upd H1 T1 (.tup [.int (j : Nat), u])) u d := Dv.mono s6 d u hdv
      refine ⟨T1, _, rfl, .inl (.inl upd_same), rfl, _, _, rfl, _, _, rfl, rfl, ?_⟩
      refine ⟨_, rfl, _, rfl, u, d, .int (n : Int), .int (n : Int), rfl, hdv2, .int _, fun i ei h0 h1 => ⟨_, rfl, ?_⟩, fun hs => ?_⟩
      · injection ei with ei
        subst ei
        cases e : isLotD (n : Int) d with
        | true =>
          refine iteF ⟨s6, ⟨_, _, rfl⟩, fun m d' hm hd' => ?_⟩
          by_cases hmj : m < j
          · exact hall m d' hmj hd'
          · have em : m = j := by omega
            rw [em, hd] at hd'
            rw [← Option.some.inj hd']; exact e
        | false => exact iteT ⟨_, rfl, fun x hx => kN j d hd e hall _ x s6 hx⟩
      · have e : (decide (0 ≤ (n : Int)) && decide ((n : Int) ≤ 60)) = true := by
          rw [decide_eq_true (by omega), decide_eq_true (by omega)]; rfl
        have e2 : (decide (0 ≤ (n : Int)) && decide ((n : Int) ≤ 60)) = false := hs
        rw [e] at e2; cases e2
    · rintro σ H' ⟨s5, _, hall⟩
      refine kY (fun j d hd => hall j d ?_ hd) H' s5
      have := (List.getElem?_eq_some_iff.mp hd).1
      omega
end
end BT

set_option Elab.async false
set_option linter.all false
set_option maxRecDepth 100000
set_option maxHeartbeats 4000000
namespace BT
open PySem PySem.Spec PyProof.Rows L2
theorem bitXor_nat (a b : Nat) : Builtin.bitXor (a : Int) (b : Int) = ((a ^^^ b : Nat) : Int) := by
  rw [bitXor_and, bitAnd_pp (Int.natCast_nonneg _) (Int.natCast_nonneg _), Int.toNat_natCast, Int.toNat_natCast]
  have := xor_and_add a b
  omega
theorem bitAnd_nat (a b : Nat) : Builtin.bitAnd (a : Int) (b : Int) = ((a &&& b : Nat) : Int) := by
  rw [bitAnd_pp (Int.natCast_nonneg _) (Int.natCast_nonneg _), Int.toNat_natCast, Int.toNat_natCast]
theorem IsLot.small {n : Nat} {l : List Nat} (h : IsLot n l) (hn : n ≤ 1000) : ∀ p ∈ l, p < 1000 := fun p hp => Nat.lt_of_lt_of_le (h.lt p hp) hn
theorem IsLot.mask {n : Nat} {l : List Nat} (h : IsLot n l) (hn : n ≤ 1000) : maskN l < 2 ^ 1000 := maskN_lt (h.small hn)
section
variable {P : Program} {w : World} {K : PySem.W.Frag} {mg : Str → Option Value} {base : Heap} {tM : Tok}
/-! ### plus -/
def spPlus (C : Addr) : Sp := fun vs H Q E => ∃ (v1 : V) (d1 : PyData) (v2 : V) (d2 : PyData), vs = [v1, v2] ∧ Dv H v1 d1 ∧ Dv H v2 d2 ∧
  (isLotD ((60 : Nat) : Int) d1 = false → ∀ x, H x = none → E (.ref C) (some x) (upd H x (.xd [("what", v1)]))) ∧
  (isLotD ((60 : Nat) : Int) d1 = true → isLotD ((60 : Nat) : Int) d2 = false → ∀ x, H x = none → E (.ref C) (some x) (upd H x (.xd [("what", v2)]))) ∧
  (∀ l1 l2, d1 = lotD l1 → d2 = lotD l2 → IsLot 60 l1 → IsLot 60 l2 → ∀ (p : Addr) (H' : Hp), H p = none → Same H H' → H' p = some (.tup (lotV (lotN (maskN l1 ^^^ maskN l2)))) → Q (.ref p) H')
theorem scPlus : FnScope ["one", "other"] ["one", "other"] (defScope s_plus) := ⟨rfl, rfl, rfl, by decide +kernel, rfl, by decide +kernel, by decide +kernel⟩
theorem ok_plus {f C : Addr} {fd : FuncData} (hM : mg "MOST_PLACES" = some (.int 60 tM)) (DN : DefOk P w K mg base (L2.CX P w) 5 "need_lot" ["value", "size"] (spNeedLot C)) (DM : DefOk P w K mg base CX0 1 "mask_of" ["lot"] spMaskOf)
    (DL : DefOk P w K mg base CX0 1 "lot_of" ["mask"] spLotOf) (F : FnP K "plus" s_plus f fd) : FnOk P w K mg base (L2.CX P w) 6 f fd ["one", "other"] (spPlus C) := by
  refine F.ok scPlus (fun vs H Q E h => ?_) (fun cdv A outer s H vs Q E hr h => ?_)
  · obtain ⟨v1, d1, v2, d2, rfl, _⟩ := h
    rfl
  · obtain ⟨v1, d1, v2, d2, rfl, h1, h2, kN1, kN2, kY⟩ := h
    have tk : Takes (cxOf (L2.CX P w) P w K mg base ["one", "other"] "plus" (defScope s_plus) f cdv A outer s H E) (fun cls d _ H => E cls d H) := takes_of rfl rfl rfl rfl
    have px := passes_call tk (E := E) (fun _ _ _ _ h => h)
    refine ⟨_, pss_cons (ps_expr (pe_dX DN hr rfl px (pa_cons (pv 0) (pa_cons (pe_glob (v := .int 60) rfl hM ⟨_, rfl⟩) pa_nil))))
      (pss_cons (ps_expr (pe_dX DN hr rfl px (pa_cons (pv 1) (pa_cons (pe_glob (v := .int 60) rfl hM ⟨_, rfl⟩) pa_nil))))
      (pss_one (ps_ret (pe_d DL hr rfl (pa_cons (pe_op op_xor (pe_d DM hr rfl (pa_cons (pv 0) pa_nil)) (pe_d DM hr rfl (pa_cons (pv 1) pa_nil))) pa_nil))))), ?_⟩
    refine ⟨_, rfl, v1, d1, 60, rfl, h1, by decide, fun e1 => ?_, kN1⟩
    refine ⟨_, rfl, v2, d2, 60, rfl, h2, by decide, fun e2 => ?_, kN2 e1⟩
    obtain ⟨l1, rfl, i1⟩ := isLotD_inv e1
    obtain ⟨l2, rfl, i2⟩ := isLotD_inv e2
    obtain ⟨a1, rfl, g1⟩ := h1.lot_inv
    obtain ⟨a2, rfl, g2⟩ := h2.lot_inv
    refine ⟨_, rfl, a1, l1, rfl, g1, i1.small (by decide), _, rfl, a2, l2, rfl, g2, i2.small (by decide), _, _, rfl, rfl, ?_⟩
    refine ⟨maskN l1 ^^^ maskN l2, congrArg (fun z => [V.int z]) (bitXor_nat _ _), Nat.xor_lt_two_pow (i1.mask (by decide)) (i2.mask (by decide)), fun p H' hp s5 g => ?_⟩
    exact kY l1 l2 rfl rfl i1 i2 p H' hp s5 g
/-! ### BlindError.__init__ -/
theorem scInit : FnScope ["self", "what"] ["self", "what"] (defScope s_BlindError_init) := ⟨rfl, rfl, rfl, by decide +kernel, rfl, by decide +kernel, by decide +kernel⟩
theorem ok_init {f : Addr} {fd : FuncData} {dvs : List V} {kws : List (Str × V)} (F : FunD K "__init__" "BlindError.__init__" (defArgs s_BlindError_init) (defBody s_BlindError_init) (defScope s_BlindError_init) dvs kws f fd) :
    FnOk P w K mg base CX0 1 f fd ["self", "what"] (spInit K) := by
  refine F.ok scInit (fun vs H Q E h => ?_) (fun cdv A outer s H vs Q E hr h => ?_)
  · obtain ⟨a, C, y, rfl, _⟩ := h
    rfl
  · obtain ⟨a, C, y, rfl, oc, nw, ha, k⟩ := h
    refine ⟨_, PSs.nox (pss_one (ps_ost (pv 0) (pv 1))), ?_⟩
    exact ⟨_, rfl, _, rfl, a, C, rfl, oc, nw, .inl ⟨ha, fun dx hd hne => k dx hd hne⟩⟩
end
end BT

set_option Elab.async false
set_option linter.all false
set_option maxRecDepth 100000
set_option maxHeartbeats 4000000
namespace BT
open PySem PySem.Spec PyProof.Rows L2
/-! ### the law's source of draws -/
/-- the seven items of a source -/
def srcL (l : Addr) (i b c cl n w : Int) : List V := [.ref l, .int i, .int b, .int c, .int cl, .int n, .int w]
theorem Src.put {l a : Addr} {H : Hp} (s : Src l a H) {i b c cl n w : Int} (h : 0 ≤ i) : Keeps l a H (upd H a (.lst (srcL l i b c cl n w))) := by
  obtain ⟨ns, h2⟩ := s.nums
  exact ⟨⟨⟨i, b, c, cl, n, w, h, upd_same⟩, ⟨ns, by rw [upd_ne s.ne]; exact h2⟩⟩, fun p o hp e => by rw [upd_ne hp]; exact e⟩
section
variable {P : Program} {w : World} {K : PySem.W.Frag} {mg : Str → Option Value} {base : Heap}
def spSource (K : PySem.W.Frag) : Sp := fun vs H Q _ => ∃ (a : Addr) (ns : List Int), vs = [.ref a] ∧ SqL K H a (ns.map V.int) ∧ ∀ (p l : Addr) (H' : Hp), H p = none → Same H H' → Src l p H' → Q (.ref p) H'
theorem scSource : FnScope ["_law_script", "_law_whole", "_law_cell"] ["_law_script"] (defScope s_law_source) := ⟨rfl, rfl, rfl, by decide +kernel, rfl, by decide +kernel, by decide +kernel⟩
theorem ints_get {ns : List Int} {i : Nat} {x : V} (h : (ns.map V.int)[i]? = some x) : ∃ z, ns[i]? = some z ∧ x = .int z := by
  rw [List.getElem?_map] at h
  cases e : ns[i]? with
  | none => rw [e] at h; cases h
  | some z => rw [e] at h; exact ⟨z, rfl, (Option.some.inj h).symm⟩
theorem ok_law_source {f : Addr} {fd : FuncData} (T : Bi mg) (F : FnP K "_law_source" s_law_source f fd) : FnOk P w K mg base CX0 1 f fd ["_law_script"] (spSource K) := by
  refine F.ok scSource (fun vs H Q E h => ?_) (fun cdv A outer s H vs Q E hr h => ?_)
  · obtain ⟨a, ns, rfl, _⟩ := h
    rfl
  · obtain ⟨a, ns, rfl, hS, k⟩ := h
    refine ⟨_, PSs.nox (pss_cons (ps_set (i := 1) scSource.nd rfl (Or.inl rfl) pe_int)
      (pss_cons (ps_for PassesOwn.never rfl (pi_list (pv 0)) (pg_name (i := 2) scSource.nd rfl (Or.inl rfl)) (pss_one (ps_set (i := 1) scSource.nd rfl (Or.inl rfl) (pe_op op_add (pv 1) (pv 2)))))
      (pss_one (ps_ret (pe_lst (pa_cons (pe_callTy call_list_of rfl T.list PyProof.Rows.boot_list (pa_cons (pv 0) pa_nil)) (pa_cons pe_int (pa_cons pe_int (pa_cons pe_int (pa_cons pe_int (pa_cons pe_int (pa_cons (pv 1) pa_nil)))))))))))), ?_⟩
    refine ⟨_, rfl, a, rfl, ⟨_, hS⟩, for_list (K := K) (a := a) (xs := ns.map V.int) (fun i σ H' => H' = H ∧ ∃ (z : Int) (y : Option V), σ = [some (.ref a), some (.int z), y]) ⟨rfl, 0, none, rfl⟩ (fun i σ H' _ ⟨e, _⟩ => e ▸ hS) ?_ ?_⟩
    · rintro i x σ H' hi ⟨rfl, z, y, rfl⟩
      obtain ⟨u, _, rfl⟩ := ints_get hi
      exact ⟨_, rfl, _, rfl, _, _, rfl, rfl, rfl, z + u, some (.int u), rfl⟩
    · rintro σ H' ⟨rfl, z, y, rfl⟩
      refine ⟨_, rfl, a, _, rfl, .inl hS, fun l hl => ⟨_, rfl, (by show 7 ≤ sizeLine; decide), fun p hp => ?_⟩⟩
      have hlp : l ≠ p := fun e => by rw [← e, upd_same] at hp; cases hp
      have hp0 : H' p = none := by rw [upd_ne (Ne.symm hlp)] at hp; exact hp
      refine k p l _ hp0 (Same.new (Same.new (Same.refl H') hl) hp) ⟨⟨0, 0, 0, 0, 0, z, by decide, upd_same⟩, ⟨ns, ?_⟩⟩
      rw [upd_ne hlp, upd_same]
/-! ### next -/
def spNext : Sp := fun vs H Q _ => ∃ (l a : Addr), vs = [.ref a] ∧ Src l a H ∧ ∀ H', Keeps l a H H' → Q .non H'
theorem scNext : FnScope ["_law_source_here", "_law_cell"] ["_law_source_here"] (defScope s_law_next) := ⟨rfl, rfl, rfl, by decide +kernel, rfl, by decide +kernel, by decide +kernel⟩
theorem ok_law_next {f : Addr} {fd : FuncData} (T : Bi mg) (F : FnP K "_law_next" s_law_next f fd) : FnOk P w K mg base CX0 1 f fd ["_law_source_here"] spNext := by
  refine F.ok scNext (fun vs H Q E h => ?_) (fun cdv A outer s H vs Q E hr h => ?_)
  · obtain ⟨l, a, rfl, _⟩ := h
    rfl
  · obtain ⟨l, a, rfl, hS, k⟩ := h
    refine ⟨_, PSs.nox (pss_cons (ps_set (i := 1) scNext.nd rfl (Or.inl rfl) (pe_ix ix_list (pv 0) pe_int (fun _ _ => rfl)))
      (pss_cons (ps_asg pe_int (pg_sub (pv 0) pe_int set_list))
      (pss_cons (ps_if (pt_cmpR op_lt (pe_ix ix_list (pv 0) pe_int (fun _ _ => rfl)) (pe_callB call_len_seq (by rfl) T.len PySem.boot_len (pa_cons (pe_ix ix_list (pv 0) pe_int (fun _ _ => rfl)) pa_nil)) (nomark _))
        (pss_cons (ps_set (i := 1) scNext.nd rfl (Or.inl rfl) (pe_ix ix_list (pe_ix ix_list (pv 0) pe_int (fun _ _ => rfl)) (pe_ix ix_list (pv 0) pe_int (fun _ _ => rfl)) (fun _ _ => rfl)))
          (pss_one (ps_if (pt_cmpR op_ge (pe_callB call_abs (by rfl) T.abs PyProof.Rows.boot_abs (pa_cons (pv 1) pa_nil)) (pe_op op_pow pe_int pe_int) (nomark _))
            (pss_cons (ps_asg (pe_callB call_abs (by rfl) T.abs PyProof.Rows.boot_abs (pa_cons (pv 1) pa_nil)) (pg_sub (pv 0) pe_int set_list))
              (pss_one (ps_asg pe_int (pg_sub (pv 0) pe_int set_list)))) pss_nil))) pss_nil)
      (pss_cons (ps_asg (pe_op op_add (pe_ix ix_list (pv 0) pe_int (fun _ _ => rfl)) pe_int) (pg_sub (pv 0) pe_int set_list))
      (pss_one (ps_asg (pv 1) (pg_sub (pv 0) pe_int set_list))))))), ?_⟩
    obtain ⟨i, b, c, cl, n, z, h0, h1⟩ := hS.at_
    obtain ⟨ns, h2⟩ := hS.nums
    have ne := hS.ne
    -- the last two rows, from any state in which the source stands as srcL l i b' c' cl n z
    have fin : ∀ (H1 : Hp) (b' c' y : Int), H1 a = some (.lst (srcL l i b' c' cl n z)) → (∀ p, p ≠ a → H1 p = H p) →
        tSeq (tAsg (tOp (rI0 fun i j => .int (i + j)) (tOp (rIxL K) (tVar 0) (tC (.int 1))) (tC (.int 1))) (gSub (tVar 0) (tC (.int 1)) rSetL)) (tAsg (tVar 1) (gSub (tVar 0) (tC (.int 4)) rSetL)) { nx := fun _ H' => Q .non H', rt := Q } [some (.ref a), some (.int y)] H1 := by
      intro H1 b' c' y e1 e2
      refine ⟨_, rfl, a, _, 1, .int i, rfl, rfl, .inl (.inl e1), rfl, _, _, rfl, rfl, _, rfl, a, _, 1, 1, rfl, rfl, e1, rfl, ?_⟩
      refine ⟨_, rfl, _, rfl, a, _, 4, 4, rfl, rfl, upd_same, rfl, ?_⟩
      refine k _ ?_
      have q := hS.put (i := i + 1) (b := b') (c := c') (cl := y) (n := n) (w := z) (by omega)
      have e : upd (upd H1 a (.lst ((srcL l i b' c' cl n z).set 1 (.int (i + 1))))) a (.lst (((srcL l i b' c' cl n z).set 1 (.int (i + 1))).set 4 (.int y))) = upd H a (.lst (srcL l (i + 1) b' c' y n z)) := by
        rw [upd_upd]
        funext p
        by_cases hp : p = a
        · rw [hp, upd_same, upd_same]; rfl
        · rw [upd_ne hp, upd_ne hp, e2 p hp]
      show Keeps l a H (upd (upd H1 a (.lst ((srcL l i b' c' cl n z).set 1 (.int (i + 1))))) a (.lst (((srcL l i b' c' cl n z).set 1 (.int (i + 1))).set 4 (.int y))))
      rw [e]
      exact q
    refine ⟨_, rfl, a, _, 6, .int z, rfl, rfl, .inl (.inl h1), rfl, _, rfl, a, _, 3, 3, rfl, rfl, h1, rfl, ?_⟩
    have g1 : (upd H a (.lst (srcL l i b 6 cl n z))) a = some (.lst (srcL l i b 6 cl n z)) := upd_same
    have g2 : (upd H a (.lst (srcL l i b 6 cl n z))) l = some (.lst (ns.map V.int)) := by rw [upd_ne ne]; exact h2
    show tSeq _ _ _ _ (upd H a (.lst (srcL l i b 6 cl n z)))
    refine ⟨_, rfl, a, _, 1, .int i, rfl, rfl, .inl (.inl g1), rfl, _, rfl, a, _, 0, .ref l, rfl, rfl, .inl (.inl g1), rfl, l, _, rfl, .inl (.inl (.inl g2)), _, _, rfl, rfl, _, rfl, ?_⟩
    rw [List.length_map]
    by_cases hlt : i < (ns.length : Int)
    · rw [decide_eq_true hlt]
      obtain ⟨j, rfl⟩ := Int.eq_ofNat_of_zero_le h0
      have hj : j < ns.length := by omega
      have hget : ((ns.map V.int))[j]? = some (.int ns[j]) := by rw [List.getElem?_map, List.getElem?_eq_getElem hj]; rfl
      refine iteT ⟨_, rfl, a, _, 0, .ref l, rfl, rfl, .inl (.inl g1), rfl, _, rfl, a, _, 1, .int (j : Nat), rfl, rfl, .inl (.inl g1), rfl, l, _, (j : Nat), _, rfl, rfl, .inl (.inl g2), atI_nat hget, ?_⟩
      refine ⟨_, rfl, _, rfl, _, _, rfl, rfl, ⟨by decide, by decide, by decide⟩, _, _, rfl, rfl, _, rfl, ?_⟩
      refine ite2 (fun _ => ?_) (fun _ => ?_)
      · refine ⟨_, rfl, _, rfl, _, rfl, a, _, 2, 2, rfl, rfl, g1, rfl, ?_⟩
        refine ⟨_, rfl, a, _, 3, 3, rfl, rfl, upd_same, rfl, ?_⟩
        refine fin _ (if ns[j] < 0 then -ns[j] else ns[j]) 0 ns[j] ?_ fun p hp => ?_
        · rw [upd_same]; rfl
        · rw [upd_ne hp, upd_ne hp, upd_ne hp]
      · exact fin _ b 6 ns[j] g1 fun p hp => upd_ne hp
    · rw [decide_eq_false hlt]
      exact iteF (fin _ b 6 z g1 fun p hp => upd_ne hp)
/-! ### mixed -/
def spMixed : Sp := fun vs H Q _ => ∃ x y z : Int, vs = [.int x, .int y, .int z] ∧ ∀ v : Int, Q (.int v) H
theorem scMixed : FnScope ["_law_cell", "_law_whole", "_law_count", "_law_number"] ["_law_cell", "_law_whole", "_law_count"] (defScope s_law_mixed) := ⟨rfl, rfl, rfl, by decide +kernel, rfl, by decide +kernel, by decide +kernel⟩
theorem ok_law_mixed {f : Addr} {fd : FuncData} (T : Bi mg) (F : FnP K "_law_mixed" s_law_mixed f fd) : FnOk P w K mg base CX0 1 f fd ["_law_cell", "_law_whole", "_law_count"] spMixed := by
  refine F.ok scMixed (fun vs H Q E h => ?_) (fun cdv A outer s H vs Q E hr h => ?_)
  · obtain ⟨x, y, z, rfl, _⟩ := h
    rfl
  · obtain ⟨x, y, z, rfl, k⟩ := h
    refine ⟨_, PSs.nox (pss_cons (ps_set (i := 3) scMixed.nd rfl (Or.inl rfl) (pe_op op_add (pe_op op_add (pe_op op_add
        (pe_op op_mul (pe_op op_mod (pe_callTy call_int1 rfl T.int PyProof.Rows.boot_int (pa_cons (pe_callB call_abs (by rfl) T.abs PyProof.Rows.boot_abs (pa_cons (pv 0) pa_nil)) pa_nil)) pe_int) pe_int)
        (pe_op op_mul (pe_op op_mod (pe_callTy call_int1 rfl T.int PyProof.Rows.boot_int (pa_cons (pe_callB call_abs (by rfl) T.abs PyProof.Rows.boot_abs (pa_cons (pv 1) pa_nil)) pa_nil)) pe_int) pe_int))
        (pe_op op_mul pe_int (pv 2))) pe_int))
      (pss_cons (ps_set (i := 3) scMixed.nd rfl (Or.inl rfl) (pe_op op_mod (pe_callTy call_int1 rfl T.int PyProof.Rows.boot_int (pa_cons (pe_op op_mul (pv 3) pe_int) pa_nil)) pe_int))
      (pss_cons (ps_set (i := 3) scMixed.nd rfl (Or.inl rfl) (pe_op op_mod (pe_callTy call_int1 rfl T.int PyProof.Rows.boot_int (pa_cons (pe_op op_mul (pv 3) (pe_op op_add (pe_op op_fdiv (pv 3) pe_int) pe_int)) pa_nil)) pe_int))
      (pss_cons (ps_set (i := 3) scMixed.nd rfl (Or.inl rfl) (pe_op op_mod (pe_callTy call_int1 rfl T.int PyProof.Rows.boot_int (pa_cons (pe_op op_mul (pv 3) (pe_op op_add (pe_op op_fdiv (pv 3) pe_int) pe_int)) pa_nil)) pe_int))
      (pss_one (ps_ret (pe_op op_fdiv (pv 3) pe_int))))))), ?_⟩
    have cm : ∀ {u m t : Int}, 0 < m → m < 2 ^ 64 → CMul (u % m) t := fun {u m t} h1 h2 => .inl ⟨by have := Int.emod_nonneg u (Int.ne_of_gt h1); omega, by have := Int.emod_lt_of_pos u h1; omega⟩
    refine ⟨_, rfl, _, rfl, .inl ⟨_, rfl, _, _, rfl, rfl, (by show (0 : Int) < 2147483647; decide), _, _, rfl, rfl, cm (by decide) (by decide), ?_⟩⟩
    refine ⟨_, rfl, _, rfl, .inl ⟨_, rfl, _, _, rfl, rfl, (by show (0 : Int) < 2147483647; decide), _, _, rfl, rfl, cm (by decide) (by decide), _, _, rfl, rfl, ?_⟩⟩
    refine ⟨_, rfl, _, _, rfl, rfl, .inl ⟨by decide, by decide⟩, _, _, rfl, rfl, _, _, rfl, rfl, ?_⟩
    refine ⟨_, rfl, _, _, rfl, rfl, .inr ⟨by decide, by decide⟩, .inl ⟨_, rfl, _, _, rfl, rfl, (by show (0 : Int) < 2147483647; decide), ?_⟩⟩
    refine ⟨_, rfl, _, rfl, _, _, rfl, rfl, ⟨by decide, by decide⟩, _, _, rfl, rfl, _, _, rfl, rfl, cm (by decide) (by decide), .inl ⟨_, rfl, _, _, rfl, rfl, (by show (0 : Int) < 2147483647; decide), ?_⟩⟩
    refine ⟨_, rfl, _, rfl, _, _, rfl, rfl, ⟨by decide, by decide⟩, _, _, rfl, rfl, _, _, rfl, rfl, cm (by decide) (by decide), .inl ⟨_, rfl, _, _, rfl, rfl, (by show (0 : Int) < 2147483399; decide), ?_⟩⟩
    exact ⟨_, rfl, _, _, rfl, rfl, ⟨by decide, by decide⟩, k _⟩
end
end BT

set_option Elab.async false
set_option linter.all false
set_option maxRecDepth 100000
set_option maxHeartbeats 4000000
set_option exponentiation.threshold 2000
namespace BT
open PySem PySem.Spec PyProof.Rows L2
section
variable {P : Program} {w : World} {K : PySem.W.Frag} {mg : Str → Option Value} {base : Heap}
/-! ### draw -/
def spDraw : Sp := fun vs H Q _ => ∃ (l a : Addr) (m : Int), vs = [.ref a, .int m] ∧ 0 < m ∧ m < 1073741824 ∧ Src l a H ∧ ∀ (v : Int) (H' : Hp), 0 ≤ v → v < m → Keeps l a H H' → Q (.int v) H'
theorem scDraw : FnScope ["_law_source_here", "_law_many", "_law_value"] ["_law_source_here", "_law_many"] (defScope s_law_draw) := ⟨rfl, rfl, rfl, by decide +kernel, rfl, by decide +kernel, by decide +kernel⟩
theorem ok_law_draw {f : Addr} {fd : FuncData} (T : Bi mg) (DN : DefOk P w K mg base CX0 1 "_law_next" ["_law_source_here"] spNext) (DM : DefOk P w K mg base CX0 1 "_law_mixed" ["_law_cell", "_law_whole", "_law_count"] spMixed)
    (F : FnP K "_law_draw" s_law_draw f fd) : FnOk P w K mg base CX0 2 f fd ["_law_source_here", "_law_many"] spDraw := by
  refine F.ok scDraw (fun vs H Q E h => ?_) (fun cdv A outer s H vs Q E hr h => ?_)
  · obtain ⟨l, a, m, rfl, _⟩ := h
    rfl
  · obtain ⟨l, a, m, rfl, m0, m1, hS, k⟩ := h
    refine ⟨_, PSs.nox (pss_cons (ps_asg (pe_op op_add (pe_ix ix_list (pv 0) pe_int (fun _ _ => rfl)) pe_int) (pg_sub (pv 0) pe_int set_list))
      (pss_cons (ps_if (PW.pt (pw_and (pt_cmpR op_eq (pe_ix ix_list (pv 0) pe_int (fun _ _ => rfl)) pe_int (nomark _)) (pw_and1 (pt_cmpR op_eq (pe_ix ix_list (pv 0) pe_int (fun _ _ => rfl)) pe_int (nomark _)))))
        (pss_one (ps_expr (pe_d DN hr rfl (pa_cons (pv 0) pa_nil)))) pss_nil)
      (pss_cons (ps_if (pt_cmpR op_gt (pe_ix ix_list (pv 0) pe_int (fun _ _ => rfl)) pe_int (nomark _))
        (pss_cons (ps_set (i := 2) scDraw.nd rfl (Or.inl rfl) (pe_op op_mod (pe_callTy call_int1 rfl T.int PyProof.Rows.boot_int (pa_cons (pe_ix ix_list (pv 0) pe_int (fun _ _ => rfl)) pa_nil)) (pv 1)))
          (pss_cons (ps_asg (pe_op op_fdiv (pe_ix ix_list (pv 0) pe_int (fun _ _ => rfl)) (pv 1)) (pg_sub (pv 0) pe_int set_list))
            (pss_one (ps_ret (pv 2))))) pss_nil)
      (pss_cons (ps_asg (pe_op op_sub (pe_ix ix_list (pv 0) pe_int (fun _ _ => rfl)) pe_int) (pg_sub (pv 0) pe_int set_list))
      (pss_one (ps_ret (pe_op op_mod (pe_callTy call_int1 rfl T.int PyProof.Rows.boot_int (pa_cons (pe_d DM hr rfl (pa_cons (pe_ix ix_list (pv 0) pe_int (fun _ _ => rfl)) (pa_cons (pe_ix ix_list (pv 0) pe_int (fun _ _ => rfl)) (pa_cons (pe_ix ix_list (pv 0) pe_int (fun _ _ => rfl)) pa_nil)))) pa_nil)) (pv 1)))))))), ?_⟩
    obtain ⟨i, b, c, cl, n, z, h0, h1⟩ := hS.at_
    -- count + 1
    refine ⟨_, rfl, a, _, 5, .int n, rfl, rfl, .inl (.inl h1), rfl, _, _, rfl, rfl, _, rfl, a, _, 5, 5, rfl, rfl, h1, rfl, ?_⟩
    have k1 : Keeps l a H (upd H a (.lst (srcL l i b c cl (n + 1) z))) := hS.put h0
    have g1 : (upd H a (.lst (srcL l i b c cl (n + 1) z))) a = some (.lst (srcL l i b c cl (n + 1) z)) := upd_same
    show tSeq _ _ _ _ (upd H a (.lst (srcL l i b c cl (n + 1) z)))
    generalize upd H a (.lst (srcL l i b c cl (n + 1) z)) = H1 at k1 g1
    -- the rest, from any source
    have rest : ∀ H2 : Hp, Keeps l a H H2 → (tSeq (tIfS (tTest (tOp (rI0 fun i j => .bl (decide (j < i))) (tOp (rIxL K) (tVar 0) (tC (.int 2))) (tC (.int 0))))
        (tSeq (tAsg (tOp (rI (fun _ j => 0 < j) fun i j => .int (i % j)) (tCB (fun xs H Q => (∃ i, xs = [.int i] ∧ Q (.int i) H) ∨ ∃ k, xs = [.bl k] ∧ Q (.int (if k then 1 else 0)) H) (tCons (tOp (rIxL K) (tVar 0) (tC (.int 2))) tNil)) (tVar 1)) (gName 2))
          (tSeq (tAsg (tOp (rI CDiv fun i j => .int (i / j)) (tOp (rIxL K) (tVar 0) (tC (.int 2))) (tVar 1)) (gSub (tVar 0) (tC (.int 2)) rSetL)) (tRet (tVar 2)))) tNext)
        (tSeq (tAsg (tOp (rI0 fun i j => .int (i - j)) (tOp (rIxL K) (tVar 0) (tC (.int 3))) (tC (.int 1))) (gSub (tVar 0) (tC (.int 3)) rSetL))
          (tRet (tOp (rI (fun _ j => 0 < j) fun i j => .int (i % j)) (tCB (fun xs H Q => (∃ i, xs = [.int i] ∧ Q (.int i) H) ∨ ∃ k, xs = [.bl k] ∧ Q (.int (if k then 1 else 0)) H) (tCons (tCall spMixed [] E0 (tCons (tOp (rIxL K) (tVar 0) (tC (.int 4))) (tCons (tOp (rIxL K) (tVar 0) (tC (.int 6))) (tCons (tOp (rIxL K) (tVar 0) (tC (.int 5))) tNil)))) tNil)) (tVar 1)))))
        { nx := fun _ H' => Q .non H', rt := Q } [some (.ref a), some (.int m), none] H2 := by
      intro H2 k2
      obtain ⟨i, b, c, cl, n, z, h0, h1⟩ := k2.src.at_
      refine ⟨_, rfl, a, _, 2, .int b, rfl, rfl, .inl (.inl h1), rfl, _, _, rfl, rfl, _, rfl, ?_⟩
      refine ite2 (fun _ => ?_) (fun _ => ?_)
      · refine ⟨_, rfl, a, _, 2, .int b, rfl, rfl, .inl (.inl h1), rfl, .inl ⟨_, rfl, _, rfl, _, _, rfl, rfl, m0, ?_⟩⟩
        refine ⟨_, rfl, a, _, 2, .int b, rfl, rfl, .inl (.inl h1), rfl, _, rfl, _, _, rfl, rfl, ⟨m0, m1⟩, _, rfl, a, _, 2, 2, rfl, rfl, h1, rfl, ?_⟩
        refine ⟨_, rfl, k (b % m) _ (Int.emod_nonneg _ (Int.ne_of_gt m0)) (Int.emod_lt_of_pos _ m0) (k2.trans ?_)⟩
        exact k2.src.put (i := i) (b := b / m) (c := c) (cl := cl) (n := n) (w := z) h0
      · refine ⟨_, rfl, a, _, 3, .int c, rfl, rfl, .inl (.inl h1), rfl, _, _, rfl, rfl, _, rfl, a, _, 3, 3, rfl, rfl, h1, rfl, ?_⟩
        have k3 : Keeps l a H2 (upd H2 a (.lst (srcL l i b (c - 1) cl n z))) := k2.src.put h0
        have g3 : (upd H2 a (.lst (srcL l i b (c - 1) cl n z))) a = some (.lst (srcL l i b (c - 1) cl n z)) := upd_same
        refine ⟨_, rfl, a, _, 4, .int cl, rfl, rfl, .inl (.inl g3), rfl, _, rfl, a, _, 6, .int z, rfl, rfl, .inl (.inl g3), rfl, _, rfl, a, _, 5, .int n, rfl, rfl, .inl (.inl g3), rfl, cl, z, n, rfl, fun v => ?_⟩
        refine .inl ⟨_, rfl, _, rfl, _, _, rfl, rfl, m0, ?_⟩
        exact k (v % m) _ (Int.emod_nonneg _ (Int.ne_of_gt m0)) (Int.emod_lt_of_pos _ m0) (k2.trans k3)
    refine ⟨_, rfl, a, _, 2, .int b, rfl, rfl, .inl (.inl g1), rfl, rfl, _, rfl, ?_⟩
    refine ite2 (fun _ => ?_) (fun _ => ?_)
    · refine ⟨_, rfl, a, _, 3, .int c, rfl, rfl, .inl (.inl g1), rfl, rfl, _, rfl, ?_⟩
      refine ite2 (fun _ => ?_) (fun _ => rest H1 k1)
      exact ⟨_, rfl, l, a, rfl, k1.src, fun H2 k2 => rest H2 (k1.trans k2)⟩
    · exact iteF (rest H1 k1)
/-! ### great -/
def spGreat : Sp := fun vs H Q _ => ∃ (l a : Addr) (n : Nat), vs = [.ref a, .int (n : Int)] ∧ n ≤ 200 ∧ Src l a H ∧ ∀ (m : Nat) (H' : Hp), m < 2 ^ n → Keeps l a H H' → Q (.int (m : Int)) H'
theorem scGreat : FnScope ["_law_source_here", "_law_size", "_law_mask", "_law_k"] ["_law_source_here", "_law_size"] (defScope s_law_great) := ⟨rfl, rfl, rfl, by decide +kernel, rfl, by decide +kernel, by decide +kernel⟩
theorem ok_law_great {f : Addr} {fd : FuncData} (T : Bi mg) (DD : DefOk P w K mg base CX0 2 "_law_draw" ["_law_source_here", "_law_many"] spDraw) (F : FnP K "_law_great" s_law_great f fd) :
    FnOk P w K mg base CX0 3 f fd ["_law_source_here", "_law_size"] spGreat := by
  refine F.ok scGreat (fun vs H Q E h => ?_) (fun cdv A outer s H vs Q E hr h => ?_)
  · obtain ⟨l, a, n, rfl, _⟩ := h
    rfl
  · obtain ⟨l, a, n, rfl, hn, hS, k⟩ := h
    refine ⟨_, PSs.nox (pss_cons (ps_set (i := 2) scGreat.nd rfl (Or.inl rfl) pe_int)
      (pss_cons (ps_for PassesOwn.never rfl (pi_range1 rfl T.range (pa_cons (pe_op op_add (pe_op op_fdiv (pv 1) pe_int) pe_int) pa_nil)) (pg_name (i := 3) scGreat.nd rfl (Or.inl rfl))
        (pss_one (ps_set (i := 2) scGreat.nd rfl (Or.inl rfl) (pe_op op_add (pe_op op_mul (pv 2) pe_int) (pe_d DD hr rfl (pa_cons (pv 0) (pa_cons pe_int pa_nil)))))))
      (pss_one (ps_ret (pe_op op_andM (pv 2) (pe_op op_sub (pe_op op_shl pe_int (pv 1)) pe_int)))))), ?_⟩
    refine ⟨_, rfl, _, _, rfl, rfl, ⟨by decide, by decide⟩, _, _, rfl, rfl, _, rfl, ?_, ?_, for_range (fun j σ H' => Keeps l a H H' ∧ ∃ (x : Int) (y : Option V), σ = [some (.ref a), some (.int (n : Int)), some (.int x), y]) ⟨Keeps.refl hS, 0, none, rfl⟩ ?_ ?_⟩
    · omega
    · omega
    · rintro j σ H' hj ⟨k1, x, y, rfl⟩
      refine ⟨_, rfl, _, _, rfl, rfl, .inr ⟨by decide, by decide⟩, _, rfl, l, a, 256, rfl, by decide, by decide, k1.src, fun v H2 v0 v1 k2 => ?_⟩
      exact ⟨_, _, rfl, rfl, k1.trans k2, _, _, rfl⟩
    · rintro σ H' ⟨k1, x, y, rfl⟩
      refine ⟨_, rfl, _, rfl, 1, (n : Int), rfl, rfl, ⟨by omega, by omega, by decide⟩, _, _, rfl, rfl, x, n, rfl, ?_, ?_⟩
      · rw [Int.toNat_natCast, Int.one_mul]
      · have h0 : 0 ≤ x % 2 ^ n := Int.emod_nonneg _ (Int.ne_of_gt (Int.pow_pos (by decide)))
        have h1 : x % 2 ^ n < 2 ^ n := Int.emod_lt_of_pos _ (Int.pow_pos (by decide))
        obtain ⟨q, hq⟩ := Int.eq_ofNat_of_zero_le h0
        show Q (.int (x % 2 ^ n)) H'
        rw [hq]
        refine k q H' ?_ k1
        rw [hq] at h1
        have e : ((2 ^ n : Nat) : Int) = 2 ^ n := by rw [Int.natCast_pow]; rfl
        rw [← e] at h1
        exact Int.ofNat_lt.mp h1
/-! ### the law's lot of a mask -/
theorem scLawLot : FnScope ["_law_mask", "_law_places", "_law_place"] ["_law_mask"] (defScope s_law_lot) := ⟨rfl, rfl, rfl, by decide +kernel, rfl, by decide +kernel, by decide +kernel⟩
theorem bit_one (m p : Nat) : decide (V.int (Builtin.bitAnd ((m : Int) / 2 ^ ((p : Int).toNat)) 1) = V.int 1) = m.testBit p := by
  rw [dec_int, bitAnd_m1, Int.toNat_natCast, Nat.testBit_eq_decide_div_mod_eq]
  have e : ((m : Int) / 2 ^ p) % 2 = ((m / 2 ^ p % 2 : Nat) : Int) := by
    rw [Int.natCast_emod, Int.natCast_ediv, Int.natCast_pow]; rfl
  rw [e]
  rcases Nat.mod_two_eq_zero_or_one (m / 2 ^ p) with h | h <;> rw [h] <;> rfl
theorem ok_law_lot {f : Addr} {fd : FuncData} (T : Bi mg) (F : FnP K "_law_lot" s_law_lot f fd) : FnOk P w K mg base CX0 1 f fd ["_law_mask"] spLotOf := by
  refine F.ok scLawLot (fun vs H Q E h => ?_) (fun cdv A outer s H vs Q E hr h => ?_)
  · obtain ⟨m, rfl, _⟩ := h
    rfl
  · obtain ⟨m, rfl, hm, k⟩ := h
    refine ⟨_, PSs.nox (pss_cons (ps_set (i := 1) scLawLot.nd rfl (Or.inl rfl) (pe_lst pa_nil))
      (pss_cons (ps_for PassesOwn.never rfl (pi_range1 rfl T.range (pa_cons (pe_bits (pv 0)) pa_nil)) (pg_name (i := 2) scLawLot.nd rfl (Or.inl rfl))
        (pss_one (ps_if (pt_cmpR op_eq (pe_op op_and (pe_op op_shr (pv 0) (pv 2)) pe_int) pe_int (nomark _))
          (pss_one (ps_expr (pe_bm PySem.F.plainAttrs_list PySem.F.slot_list_append PySem.F.type_list_append mt_append (pv 1) (pa_cons (pv 2) pa_nil)))) pss_nil)))
      (pss_one (ps_ret (pe_tupleOf rfl T.tuple (pv 1)))))), ?_⟩
    have hb : bitsN m ≤ 1000 := bitsN_le hm
    refine ⟨Nat.zero_le _, fun D hD => ⟨_, rfl, (m : Int), rfl, _, rfl, ?_, ?_, ?_⟩⟩
    · rw [intBits_nat]; omega
    · rw [intBits_nat]; omega
    rw [intBits_nat, Int.toNat_natCast]
    refine for_range (lo := 0) (n := bitsN m) (fun i σ H' => Same H H' ∧ H' D = some (.lst (lotV (lotB i m))) ∧ ∃ y : Option V, σ = [some (.int (m : Int)), some (.ref D), y]) ⟨Same.new (Same.refl H) hD, upd_same, none, rfl⟩ ?_ ?_
    · rintro i σ H' hi ⟨s5, hd, y, rfl⟩
      refine ⟨_, rfl, _, rfl, (m : Int), 0 + (i : Int), rfl, rfl, (by omega), _, _, rfl, rfl, rfl, _, rfl, ?_⟩
      rw [Int.zero_add, bit_one]
      rcases Bool.eq_false_or_eq_true (m.testBit i) with hb | hb
      · rw [hb, lotB_yes hb]
        refine iteT ⟨_, rfl, .inl ⟨rfl, _, SqL.of hd⟩, _, rfl, D, _, _, rfl, rfl, hd, ?_, Same.own s5 hD, ?_, _, rfl⟩
        · rw [lotV_len]
          exact Nat.lt_of_le_of_lt (lotB_len i m) (by rw [sizeLine_eq]; omega)
        · rw [upd_same]
          unfold lotV
          rw [List.map_append]; rfl
      · rw [hb, lotB_no hb]
        exact iteF ⟨s5, hd, _, rfl⟩
    · rintro σ H' ⟨s5, hd, y, rfl⟩
      refine ⟨_, rfl, .inl ⟨D, _, rfl, .inl (.inl hd), fun p hp => ?_⟩⟩
      exact k p _ (s5.free hp) (Same.new s5 hp) upd_same
end
end BT

set_option Elab.async false
set_option linter.all false
set_option maxRecDepth 100000
set_option maxHeartbeats 4000000
namespace BT
open PySem PySem.Spec PyProof.Rows L2
/-! ### short data -/
theorem dWA_le {n : Nat} : ∀ {ds : List PyData}, (∀ d ∈ ds, dW d + 2 ≤ n) → dWA ds ≤ n * ds.length
  | [], _ => Nat.le_refl _
  | d :: ds, h => by
    have h1 := h d (List.mem_cons_self ..)
    have h2 := dWA_le (n := n) (ds := ds) fun e he => h e (List.mem_cons_of_mem _ he)
    simp only [dWA, List.length_cons]
    rw [Nat.mul_succ]
    omega
theorem okIA_of : ∀ {ds : List PyData}, (∀ d ∈ ds, okI d = true) → okIA ds = true
  | [], _ => rfl
  | d :: ds, h => by
    simp only [okIA, Bool.and_eq_true]
    exact ⟨h d (List.mem_cons_self ..), okIA_of fun e he => h e (List.mem_cons_of_mem _ he)⟩
theorem depthA_le {n : Nat} : ∀ {ds : List PyData}, (∀ d ∈ ds, d.depth ≤ n) → PyData.depthAll ds ≤ n
  | [], _ => by simp [PyData.depthAll]
  | d :: ds, h => by
    simp only [PyData.depthAll]
    exact Nat.max_le.mpr ⟨h d (List.mem_cons_self ..), depthA_le fun e he => h e (List.mem_cons_of_mem _ he)⟩
theorem hasDictA_no : ∀ {ds : List PyData}, (∀ d ∈ ds, d.hasDict = false) → PyData.hasDictAll ds = false
  | [], _ => by simp [PyData.hasDictAll]
  | d :: ds, h => by
    simp only [PyData.hasDictAll, Bool.or_eq_false_iff]
    exact ⟨h d (List.mem_cons_self ..), hasDictA_no fun e he => h e (List.mem_cons_of_mem _ he)⟩
/-- one item of a short tuple -/
structure It1 (d : PyData) : Prop where
  ok : okI d = true
  w : dW d ≤ 41
  dp : d.depth = 0
  nd : d.hasDict = false
theorem it_int {z : Int} (h : z.natAbs < 10 ^ 40) : It1 (.int z) := ⟨by simp only [okI]; exact decide_eq_true h, by simp [dW], by simp [PyData.depth], by simp [PyData.hasDict]⟩
theorem it_none : It1 .none := ⟨rfl, by decide, by simp [PyData.depth], by simp [PyData.hasDict]⟩
theorem it_bool (b : Bool) : It1 (.bool b) := ⟨by simp [okI], by simp [dW], by simp [PyData.depth], by simp [PyData.hasDict]⟩
theorem it_str {x : Str} (h : strOk x = true) (hl : x.length ≤ 3) : It1 (.str x) := ⟨by simpa only [okI] using h, by simp only [dW]; omega, by simp [PyData.depth], by simp [PyData.hasDict]⟩
theorem It1.sm {d : PyData} (h : It1 d) : Sm 41 d := ⟨h.ok, h.w, by rw [h.dp]; omega, fun e => by rw [h.nd] at e; cases e⟩
theorem sm_items {ds : List PyData} {n : Nat} (hl : ds.length ≤ n) (h : ∀ d ∈ ds, It1 d) : Sm (43 * n + 3) (.tuple ds) ∧ Sm (43 * n + 3) (.list ds) := by
  have h1 := okIA_of fun d hd => (h d hd).ok
  have h2 := dWA_le (n := 43) fun d hd => by have := (h d hd).w; omega
  have h3 : 43 * ds.length ≤ 43 * n := Nat.mul_le_mul_left _ hl
  have h4 := depthA_le (n := 0) fun d hd => by rw [(h d hd).dp]; omega
  have h5 := hasDictA_no fun d hd => (h d hd).nd
  refine ⟨⟨by simpa only [okI] using h1, by simp only [dW]; omega, by simp only [PyData.depth]; omega, fun e => ?_⟩, ⟨by simpa only [okI] using h1, by simp only [dW]; omega, by simp only [PyData.depth]; omega, fun e => ?_⟩⟩
  · simp only [PyData.hasDict] at e; rw [h5] at e; cases e
  · simp only [PyData.hasDict] at e; rw [h5] at e; cases e
theorem nat_small {p : Nat} (h : p < 1000) : ((p : Int)).natAbs < 10 ^ 40 := Nat.lt_trans (show p < 1000 from h) (by decide)
theorem it_lot {l : List Nat} {n : Nat} (h : IsLot n l) (hn : n ≤ 1000) : ∀ d ∈ l.map (fun p : Nat => PyData.int (p : Int)), It1 d := fun d hd => by
  obtain ⟨p, hp, rfl⟩ := List.mem_map.mp hd
  exact it_int (nat_small (h.small hn p hp))
theorem asc_len {n : Nat} {l : List Nat} (h : IsLot n l) : l.length ≤ n := by
  have e : lotB n (maskN l) = l := lotB_maskN h.asc h.lt
  have := lotB_len n (maskN l)
  rw [e] at this
  exact this
theorem sm_lot {l : List Nat} {n : Nat} (h : IsLot n l) (hn : n ≤ 60) : Sm 3000 (lotD l) := by
  have q := (sm_items (n := 60) (by rw [List.length_map]; have := asc_len h; omega) (it_lot h (by omega))).1
  exact q.mono (by decide)
theorem noList_lot : ∀ l : List Nat, hasList (lotD l) = false
  | [] => rfl
  | p :: l => by
    have q := noList_lot l
    simp only [lotD, hasList, List.map_cons, hasListA, Bool.false_or] at q ⊢
    exact q
/-- a pair of a short text and short data -/
theorem sr_pair {x : Str} {d : PyData} {n : Nat} (hx : strOk x = true) (hl : x.length ≤ 10) (h : Sm n d) (hn : n ≤ 900000) : Sr (.tuple [.str x, d]) := by
  refine ⟨?_, ?_, ?_, fun e => ?_⟩
  · simp only [okI, okIA, Bool.and_eq_true]; exact ⟨hx, h.ok, trivial⟩
  · simp only [dW, dWA]; have := h.w; omega
  · simp only [PyData.depth, PyData.depthAll]; have := h.dp; omega
  · simp only [PyData.hasDict, PyData.hasDictAll, Bool.false_or, Bool.or_false] at e
    simp only [hasList, hasListA, Bool.false_or, Bool.or_false]
    exact h.dl e
/-! ### what is no lot -/
theorem lot_mem {n : Nat} {ds : List PyData} (h : isLotD (n : Int) (.tuple ds) = true) : ∀ d ∈ ds, ∃ p : Nat, d = .int (p : Int) ∧ p < n := fun d hd => by
  obtain ⟨l, e, hl⟩ := isLotD_inv h
  injection e with e
  rw [e] at hd
  obtain ⟨p, hp, rfl⟩ := List.mem_map.mp hd
  exact ⟨p, rfl, hl.lt p hp⟩
theorem no_lot {n : Nat} {ds : List PyData} {d : PyData} (hd : d ∈ ds) (h : ∀ p : Nat, p < n → d ≠ .int (p : Int)) : isLotD (n : Int) (.tuple ds) = false := by
  cases e : isLotD (n : Int) (.tuple ds) with
  | false => rfl
  | true =>
    obtain ⟨p, h1, h2⟩ := lot_mem e d hd
    exact absurd h1 (h p h2)
theorem twice_no_lot {n : Nat} {l : List Nat} {j : Nat} (hj : j < l.length) : isLotD (n : Int) (.tuple ((l.take (j + 1) ++ l.drop j).map fun p : Nat => PyData.int (p : Int))) = false := by
  cases e : isLotD (n : Int) (.tuple ((l.take (j + 1) ++ l.drop j).map fun p : Nat => PyData.int (p : Int))) with
  | false => rfl
  | true =>
    obtain ⟨m, em, hm⟩ := isLotD_inv e
    injection em with em
    have e2 : l.take (j + 1) ++ l.drop j = m := by
      have inj : ∀ {a b : List Nat}, a.map (fun p : Nat => PyData.int (p : Int)) = b.map (fun p : Nat => PyData.int (p : Int)) → a = b := by
        intro a
        induction a with
        | nil => intro b h; cases b with
          | nil => rfl
          | cons y b => cases h
        | cons x a ih => intro b h; cases b with
          | nil => cases h
          | cons y b =>
            rw [List.map_cons, List.map_cons] at h
            injection h with h1 h2
            injection h1 with h1
            rw [Int.ofNat.inj h1, ih h2]
      exact inj em
    have pw := hm.asc
    rw [← e2] at pw
    have hp := (List.pairwise_append.mp pw).2.2
    have h1 : l[j] ∈ l.take (j + 1) := by
      rw [take_snoc (List.getElem?_eq_getElem hj)]
      exact List.mem_append_right _ (List.mem_singleton.mpr rfl)
    have h2 : l[j] ∈ l.drop j := by
      rw [List.drop_eq_getElem_cons hj]; exact List.mem_cons_self ..
    exact absurd (hp _ h1 _ h2) (Nat.lt_irrefl _)
/-! ### tuples: concatenated, cut -/
theorem cat_any {K : PySem.W.Frag} {H : Hp} {a b : Addr} {xs ys : List V} {Q : VK} (ha : H a = some (.tup xs)) (hb : H b = some (.tup ys)) (hz : xs.length + ys.length ≤ 1000)
    (k : ∀ (p : Addr) (H' : Hp), Same H H' → H' p = some (.tup (xs ++ ys)) → Q (.ref p) H') : rCatA K (.ref a) (.ref b) H Q := by
  refine ⟨a, b, xs, ys, rfl, rfl, .inl (.inl ha), .inl (.inl hb), by rw [sizeLine_eq]; omega, fun e => ?_, fun _ e => ?_, fun _ _ p hp => ?_⟩
  · subst e; exact k b H (Same.refl H) hb
  · subst e; exact k a H (Same.refl H) (by rw [List.append_nil]; exact ha)
  · exact k p _ (Same.new (Same.refl H) hp) upd_same
theorem cut_to {K : PySem.W.Frag} {H : Hp} {a : Addr} {xs : List V} {j : Nat} {Q : VK} (ha : H a = some (.tup xs)) (hj : j ≤ xs.length)
    (k : ∀ (p : Addr) (H' : Hp), Same H H' → H' p = some (.tup (xs.take j)) → Q (.ref p) H') : rSlA K (.ref a) none (some (j : Int)) H Q := by
  have e1 : HT.sIx xs.length 0 none = 0 := rfl
  have e2 : HT.sIx xs.length xs.length (some (j : Int)) = j := by rw [HT.sIx_nat]; omega
  refine ⟨a, xs, rfl, .inl (.inl ha), fun h => ?_, fun _ p hp => ?_⟩
  · rw [e2] at h
    exact k a H (Same.refl H) (by rw [h.2, List.take_length]; exact ha)
  · refine k p _ (Same.new (Same.refl H) hp) ?_
    rw [upd_same]
    unfold cutV
    rw [e1, e2]; rfl
theorem cut_from {K : PySem.W.Frag} {H : Hp} {a : Addr} {xs : List V} {j : Nat} {z : Int} {Q : VK} (ha : H a = some (.tup xs)) (ez : z = (j : Int)) (hj : j ≤ xs.length)
    (k : ∀ (p : Addr) (H' : Hp), Same H H' → H' p = some (.tup (xs.drop j)) → Q (.ref p) H') : rSlA K (.ref a) (some z) none H Q := by
  subst ez
  have e1 : HT.sIx xs.length xs.length none = xs.length := rfl
  have e2 : HT.sIx xs.length 0 (some (j : Int)) = j := by rw [HT.sIx_nat]; omega
  refine ⟨a, xs, rfl, .inl (.inl ha), fun h => ?_, fun _ p hp => ?_⟩
  · rw [e2] at h
    exact k a H (Same.refl H) (by rw [h.1]; exact ha)
  · refine k p _ (Same.new (Same.refl H) hp) ?_
    rw [upd_same]
    unfold cutV
    rw [e1, e2, List.take_of_length_le (by rw [List.length_drop]; omega)]
/-! ### data behind draws -/
theorem Src.ne_tup {l a t : Addr} {H : Hp} {xs : List V} (s : Src l a H) (h : H t = some (.tup xs)) : t ≠ a := fun e => by
  obtain ⟨i, b, c, cl, n, w, _, h1⟩ := s.at_
  rw [e, h1] at h; cases h
theorem Src.del_tup {l a t : Addr} {H : Hp} {xs : List V} (s : Src l a H) (h : H t = some (.tup xs)) : L2.del H a t = some (.tup xs) := by rw [del_ne (s.ne_tup h)]; exact h
theorem Src.dv_tup {l a t : Addr} {H : Hp} {xs : List V} {ds : List PyData} (s : Src l a H) (h : H t = some (.tup xs)) (A : DvA (L2.del H a) xs ds) : Dv (L2.del H a) (.ref t) (.tuple ds) := .tup (s.del_tup h) A
theorem lotV_take (l : List Nat) (j : Nat) : (lotV l).take j = lotV (l.take j) := by unfold lotV; rw [List.map_take]
theorem lotV_drop (l : List Nat) (j : Nat) : (lotV l).drop j = lotV (l.drop j) := by unfold lotV; rw [List.map_drop]
theorem lotV_app (l m : List Nat) : lotV l ++ lotV m = lotV (l ++ m) := by unfold lotV; rw [List.map_append]
end BT

set_option Elab.async false
set_option linter.all false
set_option maxRecDepth 100000
set_option maxHeartbeats 4000000
namespace BT
open PySem PySem.Spec PyProof.Rows L2
section
variable {P : Program} {w : World} {K : PySem.W.Frag} {mg : Str → Option Value} {base : Heap}
/-! ### integer -/
theorem scInteger : FnScope ["_law_value"] ["_law_value"] (defScope s_law_integer) := ⟨rfl, rfl, rfl, by decide +kernel, rfl, by decide +kernel, by decide +kernel⟩
theorem ok_law_integer {f : Addr} {fd : FuncData} (T : Bi mg) (F : FnP K "_law_integer" s_law_integer f fd) : FnOk P w K mg base CX0 1 f fd ["_law_value"] spIsNumber := by
  refine F.ok scInteger (fun vs H Q E h => ?_) (fun cdv A outer s H vs Q E hr h => ?_)
  · obtain ⟨v, d, rfl, _⟩ := h
    rfl
  · obtain ⟨v, d, rfl, hd, k⟩ := h
    refine ⟨_, PSs.nox (pss_one (ps_ret (pe_and (pe_isD rfl T.isinstance rfl T.int PyProof.Rows.boot_int kit_int (pv 0)) (pe_one (pe_not (pe_isD rfl T.isinstance rfl T.bool PyProof.Rows.boot_bool kit_bool (pv 0))))))), ?_⟩
    refine ⟨_, rfl, v, d, rfl, hd, _, rfl, ?_⟩
    have e := numD_eq d
    cases hi : isD "int" d with
    | true =>
      rw [hi, Bool.true_and] at e
      refine iteT ⟨_, rfl, v, d, rfl, hd, _, rfl, ?_⟩
      rw [e]
      exact k
    | false =>
      rw [hi, Bool.false_and] at e
      refine iteF ?_
      show Q (.bl false) H
      rw [e]
      exact k
/-! ### same -/
def spSame : Sp := fun vs H Q _ => ∃ (a b : Addr) (d : PyData), vs = [.ref a, .ref b] ∧ Dv H (.ref a) d ∧ Dv H (.ref b) d ∧ Sr d ∧ Q (.bl true) H
theorem scSame : FnScope ["_law_actual", "_law_expected"] ["_law_actual", "_law_expected"] (defScope s_law_same) := ⟨rfl, rfl, rfl, by decide +kernel, rfl, by decide +kernel, by decide +kernel⟩
theorem ok_law_same {f : Addr} {fd : FuncData} (T : Bi mg) (F : FnP K "_law_same" s_law_same f fd) : FnG P w K mg base 1 f fd ["_law_actual", "_law_expected"] spSame := by
  refine okG_of F scSame (fun vs H Q E h => ?_) (fun cdv A outer s H vs Q hr gd h => ?_)
  · obtain ⟨a, b, d, rfl, _⟩ := h
    rfl
  · obtain ⟨a, b, d, rfl, ha, hb, sm, k⟩ := h
    have hu := hr.units
    refine ⟨_, PSs.nox (pss_one (ps_ret (pe_cmpR op_eq (pe_callB (call_repr gd hu) (by rfl) T.repr PyProof.Rows.boot_repr (pa_cons (pv 0) pa_nil)) (pe_callB (call_repr gd hu) (by rfl) T.repr PyProof.Rows.boot_repr (pa_cons (pv 1) pa_nil)) (nomark _)))), ?_⟩
    refine ⟨_, rfl, a, d, rfl, ha, sm, _, rfl, b, d, rfl, hb, sm, rfl, ?_⟩
    rw [decide_eq_true rfl]
    exact k
/-! ### nested -/
def nestD (d : PyData) : Nat → PyData
  | 0 => d
  | k + 1 => if k % 2 = 0 then .tuple [nestD d k] else .list [nestD d k]
def spNested : Sp := fun vs H Q _ => ∃ (v : V) (d : PyData) (n : Nat), vs = [v, .int (n : Int)] ∧ Dv H v d ∧ n ≤ 40 ∧ ∀ (v' : V) (H' : Hp), Same H H' → Dv H' v' (nestD d n) → Q v' H'
theorem scNested : FnScope ["_law_value", "_law_deep", "_law_k"] ["_law_value", "_law_deep"] (defScope s_law_nested) := ⟨rfl, rfl, rfl, by decide +kernel, rfl, by decide +kernel, by decide +kernel⟩
theorem ok_law_nested {f : Addr} {fd : FuncData} (T : Bi mg) (F : FnP K "_law_nested" s_law_nested f fd) : FnOk P w K mg base CX0 1 f fd ["_law_value", "_law_deep"] spNested := by
  refine F.ok scNested (fun vs H Q E h => ?_) (fun cdv A outer s H vs Q E hr h => ?_)
  · obtain ⟨v, d, n, rfl, _⟩ := h
    rfl
  · obtain ⟨v, d, n, rfl, hd, hn, k⟩ := h
    refine ⟨_, PSs.nox (pss_cons (ps_for PassesOwn.never rfl (pi_range1 rfl T.range (pa_cons (pv 1) pa_nil)) (pg_name (i := 2) scNested.nd rfl (Or.inl rfl))
        (pss_one (ps_if (pt_cmpR op_eq (pe_op op_and (pv 2) pe_int) pe_int (nomark _)) (pss_one (ps_set (i := 0) scNested.nd rfl (Or.inl rfl) (pe_tup (pa_cons (pv 0) pa_nil)))) (pss_one (ps_set (i := 0) scNested.nd rfl (Or.inl rfl) (pe_lst (pa_cons (pv 0) pa_nil)))))))
      (pss_one (ps_ret (pv 0)))), ?_⟩
    refine ⟨_, rfl, _, rfl, by omega, by omega, ?_⟩
    rw [Int.toNat_natCast]
    refine for_range (lo := 0) (n := n) (fun j σ H' => ∃ (u : V) (y : Option V), σ = [some u, some (.int (n : Int)), y] ∧ Same H H' ∧ Dv H' u (nestD d j)) ⟨v, none, rfl, Same.refl H, hd⟩ ?_ ?_
    · rintro j σ H' hj ⟨u, y, rfl, s5, hu⟩
      refine ⟨_, rfl, _, _, rfl, rfl, rfl, _, rfl, ?_⟩
      have key : decide (V.int (Builtin.bitAnd (0 + (j : Int)) 1) = V.int 0) = decide (j % 2 = 0) := by
        rw [Int.zero_add, bitAnd_m1, dec_int]
        rcases Nat.mod_two_eq_zero_or_one j with h | h
        · rw [decide_eq_true h, beq_iff_eq]; omega
        · rw [h]; show ((j : Int) % 2 == 0) = false; rw [beq_eq_false_iff_ne]; omega
      refine ite2 (fun hc => ?_) (fun hc => ?_)
      · have hc' : j % 2 = 0 := of_decide_eq_true (key.symm.trans hc)
        refine ⟨_, rfl, (by show 1 ≤ sizeLine; decide), fun p hp => ⟨_, _, rfl, Same.new s5 hp, ?_⟩⟩
        show Dv _ _ (if j % 2 = 0 then PyData.tuple [nestD d j] else .list [nestD d j])
        rw [if_pos hc']
        exact .tup upd_same (.cons (Dv.mono (Same.new (Same.refl H') hp) _ _ hu) .nil)
      · have hc' : ¬ j % 2 = 0 := fun e => hc (key.trans (decide_eq_true e))
        refine ⟨_, rfl, (by show 1 ≤ sizeLine; decide), fun p hp => ⟨_, _, rfl, Same.new s5 hp, ?_⟩⟩
        show Dv _ _ (if j % 2 = 0 then PyData.tuple [nestD d j] else .list [nestD d j])
        rw [if_neg hc']
        exact .lst upd_same (.cons (Dv.mono (Same.new (Same.refl H') hp) _ _ hu) .nil)
    · rintro σ H' ⟨u, y, rfl, s5, hu⟩
      exact ⟨_, rfl, k u H' s5 hu⟩
end
end BT

set_option Elab.async false
set_option linter.all false
set_option maxRecDepth 100000
set_option maxHeartbeats 4000000
namespace BT
open PySem PySem.Spec PyProof.Rows L2
theorem nest_ok : ∀ k : Nat, okI (nestD (.tuple []) k) = true ∧ dW (nestD (.tuple []) k) ≤ 3 + 5 * k ∧ (nestD (.tuple []) k).depth ≤ k + 1 ∧ (nestD (.tuple []) k).hasDict = false
  | 0 => by simp [nestD, okI, okIA, dW, dWA, PyData.depth, PyData.depthAll, PyData.hasDict, PyData.hasDictAll]
  | k + 1 => by
    obtain ⟨h1, h2, h3, h4⟩ := nest_ok k
    unfold nestD
    by_cases h : k % 2 = 0
    · rw [if_pos h]
      simp only [okI, okIA, dW, dWA, PyData.depth, PyData.depthAll, PyData.hasDict, PyData.hasDictAll, h1, h4]
      refine ⟨rfl, by omega, by omega, rfl⟩
    · rw [if_neg h]
      simp only [okI, okIA, dW, dWA, PyData.depth, PyData.depthAll, PyData.hasDict, PyData.hasDictAll, h1, h4]
      refine ⟨rfl, by omega, by omega, rfl⟩
theorem nest_no {n k : Nat} : isLotD (n : Int) (nestD (.tuple []) (k + 1)) = false := by
  unfold nestD
  by_cases h : k % 2 = 0
  · rw [if_pos h]
    refine no_lot (List.mem_singleton.mpr rfl) fun p _ e => ?_
    cases k with
    | zero => cases e
    | succ k =>
      unfold nestD at e
      by_cases h2 : k % 2 = 0
      · rw [if_pos h2] at e; cases e
      · rw [if_neg h2] at e; cases e
  · rw [if_neg h]; rfl
theorem nest_del {l a : Addr} {G : Hp} (s : Src l a G) : ∀ (k : Nat) (v : V), Dv G v (nestD (.tuple []) k) → Dv (L2.del G a) v (nestD (.tuple []) k)
  | 0, v, h => by
    cases h with
    | tup ha hd =>
      cases hd
      exact s.dv_tup ha .nil
  | k + 1, v, h => by
    unfold nestD at h ⊢
    by_cases e : k % 2 = 0
    · rw [if_pos e] at h ⊢
      cases h with
      | tup ha hd =>
        cases hd with
        | cons h1 h2 =>
          cases h2
          exact s.dv_tup ha (.cons (nest_del s k _ h1) .nil)
    · rw [if_neg e] at h ⊢
      cases h with
      | lst ha hd =>
        cases hd with
        | cons h1 h2 =>
          cases h2
          refine .lst ?_ (.cons (nest_del s k _ h1) .nil)
          obtain ⟨i, b, c, cl, n, w, _, h3⟩ := s.at_
          rw [del_ne fun q => ?_]
          · exact ha
          · rw [q, h3] at ha
            injection ha with ha
            injection ha with ha
            have := congrArg List.length ha
            simp at this
theorem no_part {σ : L2.St} {H : Hp} {R : Option Int → Hp → Prop} (h : R none H) : tNoPart σ H R := h
theorem two_ite {c : Bool} {A B C : Prop} (hB : C → B) (hA : c = true → C → A) (hC : C) : if c = true then A else B := by
  cases c with
  | true => exact iteT (hA rfl hC)
  | false => exact iteF (hB hC)
theorem min20 (n : Nat) : (if (20 : Int) < (n : Int) then (20 : Int) else (n : Int)) = ((min n 20 : Nat) : Int) := by
  by_cases h : (20 : Int) < (n : Int)
  · rw [if_pos h]; omega
  · rw [if_neg h]; omega
section
variable {P : Program} {w : World} {K : PySem.W.Frag} {mg : Str → Option Value} {base : Heap}
def spBadLot : Sp := fun vs H Q _ => ∃ (l a : Addr) (n : Nat), vs = [.ref a, .int (n : Int)] ∧ n ≤ 60 ∧ Src l a H ∧
  ∀ (v : V) (d : PyData) (H' : Hp), Keeps l a H H' → Dv (L2.del H' a) v d → isLotD (n : Int) d = false → Sm 5000 d → Q v H'
theorem scBadLot : FnScope ["_law_source_here", "_law_size", "_law_kind", "_law_lot_here", "_law_place", "_law_item"] ["_law_source_here", "_law_size"] (defScope s_law_bad_lot) := ⟨rfl, rfl, rfl, by decide +kernel, rfl, by decide +kernel, by decide +kernel⟩
theorem ok_law_bad_lot {f : Addr} {fd : FuncData} (T : Bi mg) (DD : DefOk P w K mg base CX0 2 "_law_draw" ["_law_source_here", "_law_many"] spDraw) (DLot : DefOk P w K mg base CX0 1 "_law_lot" ["_law_mask"] spLotOf)
    (DNest : DefOk P w K mg base CX0 1 "_law_nested" ["_law_value", "_law_deep"] spNested) (F : FnP K "_law_bad_lot" s_law_bad_lot f fd) : FnOk P w K mg base CX0 3 f fd ["_law_source_here", "_law_size"] spBadLot := by
  refine F.ok scBadLot (fun vs H Q E h => ?_) (fun cdv A outer s H vs Q E hr h => ?_)
  · obtain ⟨l, a, n, rfl, _⟩ := h
    rfl
  · obtain ⟨l, a, n, rfl, hn, hS, k⟩ := h
    refine ⟨_, PSs.nox (pss_cons (ps_set (i := 2) scBadLot.nd rfl (Or.inl rfl) (pe_d DD hr rfl (pa_cons (pv 0) (pa_cons pe_int pa_nil))))
        (pss_cons (ps_set (i := 3) scBadLot.nd rfl (Or.inl rfl) (pe_d DLot hr rfl (pa_cons (pe_d DD hr rfl (pa_cons (pv 0) (pa_cons (pe_op op_shl pe_int (pe_callB (call_min2 rfl) (by rfl) T.min PyProof.Rows.boot_min (pa_cons (pv 1) (pa_cons pe_int pa_nil)))) pa_nil))) pa_nil)))
        (pss_cons (ps_set (i := 4) scBadLot.nd rfl (Or.inl rfl) (pe_d DD hr rfl (pa_cons (pv 0) (pa_cons (pe_op op_add (pe_callB call_len_seq (by rfl) T.len PySem.boot_len (pa_cons (pv 3) pa_nil)) pe_int) pa_nil))))
        (pss_cons (ps_if (pt_cmpR op_eq (pv 2) pe_int (nomark _)) (pss_one (ps_ret pe_non)) pss_nil)
        (pss_cons (ps_if (pt_cmpR op_eq (pv 2) pe_int (nomark _)) (pss_one (ps_ret (pe_cmpR op_gt (pv 4) pe_int (nomark _)))) pss_nil)
        (pss_cons (ps_if (pt_cmpR op_eq (pv 2) pe_int (nomark _)) (pss_one (ps_ret (pv 4))) pss_nil)
        (pss_cons (ps_if (pt_cmpR op_eq (pv 2) pe_int (nomark _)) (pss_one (ps_ret (pe_callTy call_list_of rfl T.list PyProof.Rows.boot_list (pa_cons (pv 3) pa_nil)))) pss_nil)
        (pss_cons (ps_if (pt_cmpR op_eq (pv 2) pe_int (nomark _)) (pss_one (ps_ret (pe_op op_catA (pv 3) (pe_tup (pa_cons (pv 1) pa_nil))))) pss_nil)
        (pss_cons (ps_if (pt_cmpR op_eq (pv 2) pe_int (nomark _)) (pss_one (ps_ret (pe_op op_catA (pe_tup (pa_cons (pe_op op_sub (pe_op op_sub pe_int pe_int) (pv 4)) pa_nil)) (pv 3)))) pss_nil)
        (pss_cons (ps_if (PW.pt (pw_and (pt_cmpR op_eq (pv 2) pe_int (nomark _)) (pw_and1 (pt_cmpR op_gt (pv 4) pe_int (nomark _))))) (pss_one (ps_ret (pe_op op_catA (pe_slice sl_tupA (pv 3) po_none (po_some (pv 4))) (pe_slice sl_tupA (pv 3) (po_some (pe_op op_sub (pv 4) pe_int)) po_none)))) pss_nil)
        (pss_cons (ps_if (pt_cmpR op_eq (pv 2) pe_int (nomark _)) (pss_one (ps_ret (pe_tup (pa_cons (pe_op op_add (pv 4) pe_int) (pa_cons (pv 4) pa_nil))))) pss_nil)
        (pss_cons (ps_if (pt_cmpR op_eq (pv 2) pe_int (nomark _)) (pss_one (ps_ret (pe_op op_catA (pe_tup (pa_cons (pe_cmpR op_gt (pv 4) pe_int (nomark _)) pa_nil)) (pe_tupleOf rfl T.tuple (pe_lc (own := [("_law_item", 5)]) (g := gName 5) (tt := tTest (tOp (rI0 fun i j => .bl (decide (j < i))) (tVar 5) (tC (.int 1)))) (te := tVar 5) rfl scBadLot.nd (pi_tup (pv 3)) (blkOk_by (N := ["_law_source_here", "_law_size", "_law_kind", "_law_lot_here", "_law_place", "_law_item"]) (sc := defScope s_law_bad_lot) (by decide +kernel)) (fun _ _ _ _ _ => pg_name (i := 5) scBadLot.nd rfl (Or.inl rfl)) (fun _ _ _ _ _ => pts_one (by exact pt_cmpR op_gt (pv 5) pe_int (nomark _))) (fun _ _ _ _ _ => pv 5)))))) pss_nil)
        (pss_cons (ps_if (pt_cmpR op_eq (pv 2) pe_int (nomark _)) (pss_one (ps_ret (pe_slice C8.sl_txt pe_str po_none (po_some (pv 4))))) pss_nil)
        (pss_cons (ps_if (pt_cmpR op_eq (pv 2) pe_int (nomark _)) (pss_one (ps_ret (pe_disp (pps_cons (pv 4) (pv 3) pps_nil) rfl rfl (by simp) (by decide)))) pss_nil)
        (pss_cons (ps_if (pt_cmpR op_eq (pv 2) pe_int (nomark _)) (pss_one (ps_ret (pe_op op_catA (pe_op op_catA (pe_slice sl_tupA (pv 3) po_none (po_some (pv 4))) (pe_tup (pa_cons pe_non pa_nil))) (pe_slice sl_tupA (pv 3) (po_some (pv 4)) po_none)))) pss_nil)
        (pss_cons (ps_if (pt_cmpR op_eq (pv 2) pe_int (nomark _)) (pss_one (ps_ret (pe_tup (pa_cons (pv 3) pa_nil)))) pss_nil)
        (pss_cons (ps_if (pt_cmpR op_eq (pv 2) pe_int (nomark _)) (pss_one (ps_ret (pe_op op_catA (pv 3) (pe_tup (pa_cons (pe_op op_add (pe_op op_pow pe_int pe_int) (pv 4)) pa_nil))))) pss_nil)
        (pss_cons (ps_if (pt_cmpR op_eq (pv 2) pe_int (nomark _)) (pss_one (ps_ret (pe_op op_catA (pe_op op_catA (pe_slice sl_tupA (pv 3) po_none (po_some (pv 4))) (pe_tup (pa_cons pe_str pa_nil))) (pe_slice sl_tupA (pv 3) (po_some (pv 4)) po_none)))) pss_nil)
        (pss_one (ps_ret (pe_d DNest hr rfl (pa_cons (pe_tup pa_nil) (pa_cons (pe_op op_add pe_int (pe_d DD hr rfl (pa_cons (pv 0) (pa_cons pe_int pa_nil)))) pa_nil))))))))))))))))))))))), ?_⟩
    have hq : min n 20 ≤ 20 := Nat.min_le_right _ _
    have hpow : (2 : Int) ^ (min n 20) ≤ 1048576 := by
      have e : ((2 ^ (min n 20) : Nat) : Int) = 2 ^ (min n 20) := by rw [Int.natCast_pow]; rfl
      have e2 : 2 ^ (min n 20) ≤ 2 ^ 20 := Nat.pow_le_pow_right (by decide) hq
      rw [← e]
      exact Int.ofNat_le.mpr e2
    have hpos : (0 : Int) < 2 ^ (min n 20) := Int.pow_pos (by decide)
    refine ⟨_, rfl, l, a, 16, rfl, by decide, by decide, hS, fun kd G1 kd0 kd1 k1 => ?_⟩
    refine ⟨_, rfl, _, rfl, (n : Int), 20, rfl, 1, (min n 20 : Nat), rfl, congrArg V.int (min20 n), ⟨by omega, by omega, by decide⟩, l, a, _, rfl, ?_, ?_, k1.src, fun mv G2 m0 m1 k2 => ?_⟩
    · rw [Int.toNat_natCast, Int.one_mul]; exact hpos
    · rw [Int.toNat_natCast, Int.one_mul]; omega
    rw [Int.toNat_natCast, Int.one_mul] at m1
    obtain ⟨m, rfl⟩ := Int.eq_ofNat_of_zero_le m0
    have hm : m < 2 ^ (min n 20) := by
      have e : ((2 ^ (min n 20) : Nat) : Int) = 2 ^ (min n 20) := by rw [Int.natCast_pow]; rfl
      rw [← e] at m1
      exact Int.ofNat_lt.mp m1
    have il : IsLot (min n 20) (lotN m) := ⟨lotN_asc m, lotN_lt hm⟩
    have il20 : IsLot 20 (lotN m) := ⟨lotN_asc m, fun p hp => Nat.lt_of_lt_of_le (il.lt p hp) hq⟩
    refine ⟨m, rfl, Nat.lt_of_lt_of_le hm (Nat.pow_le_pow_right (by decide) (by omega)), fun t G3 ht s3 gt => ?_⟩
    generalize lotN m = lt at il il20 gt
    have k3 : Keeps l a H G3 := (k1.trans k2).trans (Keeps.of_same k2.src s3)
    have hlen := asc_len il20
    refine ⟨_, rfl, _, rfl, t, _, rfl, .inr (.inl (.inl gt)), _, _, rfl, rfl, l, a, _, rfl, ?_, ?_, k3.src, fun pv0 G p0 p1 k4 => ?_⟩
    · rw [lotV_len]; omega
    · rw [lotV_len]; omega
    obtain ⟨pl, rfl⟩ := Int.eq_ofNat_of_zero_le p0
    have hpl : pl ≤ lt.length := by rw [lotV_len] at p1; omega
    have kG : Keeps l a H G := k3.trans k4
    have gG : G t = some (.tup (lotV lt)) := k4.same t _ (k3.src.ne_tup gt) gt
    have hplV : pl ≤ (lotV lt).length := by rw [lotV_len]; exact hpl
    have fin : ∀ (v : V) (d : PyData) (G' : Hp), Keeps l a G G' → Dv (L2.del G' a) v d → isLotD (n : Int) d = false → Sm 5000 d → Q v G' := fun v d G' kk => k v d G' (kG.trans kk)
    have finT : ∀ (p : Addr) (G' : Hp) (xs : List V) (ds : List PyData), Same G G' → G' p = some (.tup xs) → DvA (L2.del G' a) xs ds → isLotD (n : Int) (.tuple ds) = false → Sm 5000 (.tuple ds) → Q (.ref p) G' := fun p G' xs ds s5 g A nl sm =>
      have kk := Keeps.of_same kG.src s5
      fin (.ref p) _ G' kk (kk.src.dv_tup g A) nl sm
    have itl := it_lot il20 (by decide)
    have itn : It1 (.int (n : Int)) := it_int (nat_small (by omega))
    have itp : It1 (.int (pl : Int)) := it_int (nat_small (by omega))
    have tne := kG.src.ne_tup gG
    have lenL : ∀ {ds : List PyData}, ds.length ≤ 60 → (∀ d ∈ ds, It1 d) → Sm 5000 (.tuple ds) := fun h1 h2 => (sm_items h1 h2).1.mono (by decide)
    have lenV : (lotV lt).length ≤ 20 := by rw [lotV_len]; exact hlen
    -- kind 0
    refine ⟨_, rfl, rfl, _, rfl, ?_⟩
    refine ite2 (fun _ => fin .non .none G (Keeps.refl kG.src) .non rfl (it_none.sm.mono (by decide))) (fun _ => ?_)
    -- kind 1
    refine ⟨_, rfl, rfl, _, rfl, ?_⟩
    refine ite2 (fun _ => ⟨_, rfl, _, _, rfl, rfl, fin _ (.bool _) G (Keeps.refl kG.src) (.bl _) rfl ((it_bool _).sm.mono (by decide))⟩) (fun _ => ?_)
    -- kind 2
    refine ⟨_, rfl, rfl, _, rfl, ?_⟩
    refine ite2 (fun _ => ⟨_, rfl, fin _ (.int _) G (Keeps.refl kG.src) (.int _) rfl (itp.sm.mono (by decide))⟩) (fun _ => ?_)
    -- kind 3: a list
    refine ⟨_, rfl, rfl, _, rfl, ?_⟩
    refine ite2 (fun _ => ⟨_, rfl, t, _, rfl, .inr (.inl (.inl gG)), fun p hp => ?_⟩) (fun _ => ?_)
    · have kk := (Keeps.refl kG.src).new kG.src (o := .lst (lotV lt)) hp
      refine fin (.ref p) (.list (lt.map fun p : Nat => PyData.int (p : Int))) _ kk (.lst ?_ (lotA _ lt)) rfl ((sm_items (n := 60) (by rw [List.length_map]; omega) itl).2.mono (by decide))
      rw [del_ne (kG.src.free_ne hp).1, upd_same]
    -- kind 4: the size behind
    refine ⟨_, rfl, rfl, _, rfl, ?_⟩
    refine ite2 (fun _ => ⟨_, rfl, _, rfl, (by show 1 ≤ sizeLine; decide), fun p hp => ?_⟩) (fun _ => ?_)
    · have s5 : Same G (upd G p (.tup [.int (n : Int)])) := Same.new (Same.refl G) hp
      refine cat_any (s5 _ _ gG) upd_same (by simp only [List.length_singleton]; omega) fun q G' s6 g => ?_
      refine finT q G' _ (lt.map (fun p : Nat => PyData.int (p : Int)) ++ [.int (n : Int)]) (s5.trans s6) g (DvA.append (lotA _ lt) (.cons (.int _) .nil)) ?_ (lenL (by rw [List.length_append, List.length_map, List.length_singleton]; omega) fun d hd => ?_)
      · refine no_lot (List.mem_append_right _ (List.mem_singleton.mpr rfl)) fun p hp e => ?_
        injection e with e
        omega
      · rcases List.mem_append.mp hd with hd | hd
        · exact itl d hd
        · rw [List.mem_singleton.mp hd]; exact itn
    -- kind 5: a number below 0 ahead
    refine ⟨_, rfl, rfl, _, rfl, ?_⟩
    refine ite2 (fun _ => ⟨_, _, rfl, rfl, _, rfl, _, _, rfl, rfl, (by show 1 ≤ sizeLine; decide), fun p hp => ⟨_, rfl, ?_⟩⟩) (fun _ => ?_)
    · have s5 : Same G (upd G p (.tup [.int (0 - 1 - (pl : Int))])) := Same.new (Same.refl G) hp
      refine cat_any upd_same (s5 _ _ gG) (by simp only [List.length_singleton]; omega) fun q G' s6 g => ?_
      refine finT q G' _ (.int (0 - 1 - (pl : Int)) :: lt.map (fun p : Nat => PyData.int (p : Int))) (s5.trans s6) g (.cons (.int _) (lotA _ lt)) ?_ (lenL (by rw [List.length_cons, List.length_map]; omega) fun d hd => ?_)
      · refine no_lot (List.mem_cons_self ..) fun p hp e => ?_
        injection e with e
        omega
      · rcases List.mem_cons.mp hd with hd | hd
        · rw [hd]
          refine it_int (Nat.lt_of_le_of_lt (m := 100) ?_ (by decide))
          omega
        · exact itl d hd
    -- kind 6: an item twice
    refine ⟨_, rfl, rfl, _, rfl, ?_⟩
    refine two_ite (fun rest7 => iteF rest7) (fun _ rest7 => ⟨_, rfl, _, _, rfl, rfl, _, rfl, ?_⟩) ?_
    · refine ite2 (fun hc => ?_) (fun _ => rest7)
      · have hp0 : (0 : Int) < (pl : Int) := of_decide_eq_true hc
        obtain ⟨j, rfl⟩ : ∃ j, pl = j + 1 := ⟨pl - 1, by omega⟩
        refine ⟨_, rfl, _, rfl, _, rfl, cut_to gG hplV fun p1 H1 s1 g1 => ⟨_, rfl, _, rfl, _, _, rfl, rfl, _, rfl, ?_⟩⟩
        refine no_part (cut_from (j := j) (s1 _ _ gG) ?_ (by omega) fun p2 H2 s2 g2 => ?_)
        · show (((j + 1 : Nat) : Int) - 1) = (j : Int)
          omega
        refine cat_any (s2 _ _ g1) g2 (by rw [List.length_take, List.length_drop]; omega) fun q G' s6 g => ?_
        rw [lotV_take, lotV_drop, lotV_app] at g
        refine finT q G' _ ((lt.take (j + 1) ++ lt.drop j).map fun p : Nat => PyData.int (p : Int)) ((s1.trans s2).trans s6) g (lotA _ _) (twice_no_lot (by omega)) (lenL ?_ fun d hd => ?_)
        · rw [List.length_map, List.length_append, List.length_take, List.length_drop]; omega
        · obtain ⟨z, hz, rfl⟩ := List.mem_map.mp hd
          refine itl _ (List.mem_map.mpr ⟨z, ?_, rfl⟩)
          rcases List.mem_append.mp hz with hz | hz
          · exact List.mem_of_mem_take hz
          · exact List.mem_of_mem_drop hz
    -- kind 7: falling
    refine ⟨_, rfl, rfl, _, rfl, ?_⟩
    refine ite2 (fun _ => ⟨_, rfl, _, _, rfl, rfl, _, rfl, (by show 2 ≤ sizeLine; decide), fun p hp => ?_⟩) (fun _ => ?_)
    · have s5 : Same G (upd G p (.tup [.int ((pl : Int) + 1), .int (pl : Int)])) := Same.new (Same.refl G) hp
      refine finT p _ _ [.int ((pl : Int) + 1), .int (pl : Int)] s5 upd_same (.cons (.int _) (.cons (.int _) .nil)) ?_ (lenL (by show 2 ≤ 60; decide) fun d hd => ?_)
      · show (decide (0 ≤ (pl : Int) + 1) && decide ((pl : Int) + 1 < (n : Int)) && (decide ((pl : Int) + 1 + 1 ≤ (pl : Int)) && decide ((pl : Int) < (n : Int)) && true)) = false
        rw [decide_eq_false (show ¬ ((pl : Int) + 1 + 1 ≤ (pl : Int)) by omega), Bool.false_and, Bool.false_and, Bool.and_false]
      · rcases List.mem_cons.mp hd with hd | hd
        · rw [hd]
          refine it_int (Nat.lt_of_le_of_lt (m := 100) ?_ (by decide))
          omega
        · rw [List.mem_singleton.mp hd]; exact itp
    -- kind 8: a flag ahead
    refine ⟨_, rfl, rfl, _, rfl, ?_⟩
    refine ite2 (fun _ => ⟨_, rfl, _, _, rfl, rfl, (by show 1 ≤ sizeLine; decide), fun p hp => ?_⟩) (fun _ => ?_)
    · have s5 : Same G (upd G p (.tup [.bl (decide (0 < (pl : Int)))])) := Same.new (Same.refl G) hp
      have g5 : (upd G p (.tup [.bl (decide (0 < (pl : Int)))])) t = some (.tup (lotV lt)) := s5 _ _ gG
      have u5 : (upd G p (.tup [.bl (decide (0 < (pl : Int)))])) p = some (.tup [.bl (decide (0 < (pl : Int)))]) := upd_same
      generalize upd G p (.tup [.bl (decide (0 < (pl : Int)))]) = G5 at s5 g5 u5
      refine ⟨_, rfl, t, rfl, ⟨_, .inl (.inl g5)⟩, fun D hD => ?_⟩
      refine lc_tup (K := K) (a := t) (xs := lotV lt) (fun i H' => Same G5 H' ∧ H' D = some (.lst (lotV ((lt.take i).filter fun z => decide (1 < z))))) ⟨Same.new (Same.refl G5) hD, upd_same⟩ (fun i H' _ ⟨e, _⟩ => .inl (.inl (e _ _ g5))) ?_ ?_
      · rintro i x H' hi ⟨s6, hd⟩
        obtain ⟨z, hz, rfl⟩ := lotV_get hi
        refine ⟨rfl, _, rfl, _, _, rfl, rfl, _, rfl, ?_⟩
        have etk : (lt.take (i + 1)).filter (fun z => decide (1 < z)) = (lt.take i).filter (fun z => decide (1 < z)) ++ (if 1 < z then [z] else []) := by
          rw [take_snoc hz, List.filter_append]
          by_cases h1 : 1 < z <;> simp [h1]
        have hl : ((lt.take i).filter fun z => decide (1 < z)).length ≤ 20 := Nat.le_trans (List.length_filter_le _ _) (by rw [List.length_take]; omega)
        rw [etk]
        refine ite2 (fun h1 => ?_) (fun h1 => ?_)
        · have h1' : 1 < z := by have q : (1 : Int) < (z : Int) := of_decide_eq_true h1; omega
          rw [if_pos h1']
          refine ⟨_, rfl, _, hd, by rw [lotV_len, sizeLine_eq]; omega, Same.own s6 hD, ?_⟩
          rw [upd_same, ← lotV_app]; rfl
        · have h1' : ¬ 1 < z := fun q => h1 (decide_eq_true (show (1 : Int) < (z : Int) by omega))
          rw [if_neg h1', List.append_nil]
          exact ⟨s6, hd⟩
      · rintro H' ⟨s6, hd⟩
        rw [lotV_len, List.take_length] at hd
        have hl : (lt.filter fun z => decide (1 < z)).length ≤ 20 := Nat.le_trans (List.length_filter_le _ _) hlen
        refine .inl ⟨D, _, rfl, .inl (.inl hd), fun q hq => ?_⟩
        have s7 := Same.new s6 (o := .tup (lotV (lt.filter fun z => decide (1 < z)))) hq
        refine cat_any (s7 _ _ u5) upd_same (by simp only [List.length_singleton, lotV_len]; omega) fun q2 G' s8 g => ?_
        refine finT q2 G' _ (.bool (decide (0 < (pl : Int))) :: (lt.filter fun z => decide (1 < z)).map (fun p : Nat => PyData.int (p : Int))) ((s5.trans s7).trans s8) g (.cons (.bl _) (lotA _ _)) (no_lot (List.mem_cons_self ..) fun p _ e => by cases e) (lenL (by rw [List.length_cons, List.length_map]; omega) fun d hd => ?_)
        rcases List.mem_cons.mp hd with hd | hd
        · rw [hd]; exact it_bool _
        · obtain ⟨z, hz, rfl⟩ := List.mem_map.mp hd
          exact itl _ (List.mem_map.mpr ⟨z, (List.mem_filter.mp hz).1, rfl⟩)
    -- kind 9: a text
    refine ⟨_, rfl, rfl, _, rfl, ?_⟩
    refine ite2 (fun _ => ⟨_, rfl, _, rfl, _, rfl, (by decide), ?_⟩) (fun _ => ?_)
    · have e : Txt.slice (Str.ofString "01234") none (some (pl : Int)) = SX.S ([48, 49, 50, 51, 52].take pl) := by
        have q := SX.slice_to (a := [48, 49, 50, 51, 52]) (i := (pl : Int)) (by omega)
        rw [Int.toNat_natCast] at q
        exact q
      show Q (.str (Txt.slice (Str.ofString "01234") none (some (pl : Int)))) G
      rw [e]
      refine fin _ (.str _) G (Keeps.refl kG.src) (.str _) rfl ⟨?_, ?_, by simp [PyData.depth], fun e => by simp [PyData.hasDict] at e⟩
      · simp only [okI]
        refine List.all_eq_true.mpr fun c hc => decide_eq_true ?_
        have hm : c ∈ [48, 49, 50, 51, 52] := List.mem_of_mem_take hc
        have : c < 100 := by simp at hm; omega
        exact Nat.lt_trans this (by decide)
      · simp only [dW]
        have : (SX.S ([48, 49, 50, 51, 52].take pl)).length ≤ 5 := by rw [SX.S_len, List.length_take]; exact Nat.min_le_right _ _
        omega
    -- kind 10: a dict
    refine ⟨_, rfl, rfl, _, rfl, ?_⟩
    refine ite2 (fun _ p hp => ⟨_, rfl, _, rfl, upd_same, [(Sum.inl (pl : Int), .ref t)], rfl, (by show 1 ≤ 15; decide), ?_⟩) (fun _ => ?_)
    · have e : upd (upd G p (.dK [])) p (.dK (mergeK [] [(Sum.inl (pl : Int), V.ref t)])) = upd G p (.dK [(Sum.inl (pl : Int), V.ref t)]) := by rw [upd_upd]; rfl
      show Q (.ref p) (upd (upd G p (.dK [])) p (.dK (mergeK [] [(Sum.inl (pl : Int), V.ref t)])))
      rw [e]
      have s5 : Same G (upd G p (.dK [(Sum.inl (pl : Int), V.ref t)])) := Same.new (Same.refl G) hp
      have kk := Keeps.of_same kG.src s5
      refine fin (.ref p) (.dict [(.int (pl : Int), lotD lt)]) _ kk (.dct (kvs := [(Sum.inl (pl : Int), .ref t)]) ?_ (.cons (k := Sum.inl (pl : Int)) (kk.src.dv_tup (s5 _ _ gG) (lotA _ lt)) .nil)) rfl ?_
      · rw [del_ne (kG.src.free_ne hp).1, upd_same]
      · have sl := sm_lot il20 (by decide)
        refine ⟨?_, ?_, ?_, fun _ => ?_⟩
        · simp only [okI, okIK, Bool.and_eq_true]
          exact ⟨⟨decide_eq_true (nat_small (by omega)), sl.ok⟩, trivial⟩
        · have := sl.w
          simp only [dW, dWK]
          omega
        · have := sl.dp
          simp only [PyData.depth, PyData.depthKv]
          have e1 : (lotD lt).depth ≤ 1 := by
            simp only [lotD, PyData.depth]
            have := depthA_le (n := 0) fun d hd => by rw [(itl d hd).dp]; omega
            omega
          omega
        · simp only [hasList, hasListK, Bool.or_false]
          exact noList_lot lt
    -- kind 11: None between
    refine ⟨_, rfl, rfl, _, rfl, ?_⟩
    refine ite2 (fun _ => ⟨_, rfl, _, rfl, _, rfl, cut_to gG hplV fun p1 H1 s1 g1 => ⟨(by show 1 ≤ sizeLine; decide), fun p hp => ?_⟩⟩) (fun _ => ?_)
    · have s2 := Same.new s1 (o := .tup [.non]) hp
      have u1 : (upd H1 p (.tup [.non])) p1 = some (.tup ((lotV lt).take pl)) := (Same.new (Same.refl H1) hp) _ _ g1
      refine cat_any u1 upd_same (by rw [List.length_take]; simp only [List.length_singleton]; omega) fun p3 H3 s3 g3 => ?_
      have s4 := s2.trans s3
      refine ⟨_, rfl, _, rfl, _, rfl, no_part (cut_from (s4 _ _ gG) rfl hplV fun p5 H5 s5 g5 => ?_)⟩
      refine cat_any (s5 _ _ g3) g5 (by rw [List.length_append, List.length_take, List.length_drop]; simp only [List.length_singleton]; omega) fun q G' s6 g => ?_
      rw [lotV_take, lotV_drop] at g
      refine finT q G' _ ((lt.take pl).map (fun p : Nat => PyData.int (p : Int)) ++ [.none] ++ (lt.drop pl).map (fun p : Nat => PyData.int (p : Int))) ((s4.trans s5).trans s6) g (DvA.append (DvA.append (lotA _ _) (.cons .non .nil)) (lotA _ _)) (no_lot (List.mem_append_left _ (List.mem_append_right _ (List.mem_singleton.mpr rfl))) fun p _ e => by cases e) (lenL ?_ fun d hd => ?_)
      · rw [List.length_append, List.length_append, List.length_map, List.length_map, List.length_take, List.length_drop, List.length_singleton]; omega
      · rcases List.mem_append.mp hd with hd | hd
        · rcases List.mem_append.mp hd with hd | hd
          · obtain ⟨z, hz, rfl⟩ := List.mem_map.mp hd
            exact itl _ (List.mem_map.mpr ⟨z, List.mem_of_mem_take hz, rfl⟩)
          · rw [List.mem_singleton.mp hd]; exact it_none
        · obtain ⟨z, hz, rfl⟩ := List.mem_map.mp hd
          exact itl _ (List.mem_map.mpr ⟨z, List.mem_of_mem_drop hz, rfl⟩)
    -- kind 12: a lot in a tuple
    refine ⟨_, rfl, rfl, _, rfl, ?_⟩
    refine ite2 (fun _ => ⟨_, rfl, (by show 1 ≤ sizeLine; decide), fun p hp => ?_⟩) (fun _ => ?_)
    · have s5 : Same G (upd G p (.tup [.ref t])) := Same.new (Same.refl G) hp
      have kk := Keeps.of_same kG.src s5
      have sl := sm_lot il20 (by decide)
      refine finT p _ _ [lotD lt] s5 upd_same (.cons (kk.src.dv_tup (s5 _ _ gG) (lotA _ lt)) .nil) (no_lot (List.mem_singleton.mpr rfl) fun p _ e => by cases e) ⟨?_, ?_, ?_, fun e => ?_⟩
      · simp only [okI, okIA, Bool.and_eq_true]; exact ⟨sl.ok, trivial⟩
      · have := sl.w
        simp only [dW, dWA]
        omega
      · have := sl.dp
        have e1 : (lotD lt).depth ≤ 1 := by
          simp only [lotD, PyData.depth]
          have := depthA_le (n := 0) fun d hd => by rw [(itl d hd).dp]; omega
          omega
        simp only [PyData.depth, PyData.depthAll]
        omega
      · simp only [hasList, hasListA, Bool.or_false]
        exact noList_lot lt
    -- kind 13: a great number behind
    refine ⟨_, rfl, rfl, _, rfl, ?_⟩
    refine ite2 (fun _ => ⟨_, rfl, _, _, rfl, rfl, ⟨by decide, by decide, by decide⟩, _, rfl, _, _, rfl, rfl, (by show 1 ≤ sizeLine; decide), fun p hp => ?_⟩) (fun _ => ?_)
    · have s5 : Same G (upd G p (.tup [.int ((10 : Int) ^ (30 : Int).toNat + (pl : Int))])) := Same.new (Same.refl G) hp
      have e30 : (10 : Int) ^ (30 : Int).toNat = 1000000000000000000000000000000 := by decide
      refine cat_any (s5 _ _ gG) upd_same (by simp only [List.length_singleton]; omega) fun q G' s6 g => ?_
      refine finT q G' _ (lt.map (fun p : Nat => PyData.int (p : Int)) ++ [.int ((10 : Int) ^ (30 : Int).toNat + (pl : Int))]) (s5.trans s6) g (DvA.append (lotA _ lt) (.cons (.int _) .nil)) ?_ (lenL (by rw [List.length_append, List.length_map, List.length_singleton]; omega) fun d hd => ?_)
      · refine no_lot (List.mem_append_right _ (List.mem_singleton.mpr rfl)) fun p hp e => ?_
        injection e with e
        rw [e30] at e
        omega
      · rcases List.mem_append.mp hd with hd | hd
        · exact itl d hd
        · rw [List.mem_singleton.mp hd, e30]
          refine it_int (Nat.lt_of_le_of_lt (m := 1000000000000000000000000000100) ?_ (by decide))
          omega
    -- kind 14: a text between
    refine ⟨_, rfl, rfl, _, rfl, ?_⟩
    refine ite2 (fun _ => ⟨_, rfl, _, rfl, _, rfl, cut_to gG hplV fun p1 H1 s1 g1 => ⟨(by show 1 ≤ sizeLine; decide), fun p hp => ?_⟩⟩) (fun _ => ?_)
    · have s2 := Same.new s1 (o := .tup [.str (Str.ofString "1")]) hp
      have u1 : (upd H1 p (.tup [.str (Str.ofString "1")])) p1 = some (.tup ((lotV lt).take pl)) := (Same.new (Same.refl H1) hp) _ _ g1
      refine cat_any u1 upd_same (by rw [List.length_take]; simp only [List.length_singleton]; omega) fun p3 H3 s3 g3 => ?_
      have s4 := s2.trans s3
      refine ⟨_, rfl, _, rfl, _, rfl, no_part (cut_from (s4 _ _ gG) rfl hplV fun p5 H5 s5 g5 => ?_)⟩
      refine cat_any (s5 _ _ g3) g5 (by rw [List.length_append, List.length_take, List.length_drop]; simp only [List.length_singleton]; omega) fun q G' s6 g => ?_
      rw [lotV_take, lotV_drop] at g
      refine finT q G' _ ((lt.take pl).map (fun p : Nat => PyData.int (p : Int)) ++ [.str (Str.ofString "1")] ++ (lt.drop pl).map (fun p : Nat => PyData.int (p : Int))) ((s4.trans s5).trans s6) g (DvA.append (DvA.append (lotA _ _) (.cons (.str _) .nil)) (lotA _ _)) (no_lot (List.mem_append_left _ (List.mem_append_right _ (List.mem_singleton.mpr rfl))) fun p _ e => by cases e) (lenL ?_ fun d hd => ?_)
      · rw [List.length_append, List.length_append, List.length_map, List.length_map, List.length_take, List.length_drop, List.length_singleton]; omega
      · rcases List.mem_append.mp hd with hd | hd
        · rcases List.mem_append.mp hd with hd | hd
          · obtain ⟨z, hz, rfl⟩ := List.mem_map.mp hd
            exact itl _ (List.mem_map.mpr ⟨z, List.mem_of_mem_take hz, rfl⟩)
          · rw [List.mem_singleton.mp hd]; exact it_str (by decide) (by decide)
        · obtain ⟨z, hz, rfl⟩ := List.mem_map.mp hd
          exact itl _ (List.mem_map.mpr ⟨z, List.mem_of_mem_drop hz, rfl⟩)
    -- the last one: nested tuples and lists
    refine ⟨(by show 0 ≤ sizeLine; decide), fun p hp => ?_⟩
    have s5 : Same G (upd G p (.tup [])) := Same.new (Same.refl G) hp
    have u5 : (upd G p (.tup [])) p = some (.tup []) := upd_same
    have k5 := Keeps.of_same kG.src s5
    refine ⟨_, rfl, l, a, 23, rfl, by decide, by decide, k5.src, fun z G6 z0 z1 k6 => ?_⟩
    obtain ⟨j, rfl⟩ := Int.eq_ofNat_of_zero_le z0
    have u6 := k6.same p _ (k5.src.ne_tup u5) u5
    refine ⟨_, _, rfl, rfl, .ref p, .tuple [], j + 1, ?_, .tup u6 .nil, by omega, fun v' G' s7 hd => ?_⟩
    · show [V.ref p, V.int (1 + (j : Int))] = [V.ref p, V.int ((j + 1 : Nat) : Int)]
      rw [show (1 + (j : Int)) = ((j + 1 : Nat) : Int) by omega]
    · have kk : Keeps l a G G' := (k5.trans k6).trans (Keeps.of_same k6.src s7)
      obtain ⟨q1, q2, q3, q4⟩ := nest_ok (j + 1)
      exact fin v' _ G' kk (nest_del kk.src _ v' hd) nest_no ⟨q1, by omega, by omega, fun e => by rw [q4] at e; cases e⟩
end
end BT

set_option Elab.async false
set_option linter.all false
set_option maxRecDepth 100000
set_option maxHeartbeats 4000000
namespace BT
open PySem PySem.Spec PyProof.Rows L2
theorem dec_ne0 (n : Nat) : ((n : Int) != 0) = decide (n ≠ 0) := by
  by_cases h : n = 0
  · subst h; rfl
  · rw [decide_eq_true h, bne_iff_ne]; omega
theorem lotV_snoc (l : List Nat) (x : Nat) : lotV (l ++ [x]) = lotV l ++ [V.int (x : Int)] := by unfold lotV; rw [List.map_append]; rfl
section
variable {P : Program} {w : World} {K : PySem.W.Frag} {mg : Str → Option Value} {base : Heap} {tA : Tok}
/-! ### lowest -/
def spLowest : Sp := fun vs H Q _ => ∃ m : Nat, vs = [.int (m : Int)] ∧ Q (.int (lowN m : Nat)) H
theorem scLowest : FnScope ["mask"] ["mask"] (defScope s_lowest) := ⟨rfl, rfl, rfl, by decide +kernel, rfl, by decide +kernel, by decide +kernel⟩
theorem ok_lowest {f : Addr} {fd : FuncData} (F : FnP K "lowest" s_lowest f fd) : FnOk P w K mg base CX0 1 f fd ["mask"] spLowest := by
  refine F.ok scLowest (fun vs H Q E h => ?_) (fun cdv A outer s H vs Q E hr h => ?_)
  · obtain ⟨m, rfl, _⟩ := h
    rfl
  · obtain ⟨m, rfl, k⟩ := h
    refine ⟨_, PSs.nox (pss_one (ps_ret (pe_op op_and (pv 0) (pe_un un_neg (pv 0))))), ?_⟩
    refine ⟨_, rfl, _, rfl, _, rfl, _, _, rfl, rfl, ?_⟩
    show Q (.int (Builtin.bitAnd (m : Int) (-(m : Int)))) H
    rw [bitAnd_low]
    exact k
/-! ### cleared -/
def spCleared : Sp := fun vs H Q _ => ∃ (m : Nat) (a : Addr) (rs : List Nat) (part : Int), vs = [.int (m : Int), .ref a, .int part] ∧ NatsAt H a rs ∧ Q (.int (clearedF part m rs : Nat)) H
theorem scCleared : FnScope ["mask", "rows", "part", "row"] ["mask", "rows", "part"] (defScope s_cleared) := ⟨rfl, rfl, rfl, by decide +kernel, rfl, by decide +kernel, by decide +kernel⟩
theorem ok_cleared {f : Addr} {fd : FuncData} (DL : DefOk P w K mg base CX0 1 "lowest" ["mask"] spLowest) (F : FnP K "cleared" s_cleared f fd) : FnOk P w K mg base CX0 2 f fd ["mask", "rows", "part"] spCleared := by
  refine F.ok scCleared (fun vs H Q E h => ?_) (fun cdv A outer s H vs Q E hr h => ?_)
  · obtain ⟨m, a, rs, part, rfl, _⟩ := h
    rfl
  · obtain ⟨m, a, rs, part, rfl, ha, k⟩ := h
    refine ⟨_, PSs.nox (pss_cons (ps_for PassesOwn.never rfl (pi_seq (pv 1)) (pg_name (i := 3) scCleared.nd rfl (Or.inl rfl))
        (pss_one (ps_if (pt_truth (pe_op op_and (pv 0) (pe_d DL hr rfl (pa_cons (pe_op op_and (pv 3) (pv 2)) pa_nil))) (by intro _; rfl)) (pss_one (ps_aug (i := 0) scCleared.nd rfl (Or.inl rfl) (pv 3) iop_xor)) pss_nil)))
      (pss_one (ps_ret (pv 0)))), ?_⟩
    refine ⟨_, rfl, a, lotV rs, rfl, for_seq (K := K) (fun i σ H' => H' = H ∧ ∃ y : Option V, σ = [some (.int (clearedF part m (rs.take i) : Nat)), some (.ref a), some (.int part), y]) ⟨rfl, none, rfl⟩
      (ha.imp (fun q i σ H' _ p => p.1 ▸ q) (fun q i σ H' _ p => p.1 ▸ q)) ?_ ?_⟩
    · rintro i x σ H' hi ⟨rfl, y, rfl⟩
      obtain ⟨r, hr, rfl⟩ := lotV_get hi
      refine ⟨_, rfl, _, rfl, _, rfl, _, _, rfl, rfl, andN r part, congrArg (fun z => [V.int z]) (bitAnd_andN r part), _, _, rfl, rfl, _, rfl, ?_⟩
      rw [bitAnd_nat, dec_ne0, take_snoc hr, clearedF_snoc]
      unfold clearStep
      refine ite2 (fun c => ?_) (fun c => ?_)
      · rw [if_pos (of_decide_eq_true c)]
        refine ⟨_, rfl, _, rfl, _, _, rfl, rfl, rfl, some (.int (r : Int)), ?_⟩
        rw [← bitXor_nat]; rfl
      · rw [if_neg (fun q => c (decide_eq_true q))]
        exact ⟨rfl, _, rfl⟩
    · rintro σ H' ⟨rfl, y, rfl⟩
      refine ⟨_, rfl, ?_⟩
      rw [lotV_len, List.take_length]
      exact k
/-! ### sweep -/
def spSweep : Sp := fun vs H Q _ => ∃ (a : Addr) (ms : List Nat) (part : Int), vs = [.ref a, .int part] ∧ NatsAt H a ms ∧ ms.length ≤ 1000 ∧
  ∀ (p s h : Addr) (H' : Hp), Same H H' → H p = none → H s = none → H h = none → H' p = some (.tup [.ref s, .ref h]) → H' s = some (.lst (lotV (sweepF part ms).1)) → H' h = some (.lst (lotV (sweepF part ms).2)) → Q (.ref p) H'
theorem scSweep : FnScope ["masks", "part", "seen", "hidden", "mask", "rest", "low", "row"] ["masks", "part"] (defScope s_sweep) := ⟨rfl, rfl, rfl, by decide +kernel, rfl, by decide +kernel, by decide +kernel⟩
theorem sweep_len (part : Int) : ∀ (ms : List Nat) (st : List Nat × List Nat), (ms.foldl (sweepStep part) st).1.length + (ms.foldl (sweepStep part) st).2.length = st.1.length + st.2.length + ms.length
  | [], st => rfl
  | m :: ms, st => by
    rw [List.foldl_cons, sweep_len part ms]
    unfold sweepStep
    split
    · simp only [List.length_append, List.length_map, List.length_cons, List.length_nil]; omega
    · simp only [List.length_append, List.length_cons, List.length_nil]; omega
theorem sweepF_len (part : Int) (ms : List Nat) : (sweepF part ms).1.length + (sweepF part ms).2.length = ms.length := by
  have := sweep_len part ms ([], [])
  simp only [List.length_nil, Nat.zero_add] at this
  exact this
theorem ok_sweep {f : Addr} {fd : FuncData} (DL : DefOk P w K mg base CX0 1 "lowest" ["mask"] spLowest) (DC : DefOk P w K mg base CX0 2 "cleared" ["mask", "rows", "part"] spCleared) (F : FnP K "sweep" s_sweep f fd) : FnOk P w K mg base CX0 3 f fd ["masks", "part"] spSweep := by
  refine F.ok scSweep (fun vs H Q E h => ?_) (fun cdv A outer s H vs Q E hr h => ?_)
  · obtain ⟨a, ms, part, rfl, _⟩ := h
    rfl
  · obtain ⟨a, ms, part, rfl, ha, hz, k⟩ := h
    refine ⟨_, PSs.nox (pss_cons (ps_set (i := 2) scSweep.nd rfl (Or.inl rfl) (pe_lst pa_nil))
      (pss_cons (ps_set (i := 3) scSweep.nd rfl (Or.inl rfl) (pe_lst pa_nil))
      (pss_cons (ps_for PassesOwn.never rfl (pi_seq (pv 0)) (pg_name (i := 4) scSweep.nd rfl (Or.inl rfl))
        (pss_cons (ps_set (i := 5) scSweep.nd rfl (Or.inr rfl) (pe_d DC hr rfl (pa_cons (pv 4) (pa_cons (pv 2) (pa_cons (pv 1) pa_nil)))))
        (pss_cons (ps_set (i := 6) scSweep.nd rfl (Or.inr rfl) (pe_d DL hr rfl (pa_cons (pe_op op_and (pv 5) (pv 1)) pa_nil)))
        (pss_one (ps_if (pt_truth (pv 6) (by intro _; rfl))
          (pss_one (ps_set (i := 2) scSweep.nd rfl (Or.inl rfl) (pe_op op_cat (pe_lc (own := [("row", 7)]) (g := gName 7) (tt := tYes)
              (te := tIf (fun σ H Q => (tOp (rI0 fun i j => .int (Builtin.bitAnd i j)) (tVar 7) (tVar 6)) σ H fun x H' => ∃ k, TruV K x H' k ∧ Q k H') (tOp (rI0 fun i j => .int (Builtin.bitXor i j)) (tVar 7) (tVar 5)) (tVar 7)) rfl scSweep.nd (pi_list (pv 2))
              (blkOk_by (N := ["masks", "part", "seen", "hidden", "mask", "rest", "low", "row"]) (sc := defScope s_sweep) (by decide +kernel)) (fun _ _ _ _ _ => pg_name (i := 7) scSweep.nd rfl (Or.inl rfl)) (fun _ _ _ _ _ => pts_nil)
              (fun _ _ _ _ _ => by exact (pe_ifExp (pt_truth (pe_op op_and (pv 7) (pv 6)) (by intro _; rfl)) (pe_op op_xor (pv 7) (pv 5)) (pv 7)))) (pe_lst (pa_cons (pv 5) pa_nil)))))
          (pss_one (ps_expr (pe_bm PySem.F.plainAttrs_list PySem.F.slot_list_append PySem.F.type_list_append mt_append (pv 3) (pa_cons (pv 5) pa_nil)))))))))
      (pss_one (ps_ret (pe_tup (pa_cons (pv 2) (pa_cons (pv 3) pa_nil)))))))), ?_⟩
    refine ⟨Nat.zero_le _, fun s0 hs0 => ⟨Nat.zero_le _, fun h0 hh0 => ?_⟩⟩
    have fs0 : H s0 = none := hs0
    have fh0 : H h0 = none := Same.free (Same.new (Same.refl H) hs0) hh0
    have ne0 : s0 ≠ h0 := fun e => by rw [← e, upd_same] at hh0; cases hh0
    have s2 : Same H (upd (upd H s0 (.lst [])) h0 (.lst [])) := Same.new (Same.new (Same.refl H) hs0) hh0
    refine ⟨_, rfl, a, lotV ms, rfl, for_seq (K := K) (fun j σ H' => Same H H' ∧ ∃ (s1 h1 : Addr) (y z u v : Option V), σ = [some (.ref a), some (.int part), some (.ref s1), some (.ref h1), y, z, u, v] ∧ H s1 = none ∧ H h1 = none ∧ s1 ≠ h1 ∧
        H' s1 = some (.lst (lotV (sweepF part (ms.take j)).1)) ∧ H' h1 = some (.lst (lotV (sweepF part (ms.take j)).2)))
      ⟨s2, s0, h0, none, none, none, none, rfl, fs0, fh0, ne0, by rw [upd_ne ne0, upd_same]; rfl, upd_same⟩ (ha.imp (fun q i σ H' _ p => p.1 _ _ q) (fun q i σ H' _ p => p.1 _ _ q)) ?_ ?_⟩
    · rintro j x σ H' hj ⟨s3, s1, h1, y, z, u, v, rfl, fs, fh, ne, gs, gh⟩
      obtain ⟨m, hm, rfl⟩ := lotV_get hj
      have hjl : j < ms.length := (List.getElem?_eq_some_iff.mp hm).1
      rw [take_snoc hm, sweepF_snoc]
      have hlen := sweepF_len part (ms.take j)
      rw [List.length_take] at hlen
      generalize sweepF part (ms.take j) = st at gs gh hlen
      refine ⟨_, rfl, _, rfl, _, rfl, m, s1, st.1, part, rfl, .inl gs, _, rfl, _, rfl, _, _, rfl, rfl, andN (clearedF part m st.1) part, congrArg (fun z => [V.int z]) (bitAnd_andN _ part), _, rfl, _, rfl, ?_⟩
      rw [dec_ne0]
      unfold sweepStep
      generalize hrest : clearedF part m st.1 = rest
      generalize hlow : lowN (andN rest part) = low
      refine ite2 (fun c => ?_) (fun c => ?_)
      · rw [if_pos (of_decide_eq_true c)]
        refine ⟨_, rfl, s1, rfl, ⟨_, .inl (.inl gs)⟩, fun D hD => ?_⟩
        have sD := Same.new s3 (o := .lst []) hD
        have nD : D ≠ s1 := fun e => by rw [e, gs] at hD; cases hD
        have nDh : D ≠ h1 := fun e => by rw [e, gh] at hD; cases hD
        have fD : H D = none := s3.free hD
        refine lc_list (K := K) (a := s1) (xs := lotV st.1) (fun i H2 => Same H H2 ∧ H2 s1 = some (.lst (lotV st.1)) ∧ H2 h1 = some (.lst (lotV st.2)) ∧ H2 D = some (.lst (lotV ((st.1.take i).map fun row => if row &&& low ≠ 0 then row ^^^ rest else row))))
          ⟨sD, by rw [upd_ne (Ne.symm nD)]; exact gs, by rw [upd_ne (Ne.symm nDh)]; exact gh, upd_same⟩ (fun i H2 _ p => .inl (.inl p.2.1)) ?_ ?_
        · rintro i x H2 hi ⟨t1, t2, t3, t4⟩
          obtain ⟨row, hrow, rfl⟩ := lotV_get hi
          refine ⟨rfl, _, rfl, _, rfl, _, _, rfl, rfl, _, rfl, ?_⟩
          rw [bitAnd_nat, dec_ne0, take_snoc hrow, List.map_append]
          have acc : ((st.1.take i).map fun row => if row &&& low ≠ 0 then row ^^^ rest else row).length < sizeLine := by
            rw [List.length_map, List.length_take, sizeLine_eq]; omega
          have fin : ∀ y : Nat, y = (if row &&& low ≠ 0 then row ^^^ rest else row) → Same H (upd H2 D (.lst (lotV ((st.1.take i).map fun row => if row &&& low ≠ 0 then row ^^^ rest else row) ++ [V.int (y : Int)]))) ∧
              (upd H2 D (.lst (lotV ((st.1.take i).map fun row => if row &&& low ≠ 0 then row ^^^ rest else row) ++ [V.int (y : Int)]))) s1 = some (.lst (lotV st.1)) ∧ (upd H2 D (.lst (lotV ((st.1.take i).map fun row => if row &&& low ≠ 0 then row ^^^ rest else row) ++ [V.int (y : Int)]))) h1 = some (.lst (lotV st.2)) ∧
              (upd H2 D (.lst (lotV ((st.1.take i).map fun row => if row &&& low ≠ 0 then row ^^^ rest else row) ++ [V.int (y : Int)]))) D = some (.lst (lotV (((st.1.take i).map fun row => if row &&& low ≠ 0 then row ^^^ rest else row) ++ [row].map fun row => if row &&& low ≠ 0 then row ^^^ rest else row))) := fun y hy => by
            refine ⟨Same.own t1 fD, by rw [upd_ne (Ne.symm nD)]; exact t2, by rw [upd_ne (Ne.symm nDh)]; exact t3, ?_⟩
            rw [upd_same, List.map_singleton, lotV_snoc, ← hy]
          refine ite2 (fun c => ?_) (fun c => ?_)
          · refine ⟨_, rfl, _, rfl, _, _, rfl, rfl, _, t4, (by rw [lotV_len]; exact acc), ?_⟩
            have q := fin (row ^^^ rest) (by rw [if_pos (of_decide_eq_true c)])
            rw [← bitXor_nat] at q
            exact q
          · exact ⟨_, rfl, _, t4, (by rw [lotV_len]; exact acc), fin row (by rw [if_neg fun q => c (decide_eq_true q)])⟩
        · rintro H2 ⟨t1, t2, t3, t4⟩
          rw [lotV_len, List.take_length] at t4
          refine ⟨_, rfl, (by show 1 ≤ sizeLine; decide), fun p hp => ⟨D, p, _, _, rfl, rfl, (Same.new (Same.refl H2) hp) _ _ t4, upd_same, (by rw [lotV_len, List.length_map, List.length_singleton, sizeLine_eq]; omega), fun p2 hp2 => ?_⟩⟩
          have w := Same.new (Same.new t1 hp) (o := .lst (lotV (st.1.map fun row => if row &&& low ≠ 0 then row ^^^ rest else row) ++ [V.int (rest : Int)])) hp2
          have g1 : (upd H2 p (.lst [V.int (rest : Int)])) h1 = some (.lst (lotV st.2)) := (Same.new (Same.refl H2) hp) _ _ t3
          refine ⟨w, p2, h1, _, _, _, _, rfl, (Same.new t1 hp).free hp2, fh, fun e => ?_, ?_, ?_⟩
          · rw [e, g1] at hp2; cases hp2
          · rw [upd_same, lotV_snoc]
          · exact (Same.new (Same.refl _) hp2) _ _ g1
      · rw [if_neg (fun q => c (decide_eq_true q))]
        refine ⟨_, rfl, .inl ⟨rfl, _, SqL.of gh⟩, _, rfl, h1, _, _, rfl, rfl, gh, ?_, Same.own s3 fh, s1, h1, _, _, _, _, rfl, fs, fh, ne, by rw [upd_ne ne]; exact gs, ?_⟩
        · rw [lotV_len, sizeLine_eq]; omega
        · rw [upd_same, lotV_snoc]
    · rintro σ H' ⟨s3, s1, h1, y, z, u, v, rfl, fs, fh, ne, gs, gh⟩
      rw [lotV_len, List.take_length] at gs gh
      refine ⟨_, rfl, _, rfl, (by show 2 ≤ sizeLine; decide), fun p hp => ?_⟩
      exact k p s1 h1 _ (Same.new s3 hp) (s3.free hp) fs fh upd_same ((Same.new (Same.refl H') hp) _ _ gs) ((Same.new (Same.refl H') hp) _ _ gh)
end
end BT

set_option Elab.async false
set_option linter.all false
set_option maxRecDepth 100000
set_option maxHeartbeats 4000000
namespace BT
open PySem PySem.Spec PyProof.Rows L2
/-- more built-in names that the text leaves alone -/
structure Bi2 (mg : Str → Option Value) : Prop where
  sorted : mg "sorted" = none
  any : mg "any" = none
  all : mg "all" = none
  sum : mg "sum" = none
/-! ### the rows that the checks are made of -/
def checkRaw (rows : List Nat) (n : Nat) : List Nat := (List.range n).filterMap fun p => if rows.any (fun r => decide (lowN r = 2 ^ p)) then none else some (2 ^ p ||| ((rows.filter fun r => decide (r &&& 2 ^ p ≠ 0)).map lowN).sum)
def checkF (rows : List Nat) (n : Nat) : List Nat := reduceF (checkRaw rows n)
def spanF (ms : List Nat) : List Nat := ms.foldl (fun sums m => sums ++ sums.map (m ^^^ ·)) [0]
def pickedF (m : Nat) (places : List Nat) : Nat := (places.zipIdx.foldl (fun r x => r ||| ((m >>> x.1 &&& 1) <<< x.2)) 0)
def bitsAtF (m : Nat) (ats : List Nat) : Nat := (ats.zipIdx.foldl (fun r x => r ||| ((pop (m &&& x.1) % 2) <<< x.2)) 0)
theorem checkRaw_succ (rows : List Nat) (n : Nat) : checkRaw rows (n + 1) = checkRaw rows n ++ (if rows.any (fun r => decide (lowN r = 2 ^ n)) then [] else [2 ^ n ||| ((rows.filter fun r => decide (r &&& 2 ^ n ≠ 0)).map lowN).sum]) := by
  unfold checkRaw
  rw [List.range_succ, List.filterMap_append]
  congr 1
  simp only [List.filterMap_cons, List.filterMap_nil]
  by_cases h : rows.any (fun r => decide (lowN r = 2 ^ n)) = true
  · rw [h]; rfl
  · rw [Bool.not_eq_true] at h
    rw [h]; rfl
theorem checkRaw_len (rows : List Nat) (n : Nat) : (checkRaw rows n).length ≤ n := by
  unfold checkRaw
  refine Nat.le_trans (List.length_filterMap_le _ _) ?_
  rw [List.length_range]; exact Nat.le_refl _
theorem zipIdx_snoc (l : List Nat) (x : Nat) : (l ++ [x]).zipIdx = l.zipIdx ++ [(x, l.length)] := by
  rw [List.zipIdx_append]; simp
theorem spanF_snoc (ms : List Nat) (m : Nat) : spanF (ms ++ [m]) = spanF ms ++ (spanF ms).map (m ^^^ ·) := by unfold spanF; rw [List.foldl_append]; rfl
theorem span_len : ∀ (ms acc : List Nat), (ms.foldl (fun sums m => sums ++ sums.map (m ^^^ ·)) acc).length = acc.length * 2 ^ ms.length
  | [], acc => by simp
  | m :: ms, acc => by
    rw [List.foldl_cons, span_len ms, List.length_append, List.length_map, List.length_cons, Nat.pow_succ]
    rw [← Nat.two_mul, Nat.mul_comm 2, Nat.mul_assoc, Nat.mul_comm 2]
theorem spanF_len (ms : List Nat) : (spanF ms).length = 2 ^ ms.length := by
  have := span_len ms [0]
  simpa [spanF] using this
theorem cast_sum : ∀ l : List Nat, (l.map fun p : Nat => (p : Int)).sum = ((l.sum : Nat) : Int)
  | [] => rfl
  | x :: l => by rw [List.map_cons, List.sum_cons, List.sum_cons, cast_sum l]; omega
theorem lotV_ints (l : List Nat) : lotV l = (l.map fun p : Nat => (p : Int)).map V.int := by unfold lotV; rw [List.map_map]; rfl
theorem shl_nat (a p : Nat) : (a : Int) * 2 ^ ((p : Int).toNat) = ((a <<< p : Nat) : Int) := by
  rw [Int.toNat_natCast, Nat.shiftLeft_eq, Int.natCast_mul, Int.natCast_pow]; rfl
theorem shr_nat (a p : Nat) : (a : Int) / 2 ^ ((p : Int).toNat) = ((a >>> p : Nat) : Int) := by
  rw [Int.toNat_natCast, Nat.shiftRight_eq_div_pow, Int.natCast_ediv, Int.natCast_pow]; rfl
section
variable {P : Program} {w : World} {K : PySem.W.Frag} {mg : Str → Option Value} {base : Heap} {tA : Tok}
/-! ### reduce_rows -/
def spReduce : Sp := fun vs H Q _ => ∃ (a : Addr) (ms : List Nat), vs = [.ref a] ∧ NatsAt H a ms ∧ ms.length < 64 ∧ ∀ (p : Addr) (H' : Hp), H p = none → Same H H' → H' p = some (.lst (lotV (reduceF ms))) → Q (.ref p) H'
theorem scReduce : FnScope ["masks", "seen", "_"] ["masks"] (defScope s_reduce_rows) := ⟨rfl, rfl, rfl, by decide +kernel, rfl, by decide +kernel, by decide +kernel⟩
theorem ok_reduce_rows {f : Addr} {fd : FuncData} (T2 : Bi2 mg) (hA : mg "ALL_PLACES" = some (.int (-1) tA)) (DL : DefOk P w K mg base CX0 1 "lowest" ["mask"] spLowest) (DS : DefOk P w K mg base CX0 3 "sweep" ["masks", "part"] spSweep) (F : FnP K "reduce_rows" s_reduce_rows f fd) :
    FnOk P w K mg base CX0 4 f fd ["masks"] spReduce := by
  refine F.ok scReduce (fun vs H Q E h => ?_) (fun cdv A outer s H vs Q E hr h => ?_)
  · obtain ⟨a, ms, rfl, _⟩ := h
    rfl
  · obtain ⟨a, ms, rfl, ha, hz, k⟩ := h
    obtain ⟨fL, _, _, hmL, _, _⟩ := DL.ex
    refine ⟨_, PSs.nox (pss_cons (ps_asg (pe_d DS hr rfl (pa_cons (pv 0) (pa_cons (pe_glob (v := .int (-1)) rfl hA ⟨_, rfl⟩) pa_nil))) (pg_tup rfl (pgs_cons (pg_name (i := 1) scReduce.nd rfl (Or.inl rfl)) (pgs_cons (pg_name (i := 2) scReduce.nd rfl (Or.inl rfl)) pgs_nil))))
      (pss_one (ps_ret (pe_sortedKey DL hr rfl T2.sorted rfl (pv 1))))), ?_⟩
    refine ⟨_, rfl, a, ms, -1, rfl, ha, by omega, fun p s h H1 s1 fp fs fh gp gs gh => ?_⟩
    refine ⟨p, _, rfl, .inl (.inl gp), rfl, _, _, rfl, _, _, rfl, rfl, fL, hmL, _, rfl, s, _, (sweepF (-1) ms).1.map fun m => ((lowN m : Nat) : Int), rfl, rfl, .inl (.inl gs), by rw [List.length_map, lotV_len], ?_, fun i x kk hx hk => ?_, fun ys q hy hq => ?_⟩
    · have := sweepF_len (-1) ms
      rw [lotV_len]; omega
    · obtain ⟨m, hm, rfl⟩ := lotV_get hx
      rw [List.getElem?_map, hm] at hk
      have e := Option.some.inj hk
      subst e
      exact ⟨m, rfl, rfl, rfl⟩
    · have e := key_reduce hy
      subst e
      exact k q _ (s1.free hq) (Same.new s1 hq) upd_same
/-! ### picked -/
def spPicked : Sp := fun vs H Q _ => ∃ (m : Nat) (a : Addr) (ps : List Nat), vs = [.int (m : Int), .ref a] ∧ NatsAt H a ps ∧ (∀ p ∈ ps, p < 1000) ∧ ps.length ≤ 1000 ∧ ∀ H', Same H H' → Q (.int (pickedF m ps : Nat)) H'
theorem scPicked : FnScope ["mask", "places", "result", "number", "place"] ["mask", "places"] (defScope s_picked) := ⟨rfl, rfl, rfl, by decide +kernel, rfl, by decide +kernel, by decide +kernel⟩
theorem ok_picked {f : Addr} {fd : FuncData} (T : Bi mg) (F : FnP K "picked" s_picked f fd) : FnOk P w K mg base CX0 1 f fd ["mask", "places"] spPicked := by
  refine F.ok scPicked (fun vs H Q E h => ?_) (fun cdv A outer s H vs Q E hr h => ?_)
  · obtain ⟨m, a, ps, rfl, _⟩ := h
    rfl
  · obtain ⟨m, a, ps, rfl, ha, hb, hz, k⟩ := h
    refine ⟨_, PSs.nox (pss_cons (ps_set (i := 2) scPicked.nd rfl (Or.inl rfl) pe_int)
      (pss_cons (ps_for PassesOwn.never rfl (pi_enumA rfl T.enumerate (pa_cons (pv 1) pa_nil)) (pg_tup rfl (pgs_cons (pg_name (i := 3) scPicked.nd rfl (Or.inl rfl)) (pgs_cons (pg_name (i := 4) scPicked.nd rfl (Or.inl rfl)) pgs_nil)))
        (pss_one (ps_aug (i := 2) scPicked.nd rfl (Or.inl rfl) (pe_op op_shl (pe_op op_and (pe_op op_shr (pv 0) (pv 4)) pe_int) (pv 3)) iop_or)))
      (pss_one (ps_ret (pv 2))))), ?_⟩
    refine ⟨_, rfl, a, lotV ps, rfl, for_enumA (K := K) ha (fun i σ H' => Same H H' ∧ ∃ y z : Option V, σ = [some (.int (m : Int)), some (.ref a), some (.int (pickedF m (ps.take i) : Nat)), y, z]) ⟨Same.refl H, none, none, rfl⟩ (fun i σ H' _ p o e => p.1 _ _ e) ?_ ?_⟩
    · rintro i x σ H' D hx ⟨s1, y, z, rfl⟩ hD
      obtain ⟨p, hp, rfl⟩ := lotV_get hx
      have hpl := hb p (List.mem_of_getElem? hp)
      have hi : i < ps.length := (List.getElem?_eq_some_iff.mp hp).1
      refine ⟨D, _, rfl, .inl (.inl upd_same), rfl, _, _, rfl, _, _, rfl, rfl, _, rfl, _, rfl, _, rfl, _, _, rfl, rfl, by omega, _, _, rfl, rfl, _, rfl, _, _, rfl, rfl, ⟨by omega, by omega, ?_⟩, _, _, rfl, rfl, Same.new s1 hD, some (.int (i : Int)), some (.int (p : Int)), ?_⟩
      · have e : Builtin.bitAnd ((m : Int) / 2 ^ ((p : Int).toNat)) 1 = ((m >>> p &&& 1 : Nat) : Int) := by
          rw [shr_nat]
          exact bitAnd_nat (m >>> p) 1
        show (Builtin.bitAnd ((m : Int) / 2 ^ ((p : Int).toNat)) 1).natAbs < 2 ^ 64
        rw [e, Int.natAbs_natCast]
        exact Nat.lt_of_le_of_lt Nat.and_le_right (by decide)
      · have e : Builtin.bitAnd ((m : Int) / 2 ^ ((p : Int).toNat)) 1 = ((m >>> p &&& 1 : Nat) : Int) := by
          rw [shr_nat]
          exact bitAnd_nat (m >>> p) 1
        have e2 : pickedF m (ps.take (i + 1)) = pickedF m (ps.take i) ||| ((m >>> p &&& 1) <<< i) := by
          rw [take_snoc hp]
          unfold pickedF
          rw [zipIdx_snoc, List.foldl_append, List.length_take, Nat.min_eq_left (Nat.le_of_lt hi)]
          rfl
        show _ = [some (V.int (m : Int)), some (V.ref a), some (V.int (pickedF m (ps.take (i + 1)) : Nat)), some (V.int (i : Int)), some (V.int (p : Int))]
        rw [e2, ← bitOr_nat, ← shl_nat, ← e]
        rfl
    · rintro σ H' ⟨s1, y, z, rfl⟩
      rw [lotV_len, List.take_length]
      exact ⟨_, rfl, k H' s1⟩
/-! ### span -/
def spSpan : Sp := fun vs H Q _ => ∃ (a : Addr) (ms : List Nat), vs = [.ref a] ∧ NatsAt H a ms ∧ ms.length ≤ 12 ∧ ∀ (p : Addr) (H' : Hp), H p = none → Same H H' → H' p = some (.lst (lotV (spanF ms))) → Q (.ref p) H'
theorem scSpan : FnScope ["masks", "sums", "mask", "other"] ["masks"] (defScope s_span) := ⟨rfl, rfl, rfl, by decide +kernel, rfl, by decide +kernel, by decide +kernel⟩
theorem ok_span {f : Addr} {fd : FuncData} (F : FnP K "span" s_span f fd) : FnOk P w K mg base CX0 1 f fd ["masks"] spSpan := by
  refine F.ok scSpan (fun vs H Q E h => ?_) (fun cdv A outer s H vs Q E hr h => ?_)
  · obtain ⟨a, ms, rfl, _⟩ := h
    rfl
  · obtain ⟨a, ms, rfl, ha, hz, k⟩ := h
    refine ⟨_, PSs.nox (pss_cons (ps_set (i := 1) scSpan.nd rfl (Or.inl rfl) (pe_lst (pa_cons pe_int pa_nil)))
      (pss_cons (ps_for PassesOwn.never rfl (pi_seq (pv 0)) (pg_name (i := 2) scSpan.nd rfl (Or.inr rfl))
        (pss_one (ps_set (i := 1) scSpan.nd rfl (Or.inl rfl) (pe_op op_cat (pv 1) (pe_lc (own := [("other", 3)]) (g := gName 3) (tt := tYes) (te := tOp (rI0 fun i j => .int (Builtin.bitXor i j)) (tVar 2) (tVar 3)) rfl scSpan.nd (pi_list (pv 1))
              (blkOk_by (N := ["masks", "sums", "mask", "other"]) (sc := defScope s_span) (by decide +kernel)) (fun _ _ _ _ _ => pg_name (i := 3) scSpan.nd rfl (Or.inl rfl)) (fun _ _ _ _ _ => pts_nil)
              (fun _ _ _ _ _ => by exact (pe_op op_xor (pv 2) (pv 3))))))))
      (pss_one (ps_ret (pv 1))))), ?_⟩
    refine ⟨(by show 1 ≤ sizeLine; decide), fun s0 hs0 => ?_⟩
    refine ⟨_, rfl, a, lotV ms, rfl, for_seq (K := K) (fun j σ H' => Same H H' ∧ ∃ (s1 : Addr) (y z : Option V), σ = [some (.ref a), some (.ref s1), y, z] ∧ H s1 = none ∧ H' s1 = some (.lst (lotV (spanF (ms.take j)))))
      ⟨Same.new (Same.refl H) hs0, s0, none, none, rfl, hs0, upd_same⟩ (ha.imp (fun q i σ H' _ p => p.1 _ _ q) (fun q i σ H' _ p => p.1 _ _ q)) ?_ ?_⟩
    · rintro j x σ H' hj ⟨s3, s1, y, z, rfl, fs, gs⟩
      obtain ⟨m, hm, rfl⟩ := lotV_get hj
      have hjl : j < ms.length := (List.getElem?_eq_some_iff.mp hm).1
      have hlen := spanF_len (ms.take j)
      have hlen2 : (spanF (ms.take j)).length ≤ 2 ^ 11 := by
        rw [hlen]
        refine Nat.pow_le_pow_right (by decide) ?_
        rw [List.length_take]; omega
      rw [take_snoc hm, spanF_snoc]
      generalize spanF (ms.take j) = st at gs hlen2
      refine ⟨_, rfl, _, rfl, s1, rfl, ⟨_, .inl (.inl gs)⟩, fun D hD => ?_⟩
      have nD : D ≠ s1 := fun e => by rw [e, gs] at hD; cases hD
      have fD : H D = none := s3.free hD
      refine lc_list (K := K) (a := s1) (xs := lotV st) (fun i H2 => Same H H2 ∧ H2 s1 = some (.lst (lotV st)) ∧ H2 D = some (.lst (lotV ((st.take i).map (m ^^^ ·))))) ⟨Same.new s3 hD, by rw [upd_ne (Ne.symm nD)]; exact gs, upd_same⟩ (fun i H2 _ p => .inl (.inl p.2.1)) ?_ ?_
      · rintro i x H2 hi ⟨t1, t2, t4⟩
        obtain ⟨o, ho, rfl⟩ := lotV_get hi
        refine ⟨rfl, _, rfl, _, rfl, _, _, rfl, rfl, _, t4, ?_, Same.own t1 fD, by rw [upd_ne (Ne.symm nD)]; exact t2, ?_⟩
        · rw [lotV_len, List.length_map, List.length_take, sizeLine_eq]; omega
        · rw [upd_same, take_snoc ho, List.map_append, List.map_singleton, lotV_snoc, ← bitXor_nat]
      · rintro H2 ⟨t1, t2, t4⟩
        rw [lotV_len, List.take_length] at t4
        refine ⟨s1, D, _, _, rfl, rfl, t2, t4, (by rw [lotV_len, lotV_len, List.length_map, sizeLine_eq]; omega), fun p hp => ?_⟩
        refine ⟨Same.new t1 hp, p, _, _, rfl, t1.free hp, ?_⟩
        rw [upd_same]
        unfold lotV
        rw [List.map_append]
    · rintro σ H' ⟨s3, s1, y, z, rfl, fs, gs⟩
      rw [lotV_len, List.take_length] at gs
      exact ⟨_, rfl, k s1 _ fs s3 gs⟩
/-! ### check_rows -/
def spCheckRows : Sp := fun vs H Q _ => ∃ (a : Addr) (rs : List Nat) (n : Nat), vs = [.ref a, .int (n : Int)] ∧ NatsAt H a rs ∧ rs.length ≤ 1000 ∧ n ≤ 60 ∧ ∀ (p : Addr) (H' : Hp), H p = none → Same H H' → H' p = some (.lst (lotV (checkF rs n))) → Q (.ref p) H'
theorem scCheckRows : FnScope ["rows", "size", "checks", "place", "bit", "row"] ["rows", "size"] (defScope s_check_rows) := ⟨rfl, rfl, rfl, by decide +kernel, rfl, by decide +kernel, by decide +kernel⟩
theorem ok_check_rows {f : Addr} {fd : FuncData} (T : Bi mg) (T2 : Bi2 mg) (DL : DefOk P w K mg base CX0 1 "lowest" ["mask"] spLowest) (DR : DefOk P w K mg base CX0 4 "reduce_rows" ["masks"] spReduce) (F : FnP K "check_rows" s_check_rows f fd) :
    FnOk P w K mg base CX0 5 f fd ["rows", "size"] spCheckRows := by
  refine F.ok scCheckRows (fun vs H Q E h => ?_) (fun cdv A outer s H vs Q E hr h => ?_)
  · obtain ⟨a, rs, n, rfl, _⟩ := h
    rfl
  · obtain ⟨a, rs, n, rfl, ha, hz, hn, k⟩ := h
    refine ⟨_, PSs.nox (pss_cons (ps_set (i := 2) scCheckRows.nd rfl (Or.inl rfl) (pe_lst pa_nil))
      (pss_cons (ps_for PassesOwn.never rfl (pi_range1 rfl T.range (pa_cons (pv 1) pa_nil)) (pg_name (i := 3) scCheckRows.nd rfl (Or.inl rfl))
        (pss_cons (ps_set (i := 4) scCheckRows.nd rfl (Or.inr rfl) (pe_op op_shl pe_int (pv 3)))
        (pss_one (ps_if (pt_not (pt_val (pe_callB (cr_any rfl) (by rfl) T2.any (by decide +kernel) (pa_cons (pe_lc (own := [("row", 5)]) (g := gName 5) (tt := tYes) (te := tOp rEq (tCall spLowest [] E0 (tCons (tVar 5) tNil)) (tVar 4)) rfl scCheckRows.nd (pi_seq (pv 0))
              (blkOk_by (N := ["rows", "size", "checks", "place", "bit", "row"]) (sc := defScope s_check_rows) (by decide +kernel)) (fun _ _ _ _ _ => pg_name (i := 5) scCheckRows.nd rfl (Or.inl rfl)) (fun _ _ _ _ _ => pts_nil)
              (fun _ _ _ _ _ => by exact (pe_cmpR op_eq (pe_d DL hr rfl (pa_cons (pv 5) pa_nil)) (pv 4) (nomark _)))) pa_nil))))
          (pss_one (ps_expr (pe_bm PySem.F.plainAttrs_list PySem.F.slot_list_append PySem.F.type_list_append mt_append (pv 2) (pa_cons (pe_op op_or (pv 4) (pe_callB (cr_sum rfl) (by rfl) T2.sum (by decide +kernel) (pa_cons (pe_lc (own := [("row", 5)]) (g := gName 5)
              (tt := fun σ H Q => (tOp (rI0 fun i j => .int (Builtin.bitAnd i j)) (tVar 5) (tVar 4)) σ H fun x H' => ∃ k, TruV K x H' k ∧ Q k H') (te := tCall spLowest [] E0 (tCons (tVar 5) tNil)) rfl scCheckRows.nd (pi_seq (pv 0))
              (blkOk_by (N := ["rows", "size", "checks", "place", "bit", "row"]) (sc := defScope s_check_rows) (by decide +kernel)) (fun _ _ _ _ _ => pg_name (i := 5) scCheckRows.nd rfl (Or.inl rfl)) (fun _ _ _ _ _ => pts_one (by exact (pt_truth (pe_op op_and (pv 5) (pv 4)) (by intro _; rfl))))
              (fun _ _ _ _ _ => by exact (pe_d DL hr rfl (pa_cons (pv 5) pa_nil)))) pa_nil))) pa_nil)))) pss_nil))))
      (pss_one (ps_ret (pe_d DR hr rfl (pa_cons (pv 2) pa_nil)))))), ?_⟩
    refine ⟨Nat.zero_le _, fun c0 hc0 => ⟨_, rfl, _, rfl, by omega, by omega, ?_⟩⟩
    rw [Int.toNat_natCast]
    refine for_range (lo := 0) (n := n) (fun i σ H' => Same H H' ∧ ∃ x y z : Option V, σ = [some (.ref a), some (.int (n : Int)), some (.ref c0), x, y, z] ∧ H' c0 = some (.lst (lotV (checkRaw rs i)))) ⟨Same.new (Same.refl H) hc0, none, none, none, rfl, upd_same⟩ ?_ ?_
    · rintro i σ H' hi ⟨s1, x, y, z, rfl, gc⟩
      refine ⟨_, rfl, _, _, rfl, rfl, ⟨by omega, by omega, by decide⟩, ?_⟩
      have e2 : (1 : Int) * 2 ^ ((0 + (i : Int)).toNat) = ((2 ^ i : Nat) : Int) := by
        rw [Int.one_mul, Int.zero_add, Int.toNat_natCast, Int.natCast_pow]; rfl
      dsimp only
      rw [e2, checkRaw_succ]
      generalize hbit : 2 ^ i = bit
      have ha1 : NatsAt H' a rs := ha.same s1
      refine ⟨_, rfl, a, lotV rs, rfl, lc_seq (K := K) ha1 (fun D j H2 => Same H' H2 ∧ H2 D = some (.lst ((rs.take j).map fun r => V.bl (decide (lowN r = bit))))) (fun D hD => ⟨Same.new (Same.refl H') hD, upd_same⟩) (fun D j H2 _ _ p o e => p.1 _ _ e) ?_ ?_⟩
      · rintro D j x H2 hD hj ⟨t1, t2⟩
        obtain ⟨r, hr, rfl⟩ := lotV_get hj
        refine ⟨rfl, _, rfl, r, rfl, _, rfl, rfl, _, t2, ?_, Same.own t1 hD, ?_⟩
        · rw [List.length_map, List.length_take, sizeLine_eq]; omega
        · have e3 : decide (V.int ((lowN r : Nat) : Int) = V.int (bit : Int)) = decide (lowN r = bit) := by
            rw [dec_int]
            by_cases h : lowN r = bit
            · rw [h, decide_eq_true rfl, beq_iff_eq]
            · rw [decide_eq_false h, beq_eq_false_iff_ne]; omega
          rw [upd_same, take_snoc hr, List.map_append, List.map_singleton, e3]
      · rintro D H2 hD ⟨t1, t2⟩
        rw [lotV_len, List.take_length] at t2
        refine ⟨D, rs.map fun r => decide (lowN r = bit), rfl, .inl (.inl (by rw [List.map_map]; exact t2)), _, rfl, ?_⟩
        have e4 : (rs.map fun r => decide (lowN r = bit)).any id = rs.any fun r => decide (lowN r = bit) := by rw [List.any_map]; rfl
        rw [e4]
        have gc2 := t1 _ _ gc
        have s2 := s1.trans t1
        cases hany : rs.any fun r => decide (lowN r = bit) with
        | true =>
          refine iteF ⟨s2, _, _, _, rfl, ?_⟩
          rw [if_pos rfl, List.append_nil]; exact gc2
        | false =>
          have ha2 : NatsAt H2 a rs := ha.same s2
          refine iteT ⟨_, rfl, .inl ⟨rfl, _, SqL.of gc2⟩, _, rfl, _, rfl, a, lotV rs, rfl, lc_seq (K := K) (g := gName 5) (tt := fun σ H Q => (tOp (rI0 fun i j => .int (Builtin.bitAnd i j)) (tVar 5) (tVar 4)) σ H fun x H' => ∃ k, TruV K x H' k ∧ Q k H') (te := tCall spLowest [] E0 (tCons (tVar 5) tNil)) ha2 (fun D j H3 => Same H2 H3 ∧ H3 D = some (.lst (lotV (((rs.take j).filter fun r => decide (r &&& bit ≠ 0)).map lowN)))) (fun D hD => ⟨Same.new (Same.refl H2) hD, upd_same⟩) (fun D j H3 _ _ p o e => p.1 _ _ e) ?_ ?_⟩
          · rintro D2 j x H3 hD2 hj ⟨t3, t4⟩
            obtain ⟨r, hr, rfl⟩ := lotV_get hj
            refine ⟨rfl, _, rfl, _, rfl, _, _, rfl, rfl, _, rfl, ?_⟩
            rw [bitAnd_nat, dec_ne0, take_snoc hr, List.filter_append, List.map_append]
            refine ite2 (fun c => ?_) (fun c => ?_)
            · refine ⟨_, rfl, r, rfl, _, t4, ?_, Same.own t3 hD2, ?_⟩
              · rw [lotV_len, List.length_map]
                refine Nat.lt_of_le_of_lt (List.length_filter_le _ _) ?_
                rw [List.length_take, sizeLine_eq]; omega
              · rw [upd_same, List.filter_cons, if_pos c, List.filter_nil, List.map_singleton, lotV_snoc]
            · rw [List.filter_cons, if_neg c, List.filter_nil, List.map_nil, List.append_nil]
              exact ⟨t3, t4⟩
          · rintro D2 H3 hD2 ⟨t3, t4⟩
            rw [lotV_len, List.take_length] at t4
            have gc3 := t3 _ _ gc2
            refine ⟨D2, ((rs.filter fun r => decide (r &&& bit ≠ 0)).map lowN).map fun p : Nat => (p : Int), rfl, .inl (.inl (by rw [← lotV_ints]; exact t4)), _, _, rfl, rfl, c0, _, _, rfl, rfl, gc3, ?_, Same.own (s2.trans t3) hc0, _, _, _, rfl, ?_⟩
            · rw [lotV_len]
              exact Nat.lt_of_le_of_lt (checkRaw_len _ _) (by rw [sizeLine_eq]; omega)
            · rw [upd_same, if_neg (by decide), lotV_snoc, cast_sum, ← bitOr_nat]
    · rintro σ H' ⟨s1, x, y, z, rfl, gc⟩
      have hlen := checkRaw_len rs n
      exact ⟨_, rfl, c0, _, rfl, .inl gc, by omega, fun p H2 hp s2 g => k p H2 (s1.free hp) (s1.trans s2) g⟩
end
end BT

set_option Elab.async false
set_option linter.all false
set_option maxRecDepth 100000
set_option maxHeartbeats 4000000
set_option exponentiation.threshold 2000
namespace BT
open PySem PySem.Spec PyProof.Rows L2
abbrev sz (x : String) : V := .str (Str.ofString x)
def listD : PyData → Bool
  | .list _ => true
  | _ => false
theorem lots_get {H : Hp} {xs : List V} {ls : List (List Nat)} {j : Nat} {x : V} (h : DvA H xs (ls.map lotD)) (e : xs[j]? = some x) : ∃ l t, ls[j]? = some l ∧ x = .ref t ∧ H t = some (.tup (lotV l)) := by
  obtain ⟨d, hd, hx⟩ := h.get e
  rw [List.getElem?_map] at hd
  cases el : ls[j]? with
  | none => rw [el] at hd; cases hd
  | some l =>
    rw [el] at hd
    have ed : lotD l = d := Option.some.inj hd
    subst ed
    obtain ⟨t, rfl, g⟩ := hx.lot_inv
    exact ⟨l, t, rfl, rfl, g⟩
theorem lots_inj {x y : List Nat} (h : lotD x = lotD y) : x = y := by
  injection h with h
  induction x generalizing y with
  | nil => cases y with
    | nil => rfl
    | cons b y => cases h
  | cons c x ih => cases y with
    | nil => cases h
    | cons b y =>
      rw [List.map_cons, List.map_cons] at h
      injection h with h1 h2
      injection h1 with h1
      rw [Int.ofNat.inj h1, ih h2]
theorem del_upd {H : Hp} {a D : Addr} {o : HO} (h : D ≠ a) : L2.del (upd H D o) a = upd (L2.del H a) D o := by
  funext b
  by_cases hb : b = a
  · rw [hb, del_same, upd_ne (Ne.symm h), del_same]
  · rw [del_ne hb]
    by_cases hc : b = D
    · rw [hc, upd_same, upd_same]
    · rw [upd_ne hc, upd_ne hc, del_ne hb]
theorem lots_upd {H : Hp} {D : Addr} {o : HO} {acc : List V} (hD : H D = some (.lst acc)) : ∀ {ls : List (List Nat)} {xs : List V}, DvA H xs (ls.map lotD) → DvA (upd H D o) xs (ls.map lotD)
  | [], xs, h => by cases h; exact .nil
  | l :: ls, xs, h => by
    rw [List.map_cons] at h ⊢
    cases h with
    | cons h1 h2 =>
      obtain ⟨t, rfl, g⟩ := h1.lot_inv
      refine .cons (Dv.lot ?_) (lots_upd hD h2)
      rw [upd_ne fun e => ?_]
      · exact g
      · rw [e, hD] at g
        cases g
/-- a list of lots that is no part of the source -/
structure LotsAt (a : Addr) (H : Hp) (L : Addr) (xs : List V) (ls : List (List Nat)) : Prop where
  ne : L ≠ a
  at_ : H L = some (.lst xs)
  all : DvA (L2.del H a) xs (ls.map lotD)
theorem LotsAt.keeps {l a : Addr} {H H' : Hp} {L : Addr} {xs : List V} {ls : List (List Nat)} (h : LotsAt a H L xs ls) (k : Keeps l a H H') : LotsAt a H' L xs ls := ⟨h.ne, k.same _ _ h.ne h.at_, DvA.mono k.del _ _ h.all⟩
theorem LotsAt.dv {a : Addr} {H : Hp} {L : Addr} {xs : List V} {ls : List (List Nat)} (h : LotsAt a H L xs ls) : Dv (L2.del H a) (.ref L) (.list (ls.map lotD)) := .lst (by rw [del_ne h.ne]; exact h.at_) h.all
theorem LotsAt.all' {a : Addr} {H : Hp} {L : Addr} {xs : List V} {ls : List (List Nat)} (h : LotsAt a H L xs ls) : DvA H xs (ls.map lotD) := DvA.mono (fun b o e => (del_get e).2) _ _ h.all
theorem LotsAt.len {a : Addr} {H : Hp} {L : Addr} {xs : List V} {ls : List (List Nat)} (h : LotsAt a H L xs ls) : xs.length = ls.length := by
  have := DvA.length h.all
  rw [List.length_map] at this; exact this
theorem lots_list_inj : ∀ {x y : List (List Nat)}, x.map lotD = y.map lotD → x = y
  | [], [], _ => rfl
  | [], _ :: _, h => by cases h
  | _ :: _, [], h => by cases h
  | a :: x, b :: y, h => by
    rw [List.map_cons, List.map_cons] at h
    injection h with h1 h2
    rw [lots_inj h1, lots_list_inj h2]
theorem lots_dp {K : PySem.W.Frag} {H : Hp} : ∀ {ls : List (List Nat)} {xs : List V}, DvA H xs (ls.map lotD) → DpAll K H xs (ls.map lotD)
  | [], xs, h => by cases h; exact .nil
  | l :: ls, xs, h => by
    rw [List.map_cons] at h ⊢
    cases h with
    | cons h1 h2 =>
      obtain ⟨t, rfl, g⟩ := h1.lot_inv
      refine .cons (.tup (.inl (.inl g)) ?_) (lots_dp h2)
      clear g h1
      induction l with
      | nil => exact .nil
      | cons p l ih => exact .cons (.int _) ih
theorem lay_lot : ∀ l : List Nat, PyData.canLayAll0 (l.map fun p : Nat => PyData.int (p : Int)) = true
  | [] => rfl
  | p :: l => by
    rw [List.map_cons]
    simp only [PyData.canLayAll0, PyData.canLay0, Bool.true_and]
    exact lay_lot l
theorem lay_lots : ∀ ls : List (List Nat), PyData.canLayAll0 (ls.map lotD) = true
  | [] => rfl
  | l :: ls => by
    rw [List.map_cons]
    simp only [PyData.canLayAll0, Bool.and_eq_true]
    exact ⟨by simp only [lotD, PyData.canLay0]; exact lay_lot l, lay_lots ls⟩
theorem shaped_lots (ls : List (List Nat)) : SeqAt.shaped (.list (ls.map lotD)) = true := by
  unfold SeqAt.shaped
  rw [Bool.and_eq_true]
  refine ⟨by simp only [PyData.canLay0]; exact lay_lots ls, decide_eq_true ?_⟩
  simp only [PyData.depth]
  have : PyData.depthAll (ls.map lotD) ≤ 1 := depthA_le fun d hd => by
    obtain ⟨l, _, rfl⟩ := List.mem_map.mp hd
    simp only [lotD, PyData.depth]
    have := depthA_le (n := 0) (ds := l.map fun p : Nat => PyData.int (p : Int)) fun d hd => by
      obtain ⟨p, _, rfl⟩ := List.mem_map.mp hd
      simp [PyData.depth]
    omega
  omega
theorem eqv_lots (ls : List (List Nat)) : PyData.eqv (.list (ls.map lotD)) (.list (ls.map lotD)) = true := SeqAt.eqv_refl _ (by simp only [PyData.canLay0]; exact lay_lots ls)
/-- the first item that is no lot is one alone -/
theorem first_one {ds : List PyData} {j k : Nat} {d e : PyData} (hj : ds[j]? = some d) (nb : isLotD ((60 : Nat) : Int) d = false) (hm : ∀ (m : Nat) (x : PyData), m < j → ds[m]? = some x → isLotD ((60 : Nat) : Int) x = true)
    (hk : ds[k]? = some e) (ne : isLotD ((60 : Nat) : Int) e = false) (hn : ∀ (m : Nat) (x : PyData), m < k → ds[m]? = some x → isLotD ((60 : Nat) : Int) x = true) : k = j := by
  rcases Nat.lt_trichotomy k j with h | h | h
  · rw [hm k e h hk] at ne; cases ne
  · exact h
  · rw [hn j d h hj] at nb; cases nb
theorem not_all {ds : List PyData} {j : Nat} {d : PyData} (hj : ds[j]? = some d) (nb : isLotD ((60 : Nat) : Int) d = false) {us : List (List Nat)} (e : PyData.list ds = .list (us.map lotD)) (hu : ∀ l ∈ us, IsLot 60 l) : False := by
  injection e with e
  rw [e, List.getElem?_map] at hj
  cases h : us[j]? with
  | none => rw [h] at hj; cases hj
  | some l =>
    rw [h] at hj
    have e2 : lotD l = d := Option.some.inj hj
    rw [← e2, isLotD_of (hu l (List.mem_of_getElem? h))] at nb
    cases nb
theorem lots_all {ls : List (List Nat)} (hl : ∀ l ∈ ls, IsLot 60 l) {j : Nat} {e : PyData} (hj : (ls.map lotD)[j]? = some e) : isLotD ((60 : Nat) : Int) e = true := by
  rw [List.getElem?_map] at hj
  cases h : ls[j]? with
  | none => rw [h] at hj; cases hj
  | some l =>
    rw [h] at hj
    have e2 : lotD l = e := Option.some.inj hj
    rw [← e2]; exact isLotD_of (hl l (List.mem_of_getElem? h))
theorem join_else {c : Bool} {A : Prop} {R0 : L2.St → Hp → Prop} {σ : L2.St} {H : Hp} (J : L2.St → Hp → Prop) (h2 : ∀ σ' H', J σ' H' → R0 σ' H') (h1 : c = true → (∀ σ' H', J σ' H' → R0 σ' H') → A) (h0 : c = false → J σ H) : if c = true then A else R0 σ H := by
  cases c with
  | true => exact iteT (h1 rfl h2)
  | false => exact iteF (h2 _ _ (h0 rfl))
theorem flat_map7 {ls : List (List Nat)} : (List.replicate 7 ls).flatten.map lotD = (List.replicate 7 (ls.map lotD)).flatten := by simp [List.replicate_succ]
theorem DvA.flat7 {H : Hp} {xs : List V} {ds : List PyData} (h : DvA H xs ds) : DvA H (List.replicate 7 xs).flatten (List.replicate 7 ds).flatten := by
  show DvA H (xs ++ (xs ++ (xs ++ (xs ++ (xs ++ (xs ++ (xs ++ []))))))) (ds ++ (ds ++ (ds ++ (ds ++ (ds ++ (ds ++ (ds ++ [])))))))
  exact h.append (h.append (h.append (h.append (h.append (h.append (h.append .nil))))))
theorem cutl_to {K : PySem.W.Frag} {H : Hp} {a : Addr} {xs : List V} {j : Nat} {Q : VK} (ha : H a = some (.lst xs)) (hj : j ≤ xs.length) (k : ∀ p, H p = none → Q (.ref p) (upd H p (.lst (xs.take j)))) : rSlL K (.ref a) none (some (j : Int)) H Q := by
  refine ⟨a, xs, rfl, .inl (.inl ha), fun p hp => ?_⟩
  have e1 : HT.sIx xs.length 0 none = 0 := rfl
  have e2 : HT.sIx xs.length xs.length (some (j : Int)) = j := by rw [HT.sIx_nat]; omega
  have q := k p hp
  unfold cutV
  rw [e1, e2]
  exact q
theorem cutl_from {K : PySem.W.Frag} {H : Hp} {a : Addr} {xs : List V} {j : Nat} {Q : VK} (ha : H a = some (.lst xs)) (hj : j ≤ xs.length) (k : ∀ p, H p = none → Q (.ref p) (upd H p (.lst (xs.drop j)))) : rSlL K (.ref a) (some (j : Int)) none H Q := by
  refine ⟨a, xs, rfl, .inl (.inl ha), fun p hp => ?_⟩
  have e1 : HT.sIx xs.length xs.length none = xs.length := rfl
  have e2 : HT.sIx xs.length 0 (some (j : Int)) = j := by rw [HT.sIx_nat]; omega
  have q := k p hp
  unfold cutV
  rw [e1, e2, List.take_of_length_le (by rw [List.length_drop]; omega)]
  exact q
theorem DvA.take {H : Hp} : ∀ {xs : List V} {ds : List PyData} (j : Nat), DvA H xs ds → DvA H (xs.take j) (ds.take j)
  | _, _, 0, _ => .nil
  | _, _, _ + 1, .nil => .nil
  | _, _, j + 1, .cons a r => .cons a (DvA.take j r)
theorem DvA.drop {H : Hp} : ∀ {xs : List V} {ds : List PyData} (j : Nat), DvA H xs ds → DvA H (xs.drop j) (ds.drop j)
  | _, _, 0, h => h
  | _, _, _ + 1, .nil => .nil
  | _, _, j + 1, .cons _ r => DvA.drop j r
def tagOk (x : String) : Prop := strOk (Str.ofString x) = true ∧ (Str.ofString x).length ≤ 10
theorem tag_told : tagOk "told" := ⟨by decide +kernel, by decide +kernel⟩
theorem tag_size : tagOk "size" := ⟨by decide +kernel, by decide +kernel⟩
theorem tag_lot : tagOk "lot" := ⟨by decide +kernel, by decide +kernel⟩
theorem tag_lots : tagOk "lots" := ⟨by decide +kernel, by decide +kernel⟩
/-- a pair of a tag and a value -/
theorem pairD {H : Hp} {p : Addr} {x : String} {v : V} {d : PyData} (g : H p = some (.tup [sz x, v])) (h : Dv H v d) : Dv H (.ref p) (.tuple [.str (Str.ofString x), d]) := .tup g (.cons (.str _) (.cons h .nil))
theorem tagR {x : String} {d : PyData} {n : Nat} (hx : tagOk x) (sm : Sm n d) (hn : n ≤ 900000) : Sr (.tuple [.str (Str.ofString x), d]) := sr_pair hx.1 hx.2 sm hn
theorem sm_bool (b : Bool) : Sm 41 (.bool b) := (it_bool b).sm
theorem keepS {l a : Addr} {G H : Hp} (k : Keeps l a G H) {H' : Hp} (s : Same H H') : Keeps l a G H' := k.trans (Keeps.of_same k.src s)
end BT

set_option Elab.async false
set_option linter.all false
set_option maxRecDepth 100000
set_option maxHeartbeats 4000000
set_option exponentiation.threshold 2000
namespace BT
open PySem PySem.Spec PyProof.Rows L2
/-! ### reduced rows: their bounds -/
theorem xor_lt {a b n : Nat} (ha : a < 2 ^ n) (hb : b < 2 ^ n) : a ^^^ b < 2 ^ n := Nat.xor_lt_two_pow ha hb
theorem cleared_lt {part : Int} {n : Nat} : ∀ (rows : List Nat) (m : Nat), (∀ r ∈ rows, r < 2 ^ n) → m < 2 ^ n → clearedF part m rows < 2 ^ n
  | [], m, _, hm => hm
  | r :: rows, m, h, hm => by
    unfold clearedF
    rw [List.foldl_cons]
    refine cleared_lt rows _ (fun z hz => h z (List.mem_cons_of_mem _ hz)) ?_
    unfold clearStep
    split
    · exact xor_lt hm (h r (List.mem_cons_self ..))
    · exact hm
theorem sweep_lt {part : Int} {n : Nat} {ms : List Nat} (h : ∀ m ∈ ms, m < 2 ^ n) : (∀ r ∈ (sweepF part ms).1, r < 2 ^ n) ∧ ∀ r ∈ (sweepF part ms).2, r < 2 ^ n := by
  have key : ∀ (ms : List Nat) (st : List Nat × List Nat), (∀ m ∈ ms, m < 2 ^ n) → ((∀ r ∈ st.1, r < 2 ^ n) ∧ ∀ r ∈ st.2, r < 2 ^ n) → (∀ r ∈ (ms.foldl (sweepStep part) st).1, r < 2 ^ n) ∧ ∀ r ∈ (ms.foldl (sweepStep part) st).2, r < 2 ^ n := by
    intro ms
    induction ms with
    | nil => intro st _ h; exact h
    | cons m ms ih =>
      intro st hm h
      rw [List.foldl_cons]
      refine ih _ (fun z hz => hm z (List.mem_cons_of_mem _ hz)) ?_
      have hc := cleared_lt (part := part) st.1 m h.1 (hm m (List.mem_cons_self ..))
      unfold sweepStep
      split
      · refine ⟨fun r hr => ?_, h.2⟩
        rcases List.mem_append.mp hr with hr | hr
        · obtain ⟨z, hz, rfl⟩ := List.mem_map.mp hr
          split
          · exact xor_lt (h.1 z hz) hc
          · exact h.1 z hz
        · rw [List.mem_singleton.mp hr]; exact hc
      · refine ⟨h.1, fun r hr => ?_⟩
        rcases List.mem_append.mp hr with hr | hr
        · exact h.2 r hr
        · rw [List.mem_singleton.mp hr]; exact hc
  exact key ms ([], []) h ⟨fun r hr => (nomatch hr), fun r hr => (nomatch hr)⟩
/-- reduced rows of a size -/
def Red (n : Nat) (ms : List Nat) : Prop := ∃ gs : List Nat, (∀ g ∈ gs, g < 2 ^ n) ∧ ms = reduceF gs
theorem Red.lt {n : Nat} {ms : List Nat} (h : Red n ms) : ∀ m ∈ ms, m < 2 ^ n := by
  obtain ⟨gs, h1, rfl⟩ := h
  intro m hm
  exact (sweep_lt h1).1 m ((sortLow_perm _).mem_iff.mp hm)
theorem nodup_len : ∀ (n : Nat) (l : List Nat), l.Nodup → (∀ k ∈ l, k < n) → l.length ≤ n
  | 0, [], _, _ => Nat.le_refl _
  | 0, k :: l, _, h => absurd (h k (List.mem_cons_self ..)) (Nat.not_lt_zero _)
  | n + 1, l, hd, h => by
    have h1 := nodup_len n (l.erase n) (hd.erase n) fun k hk => by
      have h2 := h k (List.mem_of_mem_erase hk)
      have h3 : k ≠ n := fun e => by
        subst e
        exact hd.not_mem_erase hk
      omega
    have h4 : l.length ≤ (l.erase n).length + 1 := by
      rw [List.length_erase]
      split <;> omega
    omega
theorem alone_len {n : Nat} {rows : List Nat} (A : Alone (-1) rows) (h : ∀ r ∈ rows, r < 2 ^ n) : rows.length ≤ n := by
  obtain ⟨ks, hl, hk⟩ := A
  have h1 : ∀ k ∈ ks, k < n := fun k hm => by
    obtain ⟨i, hi, rfl⟩ := List.getElem_of_mem hm
    obtain ⟨e1, e2⟩ := hk i _ ks[i] (List.getElem?_eq_getElem (by omega)) (List.getElem?_eq_getElem hi)
    have hb := (e2 i _ (List.getElem?_eq_getElem (by omega))).mpr rfl
    refine Nat.lt_of_not_le fun q => ?_
    have := h rows[i] (List.getElem_mem _)
    rw [Nat.testBit_lt_two_pow (Nat.lt_of_lt_of_le this (Nat.pow_le_pow_right (by decide) q))] at hb
    cases hb
  have h2 : ks.Nodup := by
    rw [List.nodup_iff_pairwise_ne, List.pairwise_iff_getElem]
    intro i j hi hj hij e
    obtain ⟨_, e2⟩ := hk i _ ks[i] (List.getElem?_eq_getElem (by omega)) (List.getElem?_eq_getElem hi)
    obtain ⟨_, f2⟩ := hk j _ ks[j] (List.getElem?_eq_getElem (by omega)) (List.getElem?_eq_getElem hj)
    have q := (f2 j _ (List.getElem?_eq_getElem (by omega))).mpr rfl
    have z := (e2 j _ (List.getElem?_eq_getElem (by omega))).mp (by rw [e]; exact q)
    omega
  rw [← hl]
  exact nodup_len n ks h2 h1
theorem Red.len {n : Nat} {ms : List Nat} (h : Red n ms) : ms.length ≤ n := by
  obtain ⟨gs, h1, rfl⟩ := h
  unfold reduceF
  rw [(sortLow_perm _).length_eq]
  exact alone_len (sweep_alone _ _) (sweep_lt h1).1
end BT

set_option Elab.async false
set_option linter.all false
set_option maxRecDepth 100000
set_option maxHeartbeats 4000000
set_option exponentiation.threshold 2000
namespace BT
open PySem PySem.Spec PyProof.Rows L2
/-- a book: its object, its tuple of rows -/
def BookAt (C : Addr) (H : Hp) (b : Addr) (n : Nat) (ms : List Nat) : Prop := ∃ dx t : Addr, H b = some (.ins C dx [("size", .int (n : Int)), ("masks", .ref t), ("dim", .int (ms.length : Nat))]) ∧ H t = some (.tup (lotV ms))
theorem BookAt.same {C : Addr} {H H' : Hp} {b : Addr} {n : Nat} {ms : List Nat} (s : Same H H') (h : BookAt C H b n ms) : BookAt C H' b n ms := by
  obtain ⟨dx, t, h1, h2⟩ := h
  exact ⟨dx, t, s _ _ h1, s _ _ h2⟩
structure BookC (K : PySem.W.Frag) (C : Addr) : Prop where
  cls : Cls K C
  nSize : NoAttr K C "size"
  nMasks : NoAttr K C "masks"
  nDim : NoAttr K C "dim"
theorem maskN_lt' {n : Nat} {l : List Nat} (h : IsLot n l) : maskN l < 2 ^ n := maskN_lt h.lt
section
variable {P : Program} {w : World} {K : PySem.W.Frag} {mg : Str → Option Value} {base : Heap} {tM tL tZ tW : Tok}
/-- calls that leave out arguments: the defaults are whole numbers -/
structure DefOkD (P : Program) (w : World) (K : PySem.W.Frag) (mg : Str → Option Value) (base : Heap) (CX : CXT) (k : Nat) (x : Str) (ps : List Str) (dvs : List V) (sp : Sp) : Prop where
  ex : ∃ (f : Addr) (fd : FuncData) (ds : List Value), FnOk P w K mg base CX k f fd ps sp ∧ mg x = some (.ref f) ∧ PySem.W.keepIn K (.ref f) = true ∧ Vals dvs ds ∧ Binds K fd ps ds
/-! ### need_lots -/
def spNeedLots (C : Addr) : Sp := fun vs H Q E => ∃ (v : V) (d : PyData) (n : Nat), vs = [v, .int (n : Int), .int 60] ∧ Dv H v d ∧ n ≤ 60 ∧
  (∀ ls : List (List Nat), d = .list (ls.map lotD) → (∀ l ∈ ls, IsLot n l) → ls.length ≤ 60 → ∀ H', Same H H' → Q .non H') ∧
  ((∀ ds, d = .list ds → 60 < ds.length) → ∀ x, H x = none → E (.ref C) (some x) (upd H x (.xd [("what", .int (-1))]))) ∧
  (∀ ds, d = .list ds → ds.length ≤ 60 → ∀ (j : Nat) (e : PyData), ds[j]? = some e → isLotD (n : Int) e = false → (∀ (m : Nat) (e' : PyData), m < j → ds[m]? = some e' → isLotD (n : Int) e' = true) →
    ∀ (H' : Hp) (x : Addr), Same H H' → H' x = none → E (.ref C) (some x) (upd H' x (.xd [("what", .int (j : Nat))])))
theorem scNeedLots : FnScope ["value", "size", "most"] ["value", "size", "most"] (defScope s_need_lots) := ⟨rfl, rfl, rfl, by decide +kernel, rfl, by decide +kernel, by decide +kernel⟩
theorem all_lots' {n : Nat} : ∀ {ds : List PyData}, (∀ (j : Nat) (e : PyData), ds[j]? = some e → isLotD (n : Int) e = true) → ∃ ls : List (List Nat), ds = ls.map lotD ∧ ∀ l ∈ ls, IsLot n l
  | [], _ => ⟨[], rfl, fun _ h => (nomatch h)⟩
  | d :: ds, h => by
    obtain ⟨l, rfl, hl⟩ := isLotD_inv (h 0 d rfl)
    obtain ⟨ls, rfl, hls⟩ := all_lots' (ds := ds) fun j e he => h (j + 1) e he
    exact ⟨l :: ls, rfl, fun k hk => by
      rcases List.mem_cons.mp hk with rfl | hk
      · exact hl
      · exact hls k hk⟩
theorem ok_need_lots {f C : Addr} {fd : FuncData} (T : Bi mg) (EC : ErrC P w K mg base "BadLots" C) (DE : DefOk P w K mg base (L2.CX P w) 5 "need_each_lot" ["values", "size"] (spNeedEach C)) (F : FunD K "need_lots" "need_lots" (defArgs s_need_lots) (defBody s_need_lots) (defScope s_need_lots) [.int 60] [] f fd) :
    FnOk P w K mg base (L2.CX P w) 6 f fd ["value", "size", "most"] (spNeedLots C) := by
  refine F.ok scNeedLots (fun vs H Q E h => ?_) (fun cdv A outer s H vs Q E hr h => ?_)
  · obtain ⟨v, d, n, rfl, _⟩ := h
    rfl
  · obtain ⟨v, d, n, rfl, hd, hn, k1, k2, k3⟩ := h
    have tk : Takes (cxOf (L2.CX P w) P w K mg base ["value", "size", "most"] "need_lots" (defScope s_need_lots) f cdv A outer s H E) (fun cls d _ H => E cls d H) := takes_of rfl rfl rfl rfl
    have px := passes_call tk (E := E) (fun _ _ _ _ h => h)
    refine ⟨_, pss_cons (ps_if (PW.pt (pw_or (pt_not (pt_val (pe_isD rfl T.isinstance rfl T.list PyProof.Rows.boot_list kit_list (pv 0)))) (pw_or1 (pt_cmpR op_gt (pe_callB call_len_seq (by rfl) T.len PySem.boot_len (pa_cons (pv 0) pa_nil)) (pv 2) (nomark _)))))
        (pss_one (ps_err EC hr rfl tk rfl (pe_un un_neg pe_int) (mono_neg 1))) pss_nil)
      (pss_one (ps_expr (pe_dX DE hr rfl px (pa_cons (pv 0) (pa_cons (pv 1) pa_nil))))), ?_⟩
    refine ⟨_, rfl, v, d, rfl, hd, _, rfl, ?_⟩
    cases hd with
    | lst ha hds =>
      rename_i a xs ds
      have hlen := DvA.length hds
      refine iteF ⟨_, rfl, a, xs, rfl, .inl (.inl (.inl ha)), _, rfl, _, _, rfl, rfl, _, rfl, ?_⟩
      refine ite2 (fun c => ?_) (fun c => ?_)
      · have c2 : (60 : Int) < (xs.length : Int) := of_decide_eq_true c
        exact ⟨_, rfl, fun x hx => k2 (fun ds' e => by injection e with e; subst e; omega) x hx⟩
      · have c2 : ¬ (60 : Int) < (xs.length : Int) := fun q => c (decide_eq_true q)
        refine ⟨_, rfl, _, rfl, a, xs, ds, n, rfl, ha, hds, hn, fun hall H' s5 => ?_, fun j e he hb hm H' x s5 hx => k3 ds rfl (by omega) j e he hb hm H' x s5 hx⟩
        obtain ⟨ls, rfl, hls⟩ := all_lots' hall
        rw [List.length_map] at hlen
        exact k1 ls rfl hls (by omega) H' s5
    | _ => exact iteT ⟨_, rfl, fun x hx => k2 (fun ds e => by cases e) x hx⟩
/-! ### Book.__init__ -/
def bsizeD : PyData → Bool
  | .int i => decide (1 ≤ i) && decide (i ≤ 24)
  | _ => false
theorem btw_bsize (d : PyData) : btwD 1 24 d = bsizeD d := by cases d <;> rfl
def spNeedBook (C : Addr) : Sp := fun vs H Q E => ∃ (z : V) (e : PyData), vs = [z] ∧ Dv H z e ∧ (bsizeD e = true → Q .non H) ∧ (bsizeD e = false → ∀ x, H x = none → E (.ref C) (some x) (upd H x (.xd [("what", z)])))
theorem scNeedBook : FnScope ["size"] ["size"] (defScope s_need_book_size) := ⟨rfl, rfl, rfl, by decide +kernel, rfl, by decide +kernel, by decide +kernel⟩
theorem ok_need_book_size {f C : Addr} {fd : FuncData} (hZ : mg "MOST_SIZE" = some (.int 24 tZ)) (EC : ErrC P w K mg base "BadSize" C) (DB : DefOk P w K mg base CX0 2 "is_between" ["value", "least", "most"] spBetween) (F : FnP K "need_book_size" s_need_book_size f fd) :
    FnOk P w K mg base (L2.CX P w) 3 f fd ["size"] (spNeedBook C) := by
  refine F.ok scNeedBook (fun vs H Q E h => ?_) (fun cdv A outer s H vs Q E hr h => ?_)
  · obtain ⟨z, e, rfl, _⟩ := h
    rfl
  · obtain ⟨z, e, rfl, he, kY, kN⟩ := h
    have tk : Takes (cxOf (L2.CX P w) P w K mg base ["size"] "need_book_size" (defScope s_need_book_size) f cdv A outer s H E) (fun cls d _ H => E cls d H) := takes_of rfl rfl rfl rfl
    refine ⟨_, pss_one (ps_if (pt_not (pt_val (pe_d DB hr rfl (pa_cons (pv 0) (pa_cons pe_int (pa_cons (pe_glob (v := .int 24) rfl hZ ⟨_, rfl⟩) pa_nil)))))) (pss_one (ps_err EC hr rfl tk rfl (pv 0) (mono_var 0))) pss_nil), ?_⟩
    refine ⟨_, rfl, z, e, 1, 24, rfl, he, _, rfl, ?_⟩
    rw [btw_bsize]
    cases h : bsizeD e with
    | true => exact iteF (kY h)
    | false => exact iteT ⟨_, rfl, fun x hx => kN h x hx⟩
/-! ### Book.__init__, the constructor -/
def spBookInit (K : PySem.W.Frag) (C CS CL : Addr) : Sp := fun vs H Q E => ∃ (b dx : Addr) (z : V) (e : PyData) (v : V) (d : PyData), vs = [.ref b, z, v] ∧ H b = some (.ins C dx []) ∧ Dv H z e ∧ Dv (L2.del H b) v d ∧
  (∀ n : Nat, e = .int (n : Int) → 1 ≤ n → n ≤ 24 →
    (∀ ls : List (List Nat), d = .list (ls.map lotD) → (∀ l ∈ ls, IsLot n l) → ls.length ≤ 60 → ∀ (H' : Hp), Same (L2.del H b) H' → BookAt C H' b n (reduceF (ls.map maskN)) → Q .non H') ∧
    ((∀ ds, d = .list ds → 60 < ds.length) → ∀ x, H x = none → E (.ref CL) (some x) (upd H x (.xd [("what", .int (-1))]))) ∧
    (∀ ds, d = .list ds → ds.length ≤ 60 → ∀ (j : Nat) (e : PyData), ds[j]? = some e → isLotD (n : Int) e = false → (∀ (m : Nat) (e' : PyData), m < j → ds[m]? = some e' → isLotD (n : Int) e' = true) →
      ∀ (H' : Hp) (x : Addr), Same H H' → H' x = none → E (.ref CL) (some x) (upd H' x (.xd [("what", .int (j : Nat))])))) ∧
  (bsizeD e = false → ∀ x, H x = none → E (.ref CS) (some x) (upd H x (.xd [("what", z)])))
theorem scBookInit : FnScope ["self", "size", "rows", "row"] ["self", "size", "rows"] (defScope s_Book_init) := ⟨rfl, rfl, rfl, by decide +kernel, rfl, by decide +kernel, by decide +kernel⟩
theorem ok_Book_init {f C CS CL : Addr} {fd : FuncData} (T : Bi mg) (BC : BookC K C) (DB : DefOk P w K mg base (L2.CX P w) 3 "need_book_size" ["size"] (spNeedBook CS)) (DNL : DefOkD P w K mg base (L2.CX P w) 6 "need_lots" ["value", "size", "most"] [.int 60] (spNeedLots CL))
    (DM : DefOk P w K mg base CX0 1 "mask_of" ["lot"] spMaskOf) (DR : DefOk P w K mg base CX0 4 "reduce_rows" ["masks"] spReduce) (F : FnM K "__init__" "Book.__init__" s_Book_init f fd) :
    FnOk P w K mg base (L2.CX P w) 7 f fd ["self", "size", "rows"] (spBookInit K C CS CL) := by
  refine F.ok scBookInit (fun vs H Q E h => ?_) (fun cdv A outer s H vs Q E hr h => ?_)
  · obtain ⟨b, dx, z, e, v, d, rfl, _⟩ := h
    rfl
  · obtain ⟨b, dx, z, e, v, d, rfl, hb, he, hd, kY, kN⟩ := h
    have tk : Takes (cxOf (L2.CX P w) P w K mg base ["self", "size", "rows", "row"] "Book.__init__" (defScope s_Book_init) f cdv A outer s H E) (fun cls d _ H => E cls d H) := takes_of rfl rfl rfl rfl
    have px := passes_call tk (E := E) (fun _ _ _ _ h => h)
    obtain ⟨fL, fdL, dsL, FL, hmL, hkpL, hdL, hbL⟩ := DNL.ex
    refine ⟨_, pss_cons (ps_expr (pe_dX DB hr rfl px (pa_cons (pv 1) pa_nil)))
      (pss_cons (ps_expr (pe_callSD (E := fun _ => E) FL (hr.mono (by decide)) rfl hmL hkpL hbL hdL (fun σ pins H s e s' I c => px pins σ H s e s' I c) (pa_cons (pv 2) (pa_cons (pv 1) pa_nil))))
      (pss_cons (ps_fld (pv 0) (pv 1) rfl)
      (pss_cons (ps_fld (pv 0) (pe_tupleOf rfl T.tuple (pe_d DR hr rfl (pa_cons (pe_lc (own := [("row", 3)]) (g := gName 3) (tt := tYes) (te := tCall spMaskOf [] E0 (tCons (tVar 3) tNil)) rfl scBookInit.nd (pi_list (pv 2))
          (blkOk_by (N := ["self", "size", "rows", "row"]) (sc := defScope s_Book_init) (by decide +kernel)) (fun _ _ _ _ _ => pg_name (i := 3) scBookInit.nd rfl (Or.inl rfl)) (fun _ _ _ _ _ => pts_nil)
          (fun _ _ _ _ _ => by exact (pe_d DM hr rfl (pa_cons (pv 3) pa_nil)))) pa_nil))) rfl)
      (pss_one (ps_fld (pv 0) (pe_callB call_len_seq (by rfl) T.len PySem.boot_len (pa_cons (pe_fld (pv 0) rfl) pa_nil)) rfl))))), ?_⟩
    refine ⟨_, rfl, z, e, rfl, he, fun hs => ?_, kN⟩
    cases he with
    | int i =>
      have h := hs
      simp only [bsizeD, Bool.and_eq_true, decide_eq_true_eq] at h
      obtain ⟨b1, b2⟩ := h
      · · obtain ⟨n, rfl⟩ := Int.eq_ofNat_of_zero_le (show 0 ≤ i by omega)
          obtain ⟨kG, kL, kE⟩ := kY n rfl (by omega) (by omega)
          refine ⟨_, rfl, _, rfl, v, d, n, rfl, hd.undel, by omega, fun ls ed hls hl H1 s1 => ?_, kL, fun ds ed hl j e hj nb hm H' x s5 hx => kE ds ed hl j e hj nb hm H' x s5 hx⟩
          subst ed
          cases hd with
          | lst ha hds =>
            rename_i a xs
            obtain ⟨nab, ha0⟩ := del_get ha
            have hlen := DvA.length hds
            rw [List.length_map] at hlen
            refine ⟨_, rfl, _, rfl, b, C, dx, _, rfl, s1 _ _ hb, BC.cls, BC.nSize, (by show 0 < 1000; decide), ?_⟩
            have s2 : Same (L2.del H b) (upd H1 b (.ins C dx (putF "size" (.int (n : Int)) []))) := fun c o hc => by
              obtain ⟨nc, hc0⟩ := del_get hc
              rw [upd_ne nc]; exact s1 _ _ hc0
            have g2 : (upd H1 b (.ins C dx (putF "size" (.int (n : Int)) []))) b = some (.ins C dx (putF "size" (.int (n : Int)) [])) := upd_same
            generalize upd H1 b (.ins C dx (putF "size" (.int (n : Int)) [])) = H2 at s2 g2
            refine ⟨_, rfl, a, rfl, ⟨_, .inl (.inl (s2 _ _ ha))⟩, fun D hD => ?_⟩
            have nDb : D ≠ b := fun q => by rw [q, g2] at hD; cases hD
            refine lc_list (K := K) (a := a) (xs := xs) (fun j H3 => Same H2 H3 ∧ H3 D = some (.lst (lotV ((ls.take j).map maskN)))) ⟨Same.new (Same.refl H2) hD, upd_same⟩ (fun j H3 _ p => .inl (.inl (p.1 _ _ (s2 _ _ ha)))) ?_ ?_
            · rintro j x H3 hj ⟨t1, t2⟩
              obtain ⟨l, t, el, rfl, gl⟩ := lots_get (DvA.mono (s2.trans t1) _ _ hds) hj
              have il := hls l (List.mem_of_getElem? el)
              refine ⟨rfl, _, rfl, t, l, rfl, gl, il.small (by omega), _, t2, ?_, Same.own t1 hD, ?_⟩
              · rw [lotV_len, List.length_map, List.length_take, sizeLine_eq]; omega
              · rw [upd_same, take_snoc el, List.map_append, List.map_singleton, lotV_snoc]
            · rintro H3 ⟨t1, t2⟩
              rw [hlen, List.take_length] at t2
              refine ⟨D, ls.map maskN, rfl, .inl t2, by rw [List.length_map]; omega, fun p H4 hp s4 g4 => .inl ⟨p, _, rfl, .inl (.inl g4), fun t ht => ?_⟩⟩
              have gb4 := s4 _ _ (t1 _ _ g2)
              have ntb : t ≠ b := fun q => by rw [q, gb4] at ht; cases ht
              have s5 : Same H4 (upd H4 t (.tup (lotV (reduceF (ls.map maskN))))) := Same.new (Same.refl H4) ht
              refine ⟨_, rfl, b, C, dx, _, rfl, s5 _ _ gb4, BC.cls, BC.nMasks, (by show 1 < 1000; decide), ?_⟩
              have k5 : Same (L2.del H b) (upd (upd H4 t (.tup (lotV (reduceF (ls.map maskN))))) b (.ins C dx (putF "masks" (.ref t) (putF "size" (.int (n : Int)) [])))) := fun c o hc => by
                obtain ⟨nc, _⟩ := del_get hc
                rw [upd_ne nc]
                exact s5 _ _ (s4 _ _ (t1 _ _ (s2 _ _ hc)))
              have g5 : (upd (upd H4 t (.tup (lotV (reduceF (ls.map maskN))))) b (.ins C dx (putF "masks" (.ref t) (putF "size" (.int (n : Int)) [])))) b = some (.ins C dx (putF "masks" (.ref t) (putF "size" (.int (n : Int)) []))) := upd_same
              have gt5 : (upd (upd H4 t (.tup (lotV (reduceF (ls.map maskN))))) b (.ins C dx (putF "masks" (.ref t) (putF "size" (.int (n : Int)) [])))) t = some (.tup (lotV (reduceF (ls.map maskN)))) := by rw [upd_ne ntb, upd_same]
              generalize upd (upd H4 t (.tup (lotV (reduceF (ls.map maskN))))) b (.ins C dx (putF "masks" (.ref t) (putF "size" (.int (n : Int)) []))) = H5 at k5 g5 gt5
              refine ⟨_, rfl, b, C, dx, _, _, rfl, g5, BC.cls, BC.nMasks, rfl, t, _, rfl, .inr (.inl (.inl gt5)), _, rfl, b, C, dx, _, rfl, g5, BC.cls, BC.nDim, (by show 2 < 1000; decide), ?_⟩
              refine kG ls rfl hls hl _ (fun c o hc => ?_) ⟨dx, t, ?_, ?_⟩
              · obtain ⟨nc, _⟩ := del_get hc
                rw [upd_ne nc]; exact k5 _ _ hc
              · rw [upd_same, lotV_len]; rfl
              · rw [upd_ne ntb]; exact gt5
    | _ => cases hs
end
end BT

set_option Elab.async false
set_option linter.all false
set_option maxRecDepth 100000
set_option maxHeartbeats 4000000
set_option exponentiation.threshold 2000
namespace BT
open PySem PySem.Spec PyProof.Rows L2
/-! ### readings that come again -/
theorem lc_lots {K : PySem.W.Frag} {a : Addr} {i : Nat} {ms : List Nat} {σ : L2.St} {H0 : Hp} {Qd : Addr → Hp → Prop} (hσ : ∀ x : V, ((wipe σ [i]).set i (some x))[i]? = some (some x)) (hw : ∀ x : V, wipe ((wipe σ [i]).set i (some x)) [i] = wipe σ [i]) (hn : NatsAt H0 a ms) (hb : ∀ m ∈ ms, m < 2 ^ 1000) (hz : ms.length ≤ 5000)
    (hd : ∀ (D : Addr) (H : Hp) (xs : List V), H0 D = none → Same H0 H → H D = some (.lst xs) → DvA H xs ((ms.map lotN).map lotD) → Qd D H) :
    (SqL K H0 a (lotV ms) ∧ ∀ D, H0 D = none → ∃ W : Nat → Nat → Hp → Prop, (∃ m, W 0 m (upd H0 D (.lst []))) ∧ ∀ k m H, W k m H → ((Itl K a).stop k H ∧ Qd D H) ∨ ((Itl K a).go k H ∧ ∃ Nx : Hp → Prop, (∀ H', Nx H' → ∃ m', m' < m ∧ W (k + 1) m' H') ∧ ∀ x H', (Itl K a).yld k H x H' → gName i x (wipe σ [i]) H' fun σ2 H2 => wipe σ2 [i] = wipe σ [i] ∧ tYes σ2 H2 fun b H3 => if b = true then tCall spLotOf [] E0 (tCons (tVar i) tNil) σ2 H3 fun y H4 => ∃ acc, H4 D = some (.lst acc) ∧ acc.length < sizeLine ∧ Nx (upd H4 D (.lst (acc ++ [y]))) else Nx H3)) ∨
    (SqT K H0 a (lotV ms) ∧ ∀ D, H0 D = none → ∃ W : Nat → Nat → Hp → Prop, (∃ m, W 0 m (upd H0 D (.lst []))) ∧ ∀ k m H, W k m H → ((Itt K a).stop k H ∧ Qd D H) ∨ ((Itt K a).go k H ∧ ∃ Nx : Hp → Prop, (∀ H', Nx H' → ∃ m', m' < m ∧ W (k + 1) m' H') ∧ ∀ x H', (Itt K a).yld k H x H' → gName i x (wipe σ [i]) H' fun σ2 H2 => wipe σ2 [i] = wipe σ [i] ∧ tYes σ2 H2 fun b H3 => if b = true then tCall spLotOf [] E0 (tCons (tVar i) tNil) σ2 H3 fun y H4 => ∃ acc, H4 D = some (.lst acc) ∧ acc.length < sizeLine ∧ Nx (upd H4 D (.lst (acc ++ [y]))) else Nx H3)) := by
  refine lc_seq (K := K) (g := gName i) (tt := tYes) (te := tCall spLotOf [] E0 (tCons (tVar i) tNil)) (vs := [i]) (σ := σ) hn (fun D j H => Same H0 H ∧ ∃ xs, H D = some (.lst xs) ∧ DvA H xs (((ms.take j).map lotN).map lotD)) (fun D hD => ⟨Same.new (Same.refl H0) hD, [], upd_same, .nil⟩) (fun D j H _ _ p o e => p.1 _ _ e) ?_ ?_
  · rintro D j x H hD hj ⟨s1, xs, g, hA⟩
    obtain ⟨m, hm, rfl⟩ := lotV_get hj
    have hmm := hb m (List.mem_of_getElem? hm)
    have hlen : xs.length = min j ms.length := by
      have := DvA.length hA
      rw [List.length_map, List.length_map, List.length_take] at this; exact this
    refine ⟨hw _, _, hσ _, m, rfl, hmm, fun t H' ht s2 gt => ?_⟩
    have g2 := s2 _ _ g
    refine ⟨xs, g2, by rw [hlen, sizeLine_eq]; omega, Same.own (s1.trans s2) hD, xs ++ [.ref t], upd_same, ?_⟩
    rw [take_snoc hm, List.map_append, List.map_append]
    have hA2 := DvA.mono s2 _ _ hA
    have h3 : DvA H' (xs ++ [.ref t]) (((ms.take j).map lotN ++ [lotN m]).map lotD) := by
      rw [List.map_append]
      exact hA2.append (.cons (Dv.lot gt) .nil)
    have h4 := lots_upd (o := .lst (xs ++ [.ref t])) g2 h3
    rw [List.map_append] at h4
    exact h4
  · rintro D H hD ⟨s1, xs, g, hA⟩
    rw [lotV_len, List.take_length] at hA
    exact hd D H xs hD s1 g hA
theorem map_mask {ms : List Nat} : (ms.map lotN).map maskN = ms := by
  rw [List.map_map]
  conv => rhs; rw [← List.map_id ms]
  exact List.map_congr_left fun m _ => maskN_lotN m
theorem lots_of {n : Nat} {ms : List Nat} (h : ∀ m ∈ ms, m < 2 ^ n) : ∀ l ∈ ms.map lotN, IsLot n l := fun l hl => by
  obtain ⟨m, hm, rfl⟩ := List.mem_map.mp hl
  exact ⟨lotN_asc m, lotN_lt (h m hm)⟩
/-- Book(size, rows), rows right -/
theorem mk_book {K : PySem.W.Frag} {C CS CL : Addr} {H : Hp} {n : Nat} {a : Addr} {xs : List V} {ls : List (List Nat)} {Q : VK} {E : XK} (h1 : 1 ≤ n) (h2 : n ≤ 24) (ha : H a = some (.lst xs)) (hds : DvA H xs (ls.map lotD)) (hls : ∀ l ∈ ls, IsLot n l) (hl : ls.length ≤ 60)
    (k : ∀ (x : Addr) (H2 : Hp), H x = none → Same H H2 → BookAt C H2 x n (reduceF (ls.map maskN)) → Q (.ref x) H2) :
    ∀ x dx, H x = none → H dx = none → dx ≠ x → spBookInit K C CS CL (.ref x :: [.int (n : Int), .ref a]) (upd (upd H dx (.own x)) x (.ins C dx [])) (fun v H2 => v = .non ∧ Q (.ref x) H2) E := by
  intro x dx hx hdx ne
  have sm : Same H (L2.del (upd (upd H dx (.own x)) x (.ins C dx [])) x) := fun c o hc => by
    have n1 : c ≠ x := ne_of_none hc hx
    have n2 : c ≠ dx := ne_of_none hc hdx
    rw [del_ne n1, upd_ne n1, upd_ne n2]; exact hc
  refine ⟨x, dx, _, .int (n : Int), .ref a, .list (ls.map lotD), rfl, upd_same, .int _, .lst (sm _ _ ha) (DvA.mono sm _ _ hds), fun n' e h1' h2' => ?_, fun e => ?_⟩
  · injection e with e
    have e := Int.ofNat.inj e
    subst e
    refine ⟨fun ls' e hls' hl' H' s' bk => ⟨rfl, ?_⟩, fun h => ?_, fun ds e hz j d hj nb _ => ?_⟩
    · injection e with e
      have e := lots_list_inj e
      subst e
      exact k x H' hx (fun c o hc => s' _ _ (sm _ _ hc)) bk
    · have := h _ rfl
      rw [List.length_map] at this; omega
    · injection e with e
      subst e
      rw [List.getElem?_map] at hj
      cases q : ls[j]? with
      | none => rw [q] at hj; cases hj
      | some l =>
        rw [q] at hj
        have e2 : lotD l = d := Option.some.inj hj
        rw [← e2, isLotD_of (hls l (List.mem_of_getElem? q))] at nb
        cases nb
  · have e2 : (decide ((1 : Int) ≤ (n : Int)) && decide ((n : Int) ≤ 24)) = false := e
    rw [decide_eq_true (by omega), decide_eq_true (by omega)] at e2; cases e2
section
variable {P : Program} {w : World} {K : PySem.W.Frag} {mg : Str → Option Value} {base : Heap} {tM tL tZ tW : Tok}
/-! ### told -/
def spToldB (C : Addr) : Sp := fun vs H Q _ => ∃ (n : Nat) (a : Addr) (ms : List Nat), vs = [.int (n : Int), .ref a] ∧ NatsAt H a ms ∧ (∀ m ∈ ms, m < 2 ^ n) ∧ ms.length ≤ 60 ∧ 1 ≤ n ∧ n ≤ 24 ∧ ∀ (b : Addr) (H' : Hp), H b = none → Same H H' → BookAt C H' b n (reduceF ms) → Q (.ref b) H'
theorem scToldB : FnScope ["size", "masks", "mask"] ["size", "masks"] (defScope s_told) := ⟨rfl, rfl, rfl, by decide +kernel, rfl, by decide +kernel, by decide +kernel⟩
theorem ok_told {f C CS CL : Addr} {fd : FuncData} (DMk : MakeOk P w K mg base (L2.CX P w) 7 C "Book" ["self", "size", "rows"] (spBookInit K C CS CL)) (DL : DefOk P w K mg base CX0 1 "lot_of" ["mask"] spLotOf) (F : FnP K "_told" s_told f fd) :
    FnOk P w K mg base CX0 9 f fd ["size", "masks"] (spToldB C) := by
  refine F.ok scToldB (fun vs H Q E h => ?_) (fun cdv A outer s H vs Q E hr h => ?_)
  · obtain ⟨n, a, ms, rfl, _⟩ := h
    rfl
  · obtain ⟨n, a, ms, rfl, ha, hb, hz, h1, h2, k⟩ := h
    refine ⟨_, PSs.nox (pss_one (ps_ret (pe_mkX DMk hr rfl passL (pa_cons (pv 0) (pa_cons (pe_lc (own := [("mask", 2)]) (g := gName 2) (tt := tYes) (te := tCall spLotOf [] E0 (tCons (tVar 2) tNil)) rfl scToldB.nd (pi_seq (pv 1))
          (blkOk_by (N := ["size", "masks", "mask"]) (sc := defScope s_told) (by decide +kernel)) (fun _ _ _ _ _ => pg_name (i := 2) scToldB.nd rfl (Or.inl rfl)) (fun _ _ _ _ _ => pts_nil)
          (fun _ _ _ _ _ => by exact (pe_d DL hr rfl (pa_cons (pv 2) pa_nil)))) pa_nil))))), ?_⟩
    refine ⟨_, rfl, _, rfl, a, lotV ms, rfl, lc_lots (fun _ => rfl) (fun _ => rfl) ha (fun m hm => Nat.lt_of_lt_of_le (hb m hm) (Nat.pow_le_pow_right (by decide) (by omega))) (by omega) fun D H1 xs hD s1 g hA => ?_⟩
    refine mk_book h1 h2 g hA (lots_of hb) (by rw [List.length_map]; exact hz) fun x H2 hx s2 bk => ?_
    rw [map_mask] at bk
    exact k x H2 (s1.free hx) (s1.trans s2) bk
end
end BT

set_option Elab.async false
set_option linter.all false
set_option maxRecDepth 100000
set_option maxHeartbeats 4000000
set_option exponentiation.threshold 2000
namespace BT
open PySem PySem.Spec PyProof.Rows L2
theorem sum_pows : ∀ (n : Nat) (l : List Nat), l.Nodup → (∀ k ∈ l, k < n) → (l.map (2 ^ ·)).sum < 2 ^ n
  | 0, [], _, _ => by decide
  | 0, k :: l, _, h => absurd (h k (List.mem_cons_self ..)) (Nat.not_lt_zero _)
  | n + 1, l, hd, h => by
    have h1 := sum_pows n (l.erase n) (hd.erase n) fun k hk => by
      have h2 := h k (List.mem_of_mem_erase hk)
      have h3 : k ≠ n := fun e => by
        subst e
        exact hd.not_mem_erase hk
      omega
    have h4 : (l.map (2 ^ ·)).sum ≤ ((l.erase n).map (2 ^ ·)).sum + 2 ^ n := by
      by_cases hm : n ∈ l
      · have p := (List.perm_cons_erase hm).map (2 ^ ·)
        rw [p.sum_nat, List.map_cons, List.sum_cons]; omega
      · rw [List.erase_of_not_mem hm]; omega
    rw [Nat.pow_succ]; omega
theorem lows_sum {n : Nat} {rows : List Nat} (A : Alone (-1) rows) (h : ∀ r ∈ rows, r < 2 ^ n) (f : Nat → Bool) : ((rows.filter f).map lowN).sum < 2 ^ n := by
  have key : ∃ ks : List Nat, (rows.filter f).map lowN = ks.map (2 ^ ·) ∧ ks.Nodup ∧ ∀ k ∈ ks, k < n := by
    have inj := alone_inj A
    have low : ∀ r ∈ rows, ∃ k, lowN r = 2 ^ k ∧ k < n := fun r hr => by
      obtain ⟨ks, hl, hk⟩ := A
      obtain ⟨i, hi, rfl⟩ := List.getElem_of_mem hr
      obtain ⟨e1, e2⟩ := hk i _ ks[i] (List.getElem?_eq_getElem hi) (List.getElem?_eq_getElem (by omega))
      rw [andN_neg1] at e1
      refine ⟨_, e1, ?_⟩
      have hb := (e2 i _ (List.getElem?_eq_getElem hi)).mpr rfl
      refine Nat.lt_of_not_le fun q => ?_
      have := h rows[i] (List.getElem_mem _)
      rw [Nat.testBit_lt_two_pow (Nat.lt_of_lt_of_le this (Nat.pow_le_pow_right (by decide) q))] at hb
      cases hb
    have nd : rows.Nodup := by
      obtain ⟨ks, hl, hk⟩ := A
      rw [List.nodup_iff_pairwise_ne, List.pairwise_iff_getElem]
      intro i j hi hj hij e
      obtain ⟨_, e2⟩ := hk i _ ks[i] (List.getElem?_eq_getElem hi) (List.getElem?_eq_getElem (by omega))
      have q := (e2 i _ (List.getElem?_eq_getElem hi)).mpr rfl
      have z := (e2 j _ (List.getElem?_eq_getElem hj)).mp (by rw [← e]; exact q)
      omega
    clear h A
    induction rows with
    | nil => exact ⟨[], rfl, .nil, fun k hk => (nomatch hk)⟩
    | cons r rows ih =>
      have nd' := List.nodup_cons.mp nd
      obtain ⟨ks, e1, e2, e3⟩ := ih (fun x hx y hy => inj x (List.mem_cons_of_mem _ hx) y (List.mem_cons_of_mem _ hy)) (fun x hx => low x (List.mem_cons_of_mem _ hx)) nd'.2
      by_cases hf : f r = true
      · obtain ⟨k, hk, hkn⟩ := low r (List.mem_cons_self ..)
        rw [List.filter_cons, if_pos hf, List.map_cons]
        refine ⟨k :: ks, by rw [List.map_cons, e1, hk], List.nodup_cons.mpr ⟨fun hm => ?_, e2⟩, fun z hz => ?_⟩
        · have h2 : 2 ^ k ∈ ks.map (2 ^ ·) := List.mem_map.mpr ⟨k, hm, rfl⟩
          rw [← e1] at h2
          obtain ⟨s, hs, es⟩ := List.mem_map.mp h2
          have hs2 := (List.mem_filter.mp hs).1
          have := inj r (List.mem_cons_self ..) s (List.mem_cons_of_mem _ hs2) (by rw [hk, es])
          rw [this] at nd'
          exact nd'.1 hs2
        · rcases List.mem_cons.mp hz with rfl | hz
          · exact hkn
          · exact e3 z hz
      · rw [List.filter_cons, if_neg hf]
        exact ⟨ks, e1, e2, e3⟩
  obtain ⟨ks, e1, e2, e3⟩ := key
  rw [e1]
  exact sum_pows n ks e2 e3
theorem Red.alone {n : Nat} {ms : List Nat} (h : Red n ms) : Alone (-1) ms := by
  obtain ⟨gs, _, rfl⟩ := h
  obtain ⟨ks, hl, hk⟩ := sweep_alone (-1) gs
  -- a permutation of rows that stand alone
  have key : ∀ {a b : List Nat}, a.Perm b → Alone (-1) a → Alone (-1) b := by
    intro a b p
    induction p with
    | nil => exact id
    | cons x p ih =>
      rintro ⟨ks, hl, hk⟩
      cases ks with
      | nil => simp at hl
      | cons k0 ks =>
        rename_i l1 l2
        have hl' : ks.length = l1.length := by simpa using hl
        have A1 : Alone (-1) l1 := ⟨ks, hl', fun i r k hr hk2 => by
          obtain ⟨e1, e2⟩ := hk (i + 1) r k hr hk2
          exact ⟨e1, fun j s hs => by
            have := e2 (j + 1) s hs
            rw [this]; omega⟩⟩
        obtain ⟨ks2, hl2, hk2⟩ := ih A1
        obtain ⟨x1, x2⟩ := hk 0 x k0 rfl rfl
        refine ⟨k0 :: ks2, by simp [hl2], fun i r k hr hkk => ?_⟩
        have memL : ∀ s, s ∈ l2 → s ∈ l1 := fun s hs => p.mem_iff.mpr hs
        cases i with
        | zero =>
          cases Option.some.inj hr
          cases Option.some.inj hkk
          refine ⟨x1, fun j s hs => ?_⟩
          cases j with
          | zero =>
            cases Option.some.inj hs
            exact ⟨fun _ => rfl, fun _ => (x2 0 x rfl).mpr rfl⟩
          | succ j =>
            refine ⟨fun hb => ?_, fun e => by cases e⟩
            obtain ⟨m, hm⟩ := List.getElem?_of_mem (memL s (List.mem_of_getElem? hs))
            have := (x2 (m + 1) s hm).mp hb
            omega
        | succ i =>
          obtain ⟨e1, e2⟩ := hk2 i r k hr hkk
          refine ⟨e1, fun j s hs => ?_⟩
          cases j with
          | zero =>
            cases Option.some.inj hs
            refine ⟨fun hb => ?_, fun e => by cases e⟩
            -- x has the first of r, which stands in the tail
            obtain ⟨m, hm⟩ := List.getElem?_of_mem (memL r (List.mem_of_getElem? hr))
            obtain ⟨km, hkm⟩ : ∃ km, ks[m]? = some km := ⟨_, List.getElem?_eq_getElem (by have := (List.getElem?_eq_some_iff.mp hm).1; omega)⟩
            obtain ⟨f1, f2⟩ := hk (m + 1) r km hm hkm
            have ek : km = k := two_pow_inj (f1.symm.trans e1)
            subst ek
            have := (f2 0 x rfl).mp hb
            omega
          | succ j =>
            rw [e2 j s hs]
            omega
    | swap x y l =>
      rintro ⟨ks, hl, hk⟩
      match ks, hl, hk with
      | k1 :: k2 :: ks, hl, hk =>
        have sw : ∀ (i : Nat) (z : Nat), (x :: y :: l)[i]? = some z → ∃ i', (y :: x :: l)[i']? = some z ∧ ((i = 0 ∧ i' = 1) ∨ (i = 1 ∧ i' = 0) ∨ (i = i' ∧ 2 ≤ i)) := fun i z h => by
          match i, h with
          | 0, h => exact ⟨1, h, by omega⟩
          | 1, h => exact ⟨0, h, by omega⟩
          | i + 2, h => exact ⟨i + 2, h, by omega⟩
        refine ⟨k2 :: k1 :: ks, by simpa using hl, fun i r k hr hkk => ?_⟩
        obtain ⟨i', hi', ci⟩ := sw i r hr
        have hk' : (k1 :: k2 :: ks)[i']? = some k := by
          match i, hkk, ci with
          | 0, hkk, ci =>
            obtain rfl : i' = 1 := by omega
            exact hkk
          | 1, hkk, ci =>
            obtain rfl : i' = 0 := by omega
            exact hkk
          | i + 2, hkk, ci =>
            obtain rfl : i' = i + 2 := by omega
            exact hkk
        obtain ⟨e1, e2⟩ := hk i' r k hi' hk'
        refine ⟨e1, fun j s hs => ?_⟩
        obtain ⟨j', hj', cj⟩ := sw j s hs
        rw [e2 j' s hj']
        omega
    | trans _ _ ih1 ih2 => exact fun h => ih2 (ih1 h)
  exact key (sortLow_perm _).symm ⟨ks, hl, hk⟩
theorem checkRaw_lt {n : Nat} {ms : List Nat} (h : Red n ms) : ∀ m ∈ checkRaw ms n, m < 2 ^ n := fun m hm => by
  unfold checkRaw at hm
  obtain ⟨p, hp, e⟩ := List.mem_filterMap.mp hm
  have hpn := List.mem_range.mp hp
  split at e
  · cases e
  · rw [← Option.some.inj e]
    exact Nat.or_lt_two_pow (Nat.pow_lt_pow_right (by decide) hpn) (lows_sum h.alone h.lt _)
theorem check_red {n : Nat} {ms : List Nat} (h : Red n ms) : Red n (checkF ms n) := ⟨checkRaw ms n, checkRaw_lt h, rfl⟩
/-- the turned book's rows -/
def turnF (n : Nat) (ms : List Nat) : List Nat := reduceF (checkF ms n)
theorem turn_red {n : Nat} {ms : List Nat} (h : Red n ms) : Red n (turnF n ms) := ⟨checkF ms n, (check_red h).lt, rfl⟩
theorem Red.small {n : Nat} {ms : List Nat} (h : Red n ms) (hn : n ≤ 1000) : ∀ m ∈ ms, m < 2 ^ 1000 := fun m hm => Nat.lt_of_lt_of_le (h.lt m hm) (Nat.pow_le_pow_right (by decide) hn)
end BT

set_option Elab.async false
set_option linter.all false
set_option maxRecDepth 100000
set_option maxHeartbeats 4000000
set_option exponentiation.threshold 2000
namespace BT
open PySem PySem.Spec PyProof.Rows L2
section
variable {P : Program} {w : World} {K : PySem.W.Frag} {mg : Str → Option Value} {base : Heap} {tM tL tZ tW tA : Tok}
/-! ### Book.checks -/
def spChecks (C : Addr) : Sp := fun vs H Q _ => ∃ (b : Addr) (n : Nat) (ms : List Nat), vs = [.ref b] ∧ BookAt C H b n ms ∧ Red n ms ∧ n ≤ 24 ∧ ∀ (D : Addr) (H' : Hp) (xs : List V), H D = none → Same H H' → H' D = some (.lst xs) → DvA H' xs (((checkF ms n).map lotN).map lotD) → Q (.ref D) H'
theorem scChecks : FnScope ["self", "mask"] ["self"] (defScope s_Book_checks) := ⟨rfl, rfl, rfl, by decide +kernel, rfl, by decide +kernel, by decide +kernel⟩
theorem ok_Book_checks {f C : Addr} {fd : FuncData} (BC : BookC K C) (DL : DefOk P w K mg base CX0 1 "lot_of" ["mask"] spLotOf) (DC : DefOk P w K mg base CX0 5 "check_rows" ["rows", "size"] spCheckRows) (F : FnM K "checks" "Book.checks" s_Book_checks f fd) :
    FnOk P w K mg base CX0 6 f fd ["self"] (spChecks C) := by
  refine F.ok scChecks (fun vs H Q E h => ?_) (fun cdv A outer s H vs Q E hr h => ?_)
  · obtain ⟨b, n, ms, rfl, _⟩ := h
    rfl
  · obtain ⟨b, n, ms, rfl, hb, hR, hn, k⟩ := h
    refine ⟨_, PSs.nox (pss_one (ps_ret (pe_lc (own := [("mask", 1)]) (g := gName 1) (tt := tYes) (te := tCall spLotOf [] E0 (tCons (tVar 1) tNil)) rfl scChecks.nd (pi_seq (pe_d DC hr rfl (pa_cons (pe_fld (pv 0) rfl) (pa_cons (pe_fld (pv 0) rfl) pa_nil))))
          (blkOk_by (N := ["self", "mask"]) (sc := defScope s_Book_checks) (by decide +kernel)) (fun _ _ _ _ _ => pg_name (i := 1) scChecks.nd rfl (Or.inl rfl)) (fun _ _ _ _ _ => pts_nil)
          (fun _ _ _ _ _ => by exact (pe_d DL hr rfl (pa_cons (pv 1) pa_nil)))))), ?_⟩
    obtain ⟨dx, t, g1, g2⟩ := hb
    have hlen := hR.len
    refine ⟨_, rfl, b, C, dx, _, _, rfl, g1, BC.cls, BC.nMasks, rfl, _, rfl, b, C, dx, _, _, rfl, g1, BC.cls, BC.nSize, rfl, t, ms, n, rfl, .inr g2, by omega, by omega, fun p H1 hp s1 gp => ?_⟩
    have hc := check_red hR
    refine ⟨p, lotV (checkF ms n), rfl, lc_lots (fun _ => rfl) (fun _ => rfl) (.inl gp) (hc.small (by omega)) (by have := hc.len; omega) fun D H2 xs hD s2 g hA => ?_⟩
    exact k D H2 xs (s1.free hD) (s1.trans s2) g hA
/-! ### Book.rows -/
def spRows (C : Addr) : Sp := fun vs H Q _ => ∃ (b : Addr) (n : Nat) (ms : List Nat), vs = [.ref b] ∧ BookAt C H b n ms ∧ Red n ms ∧ n ≤ 24 ∧ ∀ (D : Addr) (H' : Hp) (xs : List V), H D = none → Same H H' → H' D = some (.lst xs) → DvA H' xs ((ms.map lotN).map lotD) → Q (.ref D) H'
theorem scRows : FnScope ["self", "mask"] ["self"] (defScope s_Book_rows) := ⟨rfl, rfl, rfl, by decide +kernel, rfl, by decide +kernel, by decide +kernel⟩
theorem ok_Book_rows {f C : Addr} {fd : FuncData} (BC : BookC K C) (DL : DefOk P w K mg base CX0 1 "lot_of" ["mask"] spLotOf) (F : FnM K "rows" "Book.rows" s_Book_rows f fd) : FnOk P w K mg base CX0 2 f fd ["self"] (spRows C) := by
  refine F.ok scRows (fun vs H Q E h => ?_) (fun cdv A outer s H vs Q E hr h => ?_)
  · obtain ⟨b, n, ms, rfl, _⟩ := h
    rfl
  · obtain ⟨b, n, ms, rfl, hb, hR, hn, k⟩ := h
    refine ⟨_, PSs.nox (pss_one (ps_ret (pe_lc (own := [("mask", 1)]) (g := gName 1) (tt := tYes) (te := tCall spLotOf [] E0 (tCons (tVar 1) tNil)) rfl scRows.nd (pi_seq (pe_fld (pv 0) rfl))
          (blkOk_by (N := ["self", "mask"]) (sc := defScope s_Book_rows) (by decide +kernel)) (fun _ _ _ _ _ => pg_name (i := 1) scRows.nd rfl (Or.inl rfl)) (fun _ _ _ _ _ => pts_nil)
          (fun _ _ _ _ _ => by exact (pe_d DL hr rfl (pa_cons (pv 1) pa_nil)))))), ?_⟩
    obtain ⟨dx, t, g1, g2⟩ := hb
    have hlen := hR.len
    refine ⟨_, rfl, b, C, dx, _, _, rfl, g1, BC.cls, BC.nMasks, rfl, t, lotV ms, rfl, lc_lots (fun _ => rfl) (fun _ => rfl) (.inr g2) (hR.small (by omega)) (by omega) fun D H2 xs hD s2 g hA => ?_⟩
    exact k D H2 xs hD s2 g hA
/-! ### Book.turned -/
def spTurned (C : Addr) : Sp := fun vs H Q _ => ∃ (b : Addr) (n : Nat) (ms : List Nat), vs = [.ref b] ∧ BookAt C H b n ms ∧ Red n ms ∧ 1 ≤ n ∧ n ≤ 24 ∧ ∀ (x : Addr) (H' : Hp), H x = none → Same H H' → BookAt C H' x n (turnF n ms) → Q (.ref x) H'
theorem scTurned : FnScope ["self"] ["self"] (defScope s_Book_turned) := ⟨rfl, rfl, rfl, by decide +kernel, rfl, by decide +kernel, by decide +kernel⟩
theorem ok_Book_turned {f C CS CL : Addr} {fd : FuncData} (BC : BookC K C) (DMk : MakeOk P w K mg base (L2.CX P w) 7 C "Book" ["self", "size", "rows"] (spBookInit K C CS CL)) (DC : MethOk P w K mg base CX0 6 C "checks" ["self"] (spChecks C)) (F : FnM K "turned" "Book.turned" s_Book_turned f fd) :
    FnOk P w K mg base CX0 9 f fd ["self"] (spTurned C) := by
  refine F.ok scTurned (fun vs H Q E h => ?_) (fun cdv A outer s H vs Q E hr h => ?_)
  · obtain ⟨b, n, ms, rfl, _⟩ := h
    rfl
  · obtain ⟨b, n, ms, rfl, hb, hR, h1, hn, k⟩ := h
    refine ⟨_, PSs.nox (pss_one (ps_ret (pe_mkX DMk hr rfl passL (pa_cons (pe_fld (pv 0) rfl) (pa_cons (pe_m0X DC BC.cls (pv 0) hr pass0) pa_nil))))), ?_⟩
    have hb' := hb
    obtain ⟨dx, t, g1, g2⟩ := hb
    refine ⟨_, rfl, b, C, dx, _, _, rfl, g1, BC.cls, BC.nSize, rfl, _, rfl, b, dx, _, rfl, g1, rfl, b, n, ms, rfl, hb', hR, hn, fun D H1 xs hD s1 g hA => ?_⟩
    have hc := check_red hR
    refine mk_book h1 hn g hA (lots_of hc.lt) (by rw [List.length_map]; have := hc.len; omega) fun x H2 hx s2 bk => ?_
    rw [map_mask] at bk
    exact k x H2 (s1.free hx) (s1.trans s2) bk
/-! ### Book.holds -/
def spHoldsB (C CL : Addr) : Sp := fun vs H Q E => ∃ (b : Addr) (n : Nat) (ms : List Nat) (v : V) (d : PyData), vs = [.ref b, v] ∧ BookAt C H b n ms ∧ n ≤ 24 ∧ Dv H v d ∧
  (isLotD (n : Int) d = false → ∀ x, H x = none → E (.ref CL) (some x) (upd H x (.xd [("what", v)]))) ∧ (∀ l, d = lotD l → IsLot n l → Q (.bl (decide (clearedF (-1) (maskN l) ms = 0))) H)
theorem scHolds : FnScope ["self", "word"] ["self", "word"] (defScope s_Book_holds) := ⟨rfl, rfl, rfl, by decide +kernel, rfl, by decide +kernel, by decide +kernel⟩
theorem dec_eq0 (n : Nat) : decide (V.int (n : Int) = V.int 0) = decide (n = 0) := by
  rw [dec_int]
  by_cases h : n = 0
  · subst h; rfl
  · rw [decide_eq_false h, beq_eq_false_iff_ne]; omega
theorem ok_Book_holds {f C CL : Addr} {fd : FuncData} (BC : BookC K C) (hA : mg "ALL_PLACES" = some (.int (-1) tA)) (DN : DefOk P w K mg base (L2.CX P w) 5 "need_lot" ["value", "size"] (spNeedLot CL)) (DM : DefOk P w K mg base CX0 1 "mask_of" ["lot"] spMaskOf)
    (DC : DefOk P w K mg base CX0 2 "cleared" ["mask", "rows", "part"] spCleared) (F : FnM K "holds" "Book.holds" s_Book_holds f fd) : FnOk P w K mg base (L2.CX P w) 6 f fd ["self", "word"] (spHoldsB C CL) := by
  refine F.ok scHolds (fun vs H Q E h => ?_) (fun cdv A outer s H vs Q E hr h => ?_)
  · obtain ⟨b, n, ms, v, d, rfl, _⟩ := h
    rfl
  · obtain ⟨b, n, ms, v, d, rfl, hb, hn, hd, kN, kY⟩ := h
    have tk : Takes (cxOf (L2.CX P w) P w K mg base ["self", "word"] "Book.holds" (defScope s_Book_holds) f cdv A outer s H E) (fun cls d _ H => E cls d H) := takes_of rfl rfl rfl rfl
    have px := passes_call tk (E := E) (fun _ _ _ _ h => h)
    refine ⟨_, pss_cons (ps_expr (pe_dX DN hr rfl px (pa_cons (pv 1) (pa_cons (pe_fld (pv 0) rfl) pa_nil))))
      (pss_one (ps_ret (pe_cmpR op_eq (pe_d DC hr rfl (pa_cons (pe_d DM hr rfl (pa_cons (pv 1) pa_nil)) (pa_cons (pe_fld (pv 0) rfl) (pa_cons (pe_glob (v := .int (-1)) rfl hA ⟨_, rfl⟩) pa_nil)))) pe_int (nomark _)))), ?_⟩
    obtain ⟨dx, t, g1, g2⟩ := hb
    refine ⟨_, rfl, _, rfl, b, C, dx, _, _, rfl, g1, BC.cls, BC.nSize, rfl, v, d, n, rfl, hd, by omega, fun e => ?_, kN⟩
    obtain ⟨l, rfl, il⟩ := isLotD_inv e
    obtain ⟨a, rfl, ga⟩ := hd.lot_inv
    refine ⟨_, rfl, a, l, rfl, ga, il.small (by omega), _, rfl, b, C, dx, _, _, rfl, g1, BC.cls, BC.nMasks, rfl, maskN l, t, ms, -1, rfl, .inr g2, rfl, ?_⟩
    rw [dec_eq0]
    exact kY l rfl il
/-! ### Book.is_check -/
def spIsCheck (C CL : Addr) : Sp := fun vs H Q E => ∃ (b : Addr) (n : Nat) (ms : List Nat) (v : V) (d : PyData), vs = [.ref b, v] ∧ BookAt C H b n ms ∧ Red n ms ∧ n ≤ 24 ∧ Dv H v d ∧
  (isLotD (n : Int) d = false → ∀ x, H x = none → E (.ref CL) (some x) (upd H x (.xd [("what", v)]))) ∧ (∀ l, d = lotD l → IsLot n l → ∀ H', Same H H' → Q (.bl (!ms.any fun m => decide (pop (m &&& maskN l) % 2 ≠ 0))) H')
theorem scIsCheck : FnScope ["self", "lot", "at", "mask"] ["self", "lot"] (defScope s_Book_is_check) := ⟨rfl, rfl, rfl, by decide +kernel, rfl, by decide +kernel, by decide +kernel⟩
theorem ok_Book_is_check {f C CL : Addr} {fd : FuncData} (T2 : Bi2 mg) (BC : BookC K C) (DN : DefOk P w K mg base (L2.CX P w) 5 "need_lot" ["value", "size"] (spNeedLot CL)) (DM : DefOk P w K mg base CX0 1 "mask_of" ["lot"] spMaskOf)
    (DO : DefOk P w K mg base CX0 1 "odd" ["mask"] spOdd) (F : FnM K "is_check" "Book.is_check" s_Book_is_check f fd) : FnOk P w K mg base (L2.CX P w) 6 f fd ["self", "lot"] (spIsCheck C CL) := by
  refine F.ok scIsCheck (fun vs H Q E h => ?_) (fun cdv A outer s H vs Q E hr h => ?_)
  · obtain ⟨b, n, ms, v, d, rfl, _⟩ := h
    rfl
  · obtain ⟨b, n, ms, v, d, rfl, hb, hR, hn, hd, kN, kY⟩ := h
    have tk : Takes (cxOf (L2.CX P w) P w K mg base ["self", "lot", "at", "mask"] "Book.is_check" (defScope s_Book_is_check) f cdv A outer s H E) (fun cls d _ H => E cls d H) := takes_of rfl rfl rfl rfl
    have px := passes_call tk (E := E) (fun _ _ _ _ h => h)
    refine ⟨_, pss_cons (ps_expr (pe_dX DN hr rfl px (pa_cons (pv 1) (pa_cons (pe_fld (pv 0) rfl) pa_nil))))
      (pss_cons (ps_set (i := 2) scIsCheck.nd rfl (Or.inr rfl) (pe_d DM hr rfl (pa_cons (pv 1) pa_nil)))
      (pss_one (ps_ret (pe_not (pe_callB (cr_anyI rfl) (by rfl) T2.any (by decide +kernel) (pa_cons (pe_lc (own := [("mask", 3)]) (g := gName 3) (tt := tYes) (te := tCall spOdd [] E0 (tCons (tOp (rI0 fun i j => .int (Builtin.bitAnd i j)) (tVar 3) (tVar 2)) tNil)) rfl scIsCheck.nd (pi_seq (pe_fld (pv 0) rfl))
          (blkOk_by (N := ["self", "lot", "at", "mask"]) (sc := defScope s_Book_is_check) (by decide +kernel)) (fun _ _ _ _ _ => pg_name (i := 3) scIsCheck.nd rfl (Or.inl rfl)) (fun _ _ _ _ _ => pts_nil)
          (fun _ _ _ _ _ => by exact (pe_d DO hr rfl (pa_cons (pe_op op_and (pv 3) (pv 2)) pa_nil)))) pa_nil)))))), ?_⟩
    obtain ⟨dx, t, g1, g2⟩ := hb
    refine ⟨_, rfl, _, rfl, b, C, dx, _, _, rfl, g1, BC.cls, BC.nSize, rfl, v, d, n, rfl, hd, by omega, fun e => ?_, kN⟩
    obtain ⟨l, rfl, il⟩ := isLotD_inv e
    obtain ⟨a, rfl, ga⟩ := hd.lot_inv
    refine ⟨_, rfl, a, l, rfl, ga, il.small (by omega), ?_⟩
    have hlen := hR.len
    have sm := hR.small (show n ≤ 1000 by omega)
    refine ⟨_, rfl, b, C, dx, _, _, rfl, g1, BC.cls, BC.nMasks, rfl, t, lotV ms, rfl, lc_seq (K := K) (g := gName 3) (tt := tYes) (te := tCall spOdd [] E0 (tCons (tOp (rI0 fun i j => .int (Builtin.bitAnd i j)) (tVar 3) (tVar 2)) tNil)) (.inr g2) (fun D j H2 => Same H H2 ∧ H2 D = some (.lst (((ms.take j).map fun m => ((pop (m &&& maskN l) % 2 : Nat) : Int)).map V.int))) (fun D hD => ⟨Same.new (Same.refl H) hD, upd_same⟩) (fun D j H2 _ _ p o e => p.1 _ _ e) ?_ ?_⟩
    · rintro D j x H2 hD hj ⟨t1, t2⟩
      obtain ⟨m, hm, rfl⟩ := lotV_get hj
      refine ⟨rfl, _, rfl, _, rfl, _, _, rfl, rfl, m &&& maskN l, congrArg (fun z => [V.int z]) (bitAnd_nat _ _), Nat.lt_of_le_of_lt Nat.and_le_left (sm m (List.mem_of_getElem? hm)), _, t2, ?_, Same.own t1 hD, ?_⟩
      · rw [List.length_map, List.length_map, List.length_take, sizeLine_eq]; omega
      · rw [upd_same, take_snoc hm, List.map_append, List.map_append]; rfl
    · rintro D H2 hD ⟨t1, t2⟩
      rw [lotV_len, List.take_length] at t2
      refine ⟨D, _, rfl, .inl (.inl t2), _, rfl, ?_⟩
      have e3 : (ms.map fun m => ((pop (m &&& maskN l) % 2 : Nat) : Int)).any (· != 0) = ms.any fun m => decide (pop (m &&& maskN l) % 2 ≠ 0) := by
        rw [List.any_map]
        congr 1
        funext m
        exact dec_ne0 _
      rw [e3]
      exact kY l rfl il H2 t1
end
end BT

set_option Elab.async false
set_option linter.all false
set_option maxRecDepth 100000
set_option maxHeartbeats 4000000
set_option exponentiation.threshold 2000
namespace BT
open PySem PySem.Spec PyProof.Rows L2
theorem IsLot.mono {n m : Nat} {l : List Nat} (h : IsLot n l) (hn : n ≤ m) : IsLot m l := ⟨h.asc, fun p hp => Nat.lt_of_lt_of_le (h.lt p hp) hn⟩
theorem IsLot.xor {n : Nat} {l m : List Nat} (h1 : IsLot n l) (h2 : IsLot n m) : IsLot n (lotN (maskN l ^^^ maskN m)) := ⟨lotN_asc _, lotN_lt (Nat.xor_lt_two_pow (maskN_lt h1.lt) (maskN_lt h2.lt))⟩
theorem mono_fld {K : PySem.W.Frag} (i : Nat) (x : Str) : MonoE (tFld K (tVar i) x) := by
  rintro σ H Q Q' h ⟨v, e, a, C, dx, fs, u, h1, h2, h3, h4, h5, q⟩
  exact ⟨v, e, a, C, dx, fs, u, h1, h2, h3, h4, h5, h _ _ q⟩
/-- a comprehension that makes a number of each number -/
theorem lc_map {K : PySem.W.Frag} {a : Addr} {i : Nat} {ms : List Nat} {σ : L2.St} {H0 : Hp} {te : TE} {Qd : Addr → Hp → Prop} (F : Nat → Nat) (hw : ∀ x : V, wipe ((wipe σ [i]).set i (some x)) [i] = wipe σ [i]) (hn : NatsAt H0 a ms) (hz : ms.length ≤ 5000)
    (hte : ∀ (m : Nat), m ∈ ms → ∀ (H : Hp) (Q : VK), Same H0 H → (∀ H', Same H H' → Q (.int (F m : Nat)) H') → te ((wipe σ [i]).set i (some (.int (m : Int)))) H Q)
    (hd : ∀ (D : Addr) (H : Hp), H0 D = none → Same H0 H → H D = some (.lst (lotV (ms.map F))) → Qd D H) :
    (SqL K H0 a (lotV ms) ∧ ∀ D, H0 D = none → ∃ W : Nat → Nat → Hp → Prop, (∃ m, W 0 m (upd H0 D (.lst []))) ∧ ∀ k m H, W k m H → ((Itl K a).stop k H ∧ Qd D H) ∨ ((Itl K a).go k H ∧ ∃ Nx : Hp → Prop, (∀ H', Nx H' → ∃ m', m' < m ∧ W (k + 1) m' H') ∧ ∀ x H', (Itl K a).yld k H x H' → gName i x (wipe σ [i]) H' fun σ2 H2 => wipe σ2 [i] = wipe σ [i] ∧ tYes σ2 H2 fun b H3 => if b = true then te σ2 H3 fun y H4 => ∃ acc, H4 D = some (.lst acc) ∧ acc.length < sizeLine ∧ Nx (upd H4 D (.lst (acc ++ [y]))) else Nx H3)) ∨
    (SqT K H0 a (lotV ms) ∧ ∀ D, H0 D = none → ∃ W : Nat → Nat → Hp → Prop, (∃ m, W 0 m (upd H0 D (.lst []))) ∧ ∀ k m H, W k m H → ((Itt K a).stop k H ∧ Qd D H) ∨ ((Itt K a).go k H ∧ ∃ Nx : Hp → Prop, (∀ H', Nx H' → ∃ m', m' < m ∧ W (k + 1) m' H') ∧ ∀ x H', (Itt K a).yld k H x H' → gName i x (wipe σ [i]) H' fun σ2 H2 => wipe σ2 [i] = wipe σ [i] ∧ tYes σ2 H2 fun b H3 => if b = true then te σ2 H3 fun y H4 => ∃ acc, H4 D = some (.lst acc) ∧ acc.length < sizeLine ∧ Nx (upd H4 D (.lst (acc ++ [y]))) else Nx H3)) := by
  refine lc_seq (K := K) (g := gName i) (tt := tYes) (te := te) (vs := [i]) (σ := σ) hn (fun D j H => Same H0 H ∧ H D = some (.lst (lotV ((ms.take j).map F)))) (fun D hD => ⟨Same.new (Same.refl H0) hD, upd_same⟩) (fun D j H _ _ p o e => p.1 _ _ e) ?_ ?_
  · rintro D j x H hD hj ⟨s1, g⟩
    obtain ⟨m, hm, rfl⟩ := lotV_get hj
    refine ⟨hw _, hte m (List.mem_of_getElem? hm) H _ s1 fun H' s2 => ⟨_, s2 _ _ g, ?_, Same.own (s1.trans s2) hD, ?_⟩⟩
    · rw [lotV_len, List.length_map, List.length_take, sizeLine_eq]; omega
    · rw [upd_same, take_snoc hm, List.map_append, List.map_singleton, lotV_snoc]
  · rintro D H hD ⟨s1, g⟩
    rw [lotV_len, List.take_length] at g
    exact hd D H hD s1 g
theorem pickedF_lt (m : Nat) (ps : List Nat) : pickedF m ps < 2 ^ ps.length := by
  have key : ∀ (l : List (Nat × Nat)) (r k : Nat), r < 2 ^ k → (∀ x ∈ l, x.2 < k) → l.foldl (fun r x => r ||| ((m >>> x.1 &&& 1) <<< x.2)) r < 2 ^ k := by
    intro l
    induction l with
    | nil => intro r k h _; exact h
    | cons x l ih =>
      intro r k h hx
      rw [List.foldl_cons]
      refine ih _ k (Nat.or_lt_two_pow h ?_) fun y hy => hx y (List.mem_cons_of_mem _ hy)
      have h1 := hx x (List.mem_cons_self ..)
      rw [Nat.shiftLeft_eq]
      have h2 : m >>> x.1 &&& 1 ≤ 1 := Nat.and_le_right
      have h3 : 2 ^ x.2 < 2 ^ k := Nat.pow_lt_pow_right (by decide) h1
      calc (m >>> x.1 &&& 1) * 2 ^ x.2 ≤ 1 * 2 ^ x.2 := Nat.mul_le_mul_right _ h2
        _ < 2 ^ k := by rw [Nat.one_mul]; exact h3
  unfold pickedF
  refine key _ 0 _ (Nat.two_pow_pos _) fun x hx => ?_
  have := List.mem_zipIdx hx
  omega
section
variable {P : Program} {w : World} {K : PySem.W.Frag} {mg : Str → Option Value} {base : Heap} {tM tL tZ tW tA : Tok}
/-! ### Book.tell_same -/
def spTellSame (C CL : Addr) : Sp := fun vs H Q E => ∃ (b : Addr) (n : Nat) (ms : List Nat) (v1 : V) (d1 : PyData) (v2 : V) (d2 : PyData), vs = [.ref b, v1, v2] ∧ BookAt C H b n ms ∧ Red n ms ∧ n ≤ 24 ∧ Dv H v1 d1 ∧ Dv H v2 d2 ∧
  (isLotD (n : Int) d1 = false → ∀ x, H x = none → E (.ref CL) (some x) (upd H x (.xd [("what", v1)]))) ∧ (isLotD (n : Int) d1 = true → isLotD (n : Int) d2 = false → ∀ x, H x = none → E (.ref CL) (some x) (upd H x (.xd [("what", v2)]))) ∧
  (∀ l1 l2, d1 = lotD l1 → d2 = lotD l2 → IsLot n l1 → IsLot n l2 → ∀ H', Same H H' → Q (.bl (!ms.any fun m => decide (pop (m &&& (maskN l1 ^^^ maskN l2)) % 2 ≠ 0))) H')
theorem scTellSame : FnScope ["self", "one", "other"] ["self", "one", "other"] (defScope s_Book_tell_same) := ⟨rfl, rfl, rfl, by decide +kernel, rfl, by decide +kernel, by decide +kernel⟩
theorem ok_Book_tell_same {f C CL : Addr} {fd : FuncData} (BC : BookC K C) (DN : DefOk P w K mg base (L2.CX P w) 5 "need_lot" ["value", "size"] (spNeedLot CL)) (DP : DefOk P w K mg base (L2.CX P w) 6 "plus" ["one", "other"] (spPlus CL))
    (DI : MethOk P w K mg base (L2.CX P w) 6 C "is_check" ["self", "lot"] (spIsCheck C CL)) (F : FnM K "tell_same" "Book.tell_same" s_Book_tell_same f fd) : FnOk P w K mg base (L2.CX P w) 7 f fd ["self", "one", "other"] (spTellSame C CL) := by
  refine F.ok scTellSame (fun vs H Q E h => ?_) (fun cdv A outer s H vs Q E hr h => ?_)
  · obtain ⟨b, n, ms, v1, d1, v2, d2, rfl, _⟩ := h
    rfl
  · obtain ⟨b, n, ms, v1, d1, v2, d2, rfl, hb, hR, hn, h1, h2, k1, k2, kY⟩ := h
    have tk : Takes (cxOf (L2.CX P w) P w K mg base ["self", "one", "other"] "Book.tell_same" (defScope s_Book_tell_same) f cdv A outer s H E) (fun cls d _ H => E cls d H) := takes_of rfl rfl rfl rfl
    have px := passes_call tk (E := E) (fun _ _ _ _ h => h)
    refine ⟨_, pss_cons (ps_expr (pe_dX DN hr rfl px (pa_cons (pv 1) (pa_cons (pe_fld (pv 0) rfl) pa_nil))))
      (pss_cons (ps_expr (pe_dX DN hr rfl px (pa_cons (pv 2) (pa_cons (pe_fld (pv 0) rfl) pa_nil))))
      (pss_one (ps_ret (pe_mX DI BC.cls (pv 0) hr px (pa_cons (pe_dX DP hr rfl px (pa_cons (pv 1) (pa_cons (pv 2) pa_nil))) pa_nil))))), ?_⟩
    have hb' := hb
    obtain ⟨dx, t, g1, g2⟩ := hb
    refine ⟨_, rfl, _, rfl, b, C, dx, _, _, rfl, g1, BC.cls, BC.nSize, rfl, v1, d1, n, rfl, h1, by omega, fun e1 => ?_, k1⟩
    refine ⟨_, rfl, _, rfl, b, C, dx, _, _, rfl, g1, BC.cls, BC.nSize, rfl, v2, d2, n, rfl, h2, by omega, fun e2 => ?_, k2 e1⟩
    obtain ⟨l1, rfl, i1⟩ := isLotD_inv e1
    obtain ⟨l2, rfl, i2⟩ := isLotD_inv e2
    have no1 : isLotD ((60 : Nat) : Int) (lotD l1) = true := isLotD_of (i1.mono (by omega))
    have no2 : isLotD ((60 : Nat) : Int) (lotD l2) = true := isLotD_of (i2.mono (by omega))
    refine ⟨_, rfl, b, dx, _, rfl, g1, rfl, _, rfl, _, rfl, v1, _, v2, _, rfl, h1, h2, fun e => (by rw [no1] at e; cases e), fun _ e => (by rw [no2] at e; cases e), fun u1 u2 f1 f2 j1 j2 p H1 hp s1 gp => ?_⟩
    have x1 := lots_inj f1
    have x2 := lots_inj f2
    subst x1 x2
    have il := i1.xor i2
    refine ⟨b, n, ms, .ref p, _, rfl, hb'.same s1, hR, hn, Dv.lot gp, fun e => (by rw [isLotD_of il] at e; cases e), fun u f _ H2 s2 => ?_⟩
    have x3 := lots_inj f
    subst x3
    rw [maskN_lotN]
    exact kY l1 l2 rfl rfl i1 i2 H2 (s1.trans s2)
/-! ### Book.within -/
def withinF (ms l : List Nat) : List Nat := reduceF (sweepF (Builtin.bitNot (maskN l : Nat)) ms).2
/-- a method that takes a lot and gives a book of as many places -/
def spLotBook (C CL : Addr) (G : Nat → List Nat → List Nat → Nat × List Nat) : Sp := fun vs H Q E => ∃ (b : Addr) (n : Nat) (ms : List Nat) (v : V) (d : PyData), vs = [.ref b, v] ∧ BookAt C H b n ms ∧ Red n ms ∧ 1 ≤ n ∧ n ≤ 24 ∧ Dv H v d ∧
  (isLotD (n : Int) d = false → ∀ x, H x = none → E (.ref CL) (some x) (upd H x (.xd [("what", v)]))) ∧ (∀ l, d = lotD l → IsLot n l → ∀ (x : Addr) (H' : Hp), H x = none → Same H H' → BookAt C H' x (G n ms l).1 (G n ms l).2 → Q (.ref x) H')
theorem within_red {n : Nat} {ms l : List Nat} (h : Red n ms) : Red n (withinF ms l) := ⟨_, (sweep_lt h.lt).2, rfl⟩
def spUnseen : Sp := fun vs H Q _ => ∃ (a : Addr) (ms : List Nat) (part : Int), vs = [.ref a, .int part] ∧ NatsAt H a ms ∧ ms.length ≤ 1000 ∧ ∀ (h : Addr) (H' : Hp), Same H H' → H h = none → H' h = some (.lst (lotV (sweepF part ms).2)) → Q (.ref h) H'
theorem scUnseen : FnScope ["masks", "part", "_", "hidden"] ["masks", "part"] (defScope s_unseen) := ⟨rfl, rfl, rfl, by decide +kernel, rfl, by decide +kernel, by decide +kernel⟩
theorem ok_unseen {f : Addr} {fd : FuncData} (DS : DefOk P w K mg base CX0 3 "sweep" ["masks", "part"] spSweep) (F : FnP K "unseen" s_unseen f fd) : FnOk P w K mg base CX0 4 f fd ["masks", "part"] spUnseen := by
  refine F.ok scUnseen (fun vs H Q E h => ?_) (fun cdv A outer s H vs Q E hr h => ?_)
  · obtain ⟨a, ms, part, rfl, _⟩ := h
    rfl
  · obtain ⟨a, ms, part, rfl, ha, hl, k⟩ := h
    refine ⟨_, PSs.nox (pss_cons (ps_asg (pe_d DS hr rfl (pa_cons (pv 0) (pa_cons (pv 1) pa_nil))) (pg_tup rfl (pgs_cons (pg_name (i := 2) scUnseen.nd rfl (Or.inl rfl)) (pgs_cons (pg_name (i := 3) scUnseen.nd rfl (Or.inl rfl)) pgs_nil)))) (pss_one (ps_ret (pv 3)))), ?_⟩
    refine ⟨_, rfl, _, rfl, a, ms, part, rfl, ha, hl, fun p s h H1 s1 fp fs fh gp gs gh => ?_⟩
    refine ⟨p, _, rfl, .inl (.inl gp), rfl, _, _, rfl, _, _, rfl, rfl, ?_⟩
    exact ⟨_, rfl, k h H1 s1 fh gh⟩
/-! ### Book.within, the book of what lies in the part -/
theorem scWithin : FnScope ["self", "part"] ["self", "part"] (defScope s_Book_within) := ⟨rfl, rfl, rfl, by decide +kernel, rfl, by decide +kernel, by decide +kernel⟩
theorem ok_Book_within {f C CL : Addr} {fd : FuncData} (BC : BookC K C) (DN : DefOk P w K mg base (L2.CX P w) 5 "need_lot" ["value", "size"] (spNeedLot CL)) (DM : DefOk P w K mg base CX0 1 "mask_of" ["lot"] spMaskOf) (DS : DefOk P w K mg base CX0 4 "unseen" ["masks", "part"] spUnseen)
    (DT : DefOk P w K mg base CX0 9 "_told" ["size", "masks"] (spToldB C)) (F : FnM K "within" "Book.within" s_Book_within f fd) : FnOk P w K mg base (L2.CX P w) 10 f fd ["self", "part"] (spLotBook C CL fun n ms l => (n, withinF ms l)) := by
  refine F.ok scWithin (fun vs H Q E h => ?_) (fun cdv A outer s H vs Q E hr h => ?_)
  · obtain ⟨b, n, ms, v, d, rfl, _⟩ := h
    rfl
  · obtain ⟨b, n, ms, v, d, rfl, hb, hR, hn1, hn, hd, kN, kY⟩ := h
    have tk : Takes (cxOf (L2.CX P w) P w K mg base ["self", "part"] "Book.within" (defScope s_Book_within) f cdv A outer s H E) (fun cls d _ H => E cls d H) := takes_of rfl rfl rfl rfl
    have px := passes_call tk (E := E) (fun _ _ _ _ h => h)
    refine ⟨_, pss_cons (ps_expr (pe_dX DN hr rfl px (pa_cons (pv 1) (pa_cons (pe_fld (pv 0) rfl) pa_nil))))
      (pss_one (ps_ret (pe_d DT hr rfl (pa_cons (pe_fld (pv 0) rfl) (pa_cons (pe_d DS hr rfl (pa_cons (pe_fld (pv 0) rfl) (pa_cons (pe_un un_inv (pe_d DM hr rfl (pa_cons (pv 1) pa_nil))) pa_nil))) pa_nil))))), ?_⟩
    obtain ⟨dx, t, g1, g2⟩ := hb
    refine ⟨_, rfl, _, rfl, b, C, dx, _, _, rfl, g1, BC.cls, BC.nSize, rfl, v, d, n, rfl, hd, by omega, fun e => ?_, kN⟩
    obtain ⟨l, rfl, il⟩ := isLotD_inv e
    obtain ⟨a, rfl, ga⟩ := hd.lot_inv
    have hlen := hR.len
    have l2 := sweepF_len (Builtin.bitNot (maskN l : Nat)) ms
    refine ⟨_, rfl, b, C, dx, _, _, rfl, g1, BC.cls, BC.nSize, rfl, _, rfl, b, C, dx, _, _, rfl, g1, BC.cls, BC.nMasks, rfl, _, rfl, a, l, rfl, ga, il.small (by omega), _, rfl, t, ms, Builtin.bitNot (maskN l : Nat), rfl, .inr g2, by omega, fun h H1 s1 fh gh => ?_⟩
    refine ⟨n, h, (sweepF (Builtin.bitNot (maskN l : Nat)) ms).2, rfl, .inl gh, (sweep_lt hR.lt).2, by omega, hn1, hn, fun x H2 hx s2 bk => ?_⟩
    exact kY l rfl il x H2 (s1.free hx) (s1.trans s2) bk
/-! ### Book.shown -/
def shownF (ms l : List Nat) : List Nat := reduceF (ms.map (· &&& maskN l))
theorem shown_red {n : Nat} {ms l : List Nat} (h : Red n ms) : Red n (shownF ms l) := ⟨_, fun m hm => by
  obtain ⟨z, hz, rfl⟩ := List.mem_map.mp hm
  exact Nat.lt_of_le_of_lt Nat.and_le_left (h.lt z hz), rfl⟩
theorem scShown : FnScope ["self", "part", "inside", "mask"] ["self", "part"] (defScope s_Book_shown) := ⟨rfl, rfl, rfl, by decide +kernel, rfl, by decide +kernel, by decide +kernel⟩
theorem ok_Book_shown {f C CL : Addr} {fd : FuncData} (BC : BookC K C) (DN : DefOk P w K mg base (L2.CX P w) 5 "need_lot" ["value", "size"] (spNeedLot CL)) (DM : DefOk P w K mg base CX0 1 "mask_of" ["lot"] spMaskOf)
    (DT : DefOk P w K mg base CX0 9 "_told" ["size", "masks"] (spToldB C)) (F : FnM K "shown" "Book.shown" s_Book_shown f fd) : FnOk P w K mg base (L2.CX P w) 10 f fd ["self", "part"] (spLotBook C CL fun n ms l => (n, shownF ms l)) := by
  refine F.ok scShown (fun vs H Q E h => ?_) (fun cdv A outer s H vs Q E hr h => ?_)
  · obtain ⟨b, n, ms, v, d, rfl, _⟩ := h
    rfl
  · obtain ⟨b, n, ms, v, d, rfl, hb, hR, hn1, hn, hd, kN, kY⟩ := h
    have tk : Takes (cxOf (L2.CX P w) P w K mg base ["self", "part", "inside", "mask"] "Book.shown" (defScope s_Book_shown) f cdv A outer s H E) (fun cls d _ H => E cls d H) := takes_of rfl rfl rfl rfl
    have px := passes_call tk (E := E) (fun _ _ _ _ h => h)
    refine ⟨_, pss_cons (ps_expr (pe_dX DN hr rfl px (pa_cons (pv 1) (pa_cons (pe_fld (pv 0) rfl) pa_nil))))
      (pss_cons (ps_set (i := 2) scShown.nd rfl (Or.inr rfl) (pe_d DM hr rfl (pa_cons (pv 1) pa_nil)))
      (pss_one (ps_ret (pe_d DT hr rfl (pa_cons (pe_fld (pv 0) rfl) (pa_cons (pe_lc (own := [("mask", 3)]) (g := gName 3) (tt := tYes) (te := tOp (rI0 fun i j => .int (Builtin.bitAnd i j)) (tVar 3) (tVar 2)) rfl scShown.nd (pi_seq (pe_fld (pv 0) rfl))
          (blkOk_by (N := ["self", "part", "inside", "mask"]) (sc := defScope s_Book_shown) (by decide +kernel)) (fun _ _ _ _ _ => pg_name (i := 3) scShown.nd rfl (Or.inl rfl)) (fun _ _ _ _ _ => pts_nil)
          (fun _ _ _ _ _ => by exact (pe_op op_and (pv 3) (pv 2)))) pa_nil)))))), ?_⟩
    obtain ⟨dx, t, g1, g2⟩ := hb
    refine ⟨_, rfl, _, rfl, b, C, dx, _, _, rfl, g1, BC.cls, BC.nSize, rfl, v, d, n, rfl, hd, by omega, fun e => ?_, kN⟩
    obtain ⟨l, rfl, il⟩ := isLotD_inv e
    obtain ⟨a, rfl, ga⟩ := hd.lot_inv
    have hlen := hR.len
    refine ⟨_, rfl, a, l, rfl, ga, il.small (by omega), _, rfl, b, C, dx, _, _, rfl, g1, BC.cls, BC.nSize, rfl, _, rfl, b, C, dx, _, _, rfl, g1, BC.cls, BC.nMasks, rfl, t, lotV ms, rfl, ?_⟩
    refine lc_map (· &&& maskN l) (fun _ => rfl) (.inr g2) (by omega) (fun m hm H1 Q1 s1 k1 => ⟨_, rfl, _, rfl, _, _, rfl, rfl, ?_⟩) fun D H1 hD s1 gD => ?_
    · have q := k1 H1 (Same.refl H1)
      rw [← bitAnd_nat] at q
      exact q
    · refine ⟨n, D, _, rfl, .inl gD, fun m hm => ?_, by rw [List.length_map]; omega, hn1, hn, fun x H2 hx s2 bk => ?_⟩
      · obtain ⟨z, hz, rfl⟩ := List.mem_map.mp hm
        exact Nat.lt_of_le_of_lt Nat.and_le_left (hR.lt z hz)
      · exact kY l rfl il x H2 (s1.free hx) (s1.trans s2) bk
end
end BT

set_option Elab.async false
set_option linter.all false
set_option maxRecDepth 100000
set_option maxHeartbeats 4000000
set_option exponentiation.threshold 2000
namespace BT
open PySem PySem.Spec PyProof.Rows L2
section
variable {P : Program} {w : World} {K : PySem.W.Frag} {mg : Str → Option Value} {base : Heap} {tM tL tZ tW tA : Tok}
/-! ### Book._need_places -/
def spNeedPlaces (C CL : Addr) : Sp := fun vs H Q E => ∃ (b : Addr) (n : Nat) (ms : List Nat) (v : V) (d : PyData), vs = [.ref b, v] ∧ BookAt C H b n ms ∧ n ≤ 24 ∧ Dv H v d ∧
  ((isLotD (n : Int) d = false ∨ d = lotD []) → ∀ x, H x = none → E (.ref CL) (some x) (upd H x (.xd [("what", v)]))) ∧ (∀ l, d = lotD l → IsLot n l → l ≠ [] → Q .non H)
theorem scNeedPlaces : FnScope ["self", "part"] ["self", "part"] (defScope s_Book_need_places) := ⟨rfl, rfl, rfl, by decide +kernel, rfl, by decide +kernel, by decide +kernel⟩
theorem ok_Book_need_places {f C CL CS : Addr} {fd : FuncData} (T : Bi mg) (BC : BookC K C) (EL : ErrC P w K mg base "BadLot" CL) (DI : DefOk P w K mg base (L2.CX P w) 4 "is_lot" ["value", "size"] (spIsLot CS)) (F : FnM K "_need_places" "Book._need_places" s_Book_need_places f fd) :
    FnOk P w K mg base (L2.CX P w) 5 f fd ["self", "part"] (spNeedPlaces C CL) := by
  refine F.ok scNeedPlaces (fun vs H Q E h => ?_) (fun cdv A outer s H vs Q E hr h => ?_)
  · obtain ⟨b, n, ms, v, d, rfl, _⟩ := h
    rfl
  · obtain ⟨b, n, ms, v, d, rfl, hb, hn, hd, kN, kY⟩ := h
    have tk : Takes (cxOf (L2.CX P w) P w K mg base ["self", "part"] "Book._need_places" (defScope s_Book_need_places) f cdv A outer s H E) (fun cls d _ H => E cls d H) := takes_of rfl rfl rfl rfl
    have px := passes_call tk (E := E) (fun _ _ _ _ h => h)
    refine ⟨_, pss_one (ps_if (PW.pt (pw_or (pt_not (pt_val (pe_dX DI hr rfl px (pa_cons (pv 1) (pa_cons (pe_fld (pv 0) rfl) pa_nil))))) (pw_or1 (pt_cmpR op_eq (pe_callB call_len_seq (by rfl) T.len PySem.boot_len (pa_cons (pv 1) pa_nil)) pe_int (nomark _)))))
        (pss_one (ps_err EL hr rfl tk rfl (pv 1) (mono_var 1))) pss_nil), ?_⟩
    obtain ⟨dx, t, g1, g2⟩ := hb
    refine ⟨_, rfl, _, rfl, b, C, dx, _, _, rfl, g1, BC.cls, BC.nSize, rfl, v, d, .int (n : Int), .int (n : Int), rfl, hd, .int _, fun i ei h0 h1 => ⟨_, rfl, ?_⟩, fun e => ?_⟩
    · injection ei with ei
      subst ei
      cases e : isLotD (n : Int) d with
      | false => exact iteT ⟨_, rfl, fun x hx => kN (.inl e) x hx⟩
      | true =>
        obtain ⟨l, rfl, il⟩ := isLotD_inv e
        obtain ⟨a, rfl, ga⟩ := hd.lot_inv
        refine iteF ⟨_, rfl, a, _, rfl, .inr (.inl (.inl ga)), rfl, _, rfl, ?_⟩
        rw [lotV_len]
        cases l with
        | nil => exact ⟨_, rfl, fun x hx => kN (.inr rfl) x hx⟩
        | cons p l =>
          refine ite2 (fun c => ?_) (fun c => kY _ rfl il (by simp))
          have := of_decide_eq_true c
          injection this with this
          simp only [List.length_cons] at this
          omega
    · have e2 : (decide (0 ≤ (n : Int)) && decide ((n : Int) ≤ 60)) = false := e
      rw [decide_eq_true (by omega), decide_eq_true (by omega)] at e2; cases e2
/-! ### Book.on -/
def onF (ms l : List Nat) : List Nat := reduceF (ms.map (pickedF · l))
theorem on_red {ms l : List Nat} : Red l.length (onF ms l) := ⟨_, fun m hm => by
  obtain ⟨z, hz, rfl⟩ := List.mem_map.mp hm
  exact pickedF_lt z l, rfl⟩
/-- a method that takes places and gives a book of these alone -/
def spPlacesBook (C CL : Addr) (G : List Nat → List Nat → List Nat) : Sp := fun vs H Q E => ∃ (b : Addr) (n : Nat) (ms : List Nat) (v : V) (d : PyData), vs = [.ref b, v] ∧ BookAt C H b n ms ∧ Red n ms ∧ 1 ≤ n ∧ n ≤ 24 ∧ Dv H v d ∧
  ((isLotD (n : Int) d = false ∨ d = lotD []) → ∀ x, H x = none → E (.ref CL) (some x) (upd H x (.xd [("what", v)]))) ∧ (∀ l, d = lotD l → IsLot n l → l ≠ [] → ∀ (x : Addr) (H' : Hp), H x = none → Same H H' → BookAt C H' x l.length (G ms l) → Q (.ref x) H')
theorem scOn : FnScope ["self", "part", "mask"] ["self", "part"] (defScope s_Book_on) := ⟨rfl, rfl, rfl, by decide +kernel, rfl, by decide +kernel, by decide +kernel⟩
theorem ok_Book_on {f C CL : Addr} {fd : FuncData} (T : Bi mg) (BC : BookC K C) (DN : MethOk P w K mg base (L2.CX P w) 5 C "_need_places" ["self", "part"] (spNeedPlaces C CL)) (DP : DefOk P w K mg base CX0 1 "picked" ["mask", "places"] spPicked)
    (DT : DefOk P w K mg base CX0 9 "_told" ["size", "masks"] (spToldB C)) (F : FnM K "on" "Book.on" s_Book_on f fd) : FnOk P w K mg base (L2.CX P w) 10 f fd ["self", "part"] (spPlacesBook C CL onF) := by
  refine F.ok scOn (fun vs H Q E h => ?_) (fun cdv A outer s H vs Q E hr h => ?_)
  · obtain ⟨b, n, ms, v, d, rfl, _⟩ := h
    rfl
  · obtain ⟨b, n, ms, v, d, rfl, hb, hR, hn1, hn, hd, kN, kY⟩ := h
    have tk : Takes (cxOf (L2.CX P w) P w K mg base ["self", "part", "mask"] "Book.on" (defScope s_Book_on) f cdv A outer s H E) (fun cls d _ H => E cls d H) := takes_of rfl rfl rfl rfl
    have px := passes_call tk (E := E) (fun _ _ _ _ h => h)
    refine ⟨_, pss_cons (ps_expr (pe_mX DN BC.cls (pv 0) hr px (pa_cons (pv 1) pa_nil)))
      (pss_one (ps_ret (pe_d DT hr rfl (pa_cons (pe_callB call_len_seq (by rfl) T.len PySem.boot_len (pa_cons (pv 1) pa_nil)) (pa_cons (pe_lc (own := [("mask", 2)]) (g := gName 2) (tt := tYes) (te := tCall spPicked [] E0 (tCons (tVar 2) (tCons (tVar 1) tNil))) rfl scOn.nd (pi_seq (pe_fld (pv 0) rfl))
          (blkOk_by (N := ["self", "part", "mask"]) (sc := defScope s_Book_on) (by decide +kernel)) (fun _ _ _ _ _ => pg_name (i := 2) scOn.nd rfl (Or.inl rfl)) (fun _ _ _ _ _ => pts_nil)
          (fun _ _ _ _ _ => by exact (pe_d DP hr rfl (pa_cons (pv 2) (pa_cons (pv 1) pa_nil))))) pa_nil))))), ?_⟩
    have hb' := hb
    obtain ⟨dx, t, g1, g2⟩ := hb
    have hlen := hR.len
    refine ⟨_, rfl, b, dx, _, rfl, g1, rfl, _, rfl, b, n, ms, v, d, rfl, hb', hn, hd, kN, fun l e il ne => ?_⟩
    subst e
    obtain ⟨a, rfl, ga⟩ := hd.lot_inv
    refine ⟨_, rfl, a, _, rfl, .inr (.inl (.inl ga)), _, rfl, b, C, dx, _, _, rfl, g1, BC.cls, BC.nMasks, rfl, t, lotV ms, rfl, ?_⟩
    have ll := asc_len il
    refine lc_map (pickedF · l) (fun _ => rfl) (.inr g2) (by omega) (fun m hm H1 Q1 s1 k1 => ⟨_, rfl, _, rfl, m, a, l, rfl, .inr (s1 _ _ ga), fun p hp => Nat.lt_of_lt_of_le (il.lt p hp) (by omega), by omega, k1⟩) fun D H1 hD s1 gD => ?_
    refine ⟨l.length, D, _, by rw [lotV_len]; rfl, .inl gD, fun m hm => ?_, by rw [List.length_map]; omega, ?_, by omega, fun x H2 hx s2 bk => ?_⟩
    · obtain ⟨z, hz, rfl⟩ := List.mem_map.mp hm
      exact pickedF_lt z l
    · cases l with
      | nil => exact absurd rfl ne
      | cons p l => simp
    · exact kY l rfl il ne x H2 (s1.free hx) (s1.trans s2) bk
/-! ### Book.under -/
def underF (ms l : List Nat) : List Nat := onF (withinF ms l) l
theorem scUnder : FnScope ["self", "part", "mask"] ["self", "part"] (defScope s_Book_under) := ⟨rfl, rfl, rfl, by decide +kernel, rfl, by decide +kernel, by decide +kernel⟩
theorem ok_Book_under {f C CL : Addr} {fd : FuncData} (T : Bi mg) (BC : BookC K C) (DN : MethOk P w K mg base (L2.CX P w) 5 C "_need_places" ["self", "part"] (spNeedPlaces C CL)) (DP : DefOk P w K mg base CX0 1 "picked" ["mask", "places"] spPicked)
    (DW : MethOk P w K mg base (L2.CX P w) 10 C "within" ["self", "part"] (spLotBook C CL fun n ms l => (n, withinF ms l))) (DT : DefOk P w K mg base CX0 9 "_told" ["size", "masks"] (spToldB C)) (F : FnM K "under" "Book.under" s_Book_under f fd) :
    FnOk P w K mg base (L2.CX P w) 11 f fd ["self", "part"] (spPlacesBook C CL underF) := by
  refine F.ok scUnder (fun vs H Q E h => ?_) (fun cdv A outer s H vs Q E hr h => ?_)
  · obtain ⟨b, n, ms, v, d, rfl, _⟩ := h
    rfl
  · obtain ⟨b, n, ms, v, d, rfl, hb, hR, hn1, hn, hd, kN, kY⟩ := h
    have tk : Takes (cxOf (L2.CX P w) P w K mg base ["self", "part", "mask"] "Book.under" (defScope s_Book_under) f cdv A outer s H E) (fun cls d _ H => E cls d H) := takes_of rfl rfl rfl rfl
    have px := passes_call tk (E := E) (fun _ _ _ _ h => h)
    refine ⟨_, pss_cons (ps_expr (pe_mX DN BC.cls (pv 0) hr px (pa_cons (pv 1) pa_nil)))
      (pss_one (ps_ret (pe_d DT hr rfl (pa_cons (pe_callB call_len_seq (by rfl) T.len PySem.boot_len (pa_cons (pv 1) pa_nil)) (pa_cons (pe_lc (own := [("mask", 2)]) (g := gName 2) (tt := tYes) (te := tCall spPicked [] E0 (tCons (tVar 2) (tCons (tVar 1) tNil))) rfl scUnder.nd (pi_seq (pe_fld (pe_mX DW BC.cls (pv 0) hr px (pa_cons (pv 1) pa_nil)) rfl))
          (blkOk_by (N := ["self", "part", "mask"]) (sc := defScope s_Book_under) (by decide +kernel)) (fun _ _ _ _ _ => pg_name (i := 2) scUnder.nd rfl (Or.inl rfl)) (fun _ _ _ _ _ => pts_nil)
          (fun _ _ _ _ _ => by exact (pe_d DP hr rfl (pa_cons (pv 2) (pa_cons (pv 1) pa_nil))))) pa_nil))))), ?_⟩
    have hb' := hb
    obtain ⟨dx, t, g1, g2⟩ := hb
    refine ⟨_, rfl, b, dx, _, rfl, g1, rfl, _, rfl, b, n, ms, v, d, rfl, hb', hn, hd, kN, fun l e il ne => ?_⟩
    subst e
    have hd' := hd
    obtain ⟨a, rfl, ga⟩ := hd.lot_inv
    refine ⟨_, rfl, a, _, rfl, .inr (.inl (.inl ga)), _, rfl, b, dx, _, rfl, g1, rfl, _, rfl, b, n, ms, .ref a, _, rfl, hb', hR, hn1, hn, hd', fun e => (by rw [isLotD_of il] at e; cases e), fun l' e _ x H0 hx s0 bk => ?_⟩
    have e := lots_inj e
    subst e
    have hW : Red n (withinF ms l) := within_red hR
    have hlen := hW.len
    obtain ⟨dx2, t2, k1, k2⟩ := bk
    refine ⟨x, C, dx2, _, _, rfl, k1, BC.cls, BC.nMasks, rfl, t2, lotV (withinF ms l), rfl, ?_⟩
    have ll := asc_len il
    have ga0 := s0 _ _ ga
    refine lc_map (pickedF · l) (fun _ => rfl) (.inr k2) (by omega) (fun m hm H1 Q1 s1 k1 => ⟨_, rfl, _, rfl, m, a, l, rfl, .inr (s1 _ _ ga0), fun p hp => Nat.lt_of_lt_of_le (il.lt p hp) (by omega), by omega, k1⟩) fun D H1 hD s1 gD => ?_
    refine ⟨l.length, D, _, by rw [lotV_len]; rfl, .inl gD, fun m hm => ?_, by rw [List.length_map]; omega, ?_, by omega, fun y H2 hy s2 bk => ?_⟩
    · obtain ⟨z, hz, rfl⟩ := List.mem_map.mp hm
      exact pickedF_lt z l
    · cases l with
      | nil => exact absurd rfl ne
      | cons p l => simp
    · exact kY l rfl il ne y H2 (s0.free (s1.free hy)) (s0.trans (s1.trans s2)) bk
/-! ### Book.join -/
def joinF (m1 m2 : List Nat) : List Nat := reduceF (m1 ++ m2)
theorem join_red {n : Nat} {m1 m2 : List Nat} (h1 : Red n m1) (h2 : Red n m2) : Red n (joinF m1 m2) := ⟨_, fun m hm => by
  rcases List.mem_append.mp hm with h | h
  · exact h1.lt m h
  · exact h2.lt m h, rfl⟩
/-- a method that takes a book of the same size and gives one -/
def spTwoBooks (C CU : Addr) (G : Nat → List Nat → List Nat → List Nat) : Sp := fun vs H Q E => ∃ (b c : Addr) (n m : Nat) (m1 m2 : List Nat), vs = [.ref b, .ref c] ∧ BookAt C H b n m1 ∧ BookAt C H c m m2 ∧ Red n m1 ∧ Red m m2 ∧ 1 ≤ n ∧ n ≤ 24 ∧ 1 ≤ m ∧ m ≤ 24 ∧
  (n ≠ m → ∀ (x : Addr) (H' : Hp), Same H H' → H' x = none → E (.ref CU) (some x) (upd H' x (.xd [("what", .int (m : Int))]))) ∧ (n = m → ∀ (x : Addr) (H' : Hp), H x = none → Same H H' → BookAt C H' x n (G n m1 m2) → Q (.ref x) H')
theorem scJoin : FnScope ["self", "other"] ["self", "other"] (defScope s_Book_join) := ⟨rfl, rfl, rfl, by decide +kernel, rfl, by decide +kernel, by decide +kernel⟩
theorem ok_Book_join {f C CU : Addr} {fd : FuncData} (BC : BookC K C) (EU : ErrC P w K mg base "Unlike" CU) (DT : DefOk P w K mg base CX0 9 "_told" ["size", "masks"] (spToldB C)) (F : FnM K "join" "Book.join" s_Book_join f fd) :
    FnOk P w K mg base (L2.CX P w) 10 f fd ["self", "other"] (spTwoBooks C CU fun _ => joinF) := by
  refine F.ok scJoin (fun vs H Q E h => ?_) (fun cdv A outer s H vs Q E hr h => ?_)
  · obtain ⟨b, c, n, m, m1, m2, rfl, _⟩ := h
    rfl
  · obtain ⟨b, c, n, m, m1, m2, rfl, hb, hc, r1, r2, hn1, hn, _, _, kN, kY⟩ := h
    have tk : Takes (cxOf (L2.CX P w) P w K mg base ["self", "other"] "Book.join" (defScope s_Book_join) f cdv A outer s H E) (fun cls d _ H => E cls d H) := takes_of rfl rfl rfl rfl
    refine ⟨_, pss_cons (ps_if (pt_cmpR op_ne (pe_fld (pv 0) rfl) (pe_fld (pv 1) rfl) (nomark _)) (pss_one (ps_err EU hr rfl tk rfl (pe_fld (pv 1) rfl) (mono_fld 1 "size"))) pss_nil)
      (pss_one (ps_ret (pe_d DT hr rfl (pa_cons (pe_fld (pv 0) rfl) (pa_cons (pe_op op_catA (pe_fld (pv 0) rfl) (pe_fld (pv 1) rfl)) pa_nil))))), ?_⟩
    obtain ⟨dx, t, g1, g2⟩ := hb
    obtain ⟨dy, u, h1, h2⟩ := hc
    have l1 := r1.len
    refine ⟨_, rfl, b, C, dx, _, _, rfl, g1, BC.cls, BC.nSize, rfl, _, rfl, c, C, dy, _, _, rfl, h1, BC.cls, BC.nSize, rfl, rfl, _, rfl, ?_⟩
    by_cases e : n = m
    · subst e
      have l2 := r2.len
      refine iteNS rfl ⟨_, rfl, b, C, dx, _, _, rfl, g1, BC.cls, BC.nSize, rfl, _, rfl, b, C, dx, _, _, rfl, g1, BC.cls, BC.nMasks, rfl, _, rfl, c, C, dy, _, _, rfl, h1, BC.cls, BC.nMasks, rfl, ?_⟩
      refine cat_any g2 h2 (by rw [lotV_len, lotV_len]; omega) fun p H1 s1 gp => ?_
      rw [lotV_app] at gp
      refine ⟨n, p, m1 ++ m2, rfl, .inr gp, fun z hz => ?_, by rw [List.length_append]; omega, hn1, hn, fun x H2 hx s2 bk => kY rfl x H2 (s1.free hx) (s1.trans s2) bk⟩
      rcases List.mem_append.mp hz with hz | hz
      · exact r1.lt z hz
      · exact r2.lt z hz
    · have ne : decide (V.int (n : Int) = V.int (m : Int)) = false := decide_eq_false fun q => by
        injection q with q
        exact e (Int.ofNat.inj q)
      rw [ne]
      exact iteT ⟨_, rfl, c, C, dy, _, _, rfl, h1, BC.cls, BC.nSize, rfl, fun x hx => kN e x H (Same.refl H) hx⟩
/-! ### Book.meet -/
def meetF (n : Nat) (m1 m2 : List Nat) : List Nat := turnF n (joinF (turnF n m1) (turnF n m2))
theorem scMeet : FnScope ["self", "other", "checks"] ["self", "other"] (defScope s_Book_meet) := ⟨rfl, rfl, rfl, by decide +kernel, rfl, by decide +kernel, by decide +kernel⟩
theorem ok_Book_meet {f C CU : Addr} {fd : FuncData} (BC : BookC K C) (DJ : MethOk P w K mg base (L2.CX P w) 10 C "join" ["self", "other"] (spTwoBooks C CU fun _ => joinF)) (DT : MethOk P w K mg base CX0 9 C "turned" ["self"] (spTurned C)) (F : FnM K "meet" "Book.meet" s_Book_meet f fd) :
    FnOk P w K mg base (L2.CX P w) 11 f fd ["self", "other"] (spTwoBooks C CU meetF) := by
  refine F.ok scMeet (fun vs H Q E h => ?_) (fun cdv A outer s H vs Q E hr h => ?_)
  · obtain ⟨b, c, n, m, m1, m2, rfl, _⟩ := h
    rfl
  · obtain ⟨b, c, n, m, m1, m2, rfl, hb, hc, r1, r2, hn1, hn, hm1, hm, kN, kY⟩ := h
    have tk : Takes (cxOf (L2.CX P w) P w K mg base ["self", "other", "checks"] "Book.meet" (defScope s_Book_meet) f cdv A outer s H E) (fun cls d _ H => E cls d H) := takes_of rfl rfl rfl rfl
    have px := passes_call tk (E := E) (fun _ _ _ _ h => h)
    refine ⟨_, pss_cons (ps_set (i := 2) scMeet.nd rfl (Or.inl rfl) (pe_mX DJ BC.cls (pe_m0X DT BC.cls (pv 0) hr pass0) hr px (pa_cons (pe_m0X DT BC.cls (pv 1) hr pass0) pa_nil)))
      (pss_one (ps_ret (pe_m0X DT BC.cls (pv 2) hr pass0))), ?_⟩
    have hb' := hb
    have hc' := hc
    obtain ⟨dx, t, g1, g2⟩ := hb
    obtain ⟨dy, u, h1, h2⟩ := hc
    refine ⟨_, rfl, b, dx, _, rfl, g1, rfl, b, n, m1, rfl, hb', r1, hn1, hn, fun x1 H1 hx1 s1 bk1 => ?_⟩
    have bk1' := bk1
    obtain ⟨dx1, t1, i1, i2⟩ := bk1
    refine ⟨x1, dx1, _, rfl, i1, rfl, _, rfl, c, dy, _, rfl, s1 _ _ h1, rfl, c, m, m2, rfl, hc'.same s1, r2, hm1, hm, fun x2 H2 hx2 s2 bk2 => ?_⟩
    refine ⟨x1, x2, n, m, turnF n m1, turnF m m2, rfl, bk1'.same s2, bk2, turn_red r1, turn_red r2, hn1, hn, hm1, hm, fun ne x H' s' hx => kN ne x H' (s1.trans (s2.trans s')) hx, fun e x3 H3 hx3 s3 bk3 => ?_⟩
    subst e
    have bk3' := bk3
    obtain ⟨dx3, t3, j1, j2⟩ := bk3
    refine ⟨_, rfl, x3, dx3, _, rfl, j1, rfl, x3, n, _, rfl, bk3', join_red (turn_red r1) (turn_red r2), hn1, hn, fun x4 H4 hx4 s4 bk4 => ?_⟩
    exact kY rfl x4 H4 (s1.free (s2.free (s3.free hx4))) (s1.trans (s2.trans (s3.trans s4))) bk4
end
end BT

set_option Elab.async false
set_option linter.all false
set_option maxRecDepth 100000
set_option maxHeartbeats 4000000
set_option exponentiation.threshold 2000
namespace BT
open PySem PySem.Spec PyProof.Rows L2
/-- the numbers of data -/
def intsOf (ds : List PyData) : List Int := ds.map fun d => match d with | .int i => i | _ => 0
def insI (x : Int) : List Int → List Int
  | [] => [x]
  | y :: r => if x ≤ y then x :: y :: r else y :: insI x r
def sortI (l : List Int) : List Int := l.foldr insI []
theorem insI_perm (x : Int) : ∀ l : List Int, (insI x l).Perm (x :: l)
  | [] => .refl _
  | y :: r => by
    unfold insI
    split
    · exact .refl _
    · exact ((insI_perm x r).cons y).trans (List.Perm.swap x y r)
theorem sortI_perm : ∀ l : List Int, (sortI l).Perm l
  | [] => .refl _
  | x :: l => (insI_perm x (sortI l)).trans ((sortI_perm l).cons x)
theorem insI_sorted (x : Int) : ∀ l : List Int, l.Pairwise (· ≤ ·) → (insI x l).Pairwise (· ≤ ·)
  | [], _ => List.pairwise_singleton _ _
  | y :: r, h => by
    have h' := List.pairwise_cons.mp h
    unfold insI
    split
    · rename_i c
      refine List.pairwise_cons.mpr ⟨fun z hz => ?_, h⟩
      rcases List.mem_cons.mp hz with rfl | hz
      · exact c
      · exact Int.le_trans c (h'.1 z hz)
    · rename_i c
      refine List.pairwise_cons.mpr ⟨fun z hz => ?_, insI_sorted x r h'.2⟩
      rcases List.mem_cons.mp ((insI_perm x r).mem_iff.mp hz) with rfl | hz
      · omega
      · exact h'.1 z hz
theorem sortI_sorted : ∀ l : List Int, (sortI l).Pairwise (· ≤ ·)
  | [] => .nil
  | x :: l => insI_sorted x _ (sortI_sorted l)
theorem sorted_int_one : ∀ {a b : List Int}, a.Perm b → a.Pairwise (· ≤ ·) → b.Pairwise (· ≤ ·) → a = b
  | [], b, h, _, _ => h.symm.eq_nil.symm
  | x :: a, [], h, _, _ => by have := h.eq_nil; cases this
  | x :: a, y :: b, h, ha, hb => by
    have ha' := List.pairwise_cons.mp ha
    have hb' := List.pairwise_cons.mp hb
    have e : x = y := by
      rcases List.mem_cons.mp (h.mem_iff.mp (List.mem_cons_self ..)) with e | hx
      · exact e
      · rcases List.mem_cons.mp (h.mem_iff.mpr (List.mem_cons_self ..)) with e | hy
        · exact e.symm
        · exact Int.le_antisymm (ha'.1 y hy) (hb'.1 x hx)
    subst e
    rw [sorted_int_one ((List.perm_cons _).mp h) ha'.2 hb'.2]
theorem eqv_ints : ∀ a b : List Int, PyData.eqvAll (a.map PyData.int) (b.map PyData.int) = decide (a = b)
  | [], [] => rfl
  | [], _ :: _ => rfl
  | _ :: _, [] => rfl
  | x :: a, y :: b => by
    rw [List.map_cons, List.map_cons, PyData.eqvAll, PyData.eqv, eqv_ints a b]
    by_cases h : x = y
    · subst h
      by_cases h2 : a = b <;> simp [h2]
    · simp [h]
theorem dp_ints {K : PySem.W.Frag} {H : Hp} : ∀ ns : List Int, DpAll K H (ns.map V.int) (ns.map PyData.int)
  | [] => .nil
  | n :: ns => .cons (.int n) (dp_ints ns)
theorem shaped_ints (ns : List Int) : SeqAt.shaped (.list (ns.map PyData.int)) = true := by
  unfold SeqAt.shaped
  rw [Bool.and_eq_true]
  constructor
  · simp only [PyData.canLay0]
    induction ns with
    | nil => rfl
    | cons n ns ih =>
      rw [List.map_cons]
      simp only [PyData.canLayAll0, PyData.canLay0, Bool.true_and]
      exact ih
  · refine decide_eq_true ?_
    simp only [PyData.depth]
    have : PyData.depthAll (ns.map PyData.int) ≤ 0 := depthA_le fun d hd => by
      obtain ⟨n, _, rfl⟩ := List.mem_map.mp hd
      simp [PyData.depth]
    omega
theorem nums_of {H : Hp} : ∀ {ds : List PyData} {xs : List V}, DvA H xs ds → ds.all numD = true → xs = (intsOf ds).map V.int
  | [], _, h, _ => by cases h; rfl
  | d :: ds, _, h, hn => by
    rw [List.all_cons, Bool.and_eq_true] at hn
    cases h with
    | cons h1 h2 =>
      rw [nums_of h2 hn.2]
      cases h1 with
      | int i => rfl
      | _ => exact absurd (show false = true from hn.1) (by decide)
/-- an order of n places -/
def isOrdD (n : Nat) : PyData → Bool
  | .tuple ds => ds.all numD && decide (sortI (intsOf ds) = (List.range n).map fun p : Nat => (p : Int))
  | _ => false
section
variable {P : Program} {w : World} {K : PySem.W.Frag} {mg : Str → Option Value} {base : Heap} {tM tL tZ tW tA : Tok}
/-! ### is_order -/
def spIsOrder : Sp := fun vs H Q _ => ∃ (v : V) (d : PyData) (n : Nat), vs = [v, .int (n : Int)] ∧ Dv H v d ∧ n ≤ 60 ∧ (∀ ds, d = .tuple ds → ds.length ≤ 1000) ∧ ∀ H', Same H H' → Q (.bl (isOrdD n d)) H'
theorem scIsOrder : FnScope ["value", "size", "place"] ["value", "size"] (defScope s_is_order) := ⟨rfl, rfl, rfl, by decide +kernel, rfl, by decide +kernel, by decide +kernel⟩
theorem ok_is_order {f : Addr} {fd : FuncData} (T : Bi mg) (T2 : Bi2 mg) (DN : DefOk P w K mg base CX0 1 "is_number" ["value"] spIsNumber) (F : FnP K "_is_order" s_is_order f fd) : FnOk P w K mg base CX0 2 f fd ["value", "size"] spIsOrder := by
  refine F.ok scIsOrder (fun vs H Q E h => ?_) (fun cdv A outer s H vs Q E hr h => ?_)
  · obtain ⟨v, d, n, rfl, _⟩ := h
    rfl
  · obtain ⟨v, d, n, rfl, hd, hn, hz, k⟩ := h
    have hu : (A.deeper (envOfC "_is_order" (defScope s_is_order) s.heap.objs.size f cdv)).units + 64 < cLine := hr.units
    refine ⟨_, PSs.nox (pss_cons (ps_if (PW.pt (pw_or (pt_not (pt_val (pe_isD rfl T.isinstance rfl T.tuple PyProof.Rows.boot_tuple kit_tuple (pv 0)))) (pw_or1 (pt_not (pt_val (pe_callB (cr_all rfl) (by rfl) T2.all (by decide +kernel) (pa_cons (pe_lc (own := [("place", 2)]) (g := gName 2) (tt := tYes) (te := tCall spIsNumber [] E0 (tCons (tVar 2) tNil)) rfl scIsOrder.nd (pi_tup (pv 0))
          (blkOk_by (N := ["value", "size", "place"]) (sc := defScope s_is_order) (by decide +kernel)) (fun _ _ _ _ _ => pg_name (i := 2) scIsOrder.nd rfl (Or.inl rfl)) (fun _ _ _ _ _ => pts_nil)
          (fun _ _ _ _ _ => by exact (pe_d DN hr rfl (pa_cons (pv 2) pa_nil)))) pa_nil))))))) (pss_one (ps_ret pe_bl)) pss_nil)
      (pss_one (ps_ret (pe_cmpR (op_eqD hu) (pe_callB cr_sortedTI (by rfl) T2.sorted (by decide +kernel) (pa_cons (pv 0) pa_nil)) (pe_listRg rfl rfl T.list (prg_1 rfl T.range (pv 1))) (nomark _))))), ?_⟩
    refine ⟨_, rfl, v, d, rfl, hd, _, rfl, ?_⟩
    cases hd with
    | tup ha hds =>
      rename_i a xs ds
      have hlen := DvA.length hds
      have hz2 := hz ds rfl
      refine iteF ⟨_, rfl, a, rfl, ⟨_, .inl (.inl ha)⟩, fun D hD => ?_⟩
      refine lc_tup (K := K) (a := a) (xs := xs) (fun j H2 => Same H H2 ∧ H2 D = some (.lst ((((ds.take j).map numD)).map V.bl))) ⟨Same.new (Same.refl H) hD, upd_same⟩ (fun j H2 _ p => .inl (.inl (p.1 _ _ ha))) ?_ ?_
      · rintro j x H2 hj ⟨t1, t2⟩
        obtain ⟨e, he, hx⟩ := (DvA.mono t1 _ _ hds).get hj
        refine ⟨rfl, _, rfl, x, e, rfl, hx, _, t2, ?_, Same.own t1 hD, ?_⟩
        · rw [List.length_map, List.length_map, List.length_take, sizeLine_eq]; omega
        · rw [upd_same, take_snoc he, List.map_append, List.map_append]; rfl
      · rintro H2 ⟨t1, t2⟩
        rw [hlen, List.take_length] at t2
        refine ⟨D, ds.map numD, rfl, .inl (.inl t2), _, rfl, ?_⟩
        have e3 : (ds.map numD).all id = ds.all numD := by rw [List.all_map]; rfl
        rw [e3]
        cases hall : ds.all numD with
        | false =>
          refine iteT ?_
          have e4 : isOrdD n (.tuple ds) = false := by
            show (ds.all numD && _) = false
            rw [hall]; rfl
          have q := k H2 t1
          rw [e4] at q
          exact q
        | true =>
          have exs := nums_of hds hall
          refine iteF ⟨_, rfl, a, intsOf ds, rfl, (by rw [← exs]; exact t1 _ _ ha), fun ns' p hp hs hn2 => ⟨_, rfl, _, rfl, ?_, fun q hq => ?_⟩⟩
          · exact ⟨by decide, by decide, by omega, by omega⟩
          have enn : ns' = sortI (intsOf ds) := sorted_int_one (hp.trans (sortI_perm _).symm) hs (sortI_sorted _)
          have s3 := Same.new t1 (o := .lst (ns'.map V.int)) hn2
          have s4 := Same.new s3 (o := .lst (rgV 0 (n : Int))) hq
          have erg : rgV 0 (n : Int) = ((List.range n).map fun p : Nat => (p : Int)).map V.int := by
            unfold rgV
            rw [List.map_map]
            simp
          refine ⟨.list (ns'.map PyData.int), .list (((List.range n).map fun p : Nat => (p : Int)).map PyData.int), .lst (.inl (.inl ((Same.new (Same.refl _) hq) _ _ upd_same))) (dp_ints ns'), .lst (.inl (.inl (by rw [upd_same, erg]))) (dp_ints _), shaped_ints _, shaped_ints _, ?_⟩
          have e5 : PyData.eqv (.list (ns'.map PyData.int)) (.list (((List.range n).map fun p : Nat => (p : Int)).map PyData.int)) = isOrdD n (.tuple ds) := by
            rw [PyData.eqv, eqv_ints, enn]
            show _ = (ds.all numD && _)
            rw [hall, Bool.true_and]
          rw [e5]
          exact k _ s4
    | _ => exact iteT (k H (Same.refl H))
end
end BT

set_option Elab.async false
set_option linter.all false
set_option maxRecDepth 100000
set_option maxHeartbeats 4000000
set_option exponentiation.threshold 2000
namespace BT
open PySem PySem.Spec PyProof.Rows L2
theorem intsOf_ints : ∀ ns : List Int, intsOf (ns.map PyData.int) = ns
  | [] => rfl
  | n :: ns => by
    have := intsOf_ints ns
    unfold intsOf at this ⊢
    rw [List.map_cons, List.map_cons, this]
theorem ints_data : ∀ {ds : List PyData}, ds.all numD = true → ds = (intsOf ds).map PyData.int
  | [], _ => rfl
  | d :: ds, h => by
    rw [List.all_cons, Bool.and_eq_true] at h
    have := ints_data h.2
    unfold intsOf at this ⊢
    rw [List.map_cons, List.map_cons, ← this]
    cases d with
    | int i => rfl
    | _ => exact absurd (show false = true from h.1) (by decide)
theorem nat_ints : ∀ {ns : List Int}, (∀ i ∈ ns, 0 ≤ i) → ∃ l : List Nat, ns = l.map fun p : Nat => (p : Int)
  | [], _ => ⟨[], rfl⟩
  | i :: ns, h => by
    obtain ⟨l, rfl⟩ := nat_ints fun j hj => h j (List.mem_cons_of_mem _ hj)
    obtain ⟨p, rfl⟩ := Int.eq_ofNat_of_zero_le (h i (List.mem_cons_self ..))
    exact ⟨p :: l, rfl⟩
theorem map_cast_inj : ∀ {a b : List Nat}, (a.map fun p : Nat => (p : Int)).Perm (b.map fun p : Nat => (p : Int)) → a.Perm b := by
  intro a b h
  have := h.map Int.toNat
  rw [List.map_map, List.map_map] at this
  have e : (Int.toNat ∘ fun p : Nat => (p : Int)) = id := by funext p; rfl
  rw [e, List.map_id, List.map_id] at this
  exact this
theorem isOrdD_inv {n : Nat} {d : PyData} (h : isOrdD n d = true) : ∃ l : List Nat, d = lotD l ∧ l.Perm (List.range n) := by
  cases d with
  | tuple ds =>
    have h2 : (ds.all numD && decide (sortI (intsOf ds) = (List.range n).map fun p : Nat => (p : Int))) = true := h
    rw [Bool.and_eq_true] at h2
    have e1 := ints_data h2.1
    have e2 := of_decide_eq_true h2.2
    have p1 := sortI_perm (intsOf ds)
    rw [e2] at p1
    obtain ⟨l, el⟩ := nat_ints (ns := intsOf ds) fun i hi => by
      obtain ⟨p, _, rfl⟩ := List.mem_map.mp (p1.mem_iff.mpr hi)
      omega
    rw [el] at p1
    refine ⟨l, ?_, (map_cast_inj p1).symm⟩
    rw [e1, el, List.map_map]
    rfl
  | _ => cases h
theorem isOrdD_of {n : Nat} {l : List Nat} (h : l.Perm (List.range n)) : isOrdD n (lotD l) = true := by
  show ((l.map fun p : Nat => PyData.int (p : Int)).all numD && decide (sortI (intsOf (l.map fun p : Nat => PyData.int (p : Int))) = _)) = true
  rw [Bool.and_eq_true]
  constructor
  · rw [List.all_map, List.all_eq_true]; intro _ _; rfl
  · refine decide_eq_true ?_
    have e : (l.map fun p : Nat => PyData.int (p : Int)) = (l.map fun p : Nat => (p : Int)).map PyData.int := by rw [List.map_map]; rfl
    rw [e, intsOf_ints]
    refine sorted_int_one ((sortI_perm _).trans (h.map _)) (sortI_sorted _) ?_
    have : (List.range n).Pairwise (· < ·) := List.pairwise_lt_range
    exact List.pairwise_map.mpr (this.imp fun {a b} q => by omega)
section
variable {P : Program} {w : World} {K : PySem.W.Frag} {mg : Str → Option Value} {base : Heap} {tM tL tZ tW tA : Tok}
/-! ### Book.moved -/
def spMoved (C CO : Addr) : Sp := fun vs H Q E => ∃ (b : Addr) (n : Nat) (ms : List Nat) (v : V) (d : PyData), vs = [.ref b, v] ∧ BookAt C H b n ms ∧ Red n ms ∧ 1 ≤ n ∧ n ≤ 24 ∧ Dv H v d ∧ (∀ ds, d = .tuple ds → ds.length ≤ 1000) ∧
  (isOrdD n d = false → ∀ (x : Addr) (H' : Hp), Same H H' → H' x = none → E (.ref CO) (some x) (upd H' x (.xd [("what", v)]))) ∧ (∀ l, d = lotD l → l.Perm (List.range n) → ∀ (x : Addr) (H' : Hp), H x = none → Same H H' → BookAt C H' x n (onF ms l) → Q (.ref x) H')
theorem scMoved : FnScope ["self", "order", "mask"] ["self", "order"] (defScope s_Book_moved) := ⟨rfl, rfl, rfl, by decide +kernel, rfl, by decide +kernel, by decide +kernel⟩
theorem ok_Book_moved {f C CO : Addr} {fd : FuncData} (BC : BookC K C) (EO : ErrC P w K mg base "BadOrder" CO) (DO : DefOk P w K mg base CX0 2 "_is_order" ["value", "size"] spIsOrder) (DP : DefOk P w K mg base CX0 1 "picked" ["mask", "places"] spPicked)
    (DT : DefOk P w K mg base CX0 9 "_told" ["size", "masks"] (spToldB C)) (F : FnM K "moved" "Book.moved" s_Book_moved f fd) : FnOk P w K mg base (L2.CX P w) 10 f fd ["self", "order"] (spMoved C CO) := by
  refine F.ok scMoved (fun vs H Q E h => ?_) (fun cdv A outer s H vs Q E hr h => ?_)
  · obtain ⟨b, n, ms, v, d, rfl, _⟩ := h
    rfl
  · obtain ⟨b, n, ms, v, d, rfl, hb, hR, hn1, hn, hd, hz, kN, kY⟩ := h
    have tk : Takes (cxOf (L2.CX P w) P w K mg base ["self", "order", "mask"] "Book.moved" (defScope s_Book_moved) f cdv A outer s H E) (fun cls d _ H => E cls d H) := takes_of rfl rfl rfl rfl
    refine ⟨_, pss_cons (ps_if (pt_not (pt_val (pe_d DO hr rfl (pa_cons (pv 1) (pa_cons (pe_fld (pv 0) rfl) pa_nil))))) (pss_one (ps_err EO hr rfl tk rfl (pv 1) (mono_var 1))) pss_nil)
      (pss_one (ps_ret (pe_d DT hr rfl (pa_cons (pe_fld (pv 0) rfl) (pa_cons (pe_lc (own := [("mask", 2)]) (g := gName 2) (tt := tYes) (te := tCall spPicked [] E0 (tCons (tVar 2) (tCons (tVar 1) tNil))) rfl scMoved.nd (pi_seq (pe_fld (pv 0) rfl))
          (blkOk_by (N := ["self", "order", "mask"]) (sc := defScope s_Book_moved) (by decide +kernel)) (fun _ _ _ _ _ => pg_name (i := 2) scMoved.nd rfl (Or.inl rfl)) (fun _ _ _ _ _ => pts_nil)
          (fun _ _ _ _ _ => by exact (pe_d DP hr rfl (pa_cons (pv 2) (pa_cons (pv 1) pa_nil))))) pa_nil))))), ?_⟩
    obtain ⟨dx, t, g1, g2⟩ := hb
    have hlen := hR.len
    refine ⟨_, rfl, _, rfl, b, C, dx, _, _, rfl, g1, BC.cls, BC.nSize, rfl, v, d, n, rfl, hd, by omega, hz, fun H0 s0 => ?_⟩
    cases e : isOrdD n d with
    | false => exact ⟨_, rfl, iteT ⟨_, rfl, fun x hx => kN e x H0 s0 hx⟩⟩
    | true =>
      obtain ⟨l, rfl, pl⟩ := isOrdD_inv e
      obtain ⟨a, rfl, ga⟩ := hd.lot_inv
      have ll : l.length = n := by rw [pl.length_eq, List.length_range]
      refine ⟨_, rfl, iteF ⟨_, rfl, b, C, dx, _, _, rfl, s0 _ _ g1, BC.cls, BC.nSize, rfl, _, rfl, b, C, dx, _, _, rfl, s0 _ _ g1, BC.cls, BC.nMasks, rfl, t, lotV ms, rfl, ?_⟩⟩
      refine lc_map (pickedF · l) (fun _ => rfl) (.inr (s0 _ _ g2)) (by omega) (fun m hm H1 Q1 s1 k1 => ⟨_, rfl, _, rfl, m, a, l, rfl, .inr (s1 _ _ (s0 _ _ ga)), fun p hp => Nat.lt_of_lt_of_le (List.mem_range.mp (pl.mem_iff.mp hp)) (by omega), by omega, k1⟩) fun D H1 hD s1 gD => ?_
      refine ⟨n, D, _, rfl, .inl gD, fun m hm => ?_, by rw [List.length_map]; omega, hn1, hn, fun x H2 hx s2 bk => ?_⟩
      · obtain ⟨z, hz, rfl⟩ := List.mem_map.mp hm
        have := pickedF_lt z l
        rw [ll] at this
        exact this
      · exact kY l rfl pl x H2 (s0.free (s1.free hx)) (s0.trans (s1.trans s2)) bk
/-! ### Book.beside -/
def besideF (n : Nat) (m1 m2 : List Nat) : List Nat := reduceF (m1 ++ m2.map (· <<< n))
theorem shl_lt {n m z : Nat} (h : z < 2 ^ m) : z <<< n < 2 ^ (n + m) := by
  rw [Nat.shiftLeft_eq, Nat.pow_add, Nat.mul_comm]
  exact Nat.mul_lt_mul_of_pos_left h (Nat.two_pow_pos _)
theorem beside_lt {n m : Nat} {m1 m2 : List Nat} (r1 : Red n m1) (r2 : Red m m2) : ∀ z ∈ m1 ++ m2.map (· <<< n), z < 2 ^ (n + m) := fun z hz => by
  rcases List.mem_append.mp hz with hz | hz
  · exact Nat.lt_of_lt_of_le (r1.lt z hz) (Nat.pow_le_pow_right (by decide) (by omega))
  · obtain ⟨y, hy, rfl⟩ := List.mem_map.mp hz
    exact shl_lt (r2.lt y hy)
def spBeside (C CT : Addr) : Sp := fun vs H Q E => ∃ (b c : Addr) (n m : Nat) (m1 m2 : List Nat), vs = [.ref b, .ref c] ∧ BookAt C H b n m1 ∧ BookAt C H c m m2 ∧ Red n m1 ∧ Red m m2 ∧ 1 ≤ n ∧ n ≤ 24 ∧ 1 ≤ m ∧ m ≤ 24 ∧
  (24 < n + m → ∀ (x : Addr), H x = none → E (.ref CT) (some x) (upd H x (.xd [("what", .int 24)]))) ∧ (n + m ≤ 24 → ∀ (x : Addr) (H' : Hp), H x = none → Same H H' → BookAt C H' x (n + m) (besideF n m1 m2) → Q (.ref x) H')
theorem scBeside : FnScope ["self", "other", "behind", "mask"] ["self", "other"] (defScope s_Book_beside) := ⟨rfl, rfl, rfl, by decide +kernel, rfl, by decide +kernel, by decide +kernel⟩
theorem ok_Book_beside {f C CT : Addr} {fd : FuncData} (T : Bi mg) (BC : BookC K C) (hZ : mg "MOST_SIZE" = some (.int 24 tZ)) (ET : ErrC P w K mg base "TooMany" CT)
    (DT : DefOk P w K mg base CX0 9 "_told" ["size", "masks"] (spToldB C)) (F : FnM K "beside" "Book.beside" s_Book_beside f fd) : FnOk P w K mg base (L2.CX P w) 10 f fd ["self", "other"] (spBeside C CT) := by
  refine F.ok scBeside (fun vs H Q E h => ?_) (fun cdv A outer s H vs Q E hr h => ?_)
  · obtain ⟨b, c, n, m, m1, m2, rfl, _⟩ := h
    rfl
  · obtain ⟨b, c, n, m, m1, m2, rfl, hb, hc, r1, r2, hn1, hn, hm1, hm, kN, kY⟩ := h
    have tk : Takes (cxOf (L2.CX P w) P w K mg base ["self", "other", "behind", "mask"] "Book.beside" (defScope s_Book_beside) f cdv A outer s H E) (fun cls d _ H => E cls d H) := takes_of rfl rfl rfl rfl
    refine ⟨_, pss_cons (ps_if (pt_cmpR op_gt (pe_op op_add (pe_fld (pv 0) rfl) (pe_fld (pv 1) rfl)) (pe_glob (v := .int 24) rfl hZ ⟨_, rfl⟩) (nomark _)) (pss_one (ps_err ET hr rfl tk rfl (pe_glob (v := .int 24) rfl hZ ⟨_, rfl⟩) (mono_int 24))) pss_nil)
      (pss_cons (ps_setLc (i := 2) (own := [("mask", 3)]) (g := gName 3) (tt := tYes) (te := tOp (rI CPow fun i j => .int (i * 2 ^ j.toNat)) (tVar 3) (tFld K (tVar 0) "size")) rfl scBeside.nd rfl rfl (sw_true rfl rfl rfl (by decide +kernel)) (pi_seq (pe_fld (pv 1) rfl))
          (blkOk_by (N := ["self", "other", "behind", "mask"]) (sc := defScope s_Book_beside) (by decide +kernel)) (fun _ _ _ _ _ => pg_name (i := 3) scBeside.nd rfl (Or.inl rfl)) (fun _ _ _ _ _ => pts_nil)
          (fun _ _ _ _ _ => by exact (pe_op op_shl (pv 3) (pe_fld (pv 0) rfl))))
      (pss_one (ps_ret (pe_d DT hr rfl (pa_cons (pe_op op_add (pe_fld (pv 0) rfl) (pe_fld (pv 1) rfl)) (pa_cons (pe_op op_cat (pe_callTy call_list_of rfl T.list PyProof.Rows.boot_list (pa_cons (pe_fld (pv 0) rfl) pa_nil)) (pv 2)) pa_nil)))))), ?_⟩
    obtain ⟨dx, t, g1, g2⟩ := hb
    obtain ⟨dy, u, h1, h2⟩ := hc
    have l1 := r1.len
    have l2 := r2.len
    refine ⟨_, rfl, b, C, dx, _, _, rfl, g1, BC.cls, BC.nSize, rfl, _, rfl, c, C, dy, _, _, rfl, h1, BC.cls, BC.nSize, rfl, _, _, rfl, rfl, _, _, rfl, rfl, _, rfl, ?_⟩
    refine ite2 (fun q => ?_) (fun q => ?_)
    · have q2 : (24 : Int) < (n : Int) + (m : Int) := of_decide_eq_true q
      exact fun x hx => kN (by omega) x hx
    · have q2 : ¬ (24 : Int) < (n : Int) + (m : Int) := fun z => q (decide_eq_true z)
      have nm : n + m ≤ 24 := by omega
      refine ⟨_, rfl, c, C, dy, _, _, rfl, h1, BC.cls, BC.nMasks, rfl, u, lotV m2, rfl, ?_⟩
      refine lc_map (· <<< n) (fun _ => rfl) (.inr h2) (by omega) (fun z hz H1 Q1 s1 k1 => ⟨_, rfl, _, rfl, b, C, dx, _, _, rfl, s1 _ _ g1, BC.cls, BC.nSize, rfl, _, _, rfl, rfl, ⟨by omega, by omega, ?_⟩, ?_⟩) fun D H1 hD s1 gD => ?_
      · rw [Int.natAbs_natCast]
        exact Nat.lt_of_lt_of_le (r2.lt z hz) (Nat.pow_le_pow_right (by decide) (by omega))
      · dsimp only
        rw [shl_nat]
        exact k1 H1 (Same.refl H1)
      · refine ⟨_, rfl, b, C, dx, _, _, rfl, s1 _ _ g1, BC.cls, BC.nSize, rfl, _, rfl, c, C, dy, _, _, rfl, s1 _ _ h1, BC.cls, BC.nSize, rfl, _, _, rfl, rfl, ?_⟩
        refine ⟨_, rfl, b, C, dx, _, _, rfl, s1 _ _ g1, BC.cls, BC.nMasks, rfl, t, lotV m1, rfl, .inr (.inl (.inl (s1 _ _ g2))), fun q hq => ?_⟩
        have nq : q ≠ D := fun e => by rw [e, gD] at hq; cases hq
        refine ⟨_, rfl, q, D, _, _, rfl, rfl, upd_same, by rw [upd_ne (Ne.symm nq)]; exact gD, by rw [lotV_len, lotV_len, List.length_map, sizeLine_eq]; omega, fun p hp => ?_⟩
        have s2 := Same.new s1 (o := .lst (lotV m1)) hq
        have s3 := Same.new s2 (o := .lst (lotV m1 ++ lotV (m2.map (· <<< n)))) hp
        refine ⟨n + m, p, m1 ++ m2.map (· <<< n), congrArg (fun z => [V.int z, V.ref p]) (by omega), .inl (by rw [upd_same, lotV_app]), beside_lt r1 r2, by rw [List.length_append, List.length_map]; omega, by omega, nm, fun x H2 hx s4 bk => ?_⟩
        exact kY nm x H2 (s3.free hx) (s3.trans s4) bk
end
end BT

set_option Elab.async false
set_option linter.all false
set_option maxRecDepth 100000
set_option maxHeartbeats 4000000
set_option exponentiation.threshold 2000
namespace BT
open PySem PySem.Spec PyProof.Rows L2
section
variable {P : Program} {w : World} {K : PySem.W.Frag} {mg : Str → Option Value} {base : Heap} {tM tL tZ tW tA : Tok}
/-! ### Book.with_sum -/
def withF (n : Nat) (ms l : List Nat) : List Nat := reduceF (ms.map fun m => m ||| ((pop (m &&& maskN l) % 2) <<< n))
theorem with_lt {n : Nat} {ms : List Nat} (h : Red n ms) (l : List Nat) : ∀ z ∈ ms.map (fun m => m ||| ((pop (m &&& maskN l) % 2) <<< n)), z < 2 ^ (n + 1) := fun z hz => by
  obtain ⟨m, hm, rfl⟩ := List.mem_map.mp hz
  refine Nat.or_lt_two_pow (Nat.lt_of_lt_of_le (h.lt m hm) (Nat.pow_le_pow_right (by decide) (by omega))) ?_
  exact shl_lt (m := 1) (by have := Nat.mod_lt (pop (m &&& maskN l)) (show 0 < 2 by decide); omega)
def spWithSum (C CL CT : Addr) : Sp := fun vs H Q E => ∃ (b : Addr) (n : Nat) (ms : List Nat) (v : V) (d : PyData), vs = [.ref b, v] ∧ BookAt C H b n ms ∧ Red n ms ∧ 1 ≤ n ∧ n ≤ 24 ∧ Dv H v d ∧
  (isLotD (n : Int) d = false → ∀ x, H x = none → E (.ref CL) (some x) (upd H x (.xd [("what", v)]))) ∧
  (isLotD (n : Int) d = true → n = 24 → ∀ x, H x = none → E (.ref CT) (some x) (upd H x (.xd [("what", .int 24)]))) ∧
  (∀ l, d = lotD l → IsLot n l → n < 24 → ∀ (x : Addr) (H' : Hp), H x = none → Same H H' → BookAt C H' x (n + 1) (withF n ms l) → Q (.ref x) H')
theorem scWithSum : FnScope ["self", "lot", "at", "mask"] ["self", "lot"] (defScope s_Book_with_sum) := ⟨rfl, rfl, rfl, by decide +kernel, rfl, by decide +kernel, by decide +kernel⟩
theorem ok_Book_with_sum {f C CL CT : Addr} {fd : FuncData} (BC : BookC K C) (hZ : mg "MOST_SIZE" = some (.int 24 tZ)) (ET : ErrC P w K mg base "TooMany" CT) (DN : DefOk P w K mg base (L2.CX P w) 5 "need_lot" ["value", "size"] (spNeedLot CL)) (DM : DefOk P w K mg base CX0 1 "mask_of" ["lot"] spMaskOf)
    (DO : DefOk P w K mg base CX0 1 "odd" ["mask"] spOdd) (DT : DefOk P w K mg base CX0 9 "_told" ["size", "masks"] (spToldB C)) (F : FnM K "with_sum" "Book.with_sum" s_Book_with_sum f fd) : FnOk P w K mg base (L2.CX P w) 10 f fd ["self", "lot"] (spWithSum C CL CT) := by
  refine F.ok scWithSum (fun vs H Q E h => ?_) (fun cdv A outer s H vs Q E hr h => ?_)
  · obtain ⟨b, n, ms, v, d, rfl, _⟩ := h
    rfl
  · obtain ⟨b, n, ms, v, d, rfl, hb, hR, hn1, hn, hd, kN, kT, kY⟩ := h
    have tk : Takes (cxOf (L2.CX P w) P w K mg base ["self", "lot", "at", "mask"] "Book.with_sum" (defScope s_Book_with_sum) f cdv A outer s H E) (fun cls d _ H => E cls d H) := takes_of rfl rfl rfl rfl
    have px := passes_call tk (E := E) (fun _ _ _ _ h => h)
    refine ⟨_, pss_cons (ps_expr (pe_dX DN hr rfl px (pa_cons (pv 1) (pa_cons (pe_fld (pv 0) rfl) pa_nil))))
      (pss_cons (ps_if (pt_cmpR op_eq (pe_fld (pv 0) rfl) (pe_glob (v := .int 24) rfl hZ ⟨_, rfl⟩) (nomark _)) (pss_one (ps_err ET hr rfl tk rfl (pe_glob (v := .int 24) rfl hZ ⟨_, rfl⟩) (mono_int 24))) pss_nil)
      (pss_cons (ps_set (i := 2) scWithSum.nd rfl (Or.inr rfl) (pe_d DM hr rfl (pa_cons (pv 1) pa_nil)))
      (pss_one (ps_ret (pe_d DT hr rfl (pa_cons (pe_op op_add (pe_fld (pv 0) rfl) pe_int) (pa_cons (pe_lc (own := [("mask", 3)]) (g := gName 3) (tt := tYes) (te := tOp (rI0 fun i j => .int (Builtin.bitOr i j)) (tVar 3) (tOp (rI CPow fun i j => .int (i * 2 ^ j.toNat)) (tCall spOdd [] E0 (tCons (tOp (rI0 fun i j => .int (Builtin.bitAnd i j)) (tVar 3) (tVar 2)) tNil)) (tFld K (tVar 0) "size"))) rfl scWithSum.nd (pi_seq (pe_fld (pv 0) rfl))
          (blkOk_by (N := ["self", "lot", "at", "mask"]) (sc := defScope s_Book_with_sum) (by decide +kernel)) (fun _ _ _ _ _ => pg_name (i := 3) scWithSum.nd rfl (Or.inl rfl)) (fun _ _ _ _ _ => pts_nil)
          (fun _ _ _ _ _ => by exact (pe_op op_or (pv 3) (pe_op op_shl (pe_d DO hr rfl (pa_cons (pe_op op_and (pv 3) (pv 2)) pa_nil)) (pe_fld (pv 0) rfl))))) pa_nil))))))), ?_⟩
    obtain ⟨dx, t, g1, g2⟩ := hb
    refine ⟨_, rfl, _, rfl, b, C, dx, _, _, rfl, g1, BC.cls, BC.nSize, rfl, v, d, n, rfl, hd, by omega, fun e => ?_, kN⟩
    refine ⟨_, rfl, b, C, dx, _, _, rfl, g1, BC.cls, BC.nSize, rfl, rfl, _, rfl, ?_⟩
    refine ite2 (fun q => ?_) (fun q => ?_)
    · have q2 := of_decide_eq_true q
      injection q2 with q2
      exact fun x hx => kT e (by omega) x hx
    · have q2 : n ≠ 24 := fun z => q (decide_eq_true (by subst z; rfl))
      obtain ⟨l, rfl, il⟩ := isLotD_inv e
      obtain ⟨a, rfl, ga⟩ := hd.lot_inv
      have hlen := hR.len
      have sm := hR.small (show n ≤ 1000 by omega)
      refine ⟨_, rfl, a, l, rfl, ga, il.small (by omega), ?_⟩
      refine ⟨_, rfl, b, C, dx, _, _, rfl, g1, BC.cls, BC.nSize, rfl, _, _, rfl, rfl, _, rfl, b, C, dx, _, _, rfl, g1, BC.cls, BC.nMasks, rfl, t, lotV ms, rfl, ?_⟩
      refine lc_map (fun m => m ||| ((pop (m &&& maskN l) % 2) <<< n)) (fun _ => rfl) (.inr g2) (by omega) (fun z hz H1 Q1 s1 k1 => ⟨_, rfl, _, rfl, _, rfl, _, _, rfl, rfl, z &&& maskN l, congrArg (fun z => [V.int z]) (bitAnd_nat _ _), Nat.lt_of_le_of_lt Nat.and_le_left (sm z hz), _, rfl, b, C, dx, _, _, rfl, s1 _ _ g1, BC.cls, BC.nSize, rfl, _, _, rfl, rfl, ⟨by omega, by omega, ?_⟩, _, _, rfl, rfl, ?_⟩) fun D H1 hD s1 gD => ?_
      · rw [Int.natAbs_natCast]
        exact Nat.lt_of_lt_of_le (Nat.mod_lt _ (by decide)) (by decide)
      · have q := k1 H1 (Same.refl H1)
        rw [← bitOr_nat, ← shl_nat] at q
        exact q
      · refine ⟨n + 1, D, _, congrArg (fun z => [V.int z, V.ref D]) (by omega), .inl gD, with_lt hR l, by rw [List.length_map]; omega, by omega, by omega, fun x H2 hx s2 bk => ?_⟩
        exact kY l rfl il (by omega) x H2 (s1.free hx) (s1.trans s2) bk
/-! ### Book.words -/
noncomputable def wordsF (ms : List Nat) : List PyData := sortD (((spanF ms).map lotN).map lotD)
theorem wordsF_len (ms : List Nat) : (wordsF ms).length = 2 ^ ms.length := by
  unfold wordsF
  rw [(sortD_perm _).length_eq, List.length_map, List.length_map, spanF_len]
def spWords (C CT : Addr) : Sp := fun vs H Q E => ∃ (b : Addr) (n : Nat) (ms : List Nat), vs = [.ref b] ∧ BookAt C H b n ms ∧ Red n ms ∧ n ≤ 24 ∧
  (12 < ms.length → ∀ x, H x = none → E (.ref CT) (some x) (upd H x (.xd [("what", .int 4096)]))) ∧
  (ms.length ≤ 12 → ∀ (D : Addr) (H' : Hp) (xs : List V), H D = none → Same H H' → H' D = some (.lst xs) → DvA H' xs (wordsF ms) → Q (.ref D) H')
theorem scWords : FnScope ["self", "mask"] ["self"] (defScope s_Book_words) := ⟨rfl, rfl, rfl, by decide +kernel, rfl, by decide +kernel, by decide +kernel⟩
theorem span_lt {n : Nat} {ms : List Nat} (h : ∀ m ∈ ms, m < 2 ^ n) : ∀ z ∈ spanF ms, z < 2 ^ n := by
  have key : ∀ (ms acc : List Nat), (∀ m ∈ ms, m < 2 ^ n) → (∀ z ∈ acc, z < 2 ^ n) → ∀ z ∈ ms.foldl (fun sums m => sums ++ sums.map (m ^^^ ·)) acc, z < 2 ^ n := by
    intro ms
    induction ms with
    | nil => intro acc _ h; exact h
    | cons m ms ih =>
      intro acc hm ha
      rw [List.foldl_cons]
      refine ih _ (fun z hz => hm z (List.mem_cons_of_mem _ hz)) fun z hz => ?_
      rcases List.mem_append.mp hz with hz | hz
      · exact ha z hz
      · obtain ⟨y, hy, rfl⟩ := List.mem_map.mp hz
        exact xor_lt (hm m (List.mem_cons_self ..)) (ha y hy)
  exact key ms [0] h fun z hz => by rw [List.mem_singleton.mp hz]; exact Nat.two_pow_pos _
theorem tup_lots {ls : List (List Nat)} : ∀ d ∈ ls.map lotD, TupD d := fun d hd => by
  obtain ⟨l, _, rfl⟩ := List.mem_map.mp hd
  exact ⟨l.map fun p : Nat => (p : Int), by rw [List.map_map]; rfl⟩
theorem ok_Book_words {f C CT : Addr} {fd : FuncData} (T2 : Bi2 mg) (BC : BookC K C) (hW : mg "MOST_WORDS" = some (.int 4096 tW)) (ET : ErrC P w K mg base "TooMany" CT) (DL : DefOk P w K mg base CX0 1 "lot_of" ["mask"] spLotOf)
    (DS : DefOk P w K mg base CX0 1 "span" ["masks"] spSpan) (F : FnM K "words" "Book.words" s_Book_words f fd) : FnOk P w K mg base (L2.CX P w) 4 f fd ["self"] (spWords C CT) := by
  refine F.ok scWords (fun vs H Q E h => ?_) (fun cdv A outer s H vs Q E hr h => ?_)
  · obtain ⟨b, n, ms, rfl, _⟩ := h
    rfl
  · obtain ⟨b, n, ms, rfl, hb, hR, hn, kT, kY⟩ := h
    have hu : (A.deeper (envOfC "Book.words" (defScope s_Book_words) s.heap.objs.size f cdv)).units + 64 < cLine := hr.units
    have tk : Takes (cxOf (L2.CX P w) P w K mg base ["self", "mask"] "Book.words" (defScope s_Book_words) f cdv A outer s H E) (fun cls d _ H => E cls d H) := takes_of rfl rfl rfl rfl
    refine ⟨_, pss_cons (ps_if (pt_cmpR op_gt (pe_op op_shl pe_int (pe_fld (pv 0) rfl)) (pe_glob (v := .int 4096) rfl hW ⟨_, rfl⟩) (nomark _)) (pss_one (ps_err ET hr rfl tk rfl (pe_glob (v := .int 4096) rfl hW ⟨_, rfl⟩) (mono_int 4096))) pss_nil)
      (pss_one (ps_ret (pe_callB (cr_sortedD hu) (by rfl) T2.sorted (by decide +kernel) (pa_cons (pe_lc (own := [("mask", 1)]) (g := gName 1) (tt := tYes) (te := tCall spLotOf [] E0 (tCons (tVar 1) tNil)) rfl scWords.nd (pi_seq (pe_d DS hr rfl (pa_cons (pe_fld (pv 0) rfl) pa_nil)))
          (blkOk_by (N := ["self", "mask"]) (sc := defScope s_Book_words) (by decide +kernel)) (fun _ _ _ _ _ => pg_name (i := 1) scWords.nd rfl (Or.inl rfl)) (fun _ _ _ _ _ => pts_nil)
          (fun _ _ _ _ _ => by exact (pe_d DL hr rfl (pa_cons (pv 1) pa_nil)))) pa_nil)))), ?_⟩
    obtain ⟨dx, t, g1, g2⟩ := hb
    have hlen := hR.len
    have ep : (1 : Int) * 2 ^ ((ms.length : Int).toNat) = ((2 ^ ms.length : Nat) : Int) := by rw [Int.toNat_natCast, Int.one_mul, Int.natCast_pow]; rfl
    refine ⟨_, rfl, b, C, dx, _, _, rfl, g1, BC.cls, BC.nDim, rfl, _, _, rfl, rfl, ⟨by omega, by omega, by decide⟩, _, _, rfl, rfl, _, rfl, ?_⟩
    refine ite2 (fun q => ?_) (fun q => ?_)
    · have q2 := of_decide_eq_true q
      rw [ep] at q2
      refine fun x hx => kT (Nat.lt_of_not_le fun z => ?_) x hx
      have : 2 ^ ms.length ≤ 2 ^ 12 := Nat.pow_le_pow_right (by decide) z
      omega
    · have h12 : ms.length ≤ 12 := Nat.le_of_not_lt fun z => by
        refine q (decide_eq_true ?_)
        rw [ep]
        have : 2 ^ 13 ≤ 2 ^ ms.length := Nat.pow_le_pow_right (by decide) z
        omega
      refine ⟨_, rfl, b, C, dx, _, _, rfl, g1, BC.cls, BC.nMasks, rfl, t, ms, rfl, .inr g2, h12, fun p H1 hp s1 gp => ?_⟩
      have hs := spanF_len ms
      have hs2 : 2 ^ ms.length ≤ 2 ^ 12 := Nat.pow_le_pow_right (by decide) h12
      refine ⟨p, lotV (spanF ms), rfl, lc_lots (fun _ => rfl) (fun _ => rfl) (.inl gp) (fun m hm => Nat.lt_of_lt_of_le (span_lt hR.lt m hm) (Nat.pow_le_pow_right (by decide) (by omega))) (by omega) fun D H2 xs hD s2 g hA => ?_⟩
      refine ⟨D, xs, _, rfl, g, hA, tup_lots, fun ys q hy hq => ?_⟩
      have s3 := Same.new (Same.refl H2) (o := .lst ys) hq
      exact kY h12 q _ ys (s1.free (s2.free hq)) (s1.trans (s2.trans s3)) upd_same (DvA.mono s3 _ _ hy)
/-! ### Book.word_of -/
def wordF (ms l : List Nat) : Nat := l.foldl (fun w i => w ^^^ ms.getD i 0) 0
theorem wordF_snoc (ms l : List Nat) (i : Nat) : wordF ms (l ++ [i]) = wordF ms l ^^^ ms.getD i 0 := by unfold wordF; rw [List.foldl_append]; rfl
theorem wordF_lt {n : Nat} {ms : List Nat} (h : ∀ m ∈ ms, m < 2 ^ n) (l : List Nat) : wordF ms l < 2 ^ n := by
  have key : ∀ (l : List Nat) (w : Nat), w < 2 ^ n → l.foldl (fun w i => w ^^^ ms.getD i 0) w < 2 ^ n := by
    intro l
    induction l with
    | nil => intro w h; exact h
    | cons i l ih =>
      intro w hw
      rw [List.foldl_cons]
      refine ih _ (xor_lt hw ?_)
      rw [List.getD_eq_getElem?_getD]
      cases e : ms[i]? with
      | none => exact Nat.two_pow_pos _
      | some m => exact h m (List.mem_of_getElem? e)
  exact key l 0 (Nat.two_pow_pos _)
def spWordOf (C CL : Addr) : Sp := fun vs H Q E => ∃ (b : Addr) (n : Nat) (ms : List Nat) (v : V) (d : PyData), vs = [.ref b, v] ∧ BookAt C H b n ms ∧ Red n ms ∧ n ≤ 24 ∧ Dv H v d ∧
  (isLotD (ms.length : Int) d = false → ∀ x, H x = none → E (.ref CL) (some x) (upd H x (.xd [("what", v)]))) ∧
  (∀ l, d = lotD l → IsLot ms.length l → ∀ (p : Addr) (H' : Hp), H p = none → Same H H' → H' p = some (.tup (lotV (lotN (wordF ms l)))) → Q (.ref p) H')
theorem scWordOf : FnScope ["self", "numbers", "word", "number"] ["self", "numbers"] (defScope s_Book_word_of) := ⟨rfl, rfl, rfl, by decide +kernel, rfl, by decide +kernel, by decide +kernel⟩
theorem ok_Book_word_of {f C CL : Addr} {fd : FuncData} (BC : BookC K C) (DN : DefOk P w K mg base (L2.CX P w) 5 "need_lot" ["value", "size"] (spNeedLot CL)) (DL : DefOk P w K mg base CX0 1 "lot_of" ["mask"] spLotOf)
    (F : FnM K "word_of" "Book.word_of" s_Book_word_of f fd) : FnOk P w K mg base (L2.CX P w) 6 f fd ["self", "numbers"] (spWordOf C CL) := by
  refine F.ok scWordOf (fun vs H Q E h => ?_) (fun cdv A outer s H vs Q E hr h => ?_)
  · obtain ⟨b, n, ms, v, d, rfl, _⟩ := h
    rfl
  · obtain ⟨b, n, ms, v, d, rfl, hb, hR, hn, hd, kN, kY⟩ := h
    have tk : Takes (cxOf (L2.CX P w) P w K mg base ["self", "numbers", "word", "number"] "Book.word_of" (defScope s_Book_word_of) f cdv A outer s H E) (fun cls d _ H => E cls d H) := takes_of rfl rfl rfl rfl
    have px := passes_call tk (E := E) (fun _ _ _ _ h => h)
    refine ⟨_, pss_cons (ps_expr (pe_dX DN hr rfl px (pa_cons (pv 1) (pa_cons (pe_fld (pv 0) rfl) pa_nil))))
      (pss_cons (ps_set (i := 2) scWordOf.nd rfl (Or.inl rfl) pe_int)
      (pss_cons (ps_for (passes_of rfl) rfl (pi_tup (pv 1)) (pg_name (i := 3) scWordOf.nd rfl (Or.inl rfl))
        (pss_one (ps_aug (i := 2) scWordOf.nd rfl (Or.inl rfl) (pe_ix ix_tup (pe_fld (pv 0) rfl) (pv 3) (fun _ _ => rfl)) iop_xor)))
      (pss_one (ps_ret (pe_d DL hr rfl (pa_cons (pv 2) pa_nil)))))), ?_⟩
    obtain ⟨dx, t, g1, g2⟩ := hb
    have hlen := hR.len
    refine ⟨_, rfl, _, rfl, b, C, dx, _, _, rfl, g1, BC.cls, BC.nDim, rfl, v, d, ms.length, rfl, hd, by omega, fun e => ?_, kN⟩
    obtain ⟨l, rfl, il⟩ := isLotD_inv e
    obtain ⟨a, rfl, ga⟩ := hd.lot_inv
    refine ⟨_, rfl, a, rfl, ⟨_, .inl (.inl ga)⟩, for_tup (K := K) (a := a) (xs := lotV l) (fun j σ H' => H' = H ∧ ∃ z : Option V, σ = [some (.ref b), some (.ref a), some (.int (wordF ms (l.take j) : Nat)), z]) ⟨rfl, none, rfl⟩ (fun j σ H' _ p => by obtain ⟨rfl, _⟩ := p; exact .inl (.inl ga)) ?_ ?_⟩
    · rintro j x σ H' hj ⟨rfl, z, rfl⟩
      obtain ⟨i, hi, rfl⟩ := lotV_get hj
      have hil := il.lt i (List.mem_of_getElem? hi)
      have em : ms[i]? = some ms[i] := List.getElem?_eq_getElem hil
      have ev : atI (lotV ms) (i : Int) = some (.int (ms[i] : Nat)) := by
        unfold atI ixN
        rw [if_pos (by omega), if_pos (by rw [lotV_len]; omega)]
        show (lotV ms)[((i : Int)).toNat]? = _
        rw [Int.toNat_natCast]
        unfold lotV
        rw [List.getElem?_map, em]; rfl
      refine ⟨_, rfl, _, rfl, b, C, dx, _, _, rfl, g1, BC.cls, BC.nMasks, rfl, _, rfl, t, lotV ms, (i : Int), _, rfl, rfl, .inl (.inl g2), ev, _, _, rfl, rfl, rfl, some (.int (i : Int)), ?_⟩
      rw [take_snoc hi, wordF_snoc, List.getD_eq_getElem?_getD, em, ← bitXor_nat]
      rfl
    · rintro σ H' ⟨rfl, z, rfl⟩
      rw [lotV_len, List.take_length]
      refine ⟨_, rfl, _, rfl, Nat.lt_of_lt_of_le (wordF_lt hR.lt l) (Nat.pow_le_pow_right (by decide) (by omega)), fun p H' hp s1 gp => ?_⟩
      exact kY l rfl il p H' hp s1 gp
end
end BT

set_option Elab.async false
set_option linter.all false
set_option maxRecDepth 100000
set_option maxHeartbeats 4000000
set_option exponentiation.threshold 2000
namespace BT
open PySem PySem.Spec PyProof.Rows L2
/-- Book(size, rows), anything -/
theorem mk_any {K : PySem.W.Frag} {C CS CL : Addr} {H : Hp} {z v : V} {e d : PyData} {R : Addr → Hp → Prop} {E : XK} (he : Dv H z e) (hd : Dv H v d)
    (kY : ∀ (n : Nat) (ls : List (List Nat)), e = .int (n : Int) → 1 ≤ n → n ≤ 24 → d = .list (ls.map lotD) → (∀ l ∈ ls, IsLot n l) → ls.length ≤ 60 → ∀ (x : Addr) (H' : Hp), H x = none → Same H H' → BookAt C H' x n (reduceF (ls.map maskN)) → R x H')
    (kL : bsizeD e = true → (∀ ds, d = .list ds → 60 < ds.length) → ∀ (x : Addr) (H' : Hp), Same H H' → H' x = none → E (.ref CL) (some x) (upd H' x (.xd [("what", .int (-1))])))
    (kE : ∀ (n : Nat) (ds : List PyData), e = .int (n : Int) → 1 ≤ n → n ≤ 24 → d = .list ds → ds.length ≤ 60 → ∀ (j : Nat) (y : PyData), ds[j]? = some y → isLotD (n : Int) y = false → (∀ (m : Nat) (e' : PyData), m < j → ds[m]? = some e' → isLotD (n : Int) e' = true) →
      ∀ (x : Addr) (H' : Hp), Same H H' → H' x = none → E (.ref CL) (some x) (upd H' x (.xd [("what", .int (j : Nat))])))
    (kS : bsizeD e = false → ∀ (x : Addr) (H' : Hp), Same H H' → H' x = none → E (.ref CS) (some x) (upd H' x (.xd [("what", z)]))) :
    ∀ x dx, H x = none → H dx = none → dx ≠ x → spBookInit K C CS CL (.ref x :: [z, v]) (upd (upd H dx (.own x)) x (.ins C dx [])) (fun v H2 => v = .non ∧ R x H2) E := by
  intro x dx hx hdx ne
  have s0 : Same H (upd (upd H dx (.own x)) x (.ins C dx [])) := fun c o hc => by
    rw [upd_ne (ne_of_none hc hx), upd_ne (ne_of_none hc hdx)]; exact hc
  have sm : Same H (L2.del (upd (upd H dx (.own x)) x (.ins C dx [])) x) := fun c o hc => by
    rw [del_ne (ne_of_none hc hx)]; exact s0 _ _ hc
  refine ⟨x, dx, z, e, v, d, rfl, upd_same, Dv.mono s0 e z he, Dv.mono sm d v hd, fun n en h1 h2 => ⟨fun ls ed hls hl H' s' bk => ⟨rfl, kY n ls en h1 h2 ed hls hl x H' hx (fun c o hc => s' _ _ (sm _ _ hc)) bk⟩, fun hb y hy => ?_, fun ds ed hl j y hj hb hm H' w s' hw => ?_⟩, fun hb y hy => ?_⟩
  · refine kL ?_ hb y _ s0 hy
    subst en
    show (decide ((1 : Int) ≤ (n : Int)) && decide ((n : Int) ≤ 24)) = true
    rw [decide_eq_true (by omega), decide_eq_true (by omega)]; rfl
  · exact kE n ds en h1 h2 ed hl j y hj hb hm w H' (s0.trans s') hw
  · exact kS hb y _ s0 hy
/-- the wish of a clause whose class is raised -/
theorem err_wish {K : PySem.W.Frag} {C : Addr} {i j : Nat} {nm : V} {Wout : WX} {D : Ends} {σ : L2.St} {H : Hp} {x : Addr} {v : V} (ex : PySem.W.exmOne K (.ref C) (.ref C) = some true) (hx : H x = some (.xd [("what", v)])) (hσ : ∀ a : Addr, (σ.set i (some (.ref a)))[i]? = some (some (.ref a)))
    (k : ∀ (a p : Addr), H p = none → D.nx (((σ.set i (some (.ref a))).set j (some (.ref p))).set i none) (upd H p (.tup [nm, v]))) :
    wAs K (.ref C) i (fun a cls d => tAsg (tTup (tCons (tC nm) (tCons (tXf a cls d C "what" (tVar i)) tNil))) (gName j)) Wout D (.ref C) (some x) σ H :=
  ⟨true, ex, fun _ a ha => ⟨_, hσ a, rfl, rfl, x, _, v, rfl, hx, rfl, (by show 2 ≤ sizeLine; decide), fun p hp => k a p hp⟩, fun q => Bool.noConfusion q⟩
theorem pass_wish {K : PySem.W.Frag} {c cls : Value} {i : Nat} {ts : Addr → Value → Option Addr → TS} {Wout : WX} {D : Ends} {σ : L2.St} {H : Hp} {d : Option Addr} (ex : PySem.W.exmOne K cls c = some false) (w : Wout cls d σ H) : wAs K c i ts Wout D cls d σ H :=
  ⟨false, ex, fun q => Bool.noConfusion q, fun _ => w⟩
section
variable {P : Program} {w : World} {K : PySem.W.Frag} {mg : Str → Option Value} {base : Heap}
/-! ### made -/
def spMade : Sp := fun vs H Q _ => ∃ (z : V) (e : PyData) (v : V) (d : PyData), vs = [z, v] ∧ Dv H z e ∧ Dv H v d ∧
  (∀ (n : Nat) (ls : List (List Nat)), e = .int (n : Int) → 1 ≤ n → n ≤ 24 → d = .list (ls.map lotD) → (∀ l ∈ ls, IsLot n l) → ls.length ≤ 60 → ∀ (p : Addr) (H' : Hp), Same H H' → H' p = some (.tup [sz "told", z]) → Q (.ref p) H') ∧
  (bsizeD e = true → (∀ ds, d = .list ds → 60 < ds.length) → ∀ (p : Addr) (H' : Hp), Same H H' → H' p = some (.tup [sz "lots", .int (-1)]) → Q (.ref p) H') ∧
  (∀ (n : Nat) (ds : List PyData), e = .int (n : Int) → 1 ≤ n → n ≤ 24 → d = .list ds → ds.length ≤ 60 → ∀ (j : Nat) (y : PyData), ds[j]? = some y → isLotD (n : Int) y = false → (∀ (m : Nat) (e' : PyData), m < j → ds[m]? = some e' → isLotD (n : Int) e' = true) →
    ∀ (p : Addr) (H' : Hp), Same H H' → H' p = some (.tup [sz "lots", .int (j : Nat)]) → Q (.ref p) H') ∧
  (bsizeD e = false → ∀ (p : Addr) (H' : Hp), Same H H' → H' p = some (.tup [sz "size", z]) → Q (.ref p) H')
theorem scMade : FnScope ["_law_size", "_law_rows", "_law_told", "e"] ["_law_size", "_law_rows"] (defScope s_law_made) := ⟨rfl, rfl, rfl, by decide +kernel, rfl, by decide +kernel, by decide +kernel⟩
theorem ok_law_made {f C CS CL : Addr} {fd : FuncData} (BC : BookC K C) (ES : ErrC P w K mg base "BadSize" CS) (EL : ErrC P w K mg base "BadLots" CL) (nx : PySem.W.exmOne K (.ref CL) (.ref CS) = some false)
    (DMk : MakeOk P w K mg base (L2.CX P w) 7 C "Book" ["self", "size", "rows"] (spBookInit K C CS CL)) (F : FnP K "_law_made" s_law_made f fd) : FnOk P w K mg base CX0 9 f fd ["_law_size", "_law_rows"] spMade := by
  refine F.ok scMade (fun vs H Q E h => ?_) (fun cdv A outer s H vs Q E hr h => ?_)
  · obtain ⟨z, e, v, d, rfl, _⟩ := h
    rfl
  · obtain ⟨z, e, v, d, rfl, he, hd, kY, kL, kE, kS⟩ := h
    refine ⟨_, PSs.nox (pss_cons (ps_set (i := 2) scMade.nd rfl (Or.inl rfl) (pe_tup (pa_cons pe_str (pa_cons pe_non pa_nil))))
      (pss_cons (ps_tryAs (tb := fun W => tAsg (tTup (tCons (tC (sz "told")) (tCons (tFld K (tMakeS C (spBookInit K C CS CL) (WE W) (tCons (tVar 0) (tCons (tVar 1) tNil))) "size") tNil))) (gName 2)) rfl rfl scMade.nd (Wout := fun _ _ _ _ => False) takes0
          (fun W pn xe tk _ => pss_one (ps_set (i := 2) scMade.nd rfl (Or.inl rfl) (by exact (pe_tup (pa_cons pe_str (pa_cons (pe_fld (pe_mkS DMk hr rfl (fun σ => passAt tk σ) (pa_cons (pv 0) (pa_cons (pv 1) pa_nil))) rfl) pa_nil))))))
          (.cons (i := 3) (ts := fun a cls d => tAsg (tTup (tCons (tC (sz "size")) (tCons (tXf a cls d CS "what" (tVar 3)) tNil))) (gName 2)) rfl rfl ⟨rfl, by decide, Or.inl ES.g⟩ (fun a oe cls d pn hz hf => pss_one (ps_set (i := 2) scMade.nd rfl (Or.inl rfl) (by exact (pe_tup (pa_cons pe_str (pa_cons (pe_xf ES.xf ES.noW hz hf (pv 3)) pa_nil))))))
          (.cons (i := 3) (ts := fun a cls d => tAsg (tTup (tCons (tC (sz "lots")) (tCons (tXf a cls d CL "what" (tVar 3)) tNil))) (gName 2)) rfl rfl ⟨rfl, by decide, Or.inl EL.g⟩ (fun a oe cls d pn hz hf => pss_one (ps_set (i := 2) scMade.nd rfl (Or.inl rfl) (by exact (pe_tup (pa_cons pe_str (pa_cons (pe_xf EL.xf EL.noW hz hf (pv 3)) pa_nil))))))
          .nil)))
      (pss_one (ps_ret (pv 2))))), ?_⟩
    refine ⟨(by show 2 ≤ sizeLine; decide), fun p0 hp0 => ?_⟩
    have s0 : Same H (upd H p0 (.tup [sz "told", .non])) := Same.new (Same.refl H) hp0
    generalize upd H p0 (.tup [sz "told", .non]) = H0 at s0
    refine ⟨_, rfl, _, rfl, ?_⟩
    refine mk_any (Dv.mono s0 e z he) (Dv.mono s0 d v hd) (fun n ls en h1 h2 ed hls hl x H1 hx s1 bk => ?_) (fun hb hl x H1 s1 hx => ?_) (fun n ds en h1 h2 ed hl j y hj hb hm x H1 s1 hx => ?_) (fun hb x H1 s1 hx => ?_)
    · obtain ⟨dx, t, g1, g2⟩ := bk
      refine ⟨x, C, dx, _, _, rfl, g1, BC.cls, BC.nSize, rfl, (by show 2 ≤ sizeLine; decide), fun p hp => ⟨_, rfl, ?_⟩⟩
      have ez : z = .int (n : Int) := by
        subst en
        cases he; rfl
      subst ez
      exact kY n ls en h1 h2 ed hls hl p _ (s0.trans (Same.new s1 hp)) upd_same
    · refine pass_wish nx (err_wish EL.exm upd_same (fun _ => rfl) fun a p hp => ⟨_, rfl, ?_⟩)
      exact kL hb hl p _ (s0.trans (Same.new (Same.new s1 hx) hp)) upd_same
    · refine pass_wish nx (err_wish EL.exm upd_same (fun _ => rfl) fun a p hp => ⟨_, rfl, ?_⟩)
      exact kE n ds en h1 h2 ed hl j y hj hb hm p _ (s0.trans (Same.new (Same.new s1 hx) hp)) upd_same
    · refine err_wish ES.exm upd_same (fun _ => rfl) fun a p hp => ⟨_, rfl, ?_⟩
      exact kS hb p _ (s0.trans (Same.new (Same.new s1 hx) hp)) upd_same
/-! ### moved, judged -/
def spLawMoved (C : Addr) : Sp := fun vs H Q _ => ∃ (b : Addr) (n : Nat) (ms : List Nat) (v : V) (d : PyData), vs = [.ref b, v] ∧ BookAt C H b n ms ∧ Red n ms ∧ 1 ≤ n ∧ n ≤ 24 ∧ Dv H v d ∧ (∀ ds, d = .tuple ds → ds.length ≤ 1000) ∧
  (isOrdD n d = false → ∀ (p : Addr) (H' : Hp), Same H H' → H' p = some (.tup [sz "order", v]) → Q (.ref p) H') ∧
  (isOrdD n d = true → ∀ (p : Addr) (H' : Hp), Same H H' → H' p = some (.tup [sz "told", .int (n : Int)]) → Q (.ref p) H')
theorem scLawMoved : FnScope ["_law_book", "_law_order_here", "_law_told", "e"] ["_law_book", "_law_order_here"] (defScope s_law_moved) := ⟨rfl, rfl, rfl, by decide +kernel, rfl, by decide +kernel, by decide +kernel⟩
theorem ok_law_moved {f C CO : Addr} {fd : FuncData} (BC : BookC K C) (EO : ErrC P w K mg base "BadOrder" CO) (DM : MethOk P w K mg base (L2.CX P w) 10 C "moved" ["self", "order"] (spMoved C CO)) (F : FnP K "_law_moved" s_law_moved f fd) :
    FnOk P w K mg base CX0 12 f fd ["_law_book", "_law_order_here"] (spLawMoved C) := by
  refine F.ok scLawMoved (fun vs H Q E h => ?_) (fun cdv A outer s H vs Q E hr h => ?_)
  · obtain ⟨b, n, ms, v, d, rfl, _⟩ := h
    rfl
  · obtain ⟨b, n, ms, v, d, rfl, hb, hR, hn1, hn, hd, hz, kN, kY⟩ := h
    refine ⟨_, PSs.nox (pss_cons (ps_set (i := 2) scLawMoved.nd rfl (Or.inl rfl) (pe_tup (pa_cons pe_str (pa_cons pe_non pa_nil))))
      (pss_cons (ps_tryAs (tb := fun W => tAsg (tTup (tCons (tC (sz "told")) (tCons (tFld K (tMethS C "moved" (spMoved C CO) (WE W) (tVar 0) (tCons (tVar 1) tNil)) "size") tNil))) (gName 2)) rfl rfl scLawMoved.nd (Wout := fun _ _ _ _ => False) takes0
          (fun W pn xe tk _ => pss_one (ps_set (i := 2) scLawMoved.nd rfl (Or.inl rfl) (by exact (pe_tup (pa_cons pe_str (pa_cons (pe_fld (pe_mS DM BC.cls (pv 0) hr (fun σ => passAt tk σ) (pa_cons (pv 1) pa_nil)) rfl) pa_nil))))))
          (.cons (i := 3) (ts := fun a cls d => tAsg (tTup (tCons (tC (sz "order")) (tCons (tXf a cls d CO "what" (tVar 3)) tNil))) (gName 2)) rfl rfl ⟨rfl, by decide, Or.inl EO.g⟩ (fun a oe cls d pn hz hf => pss_one (ps_set (i := 2) scLawMoved.nd rfl (Or.inl rfl) (by exact (pe_tup (pa_cons pe_str (pa_cons (pe_xf EO.xf EO.noW hz hf (pv 3)) pa_nil))))))
          .nil))
      (pss_one (ps_ret (pv 2))))), ?_⟩
    refine ⟨(by show 2 ≤ sizeLine; decide), fun p0 hp0 => ?_⟩
    have s0 : Same H (upd H p0 (.tup [sz "told", .non])) := Same.new (Same.refl H) hp0
    generalize upd H p0 (.tup [sz "told", .non]) = H0 at s0
    have hb0 := hb.same s0
    have hb1 := hb0
    obtain ⟨dx, t, g1, g2⟩ := hb0
    refine ⟨_, rfl, b, dx, _, rfl, g1, rfl, _, rfl, b, n, ms, v, d, rfl, hb1, hR, hn1, hn, Dv.mono s0 d v hd, hz, fun e x H1 s1 hx => ?_, fun l e pl x H1 hx s1 bk => ?_⟩
    · refine err_wish EO.exm upd_same (fun _ => rfl) fun a p hp => ⟨_, rfl, ?_⟩
      exact kN e p _ (s0.trans (Same.new (Same.new s1 hx) hp)) upd_same
    · obtain ⟨dy, u, h1, h2⟩ := bk
      refine ⟨x, C, dy, _, _, rfl, h1, BC.cls, BC.nSize, rfl, (by show 2 ≤ sizeLine; decide), fun p hp => ⟨_, rfl, ?_⟩⟩
      exact kY (by rw [e]; exact isOrdD_of pl) p _ (s0.trans (Same.new s1 hp)) upd_same
end
end BT

set_option Elab.async false
set_option linter.all false
set_option maxRecDepth 100000
set_option maxHeartbeats 4000000
set_option exponentiation.threshold 2000
namespace BT
open PySem PySem.Spec PyProof.Rows L2
theorem which_if {i k : Int} {A B : Prop} (h1 : i = k → A) (h2 : i ≠ k → B) : if decide (V.int i = V.int k) = true then A else B := by
  by_cases h : i = k
  · rw [if_pos (decide_eq_true (by rw [h]))]; exact h1 h
  · rw [if_neg (fun q => h (by have q := of_decide_eq_true q; injection q))]; exact h2 h
section
variable {P : Program} {w : World} {K : PySem.W.Frag} {mg : Str → Option Value} {base : Heap}
/-- which == k -/
def qW (j : Nat) (k : Int) : TT := tTest (tOp rEq (tVar j) (tC (.int k)))
/-! ### asked -/
def spAsked (C : Addr) : Sp := fun vs H Q _ => ∃ (b : Addr) (n : Nat) (ms : List Nat) (i : Int) (v : V) (d : PyData) (g : V) (e : PyData), vs = [.ref b, .int i, v, g] ∧ BookAt C H b n ms ∧ Red n ms ∧ 1 ≤ n ∧ n ≤ 24 ∧ 0 ≤ i ∧ i ≤ 9 ∧ (i = 8 → n < 24) ∧ Dv H v d ∧ Dv H g e ∧
  (i = 2 → isLotD (n : Int) d = true → isLotD (n : Int) e = true) ∧ (i = 3 → isLotD (n : Int) e = true) ∧
  ((i = 9 → isLotD (ms.length : Int) d = false) → (i ≠ 9 → isLotD (n : Int) d = false ∨ ((i = 6 ∨ i = 7) ∧ d = lotD [])) → ∀ (p : Addr) (H' : Hp), Same H H' → H' p = some (.tup [sz "lot", v]) → Q (.ref p) H') ∧
  ((i = 9 → isLotD (ms.length : Int) d = true) → (i ≠ 9 → isLotD (n : Int) d = true ∧ ((i = 6 ∨ i = 7) → d ≠ lotD [])) → ∀ (p : Addr) (H' : Hp), Same H H' → H' p = some (.tup [sz "told", .non]) → Q (.ref p) H')
theorem scAsked : FnScope ["_law_book", "_law_which", "_law_value", "_law_good", "_law_told", "e"] ["_law_book", "_law_which", "_law_value", "_law_good"] (defScope s_law_asked) := ⟨rfl, rfl, rfl, by decide +kernel, rfl, by decide +kernel, by decide +kernel⟩
theorem ok_law_asked {f C CL CT : Addr} {fd : FuncData} (BC : BookC K C) (EL : ErrC P w K mg base "BadLot" CL)
    (D0 : MethOk P w K mg base (L2.CX P w) 6 C "holds" ["self", "word"] (spHoldsB C CL)) (D1 : MethOk P w K mg base (L2.CX P w) 6 C "is_check" ["self", "lot"] (spIsCheck C CL)) (D2 : MethOk P w K mg base (L2.CX P w) 7 C "tell_same" ["self", "one", "other"] (spTellSame C CL))
    (D4 : MethOk P w K mg base (L2.CX P w) 10 C "within" ["self", "part"] (spLotBook C CL fun n ms l => (n, withinF ms l))) (D5 : MethOk P w K mg base (L2.CX P w) 10 C "shown" ["self", "part"] (spLotBook C CL fun n ms l => (n, shownF ms l)))
    (D6 : MethOk P w K mg base (L2.CX P w) 10 C "on" ["self", "part"] (spPlacesBook C CL onF)) (D7 : MethOk P w K mg base (L2.CX P w) 11 C "under" ["self", "part"] (spPlacesBook C CL underF)) (D8 : MethOk P w K mg base (L2.CX P w) 10 C "with_sum" ["self", "lot"] (spWithSum C CL CT))
    (D9 : MethOk P w K mg base (L2.CX P w) 6 C "word_of" ["self", "numbers"] (spWordOf C CL)) (F : FnP K "_law_asked" s_law_asked f fd) : FnOk P w K mg base CX0 13 f fd ["_law_book", "_law_which", "_law_value", "_law_good"] (spAsked C) := by
  refine F.ok scAsked (fun vs H Q E h => ?_) (fun cdv A outer s H vs Q E hr h => ?_)
  · obtain ⟨b, n, ms, i, v, d, g, e, rfl, _⟩ := h
    rfl
  · obtain ⟨b, n, ms, i, v, d, g, e, rfl, hb, hR, hn1, hn, i0, i9, i8, hd, he, i2, i3, kB, kG⟩ := h
    refine ⟨_, PSs.nox (pss_cons (ps_set (i := 4) scAsked.nd rfl (Or.inl rfl) (pe_tup (pa_cons pe_str (pa_cons pe_non pa_nil))))
      (pss_cons (ps_tryAs (tb := fun W => tIfS (qW 1 0) (tDrop (tMethS C "holds" (spHoldsB C CL) (WE W) (tVar 0) (tCons (tVar 2) tNil)))
            (tIfS (qW 1 1) (tDrop (tMethS C "is_check" (spIsCheck C CL) (WE W) (tVar 0) (tCons (tVar 2) tNil)))
            (tIfS (qW 1 2) (tDrop (tMethS C "tell_same" (spTellSame C CL) (WE W) (tVar 0) (tCons (tVar 2) (tCons (tVar 3) tNil))))
            (tIfS (qW 1 3) (tDrop (tMethS C "tell_same" (spTellSame C CL) (WE W) (tVar 0) (tCons (tVar 3) (tCons (tVar 2) tNil))))
            (tIfS (qW 1 4) (tDrop (tMethS C "within" (spLotBook C CL fun n ms l => (n, withinF ms l)) (WE W) (tVar 0) (tCons (tVar 2) tNil)))
            (tIfS (qW 1 5) (tDrop (tMethS C "shown" (spLotBook C CL fun n ms l => (n, shownF ms l)) (WE W) (tVar 0) (tCons (tVar 2) tNil)))
            (tIfS (qW 1 6) (tDrop (tMethS C "on" (spPlacesBook C CL onF) (WE W) (tVar 0) (tCons (tVar 2) tNil)))
            (tIfS (qW 1 7) (tDrop (tMethS C "under" (spPlacesBook C CL underF) (WE W) (tVar 0) (tCons (tVar 2) tNil)))
            (tIfS (qW 1 8) (tDrop (tMethS C "with_sum" (spWithSum C CL CT) (WE W) (tVar 0) (tCons (tVar 2) tNil)))
              (tDrop (tMethS C "word_of" (spWordOf C CL) (WE W) (tVar 0) (tCons (tVar 2) tNil)))))))))))) rfl rfl scAsked.nd (Wout := fun _ _ _ _ => False) takes0
          (fun W pn xe tk _ => pss_one (ps_if (by exact (pt_cmpR op_eq (pv 1) pe_int (nomark _))) (pss_one (ps_expr (by exact (pe_mS D0 BC.cls (pv 0) hr (fun σ => passAt tk σ) (pa_cons (pv 2) pa_nil)))))
            (pss_one (ps_if (by exact (pt_cmpR op_eq (pv 1) pe_int (nomark _))) (pss_one (ps_expr (by exact (pe_mS D1 BC.cls (pv 0) hr (fun σ => passAt tk σ) (pa_cons (pv 2) pa_nil)))))
            (pss_one (ps_if (by exact (pt_cmpR op_eq (pv 1) pe_int (nomark _))) (pss_one (ps_expr (by exact (pe_mS D2 BC.cls (pv 0) hr (fun σ => passAt tk σ) (pa_cons (pv 2) (pa_cons (pv 3) pa_nil))))))
            (pss_one (ps_if (by exact (pt_cmpR op_eq (pv 1) pe_int (nomark _))) (pss_one (ps_expr (by exact (pe_mS D2 BC.cls (pv 0) hr (fun σ => passAt tk σ) (pa_cons (pv 3) (pa_cons (pv 2) pa_nil))))))
            (pss_one (ps_if (by exact (pt_cmpR op_eq (pv 1) pe_int (nomark _))) (pss_one (ps_expr (by exact (pe_mS D4 BC.cls (pv 0) hr (fun σ => passAt tk σ) (pa_cons (pv 2) pa_nil)))))
            (pss_one (ps_if (by exact (pt_cmpR op_eq (pv 1) pe_int (nomark _))) (pss_one (ps_expr (by exact (pe_mS D5 BC.cls (pv 0) hr (fun σ => passAt tk σ) (pa_cons (pv 2) pa_nil)))))
            (pss_one (ps_if (by exact (pt_cmpR op_eq (pv 1) pe_int (nomark _))) (pss_one (ps_expr (by exact (pe_mS D6 BC.cls (pv 0) hr (fun σ => passAt tk σ) (pa_cons (pv 2) pa_nil)))))
            (pss_one (ps_if (by exact (pt_cmpR op_eq (pv 1) pe_int (nomark _))) (pss_one (ps_expr (by exact (pe_mS D7 BC.cls (pv 0) hr (fun σ => passAt tk σ) (pa_cons (pv 2) pa_nil)))))
            (pss_one (ps_if (by exact (pt_cmpR op_eq (pv 1) pe_int (nomark _))) (pss_one (ps_expr (by exact (pe_mS D8 BC.cls (pv 0) hr (fun σ => passAt tk σ) (pa_cons (pv 2) pa_nil)))))
              (pss_one (ps_expr (by exact (pe_mS D9 BC.cls (pv 0) hr (fun σ => passAt tk σ) (pa_cons (pv 2) pa_nil)))))))))))))))))))))))
          (.cons (i := 5) (ts := fun a cls d => tAsg (tTup (tCons (tC (sz "lot")) (tCons (tXf a cls d CL "what" (tVar 5)) tNil))) (gName 4)) rfl rfl ⟨rfl, by decide, Or.inl EL.g⟩ (fun a oe cls d pn hz hf => pss_one (ps_set (i := 4) scAsked.nd rfl (Or.inl rfl) (by exact (pe_tup (pa_cons pe_str (pa_cons (pe_xf EL.xf EL.noW hz hf (pv 5)) pa_nil))))))
          .nil))
      (pss_one (ps_ret (pv 4))))), ?_⟩
    refine ⟨(by show 2 ≤ sizeLine; decide), fun p0 hp0 => ?_⟩
    have s0 : Same H (upd H p0 (.tup [sz "told", .non])) := Same.new (Same.refl H) hp0
    have g0 : (upd H p0 (.tup [sz "told", .non])) p0 = some (.tup [sz "told", .non]) := upd_same
    generalize upd H p0 (.tup [sz "told", .non]) = H0 at s0 g0
    have hb0 := hb.same s0
    have hb1 := hb0
    obtain ⟨dx, t, g1, g2⟩ := hb0
    have hd0 := Dv.mono s0 d v hd
    have he0 := Dv.mono s0 e g he
    have kG' := fun a c (H' : Hp) (s' : Same H0 H') => kG a c p0 H' (s0.trans s') (s' _ _ g0)
    have kB' := fun a c (H' : Hp) (s' : Same H0 H') (x : Addr) (o : HO) (hx : H' x = none) (p : Addr) (hp : upd H' x o p = none) => kB a c p (upd (upd H' x o) p (.tup [sz "lot", v])) (s0.trans (Same.new (Same.new s' hx) hp)) upd_same
    refine ⟨_, rfl, rfl, _, rfl, which_if (fun q => ?_) fun n0 => ⟨_, rfl, rfl, _, rfl, which_if (fun q => ?_) fun n1 => ⟨_, rfl, rfl, _, rfl, which_if (fun q => ?_) fun n2 => ⟨_, rfl, rfl, _, rfl, which_if (fun q => ?_) fun n3 => ⟨_, rfl, rfl, _, rfl, which_if (fun q => ?_) fun n4 =>
      ⟨_, rfl, rfl, _, rfl, which_if (fun q => ?_) fun n5 => ⟨_, rfl, rfl, _, rfl, which_if (fun q => ?_) fun n6 => ⟨_, rfl, rfl, _, rfl, which_if (fun q => ?_) fun n7 => ⟨_, rfl, rfl, _, rfl, which_if (fun q => ?_) fun n8 => ?_⟩⟩⟩⟩⟩⟩⟩⟩⟩
    · subst q
      exact ⟨_, rfl, b, dx, _, rfl, g1, rfl, _, rfl, b, n, ms, v, d, rfl, hb1, hn, hd0, fun q x hx => err_wish EL.exm upd_same (fun _ => rfl) fun a p hp => ⟨_, rfl, kB' (fun z => absurd z (by decide)) (fun _ => .inl q) H0 (Same.refl H0) x _ hx p hp⟩,
        fun l q il => ⟨_, rfl, kG' (fun z => absurd z (by decide)) (fun _ => ⟨by rw [q]; exact isLotD_of il, fun z => absurd z (by decide)⟩) H0 (Same.refl H0)⟩⟩
    · subst q
      exact ⟨_, rfl, b, dx, _, rfl, g1, rfl, _, rfl, b, n, ms, v, d, rfl, hb1, hR, hn, hd0, fun q x hx => err_wish EL.exm upd_same (fun _ => rfl) fun a p hp => ⟨_, rfl, kB' (fun z => absurd z (by decide)) (fun _ => .inl q) H0 (Same.refl H0) x _ hx p hp⟩,
        fun l q il H' s' => ⟨_, rfl, kG' (fun z => absurd z (by decide)) (fun _ => ⟨by rw [q]; exact isLotD_of il, fun z => absurd z (by decide)⟩) H' s'⟩⟩
    · subst q
      exact ⟨_, rfl, b, dx, _, rfl, g1, rfl, _, rfl, _, rfl, b, n, ms, v, d, g, e, rfl, hb1, hR, hn, hd0, he0, fun q x hx => err_wish EL.exm upd_same (fun _ => rfl) fun a p hp => ⟨_, rfl, kB' (fun z => absurd z (by decide)) (fun _ => .inl q) H0 (Same.refl H0) x _ hx p hp⟩,
        fun q1 q2 => absurd (i2 rfl q1) (by rw [q2]; decide), fun l1 l2 q1 q2 il _ H' s' => ⟨_, rfl, kG' (fun z => absurd z (by decide)) (fun _ => ⟨by rw [q1]; exact isLotD_of il, fun z => absurd z (by decide)⟩) H' s'⟩⟩
    · subst q
      exact ⟨_, rfl, b, dx, _, rfl, g1, rfl, _, rfl, _, rfl, b, n, ms, g, e, v, d, rfl, hb1, hR, hn, he0, hd0, fun q => absurd (i3 rfl) (by rw [q]; decide), fun _ q x hx => err_wish EL.exm upd_same (fun _ => rfl) fun a p hp => ⟨_, rfl, kB' (fun z => absurd z (by decide)) (fun _ => .inl q) H0 (Same.refl H0) x _ hx p hp⟩,
        fun l1 l2 q1 q2 _ il H' s' => ⟨_, rfl, kG' (fun z => absurd z (by decide)) (fun _ => ⟨by rw [q2]; exact isLotD_of il, fun z => absurd z (by decide)⟩) H' s'⟩⟩
    · subst q
      exact ⟨_, rfl, b, dx, _, rfl, g1, rfl, _, rfl, b, n, ms, v, d, rfl, hb1, hR, hn1, hn, hd0, fun q x hx => err_wish EL.exm upd_same (fun _ => rfl) fun a p hp => ⟨_, rfl, kB' (fun z => absurd z (by decide)) (fun _ => .inl q) H0 (Same.refl H0) x _ hx p hp⟩,
        fun l q il x H' hx s' bk => ⟨_, rfl, kG' (fun z => absurd z (by decide)) (fun _ => ⟨by rw [q]; exact isLotD_of il, fun z => absurd z (by decide)⟩) H' s'⟩⟩
    · subst q
      exact ⟨_, rfl, b, dx, _, rfl, g1, rfl, _, rfl, b, n, ms, v, d, rfl, hb1, hR, hn1, hn, hd0, fun q x hx => err_wish EL.exm upd_same (fun _ => rfl) fun a p hp => ⟨_, rfl, kB' (fun z => absurd z (by decide)) (fun _ => .inl q) H0 (Same.refl H0) x _ hx p hp⟩,
        fun l q il x H' hx s' bk => ⟨_, rfl, kG' (fun z => absurd z (by decide)) (fun _ => ⟨by rw [q]; exact isLotD_of il, fun z => absurd z (by decide)⟩) H' s'⟩⟩
    · subst q
      exact ⟨_, rfl, b, dx, _, rfl, g1, rfl, _, rfl, b, n, ms, v, d, rfl, hb1, hR, hn1, hn, hd0, fun q x hx => err_wish EL.exm upd_same (fun _ => rfl) fun a p hp => ⟨_, rfl, kB' (fun z => absurd z (by decide)) (fun _ => q.imp id fun z => ⟨.inl rfl, z⟩) H0 (Same.refl H0) x _ hx p hp⟩,
        fun l q il ne x H' hx s' bk => ⟨_, rfl, kG' (fun z => absurd z (by decide)) (fun _ => ⟨by rw [q]; exact isLotD_of il, fun _ z => ne (lots_inj (q.symm.trans z))⟩) H' s'⟩⟩
    · subst q
      exact ⟨_, rfl, b, dx, _, rfl, g1, rfl, _, rfl, b, n, ms, v, d, rfl, hb1, hR, hn1, hn, hd0, fun q x hx => err_wish EL.exm upd_same (fun _ => rfl) fun a p hp => ⟨_, rfl, kB' (fun z => absurd z (by decide)) (fun _ => q.imp id fun z => ⟨.inr rfl, z⟩) H0 (Same.refl H0) x _ hx p hp⟩,
        fun l q il ne x H' hx s' bk => ⟨_, rfl, kG' (fun z => absurd z (by decide)) (fun _ => ⟨by rw [q]; exact isLotD_of il, fun _ z => ne (lots_inj (q.symm.trans z))⟩) H' s'⟩⟩
    · subst q
      exact ⟨_, rfl, b, dx, _, rfl, g1, rfl, _, rfl, b, n, ms, v, d, rfl, hb1, hR, hn1, hn, hd0, fun q x hx => err_wish EL.exm upd_same (fun _ => rfl) fun a p hp => ⟨_, rfl, kB' (fun z => absurd z (by decide)) (fun _ => .inl q) H0 (Same.refl H0) x _ hx p hp⟩,
        fun _ q => absurd (i8 rfl) (by omega), fun l q il _ x H' hx s' bk => ⟨_, rfl, kG' (fun z => absurd z (by decide)) (fun _ => ⟨by rw [q]; exact isLotD_of il, fun z => absurd z (by decide)⟩) H' s'⟩⟩
    · have q : i = 9 := by omega
      subst q
      exact ⟨_, rfl, b, dx, _, rfl, g1, rfl, _, rfl, b, n, ms, v, d, rfl, hb1, hR, hn, hd0, fun q x hx => err_wish EL.exm upd_same (fun _ => rfl) fun a p hp => ⟨_, rfl, kB' (fun _ => q) (fun z => absurd rfl z) H0 (Same.refl H0) x _ hx p hp⟩,
        fun l q il p H' hp s' gp => ⟨_, rfl, kG' (fun _ => by rw [q]; exact isLotD_of il) (fun z => absurd rfl z) H' s'⟩⟩
end
end BT

set_option Elab.async false
set_option linter.all false
set_option maxRecDepth 100000
set_option maxHeartbeats 4000000
set_option exponentiation.threshold 2000
namespace BT
open PySem PySem.Spec PyProof.Rows L2
section
variable {P : Program} {w : World} {K : PySem.W.Frag} {mg : Str → Option Value} {base : Heap}
/-! ### paired -/
/-- what a pair of books is judged by -/
def pairRes (i : Int) (n m k : Nat) : String × Int :=
  if i ≤ 1 then (if n = m then ("told", (n : Int)) else ("unlike", (m : Int)))
  else if i = 2 then (if n + m ≤ 24 then ("told", ((n + m : Nat) : Int)) else ("many", 24))
  else if i = 3 then (if n < 24 then ("told", ((n + 1 : Nat) : Int)) else ("many", 24))
  else (if k ≤ 12 then ("told", ((2 ^ k : Nat) : Int)) else ("many", 4096))
def spPaired (C : Addr) : Sp := fun vs H Q _ => ∃ (b c : Addr) (n m : Nat) (m1 m2 : List Nat) (i : Int), vs = [.ref b, .ref c, .int i] ∧ BookAt C H b n m1 ∧ BookAt C H c m m2 ∧ Red n m1 ∧ Red m m2 ∧ 1 ≤ n ∧ n ≤ 24 ∧ 1 ≤ m ∧ m ≤ 24 ∧ 0 ≤ i ∧ i ≤ 4 ∧
  ∀ (p : Addr) (H' : Hp), Same H H' → H' p = some (.tup [sz (pairRes i n m m1.length).1, .int (pairRes i n m m1.length).2]) → Q (.ref p) H'
abbrev tLen (K : PySem.W.Frag) (te : TE) : TE := tCB (fun xs H Q => ∃ p ys, xs = [.ref p] ∧ (SqL K H p ys ∨ SqT K H p ys) ∧ Q (.int ys.length) H) (tCons te tNil)
abbrev tTold (te : TE) : TS := tAsg (tTup (tCons (tC (sz "told")) (tCons te tNil))) (gName 3)
theorem scPaired : FnScope ["_law_one", "_law_other", "_law_which", "_law_told", "e"] ["_law_one", "_law_other", "_law_which"] (defScope s_law_paired) := ⟨rfl, rfl, rfl, by decide +kernel, rfl, by decide +kernel, by decide +kernel⟩
theorem ok_law_paired {f C CL CT CU : Addr} {fd : FuncData} (T : Bi mg) (BC : BookC K C) (EU : ErrC P w K mg base "Unlike" CU) (ET : ErrC P w K mg base "TooMany" CT) (nx : PySem.W.exmOne K (.ref CT) (.ref CU) = some false)
    (D0 : MethOk P w K mg base (L2.CX P w) 10 C "join" ["self", "other"] (spTwoBooks C CU fun _ => joinF)) (D1 : MethOk P w K mg base (L2.CX P w) 11 C "meet" ["self", "other"] (spTwoBooks C CU meetF)) (D2 : MethOk P w K mg base (L2.CX P w) 10 C "beside" ["self", "other"] (spBeside C CT))
    (D3 : MethOk P w K mg base (L2.CX P w) 10 C "with_sum" ["self", "lot"] (spWithSum C CL CT)) (D4 : MethOk P w K mg base (L2.CX P w) 4 C "words" ["self"] (spWords C CT)) (F : FnP K "_law_paired" s_law_paired f fd) :
    FnOk P w K mg base CX0 13 f fd ["_law_one", "_law_other", "_law_which"] (spPaired C) := by
  refine F.ok scPaired (fun vs H Q E h => ?_) (fun cdv A outer s H vs Q E hr h => ?_)
  · obtain ⟨b, c, n, m, m1, m2, i, rfl, _⟩ := h
    rfl
  · obtain ⟨b, c, n, m, m1, m2, i, rfl, hb, hc, r1, r2, hn1, hn, hm1, hm, i0, i4, k⟩ := h
    refine ⟨_, PSs.nox (pss_cons (ps_set (i := 3) scPaired.nd rfl (Or.inl rfl) (pe_tup (pa_cons pe_str (pa_cons pe_non pa_nil))))
      (pss_cons (ps_tryAs (tb := fun W => tIfS (qW 2 0) (tTold (tFld K (tMethS C "join" (spTwoBooks C CU fun _ => joinF) (WE W) (tVar 0) (tCons (tVar 1) tNil)) "size"))
            (tIfS (qW 2 1) (tTold (tFld K (tMethS C "meet" (spTwoBooks C CU meetF) (WE W) (tVar 0) (tCons (tVar 1) tNil)) "size"))
            (tIfS (qW 2 2) (tTold (tFld K (tMethS C "beside" (spBeside C CT) (WE W) (tVar 0) (tCons (tVar 1) tNil)) "size"))
            (tIfS (qW 2 3) (tTold (tFld K (tMethS C "with_sum" (spWithSum C CL CT) (WE W) (tVar 0) (tCons (tTup tNil) tNil)) "size"))
              (tTold (tLen K (tMethS C "words" (spWords C CT) (WE W) (tVar 0) tNil))))))) rfl rfl scPaired.nd (Wout := fun _ _ _ _ => False) takes0
          (fun W pn xe tk _ => pss_one (ps_if (by exact (pt_cmpR op_eq (pv 2) pe_int (nomark _))) (pss_one (ps_set (i := 3) scPaired.nd rfl (Or.inl rfl) (by exact (pe_tup (pa_cons pe_str (pa_cons (pe_fld (pe_mS D0 BC.cls (pv 0) hr (fun σ => passAt tk σ) (pa_cons (pv 1) pa_nil)) rfl) pa_nil))))))
            (pss_one (ps_if (by exact (pt_cmpR op_eq (pv 2) pe_int (nomark _))) (pss_one (ps_set (i := 3) scPaired.nd rfl (Or.inl rfl) (by exact (pe_tup (pa_cons pe_str (pa_cons (pe_fld (pe_mS D1 BC.cls (pv 0) hr (fun σ => passAt tk σ) (pa_cons (pv 1) pa_nil)) rfl) pa_nil))))))
            (pss_one (ps_if (by exact (pt_cmpR op_eq (pv 2) pe_int (nomark _))) (pss_one (ps_set (i := 3) scPaired.nd rfl (Or.inl rfl) (by exact (pe_tup (pa_cons pe_str (pa_cons (pe_fld (pe_mS D2 BC.cls (pv 0) hr (fun σ => passAt tk σ) (pa_cons (pv 1) pa_nil)) rfl) pa_nil))))))
            (pss_one (ps_if (by exact (pt_cmpR op_eq (pv 2) pe_int (nomark _))) (pss_one (ps_set (i := 3) scPaired.nd rfl (Or.inl rfl) (by exact (pe_tup (pa_cons pe_str (pa_cons (pe_fld (pe_mS D3 BC.cls (pv 0) hr (fun σ => passAt tk σ) (pa_cons (pe_tup pa_nil) pa_nil)) rfl) pa_nil))))))
              (pss_one (ps_set (i := 3) scPaired.nd rfl (Or.inl rfl) (by exact (pe_tup (pa_cons pe_str (pa_cons (pe_callB call_len_seq (by rfl) T.len PySem.boot_len (pa_cons (pe_m0S D4 BC.cls (pv 0) hr (fun σ => passAt tk σ)) pa_nil)) pa_nil))))))))))))))
          (.cons (i := 4) (ts := fun a cls d => tAsg (tTup (tCons (tC (sz "unlike")) (tCons (tXf a cls d CU "what" (tVar 4)) tNil))) (gName 3)) rfl rfl ⟨rfl, by decide, Or.inl EU.g⟩ (fun a oe cls d pn hz hf => pss_one (ps_set (i := 3) scPaired.nd rfl (Or.inl rfl) (by exact (pe_tup (pa_cons pe_str (pa_cons (pe_xf EU.xf EU.noW hz hf (pv 4)) pa_nil))))))
          (.cons (i := 4) (ts := fun a cls d => tAsg (tTup (tCons (tC (sz "many")) (tCons (tXf a cls d CT "what" (tVar 4)) tNil))) (gName 3)) rfl rfl ⟨rfl, by decide, Or.inl ET.g⟩ (fun a oe cls d pn hz hf => pss_one (ps_set (i := 3) scPaired.nd rfl (Or.inl rfl) (by exact (pe_tup (pa_cons pe_str (pa_cons (pe_xf ET.xf ET.noW hz hf (pv 4)) pa_nil))))))
          .nil)))
      (pss_one (ps_ret (pv 3))))), ?_⟩
    refine ⟨(by show 2 ≤ sizeLine; decide), fun p0 hp0 => ?_⟩
    have s0 : Same H (upd H p0 (.tup [sz "told", .non])) := Same.new (Same.refl H) hp0
    generalize upd H p0 (.tup [sz "told", .non]) = H0 at s0
    have hb0 := hb.same s0
    have hb1 := hb0
    have hc1 := hc.same s0
    obtain ⟨dx, t, g1, g2⟩ := hb0
    refine ⟨_, rfl, rfl, _, rfl, which_if (fun q => ?_) fun n0 => ⟨_, rfl, rfl, _, rfl, which_if (fun q => ?_) fun n1 => ⟨_, rfl, rfl, _, rfl, which_if (fun q => ?_) fun n2 => ⟨_, rfl, rfl, _, rfl, which_if (fun q => ?_) fun n3 => ?_⟩⟩⟩⟩
    · subst q
      refine ⟨_, rfl, b, dx, _, rfl, g1, rfl, _, rfl, b, c, n, m, m1, m2, rfl, hb1, hc1, r1, r2, hn1, hn, hm1, hm, fun ne x H1 s1 hx => err_wish EU.exm upd_same (fun _ => rfl) fun a p hp => ⟨_, rfl, ?_⟩, fun e x H1 hx s1 bk => ?_⟩
      · refine k p _ (s0.trans (Same.new (Same.new s1 hx) hp)) ?_
        rw [upd_same]
        simp only [pairRes, if_pos (show (0 : Int) ≤ 1 by decide), if_neg ne]
      · obtain ⟨dy, u, h1, h2⟩ := bk
        refine ⟨x, C, dy, _, _, rfl, h1, BC.cls, BC.nSize, rfl, (by show 2 ≤ sizeLine; decide), fun p hp => ⟨_, rfl, ?_⟩⟩
        refine k p _ (s0.trans (Same.new s1 hp)) ?_
        rw [upd_same]
        simp only [pairRes, if_pos (show (0 : Int) ≤ 1 by decide), if_pos e]
    · subst q
      refine ⟨_, rfl, b, dx, _, rfl, g1, rfl, _, rfl, b, c, n, m, m1, m2, rfl, hb1, hc1, r1, r2, hn1, hn, hm1, hm, fun ne x H1 s1 hx => err_wish EU.exm upd_same (fun _ => rfl) fun a p hp => ⟨_, rfl, ?_⟩, fun e x H1 hx s1 bk => ?_⟩
      · refine k p _ (s0.trans (Same.new (Same.new s1 hx) hp)) ?_
        rw [upd_same]
        simp only [pairRes, if_pos (show (1 : Int) ≤ 1 by decide), if_neg ne]
      · obtain ⟨dy, u, h1, h2⟩ := bk
        refine ⟨x, C, dy, _, _, rfl, h1, BC.cls, BC.nSize, rfl, (by show 2 ≤ sizeLine; decide), fun p hp => ⟨_, rfl, ?_⟩⟩
        refine k p _ (s0.trans (Same.new s1 hp)) ?_
        rw [upd_same]
        simp only [pairRes, if_pos (show (1 : Int) ≤ 1 by decide), if_pos e]
    · subst q
      refine ⟨_, rfl, b, dx, _, rfl, g1, rfl, _, rfl, b, c, n, m, m1, m2, rfl, hb1, hc1, r1, r2, hn1, hn, hm1, hm, fun ne x hx => pass_wish nx (err_wish ET.exm upd_same (fun _ => rfl) fun a p hp => ⟨_, rfl, ?_⟩), fun e x H1 hx s1 bk => ?_⟩
      · refine k p _ (s0.trans (Same.new (Same.new (Same.refl _) hx) hp)) ?_
        rw [upd_same]
        simp only [pairRes, if_neg (show ¬ (2 : Int) ≤ 1 by decide), if_true, if_neg (show ¬ n + m ≤ 24 by omega)]
      · obtain ⟨dy, u, h1, h2⟩ := bk
        refine ⟨x, C, dy, _, _, rfl, h1, BC.cls, BC.nSize, rfl, (by show 2 ≤ sizeLine; decide), fun p hp => ⟨_, rfl, ?_⟩⟩
        refine k p _ (s0.trans (Same.new s1 hp)) ?_
        rw [upd_same]
        simp only [pairRes, if_neg (show ¬ (2 : Int) ≤ 1 by decide), if_true, if_pos e]
    · subst q
      refine ⟨_, rfl, b, dx, _, rfl, g1, rfl, (by show 0 ≤ sizeLine; decide), fun t0 ht0 => ?_⟩
      have s9 := Same.new (Same.refl H0) (o := .tup []) ht0
      have e0 : isLotD (n : Int) (lotD []) = true := isLotD_of ⟨.nil, fun p hp => (nomatch hp)⟩
      refine ⟨b, n, m1, .ref t0, lotD [], rfl, hb1.same s9, r1, hn1, hn, .tup upd_same .nil, fun e => (by rw [e0] at e; cases e), fun _ e x hx => pass_wish nx (err_wish ET.exm upd_same (fun _ => rfl) fun a p hp => ⟨_, rfl, ?_⟩), fun l _ _ e x H1 hx s1 bk => ?_⟩
      · refine k p _ (s0.trans (s9.trans (Same.new (Same.new (Same.refl _) hx) hp))) ?_
        rw [upd_same]
        simp only [pairRes, if_neg (show ¬ (3 : Int) ≤ 1 by decide), if_neg (show ¬ (3 : Int) = 2 by decide), if_true, if_neg (show ¬ n < 24 by omega)]
      · obtain ⟨dy, u, h1, h2⟩ := bk
        refine ⟨x, C, dy, _, _, rfl, h1, BC.cls, BC.nSize, rfl, (by show 2 ≤ sizeLine; decide), fun p hp => ⟨_, rfl, ?_⟩⟩
        refine k p _ (s0.trans (s9.trans (Same.new s1 hp))) ?_
        rw [upd_same]
        simp only [pairRes, if_neg (show ¬ (3 : Int) ≤ 1 by decide), if_neg (show ¬ (3 : Int) = 2 by decide), if_true, if_pos e]
    · have q : i = 4 := by omega
      subst q
      refine ⟨_, rfl, b, dx, _, rfl, g1, rfl, b, n, m1, rfl, hb1, r1, hn, fun e x hx => pass_wish nx (err_wish ET.exm upd_same (fun _ => rfl) fun a p hp => ⟨_, rfl, ?_⟩), fun e D H1 xs hD s1 gD hA => ?_⟩
      · refine k p _ (s0.trans (Same.new (Same.new (Same.refl _) hx) hp)) ?_
        rw [upd_same]
        simp only [pairRes, if_neg (show ¬ (4 : Int) ≤ 1 by decide), if_neg (show ¬ (4 : Int) = 2 by decide), if_neg (show ¬ (4 : Int) = 3 by decide), if_neg (show ¬ m1.length ≤ 12 by omega)]
      · refine ⟨D, xs, rfl, .inl (.inl (.inl gD)), (by show 2 ≤ sizeLine; decide), fun p hp => ⟨_, rfl, ?_⟩⟩
        refine k p _ (s0.trans (Same.new s1 hp)) ?_
        have hl := DvA.length hA
        rw [wordsF_len] at hl
        rw [upd_same, hl]
        simp only [pairRes, if_neg (show ¬ (4 : Int) ≤ 1 by decide), if_neg (show ¬ (4 : Int) = 2 by decide), if_neg (show ¬ (4 : Int) = 3 by decide), if_pos e]
end
end BT

set_option Elab.async false
set_option linter.all false
set_option maxRecDepth 100000
set_option maxHeartbeats 4000000
set_option exponentiation.threshold 2000
namespace BT
open PySem PySem.Spec PyProof.Rows L2
theorem perm_ins {n : Nat} {ol : List Nat} (h : ol.Perm (List.range n)) (j : Nat) : (ol.take j ++ [n] ++ ol.drop j).Perm (List.range (n + 1)) := by
  rw [List.range_succ, List.append_assoc]
  have e : (ol.take j ++ ([n] ++ ol.drop j)).Perm ([n] ++ (ol.take j ++ ol.drop j)) := by
    rw [← List.append_assoc, ← List.append_assoc]
    exact List.perm_append_comm.append_right _
  rw [List.take_append_drop] at e
  exact e.trans ((List.perm_append_comm).trans (h.append_right _))
/-- no order -/
theorem ord_facts {n : Nat} {ds : List PyData} (h : isOrdD n (.tuple ds) = true) : ds.length = n ∧ (∀ d ∈ ds, ∃ p : Nat, d = .int (p : Int) ∧ p < n) ∧ ds.Nodup := by
  obtain ⟨l, e, pl⟩ := isOrdD_inv h
  injection e with e
  subst e
  refine ⟨by rw [List.length_map, pl.length_eq, List.length_range], fun d hd => ?_, ?_⟩
  · obtain ⟨p, hp, rfl⟩ := List.mem_map.mp hd
    exact ⟨p, rfl, List.mem_range.mp (pl.mem_iff.mp hp)⟩
  · have nd : l.Nodup := pl.nodup_iff.mpr List.nodup_range
    rw [List.nodup_iff_pairwise_ne, List.pairwise_map]
    exact (List.nodup_iff_pairwise_ne.mp nd).imp fun {a b} q z => q (by injection z with z; exact Int.ofNat.inj z)
theorem not_ord {n : Nat} {ds : List PyData} (h : isOrdD n (.tuple ds) = true → False) : isOrdD n (.tuple ds) = false := by
  cases e : isOrdD n (.tuple ds) with
  | false => rfl
  | true => exact (h e).elim
section
variable {P : Program} {w : World} {K : PySem.W.Frag} {mg : Str → Option Value} {base : Heap}
/-! ### order -/
def spOrder : Sp := fun vs H Q _ => ∃ (l a : Addr) (n : Nat), vs = [.ref a, .int (n : Int)] ∧ n ≤ 1000 ∧ Src l a H ∧ ∀ (p : Addr) (H' : Hp) (ol : List Nat), H p = none → Keeps l a H H' → H' p = some (.lst (lotV ol)) → ol.Perm (List.range n) → Q (.ref p) H'
theorem scOrder : FnScope ["_law_source_here", "_law_size", "_law_order_here", "_law_place", "_law_at"] ["_law_source_here", "_law_size"] (defScope s_law_order) := ⟨rfl, rfl, rfl, by decide +kernel, rfl, by decide +kernel, by decide +kernel⟩
theorem ok_law_order {f : Addr} {fd : FuncData} (T : Bi mg) (DD : DefOk P w K mg base CX0 2 "_law_draw" ["_law_source_here", "_law_many"] spDraw) (F : FnP K "_law_order" s_law_order f fd) : FnOk P w K mg base CX0 3 f fd ["_law_source_here", "_law_size"] spOrder := by
  refine F.ok scOrder (fun vs H Q E h => ?_) (fun cdv A outer s H vs Q E hr h => ?_)
  · obtain ⟨l, a, n, rfl, _⟩ := h
    rfl
  · obtain ⟨l, a, n, rfl, hn, hS, k⟩ := h
    refine ⟨_, PSs.nox (pss_cons (ps_set (i := 2) scOrder.nd rfl (Or.inl rfl) (pe_lst pa_nil))
      (pss_cons (ps_for PassesOwn.never rfl (pi_range1 rfl T.range (pa_cons (pv 1) pa_nil)) (pg_name (i := 3) scOrder.nd rfl (Or.inl rfl))
        (pss_cons (ps_set (i := 4) scOrder.nd rfl (Or.inl rfl) (pe_d DD hr rfl (pa_cons (pv 0) (pa_cons (pe_op op_add (pv 3) pe_int) pa_nil))))
        (pss_one (ps_set (i := 2) scOrder.nd rfl (Or.inl rfl) (pe_op op_cat (pe_op op_cat (pe_slice sl_list (pv 2) po_none (po_some (pv 4))) (pe_lst (pa_cons (pv 3) pa_nil))) (pe_slice sl_list (pv 2) (po_some (pv 4)) po_none))))))
      (pss_one (ps_ret (pv 2))))), ?_⟩
    refine ⟨(by show 0 ≤ sizeLine; decide), fun p0 hp0 => ?_⟩
    have n0 := hS.free_ne hp0
    refine ⟨_, rfl, _, rfl, by omega, by omega, for_range (lo := 0) (n := n) (fun j σ G => Keeps l a H G ∧ ∃ (p : Addr) (ol : List Nat) (y z : Option V), σ = [some (.ref a), some (.int (n : Int)), some (.ref p), y, z] ∧ H p = none ∧ G p = some (.lst (lotV ol)) ∧ ol.Perm (List.range j)) ?_ ?_ ?_⟩
    · exact ⟨(Keeps.refl hS).own hS hp0, p0, [], none, none, rfl, hp0, upd_same, .refl _⟩
    · rintro j σ G hj ⟨k1, p, ol, y, z, rfl, fp, gp, pl⟩
      have ll : ol.length = j := by rw [pl.length_eq, List.length_range]
      refine ⟨_, rfl, _, rfl, _, _, rfl, rfl, l, a, (j : Int) + 1, ?_, by omega, by omega, k1.src, fun v G1 v0 v1 k2 => ?_⟩
      · show [V.ref a, V.int (0 + (j : Int) + 1)] = _
        rw [Int.zero_add]
      obtain ⟨at_, rfl⟩ := Int.eq_ofNat_of_zero_le v0
      have hat : at_ ≤ ol.length := by omega
      have hatx : at_ ≤ (lotV ol).length := by rw [lotV_len]; exact hat
      have np := hS.free_ne fp
      have gp := k2.same _ _ np.1 gp
      have k12 := k1.trans k2
      refine ⟨_, rfl, _, rfl, _, rfl, cutl_to gp hatx fun p1 hp1 => ⟨_, rfl, (by show 1 ≤ sizeLine; decide), fun p2 hp2 => ⟨p1, p2, _, _, rfl, rfl, (Same.new (Same.refl _) hp2) _ _ upd_same, upd_same, (by rw [List.length_take, lotV_len, List.length_singleton, sizeLine_eq]; omega), fun p3 hp3 => ?_⟩⟩⟩
      have s3 := Same.new (Same.new (Same.new (Same.refl G1) (o := .lst ((lotV ol).take at_)) hp1) (o := .lst [.int (0 + (j : Int))]) hp2) (o := .lst ((lotV ol).take at_ ++ [.int (0 + (j : Int))])) hp3
      refine ⟨_, rfl, _, rfl, _, rfl, no_part (cutl_from (s3 _ _ gp) hatx fun p4 hp4 => ⟨p3, p4, _, _, rfl, rfl, (Same.new (Same.refl _) hp4) _ _ upd_same, upd_same, (by rw [List.length_append, List.length_take, List.length_drop, List.length_singleton, lotV_len, sizeLine_eq]; omega), fun p5 hp5 => ?_⟩)⟩
      have s4 := Same.new (Same.new s3 (o := .lst ((lotV ol).drop at_)) hp4) (o := .lst ((lotV ol).take at_ ++ [.int (0 + (j : Int))] ++ (lotV ol).drop at_)) hp5
      have f5 : H p5 = none := k12.free hS ((Same.new s3 (o := .lst ((lotV ol).drop at_)) hp4).free hp5)
      refine ⟨keepS k12 s4, p5, ol.take at_ ++ [j] ++ ol.drop at_, _, _, rfl, f5, ?_, perm_ins pl at_⟩
      rw [upd_same, Int.zero_add]
      unfold lotV
      rw [List.map_append, List.map_append, List.map_take, List.map_drop]
      rfl
    · rintro σ G ⟨k1, p, ol, y, z, rfl, fp, gp, pl⟩
      exact ⟨_, rfl, k p G ol fp k1 gp pl⟩
end
end BT

set_option Elab.async false
set_option linter.all false
set_option maxRecDepth 100000
set_option maxHeartbeats 4000000
set_option exponentiation.threshold 2000
namespace BT
open PySem PySem.Spec PyProof.Rows L2
abbrev natD (l : List Nat) : List PyData := l.map fun p : Nat => PyData.int (p : Int)
theorem cutl_fromZ {K : PySem.W.Frag} {H : Hp} {a : Addr} {xs : List V} {j : Nat} {z : Int} {Q : VK} (ha : H a = some (.lst xs)) (ez : z = (j : Int)) (hj : j ≤ xs.length) (k : ∀ p, H p = none → Q (.ref p) (upd H p (.lst (xs.drop j)))) : rSlL K (.ref a) (some z) none H Q := by
  subst ez; exact cutl_from ha hj k
theorem it_nats {l : List Nat} (h : ∀ p ∈ l, p < 1000) : ∀ d ∈ natD l, It1 d := fun d hd => by
  obtain ⟨p, hp, rfl⟩ := List.mem_map.mp hd
  exact it_int (nat_small (h p hp))
theorem nat_atI {ol : List Nat} {j : Nat} (h : j < ol.length) : atI (lotV ol) (j : Int) = some (.int (ol[j] : Nat)) := by
  unfold atI ixN
  rw [if_pos (by omega), if_pos (by rw [lotV_len]; omega)]
  show (lotV ol)[((j : Int)).toNat]? = _
  rw [Int.toNat_natCast]
  unfold lotV
  rw [List.getElem?_map, List.getElem?_eq_getElem h]; rfl
/-- the middle changed -/
theorem three_no {n : Nat} {ol : List Nat} {j : Nat} {d : PyData} (h : ∀ p : Nat, p < n → d ≠ .int (p : Int)) : isOrdD n (.tuple (natD (ol.take j) ++ [d] ++ natD (ol.drop (j + 1)))) = false := not_ord fun e => by
  obtain ⟨_, f, _⟩ := ord_facts e
  obtain ⟨p, rfl, hp⟩ := f d (List.mem_append_left _ (List.mem_append_right _ (List.mem_singleton.mpr rfl)))
  exact h p hp rfl
theorem twice_no {n : Nat} {ol : List Nat} {j : Nat} (h0 : 0 < j) (h : 0 < ol.length) : isOrdD n (.tuple (natD (ol.take j) ++ [.int (ol[0] : Nat)] ++ natD (ol.drop (j + 1)))) = false := not_ord fun e => by
  obtain ⟨_, _, nd⟩ := ord_facts e
  have nd2 := (List.nodup_append.mp nd).1
  obtain ⟨_, _, dis⟩ := List.nodup_append.mp nd2
  refine dis (.int (ol[0] : Nat)) ?_ _ (List.mem_singleton.mpr rfl) rfl
  refine List.mem_map.mpr ⟨ol[0], ?_, rfl⟩
  cases ol with
  | nil => cases h
  | cons x ol =>
    cases j with
    | zero => cases h0
    | succ j => exact List.mem_cons_self ..
theorem short_no {n : Nat} {ol : List Nat} {j : Nat} (hl : ol.length = n) (h : j < ol.length) : isOrdD n (.tuple (natD (ol.take j) ++ natD (ol.drop (j + 1)))) = false := not_ord fun e => by
  obtain ⟨f, _, _⟩ := ord_facts e
  rw [List.length_append, List.length_map, List.length_map, List.length_take, List.length_drop] at f
  omega
theorem mem_no {n : Nat} {ds : List PyData} {d : PyData} (hd : d ∈ ds) (h : ∀ p : Nat, d ≠ .int (p : Int)) : isOrdD n (.tuple ds) = false := not_ord fun e => by
  obtain ⟨_, f, _⟩ := ord_facts e
  obtain ⟨p, rfl, _⟩ := f d hd
  exact h p rfl
section
variable {P : Program} {w : World} {K : PySem.W.Frag} {mg : Str → Option Value} {base : Heap}
/-! ### bad_order -/
/-- what is told of a wrong order -/
def KBad (l a : Addr) (n : Nat) (H : Hp) (Q : VK) : Prop := ∀ (v : V) (d : PyData) (H' : Hp), Keeps l a H H' → Dv (L2.del H' a) v d → isOrdD n d = false → Sm 5000 d → (∀ ds, d = .tuple ds → ds.length ≤ 1000) → Q v H'
def spBadOrder : Sp := fun vs H Q _ => ∃ (l a L : Addr) (n : Nat) (ol : List Nat), vs = [.ref a, .ref L] ∧ L ≠ a ∧ H L = some (.lst (lotV ol)) ∧ ol.Perm (List.range n) ∧ 1 ≤ n ∧ n ≤ 24 ∧ Src l a H ∧ KBad l a n H Q
theorem bad_fin {l a : Addr} {n : Nat} {H G G' : Hp} {Q : VK} {t : Addr} {xs : List V} {ds : List PyData} (k : KBad l a n H Q) (kk : Keeps l a H G) (s : Same G G') (ht : G' t = none) (hA : ∀ Hx, DvA Hx xs ds) (hn : isOrdD n (.tuple ds) = false) (it : ∀ d ∈ ds, It1 d) (hl : ds.length ≤ 30) : Q (.ref t) (upd G' t (.tup xs)) := by
  have kt := keepS kk (Same.new s (o := .tup xs) ht)
  exact k _ _ _ kt (kt.src.dv_tup upd_same (hA _)) hn ((sm_items hl it).1.mono (by decide)) fun ds' e => by
    injection e with e; subst e; omega
theorem three_fin {l a : Addr} {n j : Nat} {H G G' : Hp} {Q : VK} {t : Addr} {ol : List Nat} {x : V} {d : PyData} (k : KBad l a n H Q) (kk : Keeps l a H G) (s : Same G G') (ht : G' t = none) (hx : ∀ Hx, Dv Hx x d) (hn : isOrdD n (.tuple (natD (ol.take j) ++ [d] ++ natD (ol.drop (j + 1)))) = false) (it : It1 d) (ho : ∀ p ∈ ol, p < 1000) (hl : ol.length ≤ 24) :
    Q (.ref t) (upd G' t (.tup ((lotV ol).take j ++ [x] ++ (lotV ol).drop (j + 1)))) := by
  rw [lotV_take, lotV_drop]
  refine bad_fin k kk s ht (fun Hx => ((lotA Hx _).append (.cons (hx Hx) .nil)).append (lotA Hx _)) hn (fun y hy => ?_) ?_
  · rcases List.mem_append.mp hy with hy | hy
    · rcases List.mem_append.mp hy with hy | hy
      · exact it_nats (fun p hp => ho p (List.mem_of_mem_take hp)) y hy
      · rw [List.mem_singleton.mp hy]; exact it
    · exact it_nats (fun p hp => ho p (List.mem_of_mem_drop hp)) y hy
  · rw [List.length_append, List.length_append, List.length_map, List.length_map, List.length_take, List.length_drop, List.length_singleton]; omega
theorem sm_dict00 : Sm 200 (.dict []) := ⟨by simp [okI, okIK], by simp [dW, dWK], by simp [PyData.depth, PyData.depthKv], fun _ => by simp [hasList, hasListK]⟩
theorem sm_tt0 : Sm 5000 (.tuple [.tuple [.int 0]]) := ⟨by simp [okI, okIA], by simp [dW, dWA], by simp [PyData.depth, PyData.depthAll], fun e => by simp [PyData.hasDict, PyData.hasDictAll] at e⟩
theorem scBadOrder : FnScope ["_law_source_here", "_law_order_here", "_law_kind", "_law_at", "_law_item"] ["_law_source_here", "_law_order_here"] (defScope s_law_bad_order) := ⟨rfl, rfl, rfl, by decide +kernel, rfl, by decide +kernel, by decide +kernel⟩
theorem ok_law_bad_order {f : Addr} {fd : FuncData} (T : Bi mg) (DD : DefOk P w K mg base CX0 2 "_law_draw" ["_law_source_here", "_law_many"] spDraw) (F : FnP K "_law_bad_order" s_law_bad_order f fd) : FnOk P w K mg base CX0 3 f fd ["_law_source_here", "_law_order_here"] spBadOrder := by
  refine F.ok scBadOrder (fun vs H Q E h => ?_) (fun cdv A outer s H vs Q E hr h => ?_)
  · obtain ⟨l, a, L, n, ol, rfl, _⟩ := h
    rfl
  · obtain ⟨l, a, L, n, ol, rfl, nL, hL, hp, hn1, hn, hS, k⟩ := h
    refine ⟨_, PSs.nox (pss_cons (ps_set (i := 2) scBadOrder.nd rfl (Or.inl rfl) (pe_d DD hr rfl (pa_cons (pv 0) (pa_cons pe_int pa_nil))))
      (pss_cons (ps_set (i := 3) scBadOrder.nd rfl (Or.inl rfl) (pe_d DD hr rfl (pa_cons (pv 0) (pa_cons (pe_callB call_len_seq (by rfl) T.len PySem.boot_len (pa_cons (pv 1) pa_nil)) pa_nil))))
        (pss_cons (ps_if (pt_cmpR op_eq (pv 2) pe_int (nomark _)) (pss_one (ps_ret (pe_callTy call_list_of rfl T.list PyProof.Rows.boot_list (pa_cons (pv 1) pa_nil)))) pss_nil)
        (pss_cons (ps_if (pt_cmpR op_eq (pv 2) pe_int (nomark _)) (pss_one (ps_ret (pe_tupleOf rfl T.tuple (pe_op op_cat (pe_slice sl_list (pv 1) po_none (po_some (pv 3))) (pe_slice sl_list (pv 1) (po_some (pe_op op_add (pv 3) pe_int)) po_none))))) pss_nil)
        (pss_cons (ps_if (PW.pt (pw_and (pt_cmpR op_eq (pv 2) pe_int (nomark _)) (pw_and1 (pt_cmpR op_gt (pv 3) pe_int (nomark _))))) (pss_one (ps_ret (pe_tupleOf rfl T.tuple (pe_op op_cat (pe_op op_cat (pe_slice sl_list (pv 1) po_none (po_some (pv 3))) (pe_lst (pa_cons (pe_ix ix_list (pv 1) pe_int (fun _ _ => rfl)) pa_nil))) (pe_slice sl_list (pv 1) (po_some (pe_op op_add (pv 3) pe_int)) po_none))))) pss_nil)
        (pss_cons (ps_if (pt_cmpR op_eq (pv 2) pe_int (nomark _)) (pss_one (ps_ret (pe_tupleOf rfl T.tuple (pe_op op_cat (pe_op op_cat (pe_slice sl_list (pv 1) po_none (po_some (pv 3))) (pe_lst (pa_cons (pe_callB call_len_seq (by rfl) T.len PySem.boot_len (pa_cons (pv 1) pa_nil)) pa_nil))) (pe_slice sl_list (pv 1) (po_some (pe_op op_add (pv 3) pe_int)) po_none))))) pss_nil)
        (pss_cons (ps_if (pt_cmpR op_eq (pv 2) pe_int (nomark _)) (pss_one (ps_ret (pe_tupleOf rfl T.tuple (pe_lc (own := [("_law_item", 4)]) (g := gName 4) (tt := tYes) (te := tOp rEq (tVar 4) (tC (.int 1))) rfl scBadOrder.nd (pi_list (pv 1)) (blkOk_by (N := ["_law_source_here", "_law_order_here", "_law_kind", "_law_at", "_law_item"]) (sc := defScope s_law_bad_order) (by decide +kernel)) (fun _ _ _ _ _ => pg_name (i := 4) scBadOrder.nd rfl (Or.inl rfl)) (fun _ _ _ _ _ => pts_nil) (fun _ _ _ _ _ => by exact pe_cmpR op_eq (pv 4) pe_int (nomark _)))))) pss_nil)
        (pss_cons (ps_if (pt_cmpR op_eq (pv 2) pe_int (nomark _)) (pss_one (ps_ret (pe_tupleOf rfl T.tuple (pe_op op_cat (pe_op op_cat (pe_slice sl_list (pv 1) po_none (po_some (pv 3))) (pe_lst (pa_cons (pe_op op_sub (pe_ix ix_list (pv 1) (pv 3) (fun _ _ => rfl)) (pe_callB call_len_seq (by rfl) T.len PySem.boot_len (pa_cons (pv 1) pa_nil))) pa_nil))) (pe_slice sl_list (pv 1) (po_some (pe_op op_add (pv 3) pe_int)) po_none))))) pss_nil)
        (pss_cons (ps_if (pt_cmpR op_eq (pv 2) pe_int (nomark _)) (pss_one (ps_ret (pe_ix ix_list (pe_lst (pa_cons pe_non (pa_cons pe_int (pa_cons pe_str (pa_cons pe_dnewK (pa_cons pe_bl (pa_cons (pe_tup (pa_cons (pe_tup (pa_cons pe_int pa_nil)) pa_nil)) pa_nil))))))) (pe_d DD hr rfl (pa_cons (pv 0) (pa_cons pe_int pa_nil))) (fun _ _ => rfl)))) pss_nil)
        (pss_one (ps_ret (pe_tupleOf rfl T.tuple (pe_op op_cat (pe_op op_cat (pe_slice sl_list (pv 1) po_none (po_some (pv 3))) (pe_lst (pa_cons pe_non pa_nil))) (pe_slice sl_list (pv 1) (po_some (pe_op op_add (pv 3) pe_int)) po_none)))))))))))))), ?_⟩
    have hlen : ol.length = n := by rw [hp.length_eq, List.length_range]
    have ho : ∀ p ∈ ol, p < n := fun p h => List.mem_range.mp (hp.mem_iff.mp h)
    have ho2 : ∀ p ∈ ol, p < 1000 := fun p h => Nat.lt_of_lt_of_le (ho p h) (by omega)
    refine ⟨_, rfl, l, a, 8, rfl, by decide, by decide, hS, fun kv G1 v0 v1 k1 => ?_⟩
    have g1 := k1.same _ _ nL hL
    refine ⟨_, rfl, _, rfl, L, _, rfl, .inl (.inl (.inl g1)), l, a, ((lotV ol).length : Int), rfl, by rw [lotV_len]; omega, by rw [lotV_len]; omega, k1.src, fun av G2 a0 a1 k2 => ?_⟩
    obtain ⟨j, rfl⟩ := Int.eq_ofNat_of_zero_le a0
    rw [lotV_len] at a1
    have hj : j < ol.length := by omega
    have hjx : j ≤ (lotV ol).length := by rw [lotV_len]; omega
    have hjx1 : j + 1 ≤ (lotV ol).length := by rw [lotV_len]; omega
    have kk := k1.trans k2
    have gL := k2.same _ _ nL g1
    have lo := lotV_len ol
    clear k1 k2 g1 hL
    refine ⟨_, rfl, rfl, _, rfl, which_if (fun _ => ?_) fun _ => ?_⟩
    · exact ⟨_, rfl, L, _, rfl, .inl (.inl (.inl gL)), fun t ht => by
        have st := Same.new (Same.refl G2) (o := .lst (lotV ol)) ht
        have kt := keepS kk st
        refine k _ (.list (natD ol)) _ kt (.lst (by rw [del_ne (kk.src.free_ne ht).1]; exact upd_same) (lotA _ _)) rfl ((sm_items (n := 30) (by rw [List.length_map]; omega) (it_nats ho2)).2.mono (by decide)) (fun ds e => by cases e)⟩
    refine ⟨_, rfl, rfl, _, rfl, which_if (fun _ => ?_) fun _ => ?_⟩
    · refine ⟨_, rfl, _, rfl, _, rfl, cutl_to gL hjx fun p1 hp1 => ?_⟩
      have sA := Same.new (Same.refl G2) (o := .lst ((lotV ol).take j)) hp1
      refine ⟨_, rfl, _, rfl, _, _, rfl, rfl, _, rfl, no_part (cutl_fromZ (sA _ _ gL) (by omega) hjx1 fun p4 hp4 => ⟨p1, p4, _, _, rfl, rfl, (Same.new (Same.refl _) hp4) _ _ upd_same, upd_same, (by rw [List.length_take, List.length_drop, sizeLine_eq]; omega), fun p5 hp5 => ?_⟩)⟩
      have sC := Same.new (Same.new sA (o := .lst ((lotV ol).drop (j + 1))) hp4) (o := .lst ((lotV ol).take j ++ (lotV ol).drop (j + 1))) hp5
      refine .inl ⟨p5, _, rfl, .inl (.inl upd_same), fun t ht => ?_⟩
      rw [lotV_take, lotV_drop] at sC ht ⊢
      refine bad_fin k kk sC ht (fun Hx => (lotA Hx _).append (lotA Hx _)) (short_no hlen hj) (fun y hy => ?_) ?_
      · rcases List.mem_append.mp hy with hy | hy
        · exact it_nats (fun p hp => ho2 p (List.mem_of_mem_take hp)) y hy
        · exact it_nats (fun p hp => ho2 p (List.mem_of_mem_drop hp)) y hy
      · rw [List.length_append, List.length_map, List.length_map, List.length_take, List.length_drop]; omega
    refine ⟨_, rfl, rfl, _, rfl, ?_⟩
    refine two_ite (fun r => iteF r) (fun _ r => ⟨_, rfl, _, _, rfl, rfl, _, rfl, ?_⟩) ?_
    · refine ite2 (fun hc => ?_) (fun _ => r)
      have h0 : (0 : Int) < (j : Int) := of_decide_eq_true hc
      refine ⟨_, rfl, _, rfl, _, rfl, cutl_to gL hjx fun p1 hp1 => ?_⟩
      have sA := Same.new (Same.refl G2) (o := .lst ((lotV ol).take j)) hp1
      have gA := sA _ _ gL
      refine ⟨_, rfl, L, lotV ol, 0, _, rfl, rfl, .inl (.inl gA), nat_atI (j := 0) (by omega), (by show 1 ≤ sizeLine; decide), fun p2 hp2 => ⟨p1, p2, _, _, rfl, rfl, (Same.new (Same.refl _) hp2) _ _ upd_same, upd_same, (by rw [List.length_take, List.length_singleton, sizeLine_eq]; omega), fun p3 hp3 => ?_⟩⟩
      have sB := Same.new (Same.new sA (o := .lst [.int (ol[0] : Nat)]) hp2) (o := .lst ((lotV ol).take j ++ [.int (ol[0] : Nat)])) hp3
      refine ⟨_, rfl, _, rfl, _, _, rfl, rfl, _, rfl, no_part (cutl_fromZ (sB _ _ gL) (by omega) hjx1 fun p4 hp4 => ⟨p3, p4, _, _, rfl, rfl, (Same.new (Same.refl _) hp4) _ _ upd_same, upd_same, (by rw [List.length_append, List.length_take, List.length_drop, List.length_singleton, sizeLine_eq]; omega), fun p5 hp5 => ?_⟩)⟩
      have sC := Same.new (Same.new sB (o := .lst ((lotV ol).drop (j + 1))) hp4) (o := .lst ((lotV ol).take j ++ [.int (ol[0] : Nat)] ++ (lotV ol).drop (j + 1))) hp5
      exact .inl ⟨p5, _, rfl, .inl (.inl upd_same), fun t ht => three_fin k kk sC ht (fun _ => .int _) (twice_no (by omega) (by omega)) (it_int (nat_small (ho2 _ (List.getElem_mem _)))) ho2 (by omega)⟩
    refine ⟨_, rfl, rfl, _, rfl, which_if (fun _ => ?_) fun _ => ?_⟩
    · refine ⟨_, rfl, _, rfl, _, rfl, cutl_to gL hjx fun p1 hp1 => ?_⟩
      have sA := Same.new (Same.refl G2) (o := .lst ((lotV ol).take j)) hp1
      have gA := sA _ _ gL
      refine ⟨_, rfl, L, _, rfl, .inl (.inl (.inl gA)), (by show 1 ≤ sizeLine; decide), fun p2 hp2 => ⟨p1, p2, _, _, rfl, rfl, (Same.new (Same.refl _) hp2) _ _ upd_same, upd_same, (by rw [List.length_take, List.length_singleton, sizeLine_eq]; omega), fun p3 hp3 => ?_⟩⟩
      have sB := Same.new (Same.new sA (o := .lst [.int ((lotV ol).length : Nat)]) hp2) (o := .lst ((lotV ol).take j ++ [.int ((lotV ol).length : Nat)])) hp3
      refine ⟨_, rfl, _, rfl, _, _, rfl, rfl, _, rfl, no_part (cutl_fromZ (sB _ _ gL) (by omega) hjx1 fun p4 hp4 => ⟨p3, p4, _, _, rfl, rfl, (Same.new (Same.refl _) hp4) _ _ upd_same, upd_same, (by rw [List.length_append, List.length_take, List.length_drop, List.length_singleton, sizeLine_eq]; omega), fun p5 hp5 => ?_⟩)⟩
      have sC := Same.new (Same.new sB (o := .lst ((lotV ol).drop (j + 1))) hp4) (o := .lst ((lotV ol).take j ++ [.int ((lotV ol).length : Nat)] ++ (lotV ol).drop (j + 1))) hp5
      exact .inl ⟨p5, _, rfl, .inl (.inl upd_same), fun t ht => three_fin k kk sC ht (fun _ => .int _) (three_no fun p hp e => by injection e with e; omega) (it_int (nat_small (by omega))) ho2 (by omega)⟩
    refine ⟨_, rfl, rfl, _, rfl, which_if (fun _ => ?_) fun _ => ?_⟩
    · refine ⟨_, rfl, L, rfl, ⟨_, .inl (.inl gL)⟩, fun D hD => ?_⟩
      refine lc_list (K := K) (a := L) (xs := lotV ol) (fun i H2 => Same G2 H2 ∧ H2 D = some (.lst ((ol.take i).map fun x : Nat => V.bl (decide (V.int (x : Int) = V.int 1))))) ⟨Same.new (Same.refl G2) hD, upd_same⟩ (fun i H2 _ p => .inl (.inl (p.1 _ _ gL))) ?_ ?_
      · rintro i x H2 hi ⟨t1, t2⟩
        obtain ⟨o, ho', rfl⟩ := lotV_get hi
        refine ⟨rfl, _, rfl, rfl, _, t2, ?_, Same.own t1 hD, ?_⟩
        · rw [List.length_map, List.length_take, sizeLine_eq]; omega
        · rw [upd_same, take_snoc ho', List.map_append]; rfl
      · rintro H2 ⟨t1, t2⟩
        rw [lotV_len, List.take_length] at t2
        refine .inl ⟨D, _, rfl, .inl (.inl t2), fun t ht => ?_⟩
        have dA : ∀ (Hx : Hp) (ol : List Nat), DvA Hx (ol.map fun x : Nat => V.bl (decide (V.int (x : Int) = V.int 1))) (ol.map fun x : Nat => PyData.bool (decide (V.int (x : Int) = V.int 1))) := fun Hx ol => by
          induction ol with
          | nil => exact .nil
          | cons x ol ih => exact .cons (.bl _) ih
        refine bad_fin k kk t1 ht (fun Hx => dA Hx ol) (mem_no (d := .bool (decide (V.int ((ol[0]'(by omega) : Nat) : Int) = V.int 1))) (List.mem_map.mpr ⟨_, List.getElem_mem (by omega), rfl⟩) fun p e => by cases e) (fun y hy => ?_) (by rw [List.length_map]; omega)
        obtain ⟨x, _, rfl⟩ := List.mem_map.mp hy
        exact it_bool _
    refine ⟨_, rfl, rfl, _, rfl, which_if (fun _ => ?_) fun _ => ?_⟩
    · refine ⟨_, rfl, _, rfl, _, rfl, cutl_to gL hjx fun p1 hp1 => ?_⟩
      have sA := Same.new (Same.refl G2) (o := .lst ((lotV ol).take j)) hp1
      have gA := sA _ _ gL
      refine ⟨_, rfl, _, rfl, L, lotV ol, (j : Int), _, rfl, rfl, .inl (.inl gA), nat_atI hj, _, rfl, L, _, rfl, .inl (.inl (.inl gA)), _, _, rfl, rfl, (by show 1 ≤ sizeLine; decide), fun p2 hp2 => ⟨p1, p2, _, _, rfl, rfl, (Same.new (Same.refl _) hp2) _ _ upd_same, upd_same, (by rw [List.length_take, List.length_singleton, sizeLine_eq]; omega), fun p3 hp3 => ?_⟩⟩
      have sB := Same.new (Same.new sA (o := .lst [.int (((ol[j] : Nat) : Int) - ((lotV ol).length : Nat))]) hp2) (o := .lst ((lotV ol).take j ++ [.int (((ol[j] : Nat) : Int) - ((lotV ol).length : Nat))])) hp3
      refine ⟨_, rfl, _, rfl, _, _, rfl, rfl, _, rfl, no_part (cutl_fromZ (sB _ _ gL) (by omega) hjx1 fun p4 hp4 => ⟨p3, p4, _, _, rfl, rfl, (Same.new (Same.refl _) hp4) _ _ upd_same, upd_same, (by rw [List.length_append, List.length_take, List.length_drop, List.length_singleton, sizeLine_eq]; omega), fun p5 hp5 => ?_⟩)⟩
      have sC := Same.new (Same.new sB (o := .lst ((lotV ol).drop (j + 1))) hp4) (o := .lst ((lotV ol).take j ++ [.int (((ol[j] : Nat) : Int) - ((lotV ol).length : Nat))] ++ (lotV ol).drop (j + 1))) hp5
      exact .inl ⟨p5, _, rfl, .inl (.inl upd_same), fun t ht => three_fin k kk sC ht (fun _ => .int _) (three_no fun p hp e => by injection e with e; have := ho _ (List.getElem_mem hj); omega) (it_int (Nat.lt_of_le_of_lt (m := 100) (by have := ho _ (List.getElem_mem hj); omega) (by decide))) ho2 (by omega)⟩
    refine ⟨_, rfl, rfl, _, rfl, which_if (fun _ => ?_) fun _ => ?_⟩
    · refine fun t1 h1 => ⟨(by show 1 ≤ sizeLine; decide), fun t2 h2 => ⟨(by show 1 ≤ sizeLine; decide), fun t3 h3 => ⟨(by show 6 ≤ sizeLine; decide), fun W hW => ?_⟩⟩⟩
      have q1 := Same.new (Same.refl G2) (o := .dK []) h1
      have q2 := Same.new q1 (o := .tup [.int 0]) h2
      have q3 := Same.new q2 (o := .tup [.ref t2]) h3
      have q4 := Same.new q3 (o := .lst [.non, .int 1, .str (Str.ofString "0"), .ref t1, .bl false, .ref t3]) hW
      have e1 : (upd (upd (upd (upd G2 t1 (.dK [])) t2 (.tup [.int 0])) t3 (.tup [.ref t2])) W (.lst [.non, .int 1, .str (Str.ofString "0"), .ref t1, .bl false, .ref t3])) t1 = some (.dK []) := by
        rw [upd_ne (ne_of_none ((Same.new (Same.new (Same.refl _) h2) h3) _ _ upd_same) hW), upd_ne (ne_of_none ((Same.new (Same.refl _) h2) _ _ upd_same) h3), upd_ne (ne_of_none upd_same h2), upd_same]
      have e2 : (upd (upd (upd (upd G2 t1 (.dK [])) t2 (.tup [.int 0])) t3 (.tup [.ref t2])) W (.lst [.non, .int 1, .str (Str.ofString "0"), .ref t1, .bl false, .ref t3])) t2 = some (.tup [.int 0]) := by
        rw [upd_ne (ne_of_none ((Same.new (Same.refl _) h3) _ _ upd_same) hW), upd_ne (ne_of_none upd_same h3), upd_same]
      have e3 : (upd (upd (upd (upd G2 t1 (.dK [])) t2 (.tup [.int 0])) t3 (.tup [.ref t2])) W (.lst [.non, .int 1, .str (Str.ofString "0"), .ref t1, .bl false, .ref t3])) t3 = some (.tup [.ref t2]) := by
        rw [upd_ne (ne_of_none upd_same hW), upd_same]
      have e4 : (upd (upd (upd (upd G2 t1 (.dK [])) t2 (.tup [.int 0])) t3 (.tup [.ref t2])) W (.lst [.non, .int 1, .str (Str.ofString "0"), .ref t1, .bl false, .ref t3])) W = some (.lst [.non, .int 1, .str (Str.ofString "0"), .ref t1, .bl false, .ref t3]) := upd_same
      have n1 := (kk.src.free_ne h1).1
      have n2 := ((keepS kk q1).src.free_ne h2).1
      have n3 := ((keepS kk q2).src.free_ne h3).1
      have nW := ((keepS kk q3).src.free_ne hW).1
      have kk4 := keepS kk q4
      generalize (upd (upd (upd (upd G2 t1 (.dK [])) t2 (.tup [.int 0])) t3 (.tup [.ref t2])) W (.lst [.non, .int 1, .str (Str.ofString "0"), .ref t1, .bl false, .ref t3])) = G4 at e1 e2 e3 e4 kk4
      refine ⟨_, rfl, l, a, 6, rfl, by decide, by decide, kk4.src, fun iv G9 i0 i1 k9 => ?_⟩
      obtain ⟨i, rfl⟩ := Int.eq_ofNat_of_zero_le i0
      have f1 := k9.same _ _ n1 e1
      have f2 := k9.same _ _ n2 e2
      have f3 := k9.same _ _ n3 e3
      have f4 := k9.same _ _ nW e4
      have kk9 := kk4.trans k9
      clear e1 e2 e3 e4 k9 kk4
      have hi : i < 6 := by omega
      match i, hi with
      | 0, _ => exact ⟨W, _, _, _, rfl, rfl, .inl (.inl f4), rfl, k _ .none _ kk9 .non rfl (it_none.sm.mono (by decide)) fun ds e => by cases e⟩
      | 1, _ => exact ⟨W, _, _, _, rfl, rfl, .inl (.inl f4), rfl, k _ (.int 1) _ kk9 (.int _) rfl ((it_int (by decide)).sm.mono (by decide)) fun ds e => by cases e⟩
      | 2, _ => exact ⟨W, _, _, _, rfl, rfl, .inl (.inl f4), rfl, k _ (.str (Str.ofString "0")) _ kk9 (.str _) rfl ((it_str (by decide +kernel) (by decide +kernel)).sm.mono (by decide)) fun ds e => by cases e⟩
      | 3, _ => exact ⟨W, _, _, _, rfl, rfl, .inl (.inl f4), rfl, k _ (.dict []) _ kk9 (.dct (by rw [del_ne n1]; exact f1) .nil) rfl (sm_dict00.mono (by decide)) fun ds e => by cases e⟩
      | 4, _ => exact ⟨W, _, _, _, rfl, rfl, .inl (.inl f4), rfl, k _ (.bool false) _ kk9 (.bl _) rfl ((it_bool _).sm.mono (by decide)) fun ds e => by cases e⟩
      | 5, _ => exact ⟨W, _, _, _, rfl, rfl, .inl (.inl f4), rfl, k _ (.tuple [.tuple [.int 0]]) _ kk9 (.tup (by rw [del_ne n3]; exact f3) (.cons (.tup (by rw [del_ne n2]; exact f2) (.cons (.int _) .nil)) .nil)) (mem_no (List.mem_singleton.mpr rfl) fun p e => by cases e) sm_tt0 fun ds e => by injection e with e; subst e; decide⟩
    refine ⟨_, rfl, _, rfl, _, rfl, cutl_to gL hjx fun p1 hp1 => ?_⟩
    have sA := Same.new (Same.refl G2) (o := .lst ((lotV ol).take j)) hp1
    have gA := sA _ _ gL
    refine ⟨(by show 1 ≤ sizeLine; decide), fun p2 hp2 => ⟨p1, p2, _, _, rfl, rfl, (Same.new (Same.refl _) hp2) _ _ upd_same, upd_same, (by rw [List.length_take, List.length_singleton, sizeLine_eq]; omega), fun p3 hp3 => ?_⟩⟩
    have sB := Same.new (Same.new sA (o := .lst [.non]) hp2) (o := .lst ((lotV ol).take j ++ [.non])) hp3
    refine ⟨_, rfl, _, rfl, _, _, rfl, rfl, _, rfl, no_part (cutl_fromZ (sB _ _ gL) (by omega) hjx1 fun p4 hp4 => ⟨p3, p4, _, _, rfl, rfl, (Same.new (Same.refl _) hp4) _ _ upd_same, upd_same, (by rw [List.length_append, List.length_take, List.length_drop, List.length_singleton, sizeLine_eq]; omega), fun p5 hp5 => ?_⟩)⟩
    have sC := Same.new (Same.new sB (o := .lst ((lotV ol).drop (j + 1))) hp4) (o := .lst ((lotV ol).take j ++ [.non] ++ (lotV ol).drop (j + 1))) hp5
    exact .inl ⟨p5, _, rfl, .inl (.inl upd_same), fun t ht => three_fin k kk sC ht (fun _ => .non) (three_no fun p hp e => by cases e) it_none ho2 (by omega)⟩
end
end BT

set_option Elab.async false
set_option linter.all false
set_option maxRecDepth 100000
set_option maxHeartbeats 4000000
set_option exponentiation.threshold 2000
namespace BT
open PySem PySem.Spec PyProof.Rows L2
theorem first_oneN {n : Nat} {ds : List PyData} {j k : Nat} {d e : PyData} (hj : ds[j]? = some d) (nb : isLotD (n : Int) d = false) (hm : ∀ (m : Nat) (x : PyData), m < j → ds[m]? = some x → isLotD (n : Int) x = true)
    (hk : ds[k]? = some e) (ne : isLotD (n : Int) e = false) (hn : ∀ (m : Nat) (x : PyData), m < k → ds[m]? = some x → isLotD (n : Int) x = true) : k = j := by
  rcases Nat.lt_trichotomy k j with h | h | h
  · rw [hm k e h hk] at ne; cases ne
  · exact h
  · rw [hn j d h hj] at nb; cases nb
theorem lots_allN {n : Nat} {ls : List (List Nat)} (hl : ∀ l ∈ ls, IsLot n l) {j : Nat} {e : PyData} (hj : (ls.map lotD)[j]? = some e) : isLotD (n : Int) e = true := by
  rw [List.getElem?_map] at hj
  cases h : ls[j]? with
  | none => rw [h] at hj; cases hj
  | some l =>
    rw [h] at hj
    have e2 : lotD l = e := Option.some.inj hj
    rw [← e2]; exact isLotD_of (hl l (List.mem_of_getElem? h))
theorem bsize_of {n : Nat} (h1 : 1 ≤ n) (h2 : n ≤ 24) : bsizeD (.int (n : Int)) = true := by
  show (decide ((1 : Int) ≤ (n : Int)) && decide ((n : Int) ≤ 24)) = true
  rw [decide_eq_true (by omega), decide_eq_true (by omega)]; rfl
section
variable {K : PySem.W.Frag}
/-- what _law_made is told to promise -/
def Made4 (H : Hp) (z : V) (e d : PyData) (R : Addr → Hp → Prop) : Prop :=
  (∀ (n : Nat) (ls : List (List Nat)), e = .int (n : Int) → 1 ≤ n → n ≤ 24 → d = .list (ls.map lotD) → (∀ l ∈ ls, IsLot n l) → ls.length ≤ 60 → ∀ (p : Addr) (H' : Hp), Same H H' → H' p = some (.tup [sz "told", z]) → R p H') ∧
  (bsizeD e = true → (∀ ds, d = .list ds → 60 < ds.length) → ∀ (p : Addr) (H' : Hp), Same H H' → H' p = some (.tup [sz "lots", .int (-1)]) → R p H') ∧
  (∀ (n : Nat) (ds : List PyData), e = .int (n : Int) → 1 ≤ n → n ≤ 24 → d = .list ds → ds.length ≤ 60 → ∀ (j : Nat) (y : PyData), ds[j]? = some y → isLotD (n : Int) y = false → (∀ (m : Nat) (e' : PyData), m < j → ds[m]? = some e' → isLotD (n : Int) e' = true) →
    ∀ (p : Addr) (H' : Hp), Same H H' → H' p = some (.tup [sz "lots", .int (j : Nat)]) → R p H') ∧
  (bsizeD e = false → ∀ (p : Addr) (H' : Hp), Same H H' → H' p = some (.tup [sz "size", z]) → R p H')
theorem made_told {H : Hp} {n : Nat} {ls : List (List Nat)} {R : Addr → Hp → Prop} (h1 : 1 ≤ n) (h2 : n ≤ 24) (hls : ∀ l ∈ ls, IsLot n l) (hl : ls.length ≤ 60) (k : ∀ (p : Addr) (H' : Hp), Same H H' → H' p = some (.tup [sz "told", .int (n : Int)]) → R p H') : Made4 H (.int (n : Int)) (.int (n : Int)) (.list (ls.map lotD)) R := by
  refine ⟨fun _ _ _ _ _ _ _ _ => k, fun _ q => ?_, fun n' ds e _ _ ed _ j y hj nb _ => ?_, fun q => ?_⟩
  · have := q _ rfl
    rw [List.length_map] at this; omega
  · injection e with e
    have e := Int.ofNat.inj e
    subst e
    injection ed with ed
    subst ed
    rw [lots_allN hls hj] at nb; cases nb
  · rw [bsize_of h1 h2] at q; cases q
theorem made_lots {H : Hp} {n : Nat} {ds : List PyData} {j : Nat} {d : PyData} {R : Addr → Hp → Prop} (h1 : 1 ≤ n) (h2 : n ≤ 24) (hl : ds.length ≤ 60) (hj : ds[j]? = some d) (nb : isLotD (n : Int) d = false) (hm : ∀ (m : Nat) (x : PyData), m < j → ds[m]? = some x → isLotD (n : Int) x = true)
    (k : ∀ (p : Addr) (H' : Hp), Same H H' → H' p = some (.tup [sz "lots", .int (j : Nat)]) → R p H') : Made4 H (.int (n : Int)) (.int (n : Int)) (.list ds) R := by
  refine ⟨fun n' ls e _ _ ed hls _ => ?_, fun _ q => ?_, fun n' ds' e _ _ ed _ j' y hj' nb' hm' => ?_, fun q => ?_⟩
  · injection e with e
    have e := Int.ofNat.inj e
    subst e
    injection ed with ed
    subst ed
    rw [lots_allN hls hj] at nb; cases nb
  · have := q _ rfl; omega
  · injection e with e
    have e := Int.ofNat.inj e
    subst e
    injection ed with ed
    subst ed
    have ej := first_oneN hj nb hm hj' nb' hm'
    subst ej
    exact k
  · rw [bsize_of h1 h2] at q; cases q
theorem made_long {H : Hp} {n : Nat} {d : PyData} {R : Addr → Hp → Prop} (h1 : 1 ≤ n) (h2 : n ≤ 24) (hl : ∀ ds, d = .list ds → 60 < ds.length) (k : ∀ (p : Addr) (H' : Hp), Same H H' → H' p = some (.tup [sz "lots", .int (-1)]) → R p H') : Made4 H (.int (n : Int)) (.int (n : Int)) d R := by
  refine ⟨fun n' ls e _ _ ed hls hz => ?_, fun _ _ => k, fun n' ds' e _ _ ed hz => ?_, fun q => ?_⟩
  · have := hl _ ed
    rw [List.length_map] at this; omega
  · have := hl _ ed; omega
  · rw [bsize_of h1 h2] at q; cases q
theorem made_size {H : Hp} {z : V} {e d : PyData} {R : Addr → Hp → Prop} (hb : bsizeD e = false) (k : ∀ (p : Addr) (H' : Hp), Same H H' → H' p = some (.tup [sz "size", z]) → R p H') : Made4 H z e d R := by
  refine ⟨fun n' ls en h1 h2 => ?_, fun q => ?_, fun n' ds' en h1 h2 => ?_, fun _ => k⟩
  · subst en; rw [bsize_of h1 h2] at hb; cases hb
  · rw [q] at hb; cases hb
  · subst en; rw [bsize_of h1 h2] at hb; cases hb
/-- both texts are the same -/
theorem same_ok {H : Hp} {p q : Addr} {x : String} {v : V} {d : PyData} {n : Nat} (gp : H p = some (.tup [sz x, v])) (hv : Dv H v d) (hq : H q = none) (tg : tagOk x) (sm : Sm n d) (hn : n ≤ 900000) :
    Dv (upd H q (.tup [sz x, v])) (.ref p) (.tuple [.str (Str.ofString x), d]) ∧ Dv (upd H q (.tup [sz x, v])) (.ref q) (.tuple [.str (Str.ofString x), d]) ∧ Sr (.tuple [.str (Str.ofString x), d]) := by
  have s := Same.new (Same.refl H) (o := .tup [sz x, v]) hq
  exact ⟨pairD (s _ _ gp) (Dv.mono s _ _ hv), pairD upd_same (Dv.mono s _ _ hv), tagR tg sm hn⟩
end
/-! ### what is drawn from lists -/
/-- no list -/
def NoL (a : Addr) (H : Hp) (x : V) : Prop := ∃ e, Dv (L2.del H a) x e ∧ listD e = false
def wrongV2 (t1 t2 t4 t3 : Addr) : List V := [.ref t1, .non, .str (Str.ofString ""), .ref t2, .bl true, .ref t4, .ref t3, .int 0]
theorem nol_wrong2 {a : Addr} {H : Hp} {t1 t2 t4 t3 : Addr} (h1 : NoL a H (.ref t1)) (h2 : NoL a H (.ref t2)) (h4 : NoL a H (.ref t4)) (h3 : NoL a H (.ref t3)) : ∀ x ∈ wrongV2 t1 t2 t4 t3, NoL a H x := by
  unfold wrongV2
  refine List.forall_mem_cons.mpr ⟨h1, List.forall_mem_cons.mpr ⟨⟨.none, .non, rfl⟩, List.forall_mem_cons.mpr ⟨⟨.str _, .str _, rfl⟩, List.forall_mem_cons.mpr ⟨h2, List.forall_mem_cons.mpr ⟨⟨.bool true, .bl _, rfl⟩, List.forall_mem_cons.mpr ⟨h4, List.forall_mem_cons.mpr ⟨h3, List.forall_mem_cons.mpr ⟨⟨.int 0, .int _, rfl⟩, fun x hx => (nomatch hx)⟩⟩⟩⟩⟩⟩⟩⟩
/-- a wrong size of a book -/
def WrB (a : Addr) (H : Hp) (x : V) : Prop := ∃ e, Dv (L2.del H a) x e ∧ bsizeD e = false ∧ Sm 200 e
theorem WrB.mono {l a : Addr} {H H' : Hp} {x : V} (k : Keeps l a H H') (h : WrB a H x) : WrB a H' x := by
  obtain ⟨e, h1, h2, h3⟩ := h
  exact ⟨e, h1.keeps k, h2, h3⟩
def sizesV2 (n : Nat) (t7 t8 t9 : Addr) : List V := [.int 0, .int 25, .int (24 + (n : Int)), .int (0 - (n : Int)), .bl true, .non, .str (Str.ofString "4"), .ref t7, .ref t8, .ref t9, .int ((10 : Int) ^ (30 : Int).toNat), .bl false]
theorem wrB_int {a : Addr} {H : Hp} {z : Int} (h : z < 1 ∨ 24 < z) (hz : z.natAbs < 10 ^ 40) : WrB a H (.int z) := by
  refine ⟨.int z, .int z, ?_, (it_int hz).sm.mono (by decide)⟩
  show (decide (1 ≤ z) && decide (z ≤ 24)) = false
  rcases h with h | h
  · rw [decide_eq_false (show ¬ 1 ≤ z by omega)]; rfl
  · rw [decide_eq_false (show ¬ z ≤ 24 by omega), Bool.and_false]
theorem wrB_sizes {a : Addr} {H : Hp} {n : Nat} {t7 t8 t9 : Addr} (h1 : 1 ≤ n) (hn : n ≤ 24) (h7 : L2.del H a t7 = some (.tup [.int 4])) (h8 : L2.del H a t8 = some (.lst [.int 4])) (h9 : L2.del H a t9 = some (.dK [])) : ∀ x ∈ sizesV2 n t7 t8 t9, WrB a H x := by
  have big : ∀ z : Int, z.natAbs ≤ 1000 → z.natAbs < 10 ^ 40 := fun z h => Nat.lt_of_le_of_lt h (by decide)
  have i4 : ∀ d ∈ [PyData.int 4], It1 d := fun d hd => by rw [List.mem_singleton.mp hd]; exact it_int (big _ (by omega))
  unfold sizesV2
  refine List.forall_mem_cons.mpr ⟨wrB_int (by omega) (big _ (by omega)), ?_⟩
  refine List.forall_mem_cons.mpr ⟨wrB_int (by omega) (big _ (by omega)), ?_⟩
  refine List.forall_mem_cons.mpr ⟨wrB_int (by omega) (big _ (by omega)), ?_⟩
  refine List.forall_mem_cons.mpr ⟨wrB_int (by omega) (big _ (by omega)), ?_⟩
  refine List.forall_mem_cons.mpr ⟨⟨.bool true, .bl _, rfl, (it_bool _).sm.mono (by decide)⟩, ?_⟩
  refine List.forall_mem_cons.mpr ⟨⟨.none, .non, rfl, it_none.sm.mono (by decide)⟩, ?_⟩
  refine List.forall_mem_cons.mpr ⟨⟨.str (Str.ofString "4"), .str _, rfl, (it_str (by decide +kernel) (by decide +kernel)).sm.mono (by decide)⟩, ?_⟩
  refine List.forall_mem_cons.mpr ⟨⟨.tuple [.int 4], .tup h7 (.cons (.int _) .nil), rfl, (sm_items (n := 1) (Nat.le_refl _) i4).1.mono (by decide)⟩, ?_⟩
  refine List.forall_mem_cons.mpr ⟨⟨.list [.int 4], .lst h8 (.cons (.int _) .nil), rfl, (sm_items (n := 1) (Nat.le_refl _) i4).2.mono (by decide)⟩, ?_⟩
  refine List.forall_mem_cons.mpr ⟨⟨.dict [], .dct h9 .nil, rfl, sm_dict00⟩, ?_⟩
  refine List.forall_mem_cons.mpr ⟨wrB_int (by right; decide) (by decide), ?_⟩
  refine List.forall_mem_cons.mpr ⟨⟨.bool false, .bl _, rfl, (it_bool _).sm.mono (by decide)⟩, ?_⟩
  exact fun x hx => nomatch hx
theorem DvA.rep {H : Hp} {v : V} {d : PyData} (h : Dv H v d) : ∀ k : Nat, DvA H (List.replicate k v) (List.replicate k d)
  | 0 => .nil
  | k + 1 => .cons h (DvA.rep h k)
theorem rep_one {α : Type} (x : α) : ∀ k : Nat, (List.replicate k [x]).flatten = List.replicate k x
  | 0 => rfl
  | k + 1 => by rw [List.replicate_succ, List.flatten_cons, rep_one x k]; rfl
end BT

set_option Elab.async false
set_option linter.all false
set_option maxRecDepth 100000
set_option maxHeartbeats 8000000
set_option exponentiation.threshold 2000
namespace BT
open PySem PySem.Spec PyProof.Rows L2
section
variable {P : Program} {w : World} {K : PySem.W.Frag} {mg : Str → Option Value} {base : Heap}
/-! ### made_holds -/
def spMadeHolds : Sp := fun vs H Q _ => ∃ (l a R : Addr) (n : Nat) (xs : List V) (ls : List (List Nat)), vs = [.ref a, .int (n : Int), .ref R] ∧ LotsAt a H R xs ls ∧ (∀ l ∈ ls, IsLot n l) ∧ ls.length ≤ 30 ∧ 1 ≤ n ∧ n ≤ 24 ∧ Src l a H ∧ ∀ H', Keeps l a H H' → Q (.bl true) H'
theorem scMadeHolds : FnScope ["_law_source_here", "_law_size", "_law_rows", "_law_full", "_law_at", "_law_bad", "_law_spoilt", "_law_wrong", "_law_sizes", "_law_bad_size"] ["_law_source_here", "_law_size", "_law_rows"] (defScope s_law_made_holds) := ⟨rfl, rfl, rfl, by decide +kernel, rfl, by decide +kernel, by decide +kernel⟩
theorem ok_law_made_holds {f : Addr} {fd : FuncData} (T : Bi mg) (DD : DefOk P w K mg base CX0 2 "_law_draw" ["_law_source_here", "_law_many"] spDraw) (DS : DefG P w K mg base 1 "_law_same" ["_law_actual", "_law_expected"] spSame)
    (DB : DefOk P w K mg base CX0 3 "_law_bad_lot" ["_law_source_here", "_law_size"] spBadLot) (DM : DefOk P w K mg base CX0 9 "_law_made" ["_law_size", "_law_rows"] spMade) (F : FnP K "_law_made_holds" s_law_made_holds f fd) :
    FnG P w K mg base 10 f fd ["_law_source_here", "_law_size", "_law_rows"] spMadeHolds := by
  refine okG_of F scMadeHolds (fun vs H Q E h => ?_) (fun cdv A outer s H vs Q hr gd h => ?_)
  · obtain ⟨l, a, R, n, xs, ls, rfl, _⟩ := h
    rfl
  · obtain ⟨l, a, R, n, xs, ls, rfl, LA, hI, hl, hn1, hn, hS, k⟩ := h
    refine ⟨_, PSs.nox (pss_cons (ps_if (pt_not (pt_val (pe_dG DS hr gd rfl (pa_cons (pe_d DM hr rfl (pa_cons (pv 1) (pa_cons (pv 2) pa_nil))) (pa_cons (pe_tup (pa_cons pe_str (pa_cons (pv 1) pa_nil))) pa_nil))))) (pss_one (ps_ret pe_bl)) pss_nil)
      (pss_cons (ps_set (i := 3) scMadeHolds.nd rfl (Or.inl rfl) (pe_op op_cat (pv 2) (pe_op op_rep (pe_lst (pa_cons (pe_tup (pa_cons pe_int pa_nil)) pa_nil)) (pe_op op_sub pe_int (pe_callB call_len_seq (by rfl) T.len PySem.boot_len (pa_cons (pv 2) pa_nil))))))
      (pss_cons (ps_if (pt_not (pt_val (pe_dG DS hr gd rfl (pa_cons (pe_d DM hr rfl (pa_cons (pv 1) (pa_cons (pv 3) pa_nil))) (pa_cons (pe_tup (pa_cons pe_str (pa_cons (pv 1) pa_nil))) pa_nil))))) (pss_one (ps_ret pe_bl)) pss_nil)
      (pss_cons (ps_set (i := 4) scMadeHolds.nd rfl (Or.inl rfl) (pe_d DD hr rfl (pa_cons (pv 0) (pa_cons (pe_op op_add (pe_callB call_len_seq (by rfl) T.len PySem.boot_len (pa_cons (pv 2) pa_nil)) pe_int) pa_nil))))
      (pss_cons (ps_set (i := 5) scMadeHolds.nd rfl (Or.inl rfl) (pe_d DB hr rfl (pa_cons (pv 0) (pa_cons (pv 1) pa_nil))))
      (pss_cons (ps_set (i := 6) scMadeHolds.nd rfl (Or.inl rfl) (pe_op op_cat (pe_op op_cat (pe_slice sl_list (pv 2) po_none (po_some (pv 4))) (pe_lst (pa_cons (pv 5) pa_nil))) (pe_slice sl_list (pv 2) (po_some (pv 4)) po_none)))
      (pss_cons (ps_if (pt_not (pt_val (pe_dG DS hr gd rfl (pa_cons (pe_d DM hr rfl (pa_cons (pv 1) (pa_cons (pv 6) pa_nil))) (pa_cons (pe_tup (pa_cons pe_str (pa_cons (pv 4) pa_nil))) pa_nil))))) (pss_one (ps_ret pe_bl)) pss_nil)
      (pss_cons (ps_if (pt_not (pt_val (pe_dG DS hr gd rfl (pa_cons (pe_d DM hr rfl (pa_cons (pv 1) (pa_cons (pe_op op_cat (pv 6) (pe_lst (pa_cons (pe_d DB hr rfl (pa_cons (pv 0) (pa_cons (pv 1) pa_nil))) pa_nil))) pa_nil))) (pa_cons (pe_tup (pa_cons pe_str (pa_cons (pv 4) pa_nil))) pa_nil))))) (pss_one (ps_ret pe_bl)) pss_nil)
      (pss_cons (ps_if (pt_not (pt_val (pe_dG DS hr gd rfl (pa_cons (pe_d DM hr rfl (pa_cons (pv 1) (pa_cons (pe_op op_cat (pv 3) (pe_lst (pa_cons (pe_ix ix_list (pe_lst (pa_cons (pe_tup (pa_cons pe_int pa_nil)) (pa_cons (pv 5) pa_nil))) (pe_op op_mod (pe_callTy call_int1 rfl T.int PyProof.Rows.boot_int (pa_cons (pv 4) pa_nil)) pe_int) (fun _ _ => rfl)) pa_nil))) pa_nil))) (pa_cons (pe_tup (pa_cons pe_str (pa_cons (pe_op op_sub pe_int pe_int) pa_nil))) pa_nil))))) (pss_one (ps_ret pe_bl)) pss_nil)
      (pss_cons (ps_set (i := 7) scMadeHolds.nd rfl (Or.inl rfl) (pe_ix ix_list (pe_lst (pa_cons (pe_tupleOf rfl T.tuple (pv 2)) (pa_cons pe_non (pa_cons pe_str (pa_cons pe_dnewK (pa_cons pe_bl (pa_cons (pe_disp (pps_cons pe_int (pe_tup pa_nil) pps_nil) rfl rfl (by simp) (by decide)) (pa_cons (pe_tup pa_nil) (pa_cons pe_int pa_nil))))))))) (pe_d DD hr rfl (pa_cons (pv 0) (pa_cons pe_int pa_nil))) (fun _ _ => rfl)))
      (pss_cons (ps_if (pt_not (pt_val (pe_dG DS hr gd rfl (pa_cons (pe_d DM hr rfl (pa_cons (pv 1) (pa_cons (pv 7) pa_nil))) (pa_cons (pe_tup (pa_cons pe_str (pa_cons (pe_op op_sub pe_int pe_int) pa_nil))) pa_nil))))) (pss_one (ps_ret pe_bl)) pss_nil)
      (pss_cons (ps_set (i := 8) scMadeHolds.nd rfl (Or.inl rfl) (pe_lst (pa_cons pe_int (pa_cons pe_int (pa_cons (pe_op op_add pe_int (pv 1)) (pa_cons (pe_op op_sub pe_int (pv 1)) (pa_cons pe_bl (pa_cons pe_non (pa_cons pe_str (pa_cons (pe_tup (pa_cons pe_int pa_nil)) (pa_cons (pe_lst (pa_cons pe_int pa_nil)) (pa_cons pe_dnewK (pa_cons (pe_op op_pow pe_int pe_int) (pa_cons pe_bl pa_nil))))))))))))))
      (pss_cons (ps_set (i := 9) scMadeHolds.nd rfl (Or.inl rfl) (pe_ix ix_list (pv 8) (pe_d DD hr rfl (pa_cons (pv 0) (pa_cons pe_int pa_nil))) (fun _ _ => rfl)))
      (pss_cons (ps_if (pt_not (pt_val (pe_dG DS hr gd rfl (pa_cons (pe_d DM hr rfl (pa_cons (pv 9) (pa_cons (pv 2) pa_nil))) (pa_cons (pe_tup (pa_cons pe_str (pa_cons (pv 9) pa_nil))) pa_nil))))) (pss_one (ps_ret pe_bl)) pss_nil)
      (pss_one (ps_ret (pe_dG DS hr gd rfl (pa_cons (pe_d DM hr rfl (pa_cons (pv 9) (pa_cons (pv 6) pa_nil))) (pa_cons (pe_tup (pa_cons pe_str (pa_cons (pv 9) pa_nil))) pa_nil))))))))))))))))))), ?_⟩
    have lx := LA.len
    have smn : Sm 41 (.int (n : Int)) := (it_int (nat_small (by omega))).sm
    -- the rows
    refine ⟨_, rfl, _, rfl, _, _, _, _, rfl, .int _, LA.dv.undel, made_told hn1 hn hI (by omega) fun p G1 s1 gp => ?_⟩
    refine ⟨_, rfl, (by show 2 ≤ sizeLine; decide), fun q hq => ?_⟩
    obtain ⟨x1, x2, x3⟩ := same_ok gp (.int _) hq tag_told smn (by decide)
    refine ⟨_, _, _, rfl, x1, x2, x3, _, rfl, iteF ?_⟩
    clear x1 x2 x3
    have kG := keepS (Keeps.refl hS) (Same.new s1 (o := .tup [sz "told", .int (n : Int)]) hq)
    have LA := LA.keeps kG
    generalize upd G1 q (.tup [sz "told", .int (n : Int)]) = G2 at kG LA
    clear gp hq s1
    -- with lots behind, sixty
    refine ⟨_, rfl, (by show 1 ≤ sizeLine; decide), fun t0 h0 => ⟨(by show 1 ≤ sizeLine; decide), fun t1 h1 => ?_⟩⟩
    have sA := Same.new (Same.new (Same.refl G2) (o := .tup [.int 0]) h0) (o := .lst [.ref t0]) h1
    have eI : ((60 : Int) - (xs.length : Nat)).toNat = 60 - ls.length := by omega
    refine ⟨_, rfl, R, xs, rfl, .inl (.inl (.inl (sA _ _ LA.at_))), _, _, rfl, rfl, t1, (60 : Int) - (xs.length : Nat), [.ref t0], rfl, rfl, upd_same, by omega, by omega, (by rw [sizeLine_eq, eI, List.length_singleton]; omega), fun p hp => ?_⟩
    rw [eI, rep_one] at *
    have sB := Same.new sA (o := .lst (List.replicate (60 - ls.length) (.ref t0))) hp
    refine ⟨R, p, xs, _, rfl, rfl, sB _ _ LA.at_, upd_same, (by rw [List.length_replicate, sizeLine_eq]; omega), fun Fu hF => ?_⟩
    have sC := Same.new sB (o := .lst (xs ++ List.replicate (60 - ls.length) (.ref t0))) hF
    have wC := keepS (Keeps.refl kG.src) sC
    have nt0 := (kG.src.free_ne h0).1
    have nF := ((keepS kG sB).src.free_ne hF).1
    have LA := LA.keeps wC
    have g0 : (upd (upd (upd (upd G2 t0 (.tup [.int 0])) t1 (.lst [.ref t0])) p (.lst (List.replicate (60 - ls.length) (.ref t0)))) Fu (.lst (xs ++ List.replicate (60 - ls.length) (.ref t0)))) t0 = some (.tup [.int 0]) :=
      (Same.new (Same.new (Same.new (Same.refl _) h1) hp) hF) _ _ upd_same
    have gF : (upd (upd (upd (upd G2 t0 (.tup [.int 0])) t1 (.lst [.ref t0])) p (.lst (List.replicate (60 - ls.length) (.ref t0)))) Fu (.lst (xs ++ List.replicate (60 - ls.length) (.ref t0)))) Fu = some (.lst (xs ++ List.replicate (60 - ls.length) (.ref t0))) := upd_same
    have kG := kG.trans wC
    generalize (upd (upd (upd (upd G2 t0 (.tup [.int 0])) t1 (.lst [.ref t0])) p (.lst (List.replicate (60 - ls.length) (.ref t0)))) Fu (.lst (xs ++ List.replicate (60 - ls.length) (.ref t0)))) = G3 at g0 gF LA kG
    clear sA sB sC wC h0 h1 hp hF
    have i0 : IsLot n [0] := ⟨.cons (fun _ h => (nomatch h)) .nil, fun p hp => by rw [List.mem_singleton.mp hp]; omega⟩
    obtain ⟨fs, hfs⟩ : ∃ fs : List (List Nat), fs = ls ++ List.replicate (60 - ls.length) [0] := ⟨_, rfl⟩
    have LF : LotsAt a G3 Fu (xs ++ List.replicate (60 - ls.length) (.ref t0)) fs := ⟨nF, gF, by
      rw [hfs, List.map_append, List.map_replicate]
      exact LA.all.append (DvA.rep (Dv.lot (l := [0]) (by rw [del_ne nt0]; exact g0)) _)⟩
    have fI : ∀ l ∈ fs, IsLot n l := fun l h => by
      rw [hfs] at h
      rcases List.mem_append.mp h with h | h
      · exact hI l h
      · rw [(List.mem_replicate.mp h).2]; exact i0
    have lfs : fs.length = 60 := by rw [hfs, List.length_append, List.length_replicate]; omega
    generalize xs ++ List.replicate (60 - ls.length) (V.ref t0) = ys at gF LF
    clear g0 nt0 hfs gF nF
    refine ⟨_, rfl, _, rfl, _, _, _, _, rfl, .int _, LF.dv.undel, made_told hn1 hn fI (by omega) fun p G4 s4 gp => ?_⟩
    refine ⟨_, rfl, (by show 2 ≤ sizeLine; decide), fun q hq => ?_⟩
    obtain ⟨x1, x2, x3⟩ := same_ok gp (.int _) hq tag_told smn (by decide)
    refine ⟨_, _, _, rfl, x1, x2, x3, _, rfl, iteF ?_⟩
    clear x1 x2 x3
    have w5 := keepS (Keeps.refl kG.src) (Same.new s4 (o := .tup [sz "told", .int (n : Int)]) hq)
    have LA := LA.keeps w5
    have LF := LF.keeps w5
    have kG := kG.trans w5
    generalize upd G4 q (.tup [sz "told", .int (n : Int)]) = G5 at kG LA LF
    clear gp hq s4 w5
    -- spoilt
    refine ⟨_, rfl, _, rfl, R, xs, rfl, .inl (.inl (.inl LA.at_)), _, _, rfl, rfl, l, a, (xs.length : Int) + 1, rfl, by omega, by omega, kG.src, fun jv G6 j0 j1 k6 => ?_⟩
    obtain ⟨j, rfl⟩ := Int.eq_ofNat_of_zero_le j0
    have hj : j ≤ ls.length := by omega
    have hjx : j ≤ xs.length := by omega
    have kG := kG.trans k6
    have LA := LA.keeps k6
    have LF := LF.keeps k6
    refine ⟨_, rfl, _, rfl, l, a, n, rfl, by omega, kG.src, fun bv bd G10 k10 db nb smb => ?_⟩
    have kG := kG.trans k10
    have LA := LA.keeps k10
    have LF := LF.keeps k10
    refine ⟨_, rfl, _, rfl, _, rfl, cutl_to LA.at_ hjx fun p1 hp1 => ⟨_, rfl, (by show 1 ≤ sizeLine; decide), fun p2 hp2 => ⟨p1, p2, _, _, rfl, rfl, (Same.new (Same.refl _) hp2) _ _ upd_same, upd_same, (by rw [List.length_take, sizeLine_eq, List.length_singleton]; omega), fun p3 hp3 => ?_⟩⟩⟩
    have s3 : Same G10 (upd (upd (upd G10 p1 (.lst (xs.take j))) p2 (.lst [bv])) p3 (.lst (xs.take j ++ [bv]))) := Same.new (Same.new (Same.new (Same.refl G10) hp1) hp2) hp3
    have w3 := keepS (Keeps.refl kG.src) s3
    have kG := kG.trans w3
    have LA := LA.keeps w3
    have LF := LF.keeps w3
    have db := db.keeps w3
    have g3 : (upd (upd (upd G10 p1 (.lst (xs.take j))) p2 (.lst [bv])) p3 (.lst (xs.take j ++ [bv]))) p3 = some (.lst (xs.take j ++ [bv])) := upd_same
    generalize upd (upd (upd G10 p1 (.lst (xs.take j))) p2 (.lst [bv])) p3 (.lst (xs.take j ++ [bv])) = G11 at s3 w3 kG LA LF db g3
    refine ⟨_, rfl, _, rfl, _, rfl, no_part (cutl_from LA.at_ hjx fun p4 hp4 => ⟨p3, p4, _, _, rfl, rfl, (Same.new (Same.refl _) hp4) _ _ g3, upd_same, (by rw [List.length_append, List.length_take, List.length_drop, List.length_singleton, sizeLine_eq]; omega), fun S hS' => ?_⟩)⟩
    have s5 : Same G11 (upd (upd G11 p4 (.lst (xs.drop j))) S (.lst (xs.take j ++ [bv] ++ xs.drop j))) := Same.new (Same.new (Same.refl G11) hp4) hS'
    have w5 := keepS (Keeps.refl kG.src) s5
    have nS := ((keepS kG (Same.new (Same.refl G11) hp4)).src.free_ne hS').1
    have kG := kG.trans w5
    have LA := LA.keeps w5
    have LF := LF.keeps w5
    have db := db.keeps w5
    have gS : (upd (upd G11 p4 (.lst (xs.drop j))) S (.lst (xs.take j ++ [bv] ++ xs.drop j))) S = some (.lst (xs.take j ++ [bv] ++ xs.drop j)) := upd_same
    generalize upd (upd G11 p4 (.lst (xs.drop j))) S (.lst (xs.take j ++ [bv] ++ xs.drop j)) = G12 at s5 w5 kG LA LF db gS
    obtain ⟨ds, hds⟩ : ∃ ds : List PyData, ds = (ls.map lotD).take j ++ [bd] ++ (ls.map lotD).drop j := ⟨_, rfl⟩
    have dS : DvA (L2.del G12 a) (xs.take j ++ [bv] ++ xs.drop j) ds := by
      rw [hds]
      exact ((LA.all.take j).append (.cons db .nil)).append (LA.all.drop j)
    have lj : ((ls.map lotD).take j).length = j := by rw [List.length_take, List.length_map]; omega
    have bj : ds[j]? = some bd := by
      rw [hds, List.append_assoc, List.getElem?_append_right (by omega), lj, Nat.sub_self]; rfl
    have bm : ∀ (m : Nat) (x : PyData), m < j → ds[m]? = some x → isLotD (n : Int) x = true := fun m x hm hx => by
      rw [hds, List.append_assoc, List.getElem?_append_left (by omega), List.getElem?_take_of_lt hm] at hx
      exact lots_allN hI hx
    have lds : ds.length = ls.length + 1 := by
      rw [hds, List.length_append, List.length_append, lj, List.length_drop, List.length_map, List.length_singleton]; omega
    have lxs : (xs.take j ++ [bv] ++ xs.drop j).length = xs.length + 1 := by
      rw [List.length_append, List.length_append, List.length_take, List.length_drop, List.length_singleton]; omega
    generalize xs.take j ++ [bv] ++ xs.drop j = ss at dS gS lxs
    clear s3 s5 g3 hp1 hp2 hp3 w3 w5
    have smj : Sm 41 (.int (j : Int)) := (it_int (nat_small (by omega))).sm
    have D12 : Dv (L2.del G12 a) (.ref S) (.list ds) := .lst (by rw [del_ne nS]; exact gS) dS
    refine ⟨_, rfl, _, rfl, _, _, _, _, rfl, .int _, D12.undel, made_lots hn1 hn (by omega) bj nb bm fun p G13 s13 gp => ?_⟩
    refine ⟨_, rfl, (by show 2 ≤ sizeLine; decide), fun q hq => ?_⟩
    obtain ⟨x1, x2, x3⟩ := same_ok gp (.int _) hq tag_lots smj (by decide)
    refine ⟨_, _, _, rfl, x1, x2, x3, _, rfl, iteF ?_⟩
    clear x1 x2 x3 D12
    have w14 := keepS (Keeps.refl kG.src) (Same.new s13 (o := .tup [sz "lots", .int (j : Int)]) hq)
    have kG := kG.trans w14
    have LA := LA.keeps w14
    have LF := LF.keeps w14
    have gS := w14.same S _ nS gS
    have dS := DvA.mono w14.del _ _ dS
    have db := db.keeps w14
    generalize upd G13 q (.tup [sz "lots", .int (j : Int)]) = G14 at kG LA LF gS dS db
    clear gp hq s13 w14
    -- another bad one behind
    refine ⟨_, rfl, _, rfl, _, rfl, _, rfl, l, a, n, rfl, by omega, kG.src, fun cv cd G15 k15 dc nc smc => ⟨(by show 1 ≤ sizeLine; decide), fun p6 hp6 => ⟨S, p6, _, _, rfl, rfl, (Same.new (Same.refl _) hp6) _ _ (k15.same S _ nS gS), upd_same, (by rw [List.length_singleton, sizeLine_eq]; omega), fun p7 hp7 => ?_⟩⟩⟩
    have kG := kG.trans k15
    have LA := LA.keeps k15
    have LF := LF.keeps k15
    have gS := k15.same S _ nS gS
    have dS := DvA.mono k15.del _ _ dS
    have db := db.keeps k15
    have s16 : Same G15 (upd (upd G15 p6 (.lst [cv])) p7 (.lst (ss ++ [cv]))) := Same.new (Same.new (Same.refl G15) hp6) hp7
    have w16 := keepS (Keeps.refl kG.src) s16
    have n7 := ((keepS kG (Same.new (Same.refl G15) hp6)).src.free_ne hp7).1
    have kG := kG.trans w16
    have LA := LA.keeps w16
    have LF := LF.keeps w16
    have gS := s16 _ _ gS
    have dS := DvA.mono w16.del _ _ dS
    have dc := dc.keeps w16
    have db := db.keeps w16
    have D16 : Dv (L2.del (upd (upd G15 p6 (.lst [cv])) p7 (.lst (ss ++ [cv]))) a) (.ref p7) (.list (ds ++ [cd])) := .lst (by rw [del_ne n7]; exact upd_same) (dS.append (.cons dc .nil))
    generalize upd (upd G15 p6 (.lst [cv])) p7 (.lst (ss ++ [cv])) = G16 at s16 w16 kG LA LF gS dS db D16
    have bj2 : (ds ++ [cd])[j]? = some bd := by
      rw [List.getElem?_append_left (by omega)]; exact bj
    have bm2 : ∀ (m : Nat) (x : PyData), m < j → (ds ++ [cd])[m]? = some x → isLotD (n : Int) x = true := fun m x hm hx => by
      rw [List.getElem?_append_left (by omega)] at hx
      exact bm m x hm hx
    refine ⟨_, _, _, _, rfl, .int _, D16.undel, made_lots hn1 hn (by rw [List.length_append, List.length_singleton]; omega) bj2 nb bm2 fun p G17 s17 gp => ?_⟩
    refine ⟨_, rfl, (by show 2 ≤ sizeLine; decide), fun q hq => ?_⟩
    obtain ⟨x1, x2, x3⟩ := same_ok gp (.int _) hq tag_lots smj (by decide)
    refine ⟨_, _, _, rfl, x1, x2, x3, _, rfl, iteF ?_⟩
    clear x1 x2 x3 D16
    have w18 := keepS (Keeps.refl kG.src) (Same.new s17 (o := .tup [sz "lots", .int (j : Int)]) hq)
    have kG := kG.trans w18
    have LA := LA.keeps w18
    have LF := LF.keeps w18
    have gS := w18.same S _ nS gS
    have dS := DvA.mono w18.del _ _ dS
    have db := db.keeps w18
    generalize upd G17 q (.tup [sz "lots", .int (j : Int)]) = G18 at kG LA LF gS dS db
    clear gp hq s17 w18 s16 w16 hp6 hp7 dc
    -- sixty and one more
    refine ⟨_, rfl, _, rfl, (by show 1 ≤ sizeLine; decide), fun u0 hu0 => ⟨_, rfl, (by show 2 ≤ sizeLine; decide), fun u1 hu1 => ⟨_, rfl, .inl ⟨_, rfl, _, _, rfl, rfl, (by show (0 : Int) < 2; decide), ?_⟩⟩⟩⟩
    have sA := Same.new (Same.refl G18) (o := .tup [.int 0]) hu0
    have sB := Same.new sA (o := .lst [.ref u0, bv]) hu1
    have nu0 := (kG.src.free_ne hu0).1
    have gu0 : (upd (upd G18 u0 (.tup [.int 0])) u1 (.lst [.ref u0, bv])) u0 = some (.tup [.int 0]) := (Same.new (Same.refl _) hu1) _ _ upd_same
    have gu1 : (upd (upd G18 u0 (.tup [.int 0])) u1 (.lst [.ref u0, bv])) u1 = some (.lst [.ref u0, bv]) := upd_same
    have wB := keepS (Keeps.refl kG.src) sB
    have kG := kG.trans wB
    have LA := LA.keeps wB
    have LF := LF.keeps wB
    have gS := sB _ _ gS
    have dS := DvA.mono wB.del _ _ dS
    have db := db.keeps wB
    generalize upd (upd G18 u0 (.tup [.int 0])) u1 (.lst [.ref u0, bv]) = G19 at gu0 gu1 kG LA LF gS dS db
    clear sA sB wB hu0 hu1
    obtain ⟨x, xd, hx, dx⟩ : ∃ (x : V) (xd : PyData), atI [V.ref u0, bv] ((j : Int) % 2) = some x ∧ Dv (L2.del G19 a) x xd := by
      have ej : (j : Int) % 2 = ((j % 2 : Nat) : Int) := by omega
      rw [ej]
      rcases Nat.mod_two_eq_zero_or_one j with h | h
      · rw [h]; exact ⟨.ref u0, .tuple [.int 0], rfl, .tup (by rw [del_ne nu0]; exact gu0) (.cons (.int _) .nil)⟩
      · rw [h]; exact ⟨bv, bd, rfl, db⟩
    refine ⟨u1, _, _, x, rfl, rfl, .inl (.inl gu1), hx, (by show 1 ≤ sizeLine; decide), fun u2 hu2 => ⟨Fu, u2, _, _, rfl, rfl, (Same.new (Same.refl _) hu2) _ _ LF.at_, upd_same, (by rw [LF.len, List.length_singleton, sizeLine_eq]; omega), fun u3 hu3 => ?_⟩⟩
    have sC := Same.new (Same.new (Same.refl G19) (o := .lst [x]) hu2) (o := .lst (ys ++ [x])) hu3
    have nu3 := ((keepS kG (Same.new (Same.refl G19) (o := .lst [x]) hu2)).src.free_ne hu3).1
    have wC := keepS (Keeps.refl kG.src) sC
    have kG := kG.trans wC
    have LA := LA.keeps wC
    have gS := sC _ _ gS
    have dS := DvA.mono wC.del _ _ dS
    have D61 : Dv (L2.del (upd (upd G19 u2 (.lst [x])) u3 (.lst (ys ++ [x]))) a) (.ref u3) (.list (fs.map lotD ++ [xd])) := .lst (by rw [del_ne nu3]; exact upd_same) ((LF.keeps wC).all.append (.cons (dx.keeps wC) .nil))
    generalize upd (upd G19 u2 (.lst [x])) u3 (.lst (ys ++ [x])) = G20 at kG LA gS dS D61
    refine ⟨_, _, _, _, rfl, .int _, D61.undel, made_long hn1 hn (fun ds' e => ?_) fun p G21 s21 gp => ?_⟩
    · injection e with e
      rw [← e, List.length_append, List.length_map, List.length_singleton, lfs]; decide
    refine ⟨_, _, rfl, rfl, (by show 2 ≤ sizeLine; decide), fun q hq => ?_⟩
    have smm : Sm 41 (.int (-1)) := (it_int (by decide)).sm
    obtain ⟨x1, x2, x3⟩ := same_ok gp (.int (-1)) hq tag_lots smm (by decide)
    refine ⟨_, _, _, rfl, x1, x2, x3, _, rfl, iteF ?_⟩
    have w22 := keepS (Keeps.refl kG.src) (Same.new s21 (o := .tup [sz "lots", .int (-1)]) hq)
    clear x1 x2 x3
    have kG := kG.trans w22
    have LA := LA.keeps w22
    have gS := w22.same S _ nS gS
    have dS := DvA.mono w22.del _ _ dS
    show tSeq _ _ _ _ (upd G21 q (.tup [sz "lots", .int (-1)]))
    generalize upd G21 q (.tup [sz "lots", .int (-1)]) = G22 at kG LA gS dS
    clear gp hq s21 w22 D61 sC wC hu2 hu3 dx hx gu0 gu1 db LF
    -- no list
    refine ⟨_, rfl, .inl ⟨R, xs, rfl, .inl (.inl LA.at_), fun t1 h1 t2 h2 t4 h4 => ⟨Nat.zero_le _, fun t5 h5 => ⟨?_, [(Sum.inl 0, .ref t5)], rfl, (by show 1 ≤ 15; decide), Nat.zero_le _, fun t3 h3 => ⟨(by show 8 ≤ sizeLine; decide), fun W hW => ?_⟩⟩⟩⟩⟩
    · exact (Same.new (Same.refl _) h5) _ _ upd_same
    have q1 := Same.new (Same.refl G22) (o := .tup xs) h1
    have n1 := (kG.src.free_ne h1).1
    have n2 := ((keepS kG q1).src.free_ne h2).1
    have q2 := Same.new q1 (o := .dK []) h2
    have n4 := ((keepS kG q2).src.free_ne h4).1
    have f4 : G22 t4 = none := q2.free h4
    have q4 := Same.new q2 (o := .dK []) h4
    have n5 := ((keepS kG q4).src.free_ne h5).1
    have q5 := Same.new q4 (o := .tup []) h5
    have q6 := Same.own q5 (o := .dK (mergeK [] [(Sum.inl (0 : Int), V.ref t5)])) f4
    have n3 := ((keepS kG q6).src.free_ne h3).1
    have q3 := Same.new q6 (o := .tup []) h3
    have q7 := Same.new q3 (o := .lst (wrongV2 t1 t2 t4 t3)) hW
    have nW := ((keepS kG q3).src.free_ne hW).1
    have w7 := keepS (Keeps.refl kG.src) q7
    have kG := kG.trans w7
    have LA := LA.keeps w7
    have gS := w7.same S _ nS gS
    have dS := DvA.mono w7.del _ _ dS
    have z5 : t4 ≠ t5 := fun e => by rw [← e, upd_same] at h5; cases h5
    have up4 : ∀ {b : Addr} {o : HO}, b ≠ t4 → upd (upd (upd (upd G22 t1 (.tup xs)) t2 (.dK [])) t4 (.dK [])) t5 (.tup []) b = some o →
        upd (upd (upd (upd (upd (upd (upd G22 t1 (.tup xs)) t2 (.dK [])) t4 (.dK [])) t5 (.tup [])) t4 (.dK (mergeK [] [(Sum.inl (0 : Int), V.ref t5)]))) t3 (.tup [])) W (.lst (wrongV2 t1 t2 t4 t3)) b = some o := fun {b o} hb e =>
      (Same.new (Same.new (Same.refl _) h3) hW) _ _ (by rw [upd_ne hb]; exact e)
    have m1 : (upd (upd G22 t1 (.tup xs)) t2 (.dK [])) t1 = some (.tup xs) := (Same.new (Same.refl _) h2) _ _ upd_same
    have m2 : (upd (upd G22 t1 (.tup xs)) t2 (.dK [])) t2 = some (.dK []) := upd_same
    have e1 := up4 (ne_of_none m1 h4) ((Same.new (Same.new (Same.refl _) h4) h5) _ _ m1)
    have e2 := up4 (ne_of_none m2 h4) ((Same.new (Same.new (Same.refl _) h4) h5) _ _ m2)
    have e5 := up4 (Ne.symm z5) upd_same
    have e4 : upd (upd (upd (upd (upd (upd (upd G22 t1 (.tup xs)) t2 (.dK [])) t4 (.dK [])) t5 (.tup [])) t4 (.dK (mergeK [] [(Sum.inl (0 : Int), V.ref t5)]))) t3 (.tup [])) W (.lst (wrongV2 t1 t2 t4 t3)) t4 = some (.dK (mergeK [] [(Sum.inl (0 : Int), V.ref t5)])) :=
      (Same.new (Same.new (Same.refl _) h3) hW) _ _ upd_same
    have e3 : upd (upd (upd (upd (upd (upd (upd G22 t1 (.tup xs)) t2 (.dK [])) t4 (.dK [])) t5 (.tup [])) t4 (.dK (mergeK [] [(Sum.inl (0 : Int), V.ref t5)]))) t3 (.tup [])) W (.lst (wrongV2 t1 t2 t4 t3)) t3 = some (.tup []) :=
      (Same.new (Same.refl _) hW) _ _ upd_same
    have eW : upd (upd (upd (upd (upd (upd (upd G22 t1 (.tup xs)) t2 (.dK [])) t4 (.dK [])) t5 (.tup [])) t4 (.dK (mergeK [] [(Sum.inl (0 : Int), V.ref t5)]))) t3 (.tup [])) W (.lst (wrongV2 t1 t2 t4 t3)) W = some (.lst (wrongV2 t1 t2 t4 t3)) := upd_same
    refine ⟨_, rfl, l, a, 8, rfl, by decide, by decide, kG.src, fun iv G24 i0 i1 k24 => ?_⟩
    obtain ⟨i, rfl⟩ := Int.eq_ofNat_of_zero_le i0
    have hi : i < (wrongV2 t1 t2 t4 t3).length := Int.ofNat_lt.mp i1
    have kG := kG.trans k24
    have LA := LA.keeps k24
    have gS := k24.same S _ nS gS
    have dS := DvA.mono k24.del _ _ dS
    have e1 := k24.same _ _ n1 e1
    have e2 := k24.same _ _ n2 e2
    have e3 := k24.same _ _ n3 e3
    have e4 := k24.same _ _ n4 e4
    have e5 := k24.same _ _ n5 e5
    have eW := k24.same _ _ nW eW
    clear q1 q2 q3 q4 q5 q6 q7 w7 up4 m1 m2 h1 h2 h3 h4 h5 hW f4 k24
    have WS : ∀ x ∈ wrongV2 t1 t2 t4 t3, NoL a G24 x := nol_wrong2 ⟨.tuple (ls.map lotD), .tup (by rw [del_ne n1]; exact e1) LA.all, rfl⟩ ⟨.dict [], .dct (by rw [del_ne n2]; exact e2) .nil, rfl⟩
      ⟨.dict [(.int 0, .tuple [])], .dct (kvs := [(Sum.inl 0, .ref t5)]) (by rw [del_ne n4]; exact e4) (.cons (k := Sum.inl 0) (.tup (by rw [del_ne n5]; exact e5) .nil) .nil), rfl⟩ ⟨.tuple [], .tup (by rw [del_ne n3]; exact e3) .nil, rfl⟩
    obtain ⟨we, dwe, hwe⟩ := WS _ (List.getElem_mem hi)
    refine ⟨W, _, (i : Nat), _, rfl, rfl, .inl (.inl eW), atI_nat (List.getElem?_eq_getElem hi), ?_⟩
    generalize (wrongV2 t1 t2 t4 t3)[i] = wx at dwe
    clear WS e1 e2 e3 e4 e5 eW n1 n2 n3 n4 n5 nW hi
    refine ⟨_, rfl, _, rfl, _, _, _, _, rfl, .int _, dwe.undel, made_long hn1 hn (fun ds' e => by rw [e] at hwe; cases hwe) fun p G25 s25 gp => ?_⟩
    refine ⟨_, _, rfl, rfl, (by show 2 ≤ sizeLine; decide), fun q hq => ?_⟩
    obtain ⟨x1, x2, x3⟩ := same_ok gp (.int (-1)) hq tag_lots smm (by decide)
    refine ⟨_, _, _, rfl, x1, x2, x3, _, rfl, iteF ?_⟩
    have w26 := keepS (Keeps.refl kG.src) (Same.new s25 (o := .tup [sz "lots", .int (-1)]) hq)
    clear x1 x2 x3
    have kG := kG.trans w26
    have LA := LA.keeps w26
    have gS := w26.same S _ nS gS
    have dS := DvA.mono w26.del _ _ dS
    show tSeq _ _ _ _ (upd G25 q (.tup [sz "lots", .int (-1)]))
    generalize upd G25 q (.tup [sz "lots", .int (-1)]) = G26 at kG LA gS dS
    clear gp hq s25 w26 dwe hwe
    -- a wrong size
    refine ⟨_, rfl, _, _, rfl, rfl, _, rfl, _, _, rfl, rfl, (by show 1 ≤ sizeLine; decide), fun t7 h7 => ⟨(by show 1 ≤ sizeLine; decide), fun t8 h8 t9 h9 => ⟨_, _, rfl, rfl, ⟨by decide, by decide, by decide⟩, (by show 12 ≤ sizeLine; decide), fun D hD => ?_⟩⟩⟩
    have q7 := Same.new (Same.refl G26) (o := .tup [.int 4]) h7
    have q8 := Same.new q7 (o := .lst [.int 4]) h8
    have q9 := Same.new q8 (o := .dK []) h9
    have qD := Same.new q9 (o := .lst (sizesV2 n t7 t8 t9)) hD
    have n7 := (kG.src.free_ne h7).1
    have n8 := ((keepS kG q7).src.free_ne h8).1
    have n9 := ((keepS kG q8).src.free_ne h9).1
    have nD := ((keepS kG q9).src.free_ne hD).1
    have wD := keepS (Keeps.refl kG.src) qD
    have kG := kG.trans wD
    have LA := LA.keeps wD
    have gS := wD.same S _ nS gS
    have dS := DvA.mono wD.del _ _ dS
    refine ⟨_, rfl, _, rfl, l, a, 12, rfl, by decide, by decide, kG.src, fun iv G27 i0 i1 k27 => ?_⟩
    obtain ⟨i, rfl⟩ := Int.eq_ofNat_of_zero_le i0
    have hi : i < (sizesV2 n t7 t8 t9).length := Int.ofNat_lt.mp i1
    have eD : G27 D = some (.lst (sizesV2 n t7 t8 t9)) := k27.same D _ nD upd_same
    have WS : ∀ x ∈ sizesV2 n t7 t8 t9, WrB a G27 x := wrB_sizes hn1 hn (by rw [del_ne n7]; exact k27.same _ _ n7 ((Same.new (Same.new (Same.new (Same.refl _) h8) h9) hD) _ _ upd_same)) (by rw [del_ne n8]; exact k27.same _ _ n8 ((Same.new (Same.new (Same.refl _) h9) hD) _ _ upd_same))
      (by rw [del_ne n9]; exact k27.same _ _ n9 ((Same.new (Same.refl _) hD) _ _ upd_same))
    have kG := kG.trans k27
    have LA := LA.keeps k27
    have gS := k27.same S _ nS gS
    have dS := DvA.mono k27.del _ _ dS
    have wx := WS _ (List.getElem_mem hi)
    refine ⟨D, _, (i : Nat), _, rfl, rfl, .inl (.inl eD), atI_nat (List.getElem?_eq_getElem hi), ?_⟩
    generalize (sizesV2 n t7 t8 t9)[i] = zx at wx
    clear WS q7 q8 q9 qD n7 n8 n9 nD wD h7 h8 h9 hD k27 eD
    obtain ⟨ze, dz, hz, smz⟩ := wx
    refine ⟨_, rfl, _, rfl, _, _, _, _, rfl, dz.undel, LA.dv.undel, made_size hz fun p G28 s28 gp => ?_⟩
    refine ⟨_, rfl, (by show 2 ≤ sizeLine; decide), fun q hq => ?_⟩
    have w28 := keepS (Keeps.refl kG.src) s28
    obtain ⟨x1, x2, x3⟩ := same_ok gp (dz.keeps w28).undel hq tag_size smz (by decide)
    refine ⟨_, _, _, rfl, x1, x2, x3, _, rfl, iteF ?_⟩
    clear x1 x2 x3
    have w29 := keepS (Keeps.refl kG.src) (Same.new s28 (o := .tup [sz "size", zx]) hq)
    have kG := kG.trans w29
    have gS := w29.same S _ nS gS
    have dS := DvA.mono w29.del _ _ dS
    have dz := dz.keeps w29
    generalize upd G28 q (.tup [sz "size", zx]) = G29 at kG gS dS dz
    clear gp hq s28 w28 w29 LA
    have DS : Dv (L2.del G29 a) (.ref S) (.list ds) := .lst (by rw [del_ne nS]; exact gS) dS
    refine ⟨_, rfl, _, rfl, _, _, _, _, rfl, dz.undel, DS.undel, made_size hz fun p G30 s30 gp => ?_⟩
    refine ⟨_, rfl, (by show 2 ≤ sizeLine; decide), fun q hq => ?_⟩
    have w30 := keepS (Keeps.refl kG.src) s30
    obtain ⟨x1, x2, x3⟩ := same_ok gp (dz.keeps w30).undel hq tag_size smz (by decide)
    exact ⟨_, _, _, rfl, x1, x2, x3, k _ (keepS kG (Same.new s30 (o := .tup [sz "size", zx]) hq))⟩
end
end BT

set_option Elab.async false
set_option linter.all false
set_option maxRecDepth 100000
set_option maxHeartbeats 8000000
set_option exponentiation.threshold 2000
namespace BT
open PySem PySem.Spec PyProof.Rows L2
theorem iteT' {c : Bool} {A B : Prop} (h : c = true) (k : A) : if c = true then A else B := by rw [if_pos h]; exact k
theorem iteF' {c : Bool} {A B : Prop} (h : c = false) (k : B) : if c = true then A else B := by subst h; exact iteF k
theorem seq_join {t u : TS} {D : Ends} {σ : L2.St} {H : Hp} (J : L2.St → Hp → Prop) (h2 : ∀ σ' H', J σ' H' → u D σ' H') (h1 : ∀ D' : Ends, (∀ σ' H', J σ' H' → D'.nx σ' H') → D'.ct = D.ct → t D' σ H) : tSeq t u D σ H := h1 _ h2 rfl
theorem seq_joinG {i : Nat} {x : V} {t u : TS} {D : Ends} {σ : L2.St} {H : Hp} (J : L2.St → Hp → Prop) (h2 : ∀ σ' H', J σ' H' → u D σ' H') (h1 : ∀ D' : Ends, (∀ σ' H', J σ' H' → D'.nx σ' H') → D'.ct = D.ct → t D' (σ.set i (some x)) H) : gName i x σ H (tSeq t u D) := h1 _ h2 rfl
theorem Src.ne_ins {l a b C dx : Addr} {H : Hp} {fs : List (Str × V)} (s : Src l a H) (h : H b = some (.ins C dx fs)) : b ≠ a := fun e => by
  obtain ⟨i, b', c, cl, n, w, _, h1⟩ := s.at_
  rw [e, h1] at h; cases h
theorem BookAt.keeps {C l a : Addr} {H H' : Hp} {b : Addr} {n : Nat} {ms : List Nat} (h : BookAt C H b n ms) (k : Keeps l a H H') (s : Src l a H) : BookAt C H' b n ms := by
  obtain ⟨dx, t, h1, h2⟩ := h
  exact ⟨dx, t, k.same _ _ (s.ne_ins h1) h1, k.same _ _ (s.ne_tup h2) h2⟩
theorem eqv_nil : ∀ l : List Nat, PyData.eqv (lotD l) (.tuple []) = decide (l = [])
  | [] => rfl
  | p :: l => rfl
theorem lot_dp {K : PySem.W.Frag} {H : Hp} {t : Addr} {l : List Nat} (g : H t = some (.tup (lotV l))) : Dp K H (.ref t) (lotD l) := by
  refine .tup (.inl (.inl g)) ?_
  clear g
  induction l with
  | nil => exact .nil
  | cons p l ih => exact .cons (.int _) ih
theorem shaped_lot (l : List Nat) : SeqAt.shaped (lotD l) = true := by
  unfold SeqAt.shaped
  rw [Bool.and_eq_true]
  refine ⟨by simp only [lotD, PyData.canLay0]; exact lay_lot l, decide_eq_true ?_⟩
  simp only [lotD, PyData.depth]
  have := depthA_le (n := 0) (ds := l.map fun p : Nat => PyData.int (p : Int)) fun d hd => by
    obtain ⟨p, _, rfl⟩ := List.mem_map.mp hd
    simp [PyData.depth]
  omega
theorem Src.at_tup {a t : Addr} {H : Hp} {ns : List Nat} (h : Dv (L2.del H a) (.ref t) (lotD ns)) : H t = some (.tup (lotV ns)) := by
  obtain ⟨u, e, g⟩ := h.undel.lot_inv
  cases e; exact g
theorem sm_none : Sm 41 .none := it_none.sm
section
variable {P : Program} {w : World} {K : PySem.W.Frag} {mg : Str → Option Value} {base : Heap}
/-! ### methods_hold -/
def spMethods (C : Addr) : Sp := fun vs H Q _ => ∃ (l a b g : Addr) (n : Nat) (ms gl : List Nat), vs = [.ref a, .ref b, .ref g] ∧ BookAt C H b n ms ∧ Red n ms ∧ 1 ≤ n ∧ n ≤ 24 ∧ Dv (L2.del H a) (.ref g) (lotD gl) ∧ IsLot n gl ∧ Src l a H ∧ ∀ H', Keeps l a H H' → Q (.bl true) H'
theorem scMethods : FnScope ["_law_source_here", "_law_book", "_law_good", "_law_which", "_law_bad", "_law_expected", "_law_worse", "_law_wrong", "_law_numbers"] ["_law_source_here", "_law_book", "_law_good"] (defScope s_law_methods_hold) := ⟨rfl, rfl, rfl, by decide +kernel, rfl, by decide +kernel, by decide +kernel⟩
theorem ok_law_methods_hold {f C : Addr} (BC : BookC K C) {fd : FuncData} (T : Bi mg) (DD : DefOk P w K mg base CX0 2 "_law_draw" ["_law_source_here", "_law_many"] spDraw) (DS : DefG P w K mg base 1 "_law_same" ["_law_actual", "_law_expected"] spSame)
    (DB : DefOk P w K mg base CX0 3 "_law_bad_lot" ["_law_source_here", "_law_size"] spBadLot) (DA : DefOk P w K mg base CX0 13 "_law_asked" ["_law_book", "_law_which", "_law_value", "_law_good"] (spAsked C)) (F : FnP K "_law_methods_hold" s_law_methods_hold f fd) :
    FnG P w K mg base 14 f fd ["_law_source_here", "_law_book", "_law_good"] (spMethods C) := by
  refine okG_of F scMethods (fun vs H Q E h => ?_) (fun cdv A outer s H vs Q hr gd h => ?_)
  · obtain ⟨l, a, b, g, n, ms, gl, rfl, _⟩ := h
    rfl
  · obtain ⟨l, a, b, g, n, ms, gl, rfl, hb, hR, hn1, hn, dg, ig, hS, k⟩ := h
    refine ⟨_, PSs.nox (pss_cons (ps_for PassesOwn.never rfl (pi_range1 rfl T.range (pa_cons pe_int pa_nil)) (pg_name (i := 3) scMethods.nd rfl (Or.inl rfl))
        (pss_cons (ps_set (i := 4) scMethods.nd rfl (Or.inl rfl) (pe_d DB hr rfl (pa_cons (pv 0) (pa_cons (pe_fld (pv 1) rfl) pa_nil))))
        (pss_cons (ps_if (PW.pt (pw_and (pt_cmpR op_eq (pv 3) pe_int (nomark _)) (pw_and1 (pt_cmpR op_eq (pe_fld (pv 1) rfl) pe_int (nomark _))))) (pss_one ps_continue) pss_nil)
        (pss_cons (ps_if (pt_not (pt_val (pe_dG DS hr gd rfl (pa_cons (pe_d DA hr rfl (pa_cons (pv 1) (pa_cons (pv 3) (pa_cons (pv 4) (pa_cons (pv 2) pa_nil))))) (pa_cons (pe_tup (pa_cons pe_str (pa_cons (pv 4) pa_nil))) pa_nil))))) (pss_one (ps_ret pe_bl)) pss_nil)
        (pss_cons (ps_set (i := 5) scMethods.nd rfl (Or.inl rfl) (pe_tup (pa_cons pe_str (pa_cons pe_non pa_nil))))
        (pss_cons (ps_if (PW.pt (pw_and (pt_cmpR (op_eqD hr.units) (pv 2) (pe_tup pa_nil) (nomark _)) (pw_and1 (PW.pt (pw_or (pt_cmpR op_eq (pv 3) pe_int (nomark _)) (pw_or1 (pt_cmpR op_eq (pv 3) pe_int (nomark _)))))))) (pss_one (ps_set (i := 5) scMethods.nd rfl (Or.inl rfl) (pe_tup (pa_cons pe_str (pa_cons (pe_tup pa_nil) pa_nil))))) pss_nil)
        (pss_one (ps_if (pt_not (pt_val (pe_dG DS hr gd rfl (pa_cons (pe_d DA hr rfl (pa_cons (pv 1) (pa_cons (pv 3) (pa_cons (pv 2) (pa_cons (pv 2) pa_nil))))) (pa_cons (pv 5) pa_nil))))) (pss_one (ps_ret pe_bl)) pss_nil))))))))
      (pss_cons (ps_set (i := 6) scMethods.nd rfl (Or.inl rfl) (pe_d DB hr rfl (pa_cons (pv 0) (pa_cons (pe_fld (pv 1) rfl) pa_nil))))
      (pss_cons (ps_set (i := 4) scMethods.nd rfl (Or.inl rfl) (pe_d DB hr rfl (pa_cons (pv 0) (pa_cons (pe_fld (pv 1) rfl) pa_nil))))
      (pss_cons (ps_if (pt_not (pt_val (pe_dG DS hr gd rfl (pa_cons (pe_d DA hr rfl (pa_cons (pv 1) (pa_cons pe_int (pa_cons (pv 6) (pa_cons (pv 4) pa_nil))))) (pa_cons (pe_tup (pa_cons pe_str (pa_cons (pv 6) pa_nil))) pa_nil))))) (pss_one (ps_ret pe_bl)) pss_nil)
      (pss_cons (ps_set (i := 7) scMethods.nd rfl (Or.inl rfl) (pe_d DB hr rfl (pa_cons (pv 0) (pa_cons (pe_fld (pv 1) rfl) pa_nil))))
      (pss_cons (ps_if (pt_not (pt_val (pe_dG DS hr gd rfl (pa_cons (pe_d DA hr rfl (pa_cons (pv 1) (pa_cons pe_int (pa_cons (pv 7) (pa_cons (pv 2) pa_nil))))) (pa_cons (pe_tup (pa_cons pe_str (pa_cons (pv 7) pa_nil))) pa_nil))))) (pss_one (ps_ret pe_bl)) pss_nil)
      (pss_cons (ps_set (i := 8) scMethods.nd rfl (Or.inl rfl) (pe_tupleOf rfl T.tuple (pe_listRg rfl rfl T.list (prg_1 rfl T.range (pe_d DD hr rfl (pa_cons (pv 0) (pa_cons (pe_op op_add (pe_fld (pv 1) rfl) pe_int) pa_nil)))))))
      (pss_one (ps_ret (pe_dG DS hr gd rfl (pa_cons (pe_d DA hr rfl (pa_cons (pv 1) (pa_cons pe_int (pa_cons (pv 8) (pa_cons (pv 2) pa_nil))))) (pa_cons (pe_tup (pa_cons pe_str (pa_cons pe_non pa_nil))) pa_nil)))))))))))), ?_⟩
    have hlen := hR.len
    refine ⟨_, rfl, by decide, by decide, for_range (lo := 0) (n := 9) (fun j σ G => Keeps l a H G ∧ ∃ x y z : Option V, σ = [some (.ref a), some (.ref b), some (.ref g), x, y, z, none, none, none]) ⟨Keeps.refl hS, none, none, none, rfl⟩ ?_ ?_⟩
    · rintro j σ G hj ⟨kG, x, y, z, rfl⟩
      have HB := hb.keeps kG hS
      have dgG := dg.keeps kG
      obtain ⟨dx, bt, g1, g2⟩ := id HB
      refine ⟨_, rfl, _, rfl, b, C, dx, _, _, rfl, g1, BC.cls, BC.nSize, rfl, l, a, n, rfl, by omega, kG.src, fun bv bd G1 k1 db nb smb => ?_⟩
      have HB := HB.keeps k1 kG.src
      have kG := kG.trans k1
      have dgG := dgG.keeps k1
      obtain ⟨dx, bt, g1, g2⟩ := id HB
      dsimp only
      refine seq_joinG (fun σ G' => σ = [some (.ref a), some (.ref b), some (.ref g), some (.int (0 + (j : Int))), some bv, z, none, none, none] ∧ G' = G1 ∧ (j = 8 → n < 24)) ?_ (fun D' hn' hct => ?_)
      rotate_left
      · refine ⟨_, rfl, rfl, _, rfl, ?_⟩
        by_cases h8 : j = 8
        · refine iteT' ?_ ?_
          · exact decide_eq_true (by rw [h8]; rfl)
          · refine ⟨_, rfl, b, C, dx, _, _, rfl, g1, BC.cls, BC.nSize, rfl, rfl, _, rfl, ?_⟩
            refine ite2 (fun _ => ?_) (fun q => ?_)
            · show D'.ct _ _
              rw [hct]
              exact ⟨kG, _, _, _, rfl⟩
            · exact hn' _ _ ⟨rfl, rfl, fun _ => by
                have : n ≠ 24 := fun e => q (decide_eq_true (by rw [e]; rfl))
                omega⟩
        · refine iteF' ?_ ?_
          · exact decide_eq_false fun e => h8 (by injection e with e; omega)
          · exact iteF (hn' _ _ ⟨rfl, rfl, fun e => absurd e h8⟩)
      rintro σ G' ⟨rfl, rfl, h24⟩
      -- a bad one
      have jn : (0 : Int) + (j : Int) = 8 → n < 24 := fun e => h24 (by omega)
      refine ⟨_, rfl, _, rfl, _, rfl, _, rfl, b, n, ms, _, bv, _, .ref g, _, rfl, HB, hR, hn1, hn, by omega, by omega, jn, db.undel, dgG.undel, fun _ _ => isLotD_of ig, fun _ => isLotD_of ig, fun _ _ p G2 s2 gp => ?_, fun _ q => ?_⟩
      rotate_left
      · have := (q (by omega)).1
        rw [nb] at this; cases this
      refine ⟨_, rfl, (by show 2 ≤ sizeLine; decide), fun q hq => ?_⟩
      have w2 := keepS (Keeps.refl kG.src) s2
      obtain ⟨x1, x2, x3⟩ := same_ok gp (db.keeps w2).undel hq tag_lot smb (by decide)
      refine ⟨_, _, _, rfl, x1, x2, x3, _, rfl, iteF ?_⟩
      clear x1 x2 x3
      have w3 := keepS (Keeps.refl kG.src) (Same.new s2 (o := .tup [sz "lot", bv]) hq)
      have HB := HB.keeps w3 kG.src
      have kG := kG.trans w3
      have dgG := dgG.keeps w3
      generalize upd G2 q (.tup [sz "lot", bv]) = G3 at HB kG dgG
      clear gp hq s2 w2 w3 db smb nb
      -- what is due of the good one
      refine ⟨(by show 2 ≤ sizeLine; decide), fun pe hpe => ?_⟩
      have s4 := Same.new (Same.refl G3) (o := .tup [sz "told", .non]) hpe
      have w4 := keepS (Keeps.refl kG.src) s4
      have HB := HB.keeps w4 kG.src
      have kG := kG.trans w4
      have dgG := dgG.keeps w4
      have ge : (upd G3 pe (.tup [sz "told", .non])) pe = some (.tup [sz "told", .non]) := upd_same
      generalize upd G3 pe (.tup [sz "told", .non]) = G4 at HB kG dgG ge
      clear s4 w4 hpe
      have gg : G4 g = some (.tup (lotV gl)) := Src.at_tup dgG
      dsimp only
      refine seq_joinG (fun σ G' => Keeps l a G4 G' ∧ ∃ (pe : Addr), σ = [some (.ref a), some (.ref b), some (.ref g), some (.int (0 + (j : Int))), some bv, some (.ref pe), none, none, none] ∧ ((¬ (gl = [] ∧ (j = 6 ∨ j = 7)) ∧ Dv G' (.ref pe) (.tuple [.str (Str.ofString "told"), .none])) ∨ ((gl = [] ∧ (j = 6 ∨ j = 7)) ∧ Dv G' (.ref pe) (.tuple [.str (Str.ofString "lot"), lotD []])))) ?_ (fun D' hn' hct => ?_)
      rotate_left
      · refine ⟨_, rfl, (by show 0 ≤ sizeLine; decide), fun t0 ht0 => ?_⟩
        have s5 := Same.new (Same.refl G4) (o := .tup []) ht0
        have k5 := keepS (Keeps.refl kG.src) s5
        refine ⟨lotD gl, .tuple [], lot_dp (s5 _ _ gg), .tup (.inl (.inl upd_same)) .nil, shaped_lot gl, shaped_lot [], _, rfl, ?_⟩
        rw [eqv_nil]
        by_cases hg : gl = []
        · refine iteT' (decide_eq_true hg) ⟨_, rfl, rfl, _, rfl, ?_⟩
          have yes : ∀ (h67 : j = 6 ∨ j = 7), tAsg (tTup (tCons (tC (sz "lot")) (tCons (tTup tNil) tNil))) (gName 5) D' [some (.ref a), some (.ref b), some (.ref g), some (.int (0 + (j : Int))), some bv, some (.ref pe), none, none, none] (upd G4 t0 (.tup [])) := fun h67 => by
            refine ⟨(by show 0 ≤ sizeLine; decide), fun t1 ht1 => ⟨(by show 2 ≤ sizeLine; decide), fun t2 ht2 => ?_⟩⟩
            have s6 := Same.new (Same.new s5 (o := .tup []) ht1) (o := .tup [sz "lot", .ref t1]) ht2
            refine hn' _ _ ⟨keepS (Keeps.refl kG.src) s6, t2, rfl, .inr ⟨⟨hg, h67⟩, pairD upd_same (.tup ((Same.new (Same.refl _) ht2) _ _ upd_same) .nil)⟩⟩
          by_cases h6 : j = 6
          · exact iteT' (decide_eq_true (by rw [h6]; rfl)) (iteT (yes (.inl h6)))
          · refine iteF' (decide_eq_false fun e => h6 (by injection e with e; omega)) ⟨_, rfl, rfl, _, rfl, ?_⟩
            by_cases h7 : j = 7
            · exact iteT' (decide_eq_true (by rw [h7]; rfl)) (yes (.inr h7))
            · exact iteF' (decide_eq_false fun e => h7 (by injection e with e; omega)) (hn' _ _ ⟨k5, pe, rfl, .inl ⟨fun q => q.2.elim h6 h7, pairD (s5 _ _ ge) .non⟩⟩)
        · exact iteF' (decide_eq_false hg) (iteF (hn' _ _ ⟨k5, pe, rfl, .inl ⟨fun q => hg q.1, pairD (s5 _ _ ge) .non⟩⟩))
      rintro σ G5 ⟨k5, pe', rfl, J⟩
      have HB := HB.keeps k5 kG.src
      have kG := kG.trans k5
      have dgG := dgG.keeps k5
      refine ⟨_, rfl, _, rfl, _, rfl, _, rfl, b, n, ms, _, .ref g, _, .ref g, _, rfl, HB, hR, hn1, hn, by omega, by omega, jn, dgG.undel, dgG.undel, fun _ _ => isLotD_of ig, fun _ => isLotD_of ig, fun _ q p G6 s6 gp => ?_, fun _ q p G6 s6 gp => ?_⟩
      · -- refused
        have c : gl = [] ∧ (j = 6 ∨ j = 7) := by
          rcases q (by omega) with q | ⟨q1, q2⟩
          · rw [isLotD_of ig] at q; cases q
          · exact ⟨lots_inj q2, by omega⟩
        rcases J with ⟨nc, _⟩ | ⟨_, de⟩
        · exact absurd c nc
        · refine ⟨_, rfl, _, _, _, rfl, pairD gp (by rw [← c.1]; exact Dv.mono s6 _ _ dgG.undel), Dv.mono s6 _ _ de, tagR tag_lot (sm_lot (n := 1) ⟨.nil, fun p hp => (nomatch hp)⟩ (by decide)) (by decide), _, rfl, iteF ?_⟩
          exact ⟨keepS kG s6, _, _, _, rfl⟩
      · have c : ¬ (gl = [] ∧ (j = 6 ∨ j = 7)) := fun c => (q (by omega)).2 (by omega) (by rw [c.1])
        rcases J with ⟨_, de⟩ | ⟨yc, _⟩
        · refine ⟨_, rfl, _, _, _, rfl, pairD gp .non, Dv.mono s6 _ _ de, tagR tag_told sm_none (by decide), _, rfl, iteF ?_⟩
          exact ⟨keepS kG s6, _, _, _, rfl⟩
        · exact absurd yc c
    · rintro σ G ⟨kG, x, y, z, rfl⟩
      have HB := hb.keeps kG hS
      have dgG := dg.keeps kG
      obtain ⟨dx, bt, g1, g2⟩ := id HB
      -- two bad ones
      refine ⟨_, rfl, _, rfl, b, C, dx, _, _, rfl, g1, BC.cls, BC.nSize, rfl, l, a, n, rfl, by omega, kG.src, fun wv wd G1 k1 dw nw smw => ?_⟩
      have HB := HB.keeps k1 kG.src
      have kG := kG.trans k1
      have dgG := dgG.keeps k1
      obtain ⟨dx, bt, g1, g2⟩ := id HB
      refine ⟨_, rfl, _, rfl, b, C, dx, _, _, rfl, g1, BC.cls, BC.nSize, rfl, l, a, n, rfl, by omega, kG.src, fun bv bd G2 k2 db nb smb => ?_⟩
      have HB := HB.keeps k2 kG.src
      have kG := kG.trans k2
      have dgG := dgG.keeps k2
      have dw := dw.keeps k2
      obtain ⟨dx, bt, g1, g2⟩ := id HB
      refine ⟨_, rfl, _, rfl, _, rfl, b, n, ms, _, wv, _, bv, _, rfl, HB, hR, hn1, hn, by decide, by decide, fun e => absurd e (by decide), dw.undel, db.undel, fun _ e => (by rw [nw] at e; cases e), fun e => absurd e (by decide), fun _ _ p G3 s3 gp => ?_, fun _ q => ?_⟩
      rotate_left
      · have := (q (by decide)).1
        rw [nw] at this; cases this
      refine ⟨_, rfl, (by show 2 ≤ sizeLine; decide), fun q hq => ?_⟩
      have w3 := keepS (Keeps.refl kG.src) s3
      obtain ⟨x1, x2, x3⟩ := same_ok gp (dw.keeps w3).undel hq tag_lot smw (by decide)
      refine ⟨_, _, _, rfl, x1, x2, x3, _, rfl, iteF ?_⟩
      clear x1 x2 x3
      have w4 := keepS (Keeps.refl kG.src) (Same.new s3 (o := .tup [sz "lot", wv]) hq)
      have HB := HB.keeps w4 kG.src
      have kG := kG.trans w4
      have dgG := dgG.keeps w4
      generalize upd G3 q (.tup [sz "lot", wv]) = G4 at HB kG dgG
      clear gp hq s3 w3 w4 dw db nw nb smw smb
      obtain ⟨dx, bt, g1, g2⟩ := id HB
      -- wrong numbers
      refine ⟨_, rfl, _, rfl, b, C, dx, _, _, rfl, g1, BC.cls, BC.nDim, rfl, l, a, ms.length, rfl, by omega, kG.src, fun wv wd G5 k5 dw nw smw => ?_⟩
      have HB := HB.keeps k5 kG.src
      have kG := kG.trans k5
      have dgG := dgG.keeps k5
      refine ⟨_, rfl, _, rfl, _, rfl, b, n, ms, _, wv, _, .ref g, _, rfl, HB, hR, hn1, hn, by decide, by decide, fun e => absurd e (by decide), dw.undel, dgG.undel, fun e => absurd e (by decide), fun e => absurd e (by decide), fun _ _ p G6 s6 gp => ?_, fun q _ => ?_⟩
      rotate_left
      · have := q rfl
        rw [nw] at this; cases this
      refine ⟨_, rfl, (by show 2 ≤ sizeLine; decide), fun q hq => ?_⟩
      have w6 := keepS (Keeps.refl kG.src) s6
      obtain ⟨x1, x2, x3⟩ := same_ok gp (dw.keeps w6).undel hq tag_lot smw (by decide)
      refine ⟨_, _, _, rfl, x1, x2, x3, _, rfl, iteF ?_⟩
      clear x1 x2 x3
      have w7 := keepS (Keeps.refl kG.src) (Same.new s6 (o := .tup [sz "lot", wv]) hq)
      have HB := HB.keeps w7 kG.src
      have kG := kG.trans w7
      have dgG := dgG.keeps w7
      generalize upd G6 q (.tup [sz "lot", wv]) = G7 at HB kG dgG
      clear gp hq s6 w6 w7 dw nw smw
      obtain ⟨dx, bt, g1, g2⟩ := id HB
      -- numbers
      refine ⟨_, rfl, _, rfl, b, C, dx, _, _, rfl, g1, BC.cls, BC.nDim, rfl, _, _, rfl, rfl, l, a, (ms.length : Int) + 1, rfl, by omega, by omega, kG.src, fun mv G8 m0 m1 k8 => ?_⟩
      obtain ⟨m, rfl⟩ := Int.eq_ofNat_of_zero_le m0
      have HB := HB.keeps k8 kG.src
      have kG := kG.trans k8
      have dgG := dgG.keeps k8
      refine ⟨_, rfl, ⟨by decide, by decide, by omega, by omega⟩, fun q hq => ?_⟩
      refine .inl ⟨q, _, rfl, .inl (.inl upd_same), fun t ht => ?_⟩
      have s9 := Same.new (Same.new (Same.refl G8) (o := .lst (rgV 0 (m : Int))) hq) (o := .tup (rgV 0 (m : Int))) ht
      have erg : rgV 0 (m : Int) = lotV (List.range m) := by
        unfold rgV lotV
        simp
      have w9 := keepS (Keeps.refl kG.src) s9
      have HB := HB.keeps w9 kG.src
      have kG := kG.trans w9
      have dgG := dgG.keeps w9
      have gt : (upd (upd G8 q (.lst (rgV 0 (m : Int)))) t (.tup (rgV 0 (m : Int)))) t = some (.tup (lotV (List.range m))) := by rw [upd_same, erg]
      have ir : IsLot ms.length (List.range m) := ⟨List.pairwise_lt_range, fun p hp => by have := List.mem_range.mp hp; omega⟩
      refine ⟨_, rfl, _, rfl, _, rfl, b, n, ms, _, .ref t, _, .ref g, _, rfl, HB, hR, hn1, hn, by decide, by decide, fun e => absurd e (by decide), Dv.lot gt, dgG.undel, fun e => absurd e (by decide), fun e => absurd e (by decide), fun q _ => ?_, fun _ _ p G9 s10 gp => ?_⟩
      · have := q rfl
        rw [isLotD_of ir] at this; cases this
      refine ⟨(by show 2 ≤ sizeLine; decide), fun q hq => ?_⟩
      obtain ⟨x1, x2, x3⟩ := same_ok gp .non hq tag_told sm_none (by decide)
      exact ⟨_, _, _, rfl, x1, x2, x3, k _ (keepS kG (Same.new s10 (o := .tup [sz "told", .non]) hq))⟩
end
end BT

set_option Elab.async false
set_option linter.all false
set_option maxRecDepth 100000
set_option maxHeartbeats 8000000
set_option exponentiation.threshold 2000
namespace BT
open PySem PySem.Spec PyProof.Rows L2
theorem mk_bookR {K : PySem.W.Frag} {C CS CL : Addr} {H : Hp} {n : Nat} {a : Addr} {xs : List V} {ls : List (List Nat)} {R : Addr → Hp → Prop} {E : XK} (h1 : 1 ≤ n) (h2 : n ≤ 24) (ha : H a = some (.lst xs)) (hds : DvA H xs (ls.map lotD)) (hls : ∀ l ∈ ls, IsLot n l) (hl : ls.length ≤ 60)
    (k : ∀ (x : Addr) (H2 : Hp), H x = none → Same H H2 → BookAt C H2 x n (reduceF (ls.map maskN)) → R x H2) :
    ∀ x dx, H x = none → H dx = none → dx ≠ x → spBookInit K C CS CL (.ref x :: [.int (n : Int), .ref a]) (upd (upd H dx (.own x)) x (.ins C dx [])) (fun v H2 => v = .non ∧ R x H2) E := by
  refine mk_any (.int _) (.lst ha hds) (fun n' ls' e _ _ ed _ _ x H2 hx s bk => ?_) (fun _ q => ?_) (fun n' ds' e _ _ ed _ j y hj nb _ => ?_) (fun q => ?_)
  · injection e with e
    have e := Int.ofNat.inj e
    subst e
    injection ed with ed
    have ed := lots_list_inj ed
    subst ed
    exact k x H2 hx s bk
  · have := q _ rfl
    rw [List.length_map] at this; omega
  · injection e with e
    have e := Int.ofNat.inj e
    subst e
    injection ed with ed
    subst ed
    rw [lots_allN hls hj] at nb; cases nb
  · rw [bsize_of h1 h2] at q; cases q
theorem tag_unlike : tagOk "unlike" := ⟨by decide +kernel, by decide +kernel⟩
theorem tag_many : tagOk "many" := ⟨by decide +kernel, by decide +kernel⟩
theorem tag_order : tagOk "order" := ⟨by decide +kernel, by decide +kernel⟩
theorem pair_ok {i : Int} {n m k : Nat} (hn : n ≤ 24) (hm : m ≤ 24) : tagOk (pairRes i n m k).1 ∧ (pairRes i n m k).2.natAbs < 10 ^ 40 := by
  have big : ∀ z : Int, z.natAbs ≤ 5000 → z.natAbs < 10 ^ 40 := fun z h => Nat.lt_of_le_of_lt h (by decide)
  unfold pairRes
  split
  · split
    · exact ⟨tag_told, big _ (by omega)⟩
    · exact ⟨tag_unlike, big _ (by omega)⟩
  · split
    · split
      · exact ⟨tag_told, big _ (by omega)⟩
      · exact ⟨tag_many, big _ (by omega)⟩
    · split
      · split
        · exact ⟨tag_told, big _ (by omega)⟩
        · exact ⟨tag_many, big _ (by omega)⟩
      · split
        · rename_i h
          refine ⟨tag_told, big _ ?_⟩
          have : 2 ^ k ≤ 2 ^ 12 := Nat.pow_le_pow_right (by decide) h
          show ((2 ^ k : Nat) : Int).natAbs ≤ 5000
          rw [Int.natAbs_natCast]; omega
        · exact ⟨tag_many, big _ (by decide)⟩
/-- what is due, as a pair -/
abbrev dueD (i : Int) (n m k : Nat) : PyData := .tuple [.str (Str.ofString (pairRes i n m k).1), .int (pairRes i n m k).2]
theorem due_sr {i : Int} {n m k : Nat} (hn : n ≤ 24) (hm : m ≤ 24) : Sr (dueD i n m k) := tagR (pair_ok hn hm).1 (it_int (pair_ok hn hm).2).sm (by decide)
section
variable {P : Program} {w : World} {K : PySem.W.Frag} {mg : Str → Option Value} {base : Heap}
/-! ### pairs_hold -/
def spPairs (C : Addr) : Sp := fun vs H Q _ => ∃ (l a b : Addr) (n : Nat) (ms : List Nat), vs = [.ref a, .ref b] ∧ BookAt C H b n ms ∧ Red n ms ∧ 1 ≤ n ∧ n ≤ 24 ∧ Src l a H ∧ ∀ H', Keeps l a H H' → Q (.bl true) H'
theorem scPairs : FnScope ["_law_source_here", "_law_book", "_law_size", "_law_other", "_law_which", "_law_expected"] ["_law_source_here", "_law_book"] (defScope s_law_pairs_hold) := ⟨rfl, rfl, rfl, by decide +kernel, rfl, by decide +kernel, by decide +kernel⟩
theorem ok_law_pairs_hold {f C CS CL : Addr} (BC : BookC K C) {fd : FuncData} (T : Bi mg) (DD : DefOk P w K mg base CX0 2 "_law_draw" ["_law_source_here", "_law_many"] spDraw) (DS : DefG P w K mg base 1 "_law_same" ["_law_actual", "_law_expected"] spSame)
    (DMk : MakeOk P w K mg base (L2.CX P w) 7 C "Book" ["self", "size", "rows"] (spBookInit K C CS CL)) (DP : DefOk P w K mg base CX0 13 "_law_paired" ["_law_one", "_law_other", "_law_which"] (spPaired C)) (F : FnP K "_law_pairs_hold" s_law_pairs_hold f fd) :
    FnG P w K mg base 14 f fd ["_law_source_here", "_law_book"] (spPairs C) := by
  refine okG_of F scPairs (fun vs H Q E h => ?_) (fun cdv A outer s H vs Q hr gd h => ?_)
  · obtain ⟨l, a, b, n, ms, rfl, _⟩ := h
    rfl
  · obtain ⟨l, a, b, n, ms, rfl, hb, hR, hn1, hn, hS, k⟩ := h
    refine ⟨_, PSs.nox (pss_cons (ps_set (i := 2) scPairs.nd rfl (Or.inl rfl) (pe_op op_add pe_int (pe_d DD hr rfl (pa_cons (pv 0) (pa_cons pe_int pa_nil)))))
      (pss_cons (ps_set (i := 3) scPairs.nd rfl (Or.inl rfl) (pe_mkX DMk hr rfl passL (pa_cons (pv 2) (pa_cons (pe_lst (pa_cons (pe_tup (pa_cons (pe_op op_sub (pv 2) pe_int) pa_nil)) pa_nil)) pa_nil))))
      (pss_cons (ps_for PassesOwn.never rfl (pi_range1 rfl T.range (pa_cons pe_int pa_nil)) (pg_name (i := 4) scPairs.nd rfl (Or.inl rfl))
        (pss_cons (ps_set (i := 5) scPairs.nd rfl (Or.inl rfl) (pe_tup (pa_cons pe_str (pa_cons (pe_fld (pv 1) rfl) pa_nil))))
        (pss_cons (ps_if (pt_cmpR op_ne (pv 2) (pe_fld (pv 1) rfl) (nomark _)) (pss_one (ps_set (i := 5) scPairs.nd rfl (Or.inl rfl) (pe_tup (pa_cons pe_str (pa_cons (pv 2) pa_nil))))) pss_nil)
        (pss_one (ps_if (pt_not (pt_val (pe_dG DS hr gd rfl (pa_cons (pe_d DP hr rfl (pa_cons (pv 1) (pa_cons (pv 3) (pa_cons (pv 4) pa_nil)))) (pa_cons (pv 5) pa_nil))))) (pss_one (ps_ret pe_bl)) pss_nil)))))
      (pss_cons (ps_set (i := 5) scPairs.nd rfl (Or.inl rfl) (pe_tup (pa_cons pe_str (pa_cons pe_int pa_nil))))
      (pss_cons (ps_if (pt_cmpR op_le (pe_op op_add (pe_fld (pv 1) rfl) (pv 2)) pe_int (nomark _)) (pss_one (ps_set (i := 5) scPairs.nd rfl (Or.inl rfl) (pe_tup (pa_cons pe_str (pa_cons (pe_op op_add (pe_fld (pv 1) rfl) (pv 2)) pa_nil))))) pss_nil)
      (pss_cons (ps_if (pt_not (pt_val (pe_dG DS hr gd rfl (pa_cons (pe_d DP hr rfl (pa_cons (pv 1) (pa_cons (pv 3) (pa_cons pe_int pa_nil)))) (pa_cons (pv 5) pa_nil))))) (pss_one (ps_ret pe_bl)) pss_nil)
      (pss_cons (ps_set (i := 5) scPairs.nd rfl (Or.inl rfl) (pe_tup (pa_cons pe_str (pa_cons pe_int pa_nil))))
      (pss_cons (ps_if (pt_cmpR op_lt (pe_fld (pv 1) rfl) pe_int (nomark _)) (pss_one (ps_set (i := 5) scPairs.nd rfl (Or.inl rfl) (pe_tup (pa_cons pe_str (pa_cons (pe_op op_add (pe_fld (pv 1) rfl) pe_int) pa_nil))))) pss_nil)
      (pss_cons (ps_if (pt_not (pt_val (pe_dG DS hr gd rfl (pa_cons (pe_d DP hr rfl (pa_cons (pv 1) (pa_cons (pv 3) (pa_cons pe_int pa_nil)))) (pa_cons (pv 5) pa_nil))))) (pss_one (ps_ret pe_bl)) pss_nil)
      (pss_cons (ps_set (i := 5) scPairs.nd rfl (Or.inl rfl) (pe_tup (pa_cons pe_str (pa_cons pe_int pa_nil))))
      (pss_cons (ps_if (pt_cmpR op_le (pe_fld (pv 1) rfl) pe_int (nomark _)) (pss_one (ps_set (i := 5) scPairs.nd rfl (Or.inl rfl) (pe_tup (pa_cons pe_str (pa_cons (pe_op op_shl pe_int (pe_fld (pv 1) rfl)) pa_nil))))) pss_nil)
      (pss_one (ps_ret (pe_dG DS hr gd rfl (pa_cons (pe_d DP hr rfl (pa_cons (pv 1) (pa_cons (pv 3) (pa_cons pe_int pa_nil)))) (pa_cons (pv 5) pa_nil)))))))))))))))), ?_⟩
    have hlen := hR.len
    refine ⟨_, rfl, l, a, 24, rfl, by decide, by decide, hS, fun v G1 v0 v1 k1 => ?_⟩
    obtain ⟨v, rfl⟩ := Int.eq_ofNat_of_zero_le v0
    have em : (1 : Int) + (v : Int) = ((v + 1 : Nat) : Int) := by omega
    refine ⟨_, _, rfl, rfl, ?_⟩
    dsimp only
    rw [em]
    obtain ⟨m, hm⟩ : ∃ m, m = v + 1 := ⟨_, rfl⟩
    rw [← hm]
    refine ⟨_, rfl, _, rfl, _, _, rfl, rfl, (by show 1 ≤ sizeLine; decide), fun t0 h0 => ⟨(by show 1 ≤ sizeLine; decide), fun t1 h1 => ?_⟩⟩
    have s2 := Same.new (Same.new (Same.refl G1) (o := .tup [.int ((m : Int) - 1)]) h0) (o := .lst [.ref t0]) h1
    have k2 := keepS k1 s2
    have g0 : (upd (upd G1 t0 (.tup [.int ((m : Int) - 1)])) t1 (.lst [.ref t0])) t0 = some (.tup (lotV [m - 1])) := by
      rw [(Same.new (Same.refl _) h1) _ _ upd_same]
      have : (m : Int) - 1 = ((m - 1 : Nat) : Int) := by omega
      show some (HO.tup [V.int ((m : Int) - 1)]) = _
      rw [this]; rfl
    have g1 : (upd (upd G1 t0 (.tup [.int ((m : Int) - 1)])) t1 (.lst [.ref t0])) t1 = some (.lst [.ref t0]) := upd_same
    have il : IsLot m [m - 1] := ⟨.cons (fun _ h => (nomatch h)) .nil, fun p hp => by rw [List.mem_singleton.mp hp]; omega⟩
    have il2 : ∀ l ∈ [[m - 1]], IsLot m l := fun l h => by rw [List.mem_singleton.mp h]; exact il
    refine mk_bookR (ls := [[m - 1]]) (by omega) (by omega) g1 (.cons (Dv.lot g0) .nil) il2 (by show 1 ≤ 60; decide) fun o G2 ho s3 bo => ?_
    have k3 := keepS k2 s3
    have rO : Red m (reduceF ([[m - 1]].map maskN)) := ⟨_, fun z hz => by
      rw [List.map_singleton] at hz
      rw [List.mem_singleton.mp hz]
      exact maskN_lt il.lt, rfl⟩
    generalize reduceF ([[m - 1]].map maskN) = mo at bo rO
    have HB := hb.keeps k3 hS
    have hm1 : 1 ≤ m := by omega
    have hm2 : m ≤ 24 := by omega
    clear s2 k2 g0 g1 il il2 s3 h0 h1 ho
    have due : ∀ {G : Hp} {i : Int} {pe : Addr} {tag : String} {z : Int}, G pe = some (.tup [sz tag, .int z]) → pairRes i n m ms.length = (tag, z) → Dv G (.ref pe) (dueD i n m ms.length) := fun {G i pe tag z} g e => by
      unfold dueD
      rw [e]
      exact pairD g (.int _)
    refine ⟨_, rfl, by decide, by decide, for_range (lo := 0) (n := 2) (fun j σ G => Keeps l a G2 G ∧ ∃ x y : Option V, σ = [some (.ref a), some (.ref b), some (.int (m : Int)), some (.ref o), x, y]) ⟨Keeps.refl k3.src, none, none, rfl⟩ ?_ ?_⟩
    · rintro j σ G hj ⟨kG, x, y, rfl⟩
      have HBG := HB.keeps kG k3.src
      have HO := bo.keeps kG k3.src
      obtain ⟨dx, bt, g1, g2⟩ := id HBG
      refine ⟨_, rfl, b, C, dx, _, _, rfl, g1, BC.cls, BC.nSize, rfl, (by show 2 ≤ sizeLine; decide), fun pe hpe => ?_⟩
      have s4 := Same.new (Same.refl G) (o := .tup [sz "told", .int (n : Int)]) hpe
      dsimp only
      refine seq_joinG (fun σ G' => Same G G' ∧ ∃ pe : Addr, σ = [some (.ref a), some (.ref b), some (.int (m : Int)), some (.ref o), some (.int (0 + (j : Int))), some (.ref pe)] ∧ Dv G' (.ref pe) (dueD (0 + (j : Int)) n m ms.length)) ?_ (fun D' hn' _ => ?_)
      rotate_left
      · refine ⟨_, rfl, _, rfl, b, C, dx, _, _, rfl, s4 _ _ g1, BC.cls, BC.nSize, rfl, rfl, _, rfl, ?_⟩
        by_cases e : n = m
        · refine iteF' (by rw [e]; exact (congrArg (! ·) (decide_eq_true rfl))) (hn' _ _ ⟨s4, pe, rfl, due upd_same ?_⟩)
          simp only [pairRes, if_pos (show (0 : Int) + (j : Int) ≤ 1 by omega), if_pos e]
        · refine iteT' (by rw [decide_eq_false fun q => e (by injection q with q; omega)]; rfl) ⟨_, rfl, (by show 2 ≤ sizeLine; decide), fun pe' hpe' => ?_⟩
          refine hn' _ _ ⟨Same.new s4 hpe', pe', rfl, due upd_same ?_⟩
          simp only [pairRes, if_pos (show (0 : Int) + (j : Int) ≤ 1 by omega), if_neg e]
      rintro σ G' ⟨s5, pe', rfl, de⟩
      have w5 := keepS (Keeps.refl kG.src) s5
      refine ⟨_, rfl, _, rfl, _, rfl, b, o, n, m, ms, mo, _, rfl, HBG.keeps w5 kG.src, HO.keeps w5 kG.src, hR, rO, hn1, hn, hm1, hm2, by omega, by omega, fun p G6 s6 gp => ?_⟩
      refine ⟨_, rfl, _, _, _, rfl, pairD gp (.int _), Dv.mono s6 _ _ de, due_sr hn hm2, _, rfl, iteF ?_⟩
      exact ⟨keepS (kG.trans w5) s6, _, _, rfl⟩
    · rintro σ G ⟨kG, x, y, rfl⟩
      have HBG := HB.keeps kG k3.src
      have HO := bo.keeps kG k3.src
      obtain ⟨dx, bt, g1, g2⟩ := id HBG
      -- side by side
      refine ⟨(by show 2 ≤ sizeLine; decide), fun pe hpe => ?_⟩
      have s4 := Same.new (Same.refl G) (o := .tup [sz "many", .int 24]) hpe
      dsimp only
      refine seq_joinG (fun σ G' => Same G G' ∧ ∃ pe : Addr, σ = [some (.ref a), some (.ref b), some (.int (m : Int)), some (.ref o), x, some (.ref pe)] ∧ Dv G' (.ref pe) (dueD 2 n m ms.length)) ?_ (fun D' hn' _ => ?_)
      rotate_left
      · refine ⟨_, rfl, b, C, dx, _, _, rfl, s4 _ _ g1, BC.cls, BC.nSize, rfl, _, rfl, _, _, rfl, rfl, _, _, rfl, rfl, _, rfl, ?_⟩
        refine ite2 (fun q => ?_) (fun q => ?_)
        · have q2 : (n : Int) + (m : Int) ≤ 24 := of_decide_eq_true q
          refine ⟨_, rfl, b, C, dx, _, _, rfl, s4 _ _ g1, BC.cls, BC.nSize, rfl, _, rfl, _, _, rfl, rfl, (by show 2 ≤ sizeLine; decide), fun pe' hpe' => ?_⟩
          refine hn' _ _ ⟨Same.new s4 hpe', pe', rfl, due (z := (n : Int) + (m : Int)) upd_same ?_⟩
          simp only [pairRes, if_neg (show ¬ (2 : Int) ≤ 1 by decide), if_true, if_pos (show n + m ≤ 24 by omega)]
          rw [Int.natCast_add]
        · have q2 : ¬ (n : Int) + (m : Int) ≤ 24 := fun z => q (decide_eq_true z)
          refine hn' _ _ ⟨s4, pe, rfl, due upd_same ?_⟩
          simp only [pairRes, if_neg (show ¬ (2 : Int) ≤ 1 by decide), if_true, if_neg (show ¬ n + m ≤ 24 by omega)]
      rintro σ G' ⟨s5, pe', rfl, de⟩
      have w5 := keepS (Keeps.refl kG.src) s5
      have HBG := HBG.keeps w5 kG.src
      have HO := HO.keeps w5 kG.src
      have kG := kG.trans w5
      refine ⟨_, rfl, _, rfl, b, o, n, m, ms, mo, _, rfl, HBG, HO, hR, rO, hn1, hn, hm1, hm2, by decide, by decide, fun p G6 s6 gp => ?_⟩
      refine ⟨_, rfl, _, _, _, rfl, pairD gp (.int _), Dv.mono s6 _ _ de, due_sr hn hm2, _, rfl, iteF ?_⟩
      have w6 := keepS (Keeps.refl kG.src) s6
      have HBG := HBG.keeps w6 kG.src
      have HO := HO.keeps w6 kG.src
      have kG := kG.trans w6
      obtain ⟨dx, bt, g1, g2⟩ := id HBG
      clear s4 s5 w5 w6 de gp s6 hpe
      -- a place more
      refine ⟨(by show 2 ≤ sizeLine; decide), fun pe hpe => ?_⟩
      have s4 := Same.new (Same.refl G6) (o := .tup [sz "many", .int 24]) hpe
      dsimp only
      refine seq_joinG (fun σ G' => Same G6 G' ∧ ∃ pe : Addr, σ = [some (.ref a), some (.ref b), some (.int (m : Int)), some (.ref o), x, some (.ref pe)] ∧ Dv G' (.ref pe) (dueD 3 n m ms.length)) ?_ (fun D' hn' _ => ?_)
      rotate_left
      · refine ⟨_, rfl, b, C, dx, _, _, rfl, s4 _ _ g1, BC.cls, BC.nSize, rfl, _, _, rfl, rfl, _, rfl, ?_⟩
        refine ite2 (fun q => ?_) (fun q => ?_)
        · have q2 : (n : Int) < 24 := of_decide_eq_true q
          refine ⟨_, rfl, b, C, dx, _, _, rfl, s4 _ _ g1, BC.cls, BC.nSize, rfl, _, _, rfl, rfl, (by show 2 ≤ sizeLine; decide), fun pe' hpe' => ?_⟩
          refine hn' _ _ ⟨Same.new s4 hpe', pe', rfl, due (z := (n : Int) + 1) upd_same ?_⟩
          simp only [pairRes, if_neg (show ¬ (3 : Int) ≤ 1 by decide), if_neg (show ¬ (3 : Int) = 2 by decide), if_true, if_pos (show n < 24 by omega)]
          rw [Int.natCast_add]; rfl
        · have q2 : ¬ (n : Int) < 24 := fun z => q (decide_eq_true z)
          refine hn' _ _ ⟨s4, pe, rfl, due upd_same ?_⟩
          simp only [pairRes, if_neg (show ¬ (3 : Int) ≤ 1 by decide), if_neg (show ¬ (3 : Int) = 2 by decide), if_true, if_neg (show ¬ n < 24 by omega)]
      rintro σ G' ⟨s5, pe', rfl, de⟩
      have w5 := keepS (Keeps.refl kG.src) s5
      have HBG := HBG.keeps w5 kG.src
      have HO := HO.keeps w5 kG.src
      have kG := kG.trans w5
      refine ⟨_, rfl, _, rfl, b, o, n, m, ms, mo, _, rfl, HBG, HO, hR, rO, hn1, hn, hm1, hm2, by decide, by decide, fun p G7 s6 gp => ?_⟩
      refine ⟨_, rfl, _, _, _, rfl, pairD gp (.int _), Dv.mono s6 _ _ de, due_sr hn hm2, _, rfl, iteF ?_⟩
      have w6 := keepS (Keeps.refl kG.src) s6
      have HBG := HBG.keeps w6 kG.src
      have HO := HO.keeps w6 kG.src
      have kG := kG.trans w6
      obtain ⟨dx, bt, g1, g2⟩ := id HBG
      clear s4 s5 w5 w6 de gp s6 hpe
      -- all words
      refine ⟨(by show 2 ≤ sizeLine; decide), fun pe hpe => ?_⟩
      have s4 := Same.new (Same.refl G7) (o := .tup [sz "many", .int 4096]) hpe
      dsimp only
      refine seq_joinG (fun σ G' => Same G7 G' ∧ ∃ pe : Addr, σ = [some (.ref a), some (.ref b), some (.int (m : Int)), some (.ref o), x, some (.ref pe)] ∧ Dv G' (.ref pe) (dueD 4 n m ms.length)) ?_ (fun D' hn' _ => ?_)
      rotate_left
      · refine ⟨_, rfl, b, C, dx, _, _, rfl, s4 _ _ g1, BC.cls, BC.nDim, rfl, _, _, rfl, rfl, _, rfl, ?_⟩
        refine ite2 (fun q => ?_) (fun q => ?_)
        · have q2 : (ms.length : Int) ≤ 12 := of_decide_eq_true q
          have ep : (1 : Int) * 2 ^ ((ms.length : Int).toNat) = ((2 ^ ms.length : Nat) : Int) := by rw [Int.toNat_natCast, Int.one_mul, Int.natCast_pow]; rfl
          refine ⟨_, rfl, b, C, dx, _, _, rfl, s4 _ _ g1, BC.cls, BC.nDim, rfl, _, _, rfl, rfl, ⟨by omega, by omega, by decide⟩, (by show 2 ≤ sizeLine; decide), fun pe' hpe' => ?_⟩
          refine hn' _ _ ⟨Same.new s4 hpe', pe', rfl, due (z := (1 : Int) * 2 ^ ((ms.length : Int).toNat)) upd_same ?_⟩
          rw [ep]
          simp only [pairRes, if_neg (show ¬ (4 : Int) ≤ 1 by decide), if_neg (show ¬ (4 : Int) = 2 by decide), if_neg (show ¬ (4 : Int) = 3 by decide), if_pos (show ms.length ≤ 12 by omega)]
        · have q2 : ¬ (ms.length : Int) ≤ 12 := fun z => q (decide_eq_true z)
          refine hn' _ _ ⟨s4, pe, rfl, due upd_same ?_⟩
          simp only [pairRes, if_neg (show ¬ (4 : Int) ≤ 1 by decide), if_neg (show ¬ (4 : Int) = 2 by decide), if_neg (show ¬ (4 : Int) = 3 by decide), if_neg (show ¬ ms.length ≤ 12 by omega)]
      rintro σ G' ⟨s5, pe', rfl, de⟩
      have w5 := keepS (Keeps.refl kG.src) s5
      have HBG := HBG.keeps w5 kG.src
      have HO := HO.keeps w5 kG.src
      have kG := kG.trans w5
      refine ⟨_, rfl, _, rfl, b, o, n, m, ms, mo, _, rfl, HBG, HO, hR, rO, hn1, hn, hm1, hm2, by decide, by decide, fun p G8 s6 gp => ?_⟩
      exact ⟨_, rfl, _, _, _, rfl, pairD gp (.int _), Dv.mono s6 _ _ de, due_sr hn hm2, k _ (k3.trans (keepS kG s6))⟩
end
end BT

set_option Elab.async false
set_option linter.all false
set_option maxRecDepth 100000
set_option maxHeartbeats 8000000
set_option exponentiation.threshold 2000
namespace BT
open PySem PySem.Spec PyProof.Rows L2
theorem nd_lot (l : List Nat) : (lotD l).hasDict = false := by
  have q := hasDictA_no (ds := l.map fun p : Nat => PyData.int (p : Int)) fun d hd => by
    obtain ⟨p, _, rfl⟩ := List.mem_map.mp hd
    simp [PyData.hasDict]
  simp only [lotD, PyData.hasDict]; exact q
theorem sr_state {n k : Nat} {ms : List Nat} (h : ∀ m ∈ ms, m < 2 ^ n) (hn : n ≤ 24) (hk : ms.length ≤ 24) (hz : k ≤ 24) : Sr (.tuple [.list ((ms.map lotN).map lotD), .int (n : Int), .int (k : Int)]) := by
  have hs : ∀ d ∈ (ms.map lotN).map lotD, Sm 3000 d ∧ d.depth ≤ 1 ∧ d.hasDict = false := fun d hd => by
    obtain ⟨l, hl, rfl⟩ := List.mem_map.mp hd
    obtain ⟨m, hm, rfl⟩ := List.mem_map.mp hl
    have il : IsLot n (lotN m) := ⟨lotN_asc m, lotN_lt (h m hm)⟩
    refine ⟨sm_lot il (by omega), ?_, nd_lot _⟩
    have q := depthA_le (n := 0) fun d hd => by rw [(it_lot il (by omega) d hd).dp]; omega
    simp only [lotD, PyData.depth]; omega
  have h1 := okIA_of fun d hd => (hs d hd).1.ok
  have h2 := dWA_le (n := 3002) fun d hd => by have := (hs d hd).1.w; omega
  have h3 := depthA_le (n := 1) fun d hd => (hs d hd).2.1
  have h4 := hasDictA_no fun d hd => (hs d hd).2.2
  have len : ((ms.map lotN).map lotD).length ≤ 24 := by rw [List.length_map, List.length_map]; exact hk
  have h5 : 3002 * ((ms.map lotN).map lotD).length ≤ 3002 * 24 := Nat.mul_le_mul_left _ len
  refine ⟨?_, ?_, ?_, fun e => ?_⟩
  · simp only [okI, okIA, h1, Bool.and_true, Bool.true_and, Bool.and_eq_true]
    exact ⟨decide_eq_true (nat_small (by omega)), decide_eq_true (nat_small (by omega))⟩
  · simp only [dW, dWA]; omega
  · simp only [PyData.depth, PyData.depthAll]; omega
  · simp only [PyData.hasDict, PyData.hasDictAll, h4, Bool.or_false] at e; cases e
section
variable {P : Program} {w : World} {K : PySem.W.Frag} {mg : Str → Option Value} {base : Heap}
/-! ### the law -/
abbrev nmLaw : List Str := ["_law_script", "_law_source_here", "_law_size", "_law_rows", "_law_book", "_law_before", "_law_good", "_law_order_here", "_law_bad", "_law_k", "_law_place"]
def spLaw (K : PySem.W.Frag) : Sp := fun vs H Q _ => ∃ (a : Addr) (ns : List Int), vs = [.ref a] ∧ SqL K H a (ns.map V.int) ∧ ∀ H', Q (.bl true) H'
theorem scLaw : FnScope nmLaw ["_law_script"] (defScope s_law) := ⟨rfl, rfl, rfl, by decide +kernel, rfl, by decide +kernel, by decide +kernel⟩
/-- the book's rows, size and dim, as a new tuple -/
theorem state_at {H : Hp} {t D : Addr} {xs : List V} {n : Nat} {ms : List Nat} (hD : H D = some (.lst xs)) (hA : DvA H xs ((ms.map lotN).map lotD)) (ht : H t = some (.tup [.ref D, .int (n : Int), .int (ms.length : Nat)])) :
    Dv H (.ref t) (.tuple [.list ((ms.map lotN).map lotD), .int (n : Int), .int (ms.length : Nat)]) := .tup ht (.cons (.lst hD hA) (.cons (.int _) (.cons (.int _) .nil)))
theorem ok_law {f C CS CL : Addr} {fd : FuncData} (T : Bi mg) (BC : BookC K C) (DSrc : DefOk P w K mg base CX0 1 "_law_source" ["_law_script"] (spSource K)) (DD : DefOk P w K mg base CX0 2 "_law_draw" ["_law_source_here", "_law_many"] spDraw)
    (DG : DefOk P w K mg base CX0 3 "_law_great" ["_law_source_here", "_law_size"] spGreat) (DLot : DefOk P w K mg base CX0 1 "_law_lot" ["_law_mask"] spLotOf) (DMH : DefG P w K mg base 10 "_law_made_holds" ["_law_source_here", "_law_size", "_law_rows"] spMadeHolds)
    (DMk : MakeOk P w K mg base (L2.CX P w) 7 C "Book" ["self", "size", "rows"] (spBookInit K C CS CL)) (MR : MethOk P w K mg base CX0 2 C "rows" ["self"] (spRows C)) (DMe : DefG P w K mg base 14 "_law_methods_hold" ["_law_source_here", "_law_book", "_law_good"] (spMethods C))
    (DPa : DefG P w K mg base 14 "_law_pairs_hold" ["_law_source_here", "_law_book"] (spPairs C)) (DO : DefOk P w K mg base CX0 3 "_law_order" ["_law_source_here", "_law_size"] spOrder) (DS : DefG P w K mg base 1 "_law_same" ["_law_actual", "_law_expected"] spSame)
    (DMv : DefOk P w K mg base CX0 12 "_law_moved" ["_law_book", "_law_order_here"] (spLawMoved C)) (DBO : DefOk P w K mg base CX0 3 "_law_bad_order" ["_law_source_here", "_law_order_here"] spBadOrder)
    (F : FnP K "law" s_law f fd) : FnG P w K mg base 15 f fd ["_law_script"] (spLaw K) := by
  refine okG_of F scLaw (fun vs H Q E h => ?_) (fun cdv A outer s H vs Q hr gd h => ?_)
  · obtain ⟨a, ns, rfl, _⟩ := h
    rfl
  · obtain ⟨a, ns, rfl, hS, k⟩ := h
    have hu := hr.units
    refine ⟨_, PSs.nox (pss_cons (ps_set (i := 1) scLaw.nd rfl (Or.inr rfl) (pe_d DSrc hr rfl (pa_cons (pv 0) pa_nil)))
      (pss_cons (ps_set (i := 2) scLaw.nd rfl (Or.inr rfl) (pe_op op_add pe_int (pe_d DD hr rfl (pa_cons (pv 1) (pa_cons pe_int pa_nil)))))
      (pss_cons (ps_if (pt_cmpR op_eq (pe_d DD hr rfl (pa_cons (pv 1) (pa_cons pe_int pa_nil))) pe_int (nomark _)) (pss_one (ps_set (i := 2) scLaw.nd rfl (Or.inr rfl) pe_int)) pss_nil)
      (pss_cons (ps_setLc (i := 3) (own := [("_law_k", 9)]) (g := gName 9) (tt := tYes) (te := tCall spLotOf [] E0 (tCons (tCall spGreat [] E0 (tCons (tVar 1) (tCons (tVar 2) tNil))) tNil)) rfl scLaw.nd rfl rfl (sw_true rfl rfl rfl (by decide +kernel)) (pi_range1 rfl T.range (pa_cons (pe_d DD hr rfl (pa_cons (pv 1) (pa_cons pe_int pa_nil))) pa_nil))
        (blkOk_by (N := nmLaw) (sc := defScope s_law) (by decide +kernel)) (fun _ _ _ _ _ => pg_name (i := 9) scLaw.nd rfl (Or.inl rfl)) (fun _ _ _ _ _ => pts_nil)
        (fun _ _ _ _ _ => pe_d DLot hr rfl (pa_cons (pe_d DG hr rfl (pa_cons (pv 1) (pa_cons (pv 2) pa_nil))) pa_nil)))
      (pss_cons (ps_if (pt_cmpR op_eq (pe_d DD hr rfl (pa_cons (pv 1) (pa_cons pe_int pa_nil))) pe_int (nomark _))
        (pss_one (ps_set (i := 3) scLaw.nd rfl (Or.inl rfl) (pe_op op_cat (pv 3) (pe_lc (own := [("_law_place", 10)]) (g := gName 10) (tt := tTest (tOp (rI0 fun i j => .bl (decide (i < j))) (tVar 10) (tC (.int 13)))) (te := tTup (tCons (tVar 10) tNil)) rfl scLaw.nd (pi_range1 rfl T.range (pa_cons (pv 2) pa_nil))
          (blkOk_by (N := nmLaw) (sc := defScope s_law) (by decide +kernel)) (fun _ _ _ _ _ => pg_name (i := 10) scLaw.nd rfl (Or.inl rfl)) (fun _ _ _ _ _ => pts_one (by exact pt_cmpR op_lt (pv 10) pe_int (nomark _))) (fun _ _ _ _ _ => by exact pe_tup (pa_cons (pv 10) pa_nil)))))) pss_nil)
      (pss_cons (ps_if (pt_not (pt_val (pe_dG DMH hr gd rfl (pa_cons (pv 1) (pa_cons (pv 2) (pa_cons (pv 3) pa_nil)))))) (pss_one (ps_ret pe_bl)) pss_nil)
      (pss_cons (ps_set (i := 4) scLaw.nd rfl (Or.inl rfl) (pe_mkX DMk hr rfl passL (pa_cons (pv 2) (pa_cons (pv 3) pa_nil))))
      (pss_cons (ps_set (i := 5) scLaw.nd rfl (Or.inl rfl) (pe_callB (call_repr gd hu) (by rfl) T.repr PyProof.Rows.boot_repr (pa_cons (pe_tup (pa_cons (pe_m0X MR BC.cls (pv 4) hr pass0) (pa_cons (pe_fld (pv 4) rfl) (pa_cons (pe_fld (pv 4) rfl) pa_nil)))) pa_nil)))
      (pss_cons (ps_set (i := 6) scLaw.nd rfl (Or.inl rfl) (pe_d DLot hr rfl (pa_cons (pe_op op_and (pe_d DG hr rfl (pa_cons (pv 1) (pa_cons (pv 2) pa_nil))) (pe_d DG hr rfl (pa_cons (pv 1) (pa_cons (pe_op op_add pe_int (pe_d DD hr rfl (pa_cons (pv 1) (pa_cons (pv 2) pa_nil)))) pa_nil)))) pa_nil)))
      (pss_cons (ps_if (pt_not (pt_val (pe_dG DMe hr gd rfl (pa_cons (pv 1) (pa_cons (pv 4) (pa_cons (pv 6) pa_nil)))))) (pss_one (ps_ret pe_bl)) pss_nil)
      (pss_cons (ps_if (pt_not (pt_val (pe_dG DPa hr gd rfl (pa_cons (pv 1) (pa_cons (pv 4) pa_nil))))) (pss_one (ps_ret pe_bl)) pss_nil)
      (pss_cons (ps_set (i := 7) scLaw.nd rfl (Or.inl rfl) (pe_d DO hr rfl (pa_cons (pv 1) (pa_cons (pv 2) pa_nil))))
      (pss_cons (ps_if (pt_not (pt_val (pe_dG DS hr gd rfl (pa_cons (pe_d DMv hr rfl (pa_cons (pv 4) (pa_cons (pe_tupleOf rfl T.tuple (pv 7)) pa_nil))) (pa_cons (pe_tup (pa_cons pe_str (pa_cons (pv 2) pa_nil))) pa_nil))))) (pss_one (ps_ret pe_bl)) pss_nil)
      (pss_cons (ps_set (i := 8) scLaw.nd rfl (Or.inl rfl) (pe_d DBO hr rfl (pa_cons (pv 1) (pa_cons (pv 7) pa_nil))))
      (pss_cons (ps_if (pt_not (pt_val (pe_dG DS hr gd rfl (pa_cons (pe_d DMv hr rfl (pa_cons (pv 4) (pa_cons (pv 8) pa_nil))) (pa_cons (pe_tup (pa_cons pe_str (pa_cons (pv 8) pa_nil))) pa_nil))))) (pss_one (ps_ret pe_bl)) pss_nil)
      (pss_one (ps_ret (pe_cmpR op_eq (pe_callB (call_repr gd hu) (by rfl) T.repr PyProof.Rows.boot_repr (pa_cons (pe_tup (pa_cons (pe_m0X MR BC.cls (pv 4) hr pass0) (pa_cons (pe_fld (pv 4) rfl) (pa_cons (pe_fld (pv 4) rfl) pa_nil)))) pa_nil)) (pv 5) (nomark _))))))))))))))))))), ?_⟩
    refine ⟨_, rfl, a, ns, rfl, hS, fun p l G1 hp s1 src => ?_⟩
    refine ⟨_, rfl, l, p, 24, rfl, by decide, by decide, src, fun v G2 v0 v1 k2 => ?_⟩
    obtain ⟨v, rfl⟩ := Int.eq_ofNat_of_zero_le v0
    have em : (1 : Int) + (v : Int) = ((v + 1 : Nat) : Int) := by omega
    refine ⟨_, _, rfl, rfl, ?_⟩
    dsimp only
    rw [em]
    obtain ⟨m, hm⟩ : ∃ m, m = v + 1 := ⟨_, rfl⟩
    rw [← hm]
    refine seq_joinG (fun σ G' => Keeps l p G2 G' ∧ ∃ n : Nat, 1 ≤ n ∧ n ≤ 24 ∧ σ = [some (.ref a), some (.ref p), some (.int (n : Int)), none, none, none, none, none, none, none, none]) ?_ (fun D' hn' _ => ?_)
    rotate_left
    · refine ⟨_, rfl, l, p, 4, rfl, by decide, by decide, k2.src, fun q G3 q0 q1 k3 => ⟨rfl, _, rfl, ?_⟩⟩
      refine ite2 (fun _ => ?_) (fun _ => ?_)
      · exact hn' _ _ ⟨k3, 24, by decide, by decide, rfl⟩
      · exact hn' _ _ ⟨k3, m, by omega, by omega, rfl⟩
    rintro σ G ⟨k3, n, n1, n24, rfl⟩
    clear hm em
    refine ⟨_, rfl, l, p, 9, rfl, by decide, by decide, k3.src, fun cv G4 c0 c1 k4 => ?_⟩
    obtain ⟨c, rfl⟩ := Int.eq_ofNat_of_zero_le c0
    refine ⟨_, rfl, by omega, by omega, fun D hD => ?_⟩
    rw [Int.toNat_natCast]
    have nD := (k4.src.free_ne hD).1
    refine lc_range (lo := 0) (n := c) (fun i H' => Keeps l p G4 H' ∧ ∃ xs ls, H' D = some (.lst xs) ∧ ls.length = i ∧ DvA (L2.del H' p) xs (ls.map lotD) ∧ ∀ l ∈ ls, IsLot n l) ⟨(Keeps.refl k4.src).own k4.src hD, [], [], upd_same, rfl, .nil, fun _ h => nomatch h⟩ ?_ ?_
    · rintro i H' hi ⟨k5, xs, ls, hd, hl, hA, hI⟩
      refine ⟨rfl, _, rfl, _, rfl, l, p, n, rfl, by omega, k5.src, fun mm H2 hmm k6 => ⟨mm, rfl, Nat.lt_of_lt_of_le hmm (Nat.pow_le_pow_right (by decide) (by omega)), fun t H3 ht s4 g4 => ?_⟩⟩
      have k7 : Keeps l p H' H3 := keepS k6 s4
      have hd3 : H3 D = some (.lst xs) := k7.same D _ nD hd
      have hlen : xs.length = i := by
        have := DvA.length hA
        rw [List.length_map] at this; omega
      refine ⟨xs, hd3, by rw [hlen, sizeLine_eq]; omega, (k5.trans k7).own k4.src hD, xs ++ [.ref t], ls ++ [lotN mm], upd_same, by rw [List.length_append, List.length_singleton, hl], ?_, fun z hz => ?_⟩
      · rw [del_upd nD, List.map_append]
        have hA3 : DvA (L2.del H3 p) xs (ls.map lotD) := DvA.mono k7.del _ _ hA
        have hA4 : DvA (L2.del H3 p) (xs ++ [.ref t]) ((ls ++ [lotN mm]).map lotD) := by
          rw [List.map_append]
          refine hA3.append (.cons ?_ .nil)
          exact (k5.trans k7).src.dv_tup g4 (lotA _ _)
        have q := lots_upd (o := .lst (xs ++ [.ref t])) (by rw [del_ne nD]; exact hd3 : L2.del H3 p D = some (.lst xs)) hA4
        rw [List.map_append] at q
        exact q
      · rcases List.mem_append.mp hz with hz | hz
        · exact hI z hz
        · rw [List.mem_singleton.mp hz]
          exact ⟨lotN_asc mm, fun p hp => lotN_lt hmm p hp⟩
    rintro G5 ⟨k5, xs, ls, hd, hl, hA, hI⟩
    have L3 : LotsAt p G5 D xs ls := ⟨nD, hd, hA⟩
    have kk5 := k5.src
    clear hd hA nD hD
    -- single places behind
    dsimp only
    refine seq_joinG (fun σ G' => Src l p G' ∧ ∃ (D : Addr) (xs : List V) (ls : List (List Nat)), ls.length ≤ 30 ∧ LotsAt p G' D xs ls ∧ (∀ l ∈ ls, IsLot n l) ∧ σ = [some (.ref a), some (.ref p), some (.int (n : Int)), some (.ref D), none, none, none, none, none, none, none]) ?_ (fun D' hn' _ => ?_)
    rotate_left
    · refine ⟨_, rfl, l, p, 6, rfl, by decide, by decide, kk5, fun q G6 q0 q1 k6 => ⟨rfl, _, rfl, ?_⟩⟩
      refine ite2 (fun _ => ?_) (fun _ => ?_)
      · have L6 := L3.keeps k6
        refine ⟨_, rfl, _, rfl, _, rfl, by omega, by omega, fun E hE => ?_⟩
        rw [Int.toNat_natCast]
        have nE := (k6.src.free_ne hE).1
        refine lc_range (lo := 0) (n := n) (fun i H' => Keeps l p G6 H' ∧ ∃ ys us, H' E = some (.lst ys) ∧ us.length = min i 13 ∧ DvA (L2.del H' p) ys (us.map lotD) ∧ ∀ l ∈ us, IsLot n l) ⟨(Keeps.refl k6.src).own k6.src hE, [], [], upd_same, rfl, .nil, fun _ h => nomatch h⟩ ?_ ?_
        · rintro i H' hi ⟨k7, ys, us, hd, hu, hA, hJ⟩
          refine ⟨rfl, _, rfl, _, _, rfl, rfl, _, rfl, ?_⟩
          refine ite2 (fun q => ?_) (fun q => ?_)
          · have q2 : (0 : Int) + (i : Int) < 13 := of_decide_eq_true q
            refine ⟨_, rfl, (by show 1 ≤ sizeLine; decide), fun t ht => ?_⟩
            have s8 := Same.new (Same.refl H') (o := .tup [.int (0 + (i : Int))]) ht
            have k8 := keepS (Keeps.refl k7.src) s8
            have hd8 := s8 _ _ hd
            have g8 : (upd H' t (.tup [.int (0 + (i : Int))])) t = some (.tup (lotV [i])) := by
              rw [upd_same]
              show some (HO.tup [V.int (0 + (i : Int))]) = some (HO.tup [V.int (i : Int)])
              rw [Int.zero_add]
            have k9 := k7.trans k8
            generalize upd H' t (.tup [.int (0 + (i : Int))]) = H8 at s8 k8 hd8 g8 k9
            have hlen : ys.length = us.length := by
              have := DvA.length hA
              rw [List.length_map] at this; omega
            refine ⟨ys, hd8, by rw [hlen, sizeLine_eq]; omega, k9.own k6.src hE, ys ++ [.ref t], us ++ [[i]], upd_same, by rw [List.length_append, List.length_singleton, hu]; omega, ?_, fun z hz => ?_⟩
            · rw [del_upd nE, List.map_append]
              have hA3 : DvA (L2.del H8 p) ys (us.map lotD) := DvA.mono k8.del _ _ hA
              have hA4 : DvA (L2.del H8 p) (ys ++ [.ref t]) ((us ++ [[i]]).map lotD) := by
                rw [List.map_append]
                refine hA3.append (.cons ?_ .nil)
                exact k9.src.dv_tup g8 (lotA _ _)
              have q := lots_upd (o := .lst (ys ++ [.ref t])) (by rw [del_ne nE]; exact hd8 : L2.del H8 p E = some (.lst ys)) hA4
              rw [List.map_append] at q
              exact q
            · rcases List.mem_append.mp hz with hz | hz
              · exact hJ z hz
              · rw [List.mem_singleton.mp hz]
                exact ⟨.cons (fun _ h => (nomatch h)) .nil, fun p hp => by rw [List.mem_singleton.mp hp]; exact hi⟩
          · have q2 : ¬ (0 : Int) + (i : Int) < 13 := fun z => q (decide_eq_true z)
            exact ⟨k7, ys, us, hd, by omega, hA, hJ⟩
        rintro G7 ⟨k7, ys, us, hd, hu, hA, hJ⟩
        have L7 := L6.keeps k7
        have LE : LotsAt p G7 E ys us := ⟨nE, hd, hA⟩
        have lx := L7.len
        have le := LE.len
        refine ⟨D, E, xs, ys, rfl, rfl, L7.at_, hd, (by rw [sizeLine_eq]; omega), fun F hF => ?_⟩
        have s8 := Same.new (Same.refl G7) (o := .lst (xs ++ ys)) hF
        have k8 := keepS (Keeps.refl k7.src) s8
        refine hn' _ _ ⟨k8.src, F, xs ++ ys, ls ++ us, by rw [List.length_append]; omega, ⟨(k7.src.free_ne hF).1, upd_same, ?_⟩, fun z hz => ?_, rfl⟩
        · rw [List.map_append]
          exact (L7.keeps k8).all.append (LE.keeps k8).all
        · rcases List.mem_append.mp hz with hz | hz
          · exact hI z hz
          · exact hJ z hz
      · exact hn' _ _ ⟨k6.src, D, xs, ls, by omega, L3.keeps k6, hI, rfl⟩
    rintro σ G6 ⟨src6, D, xs, ls, hl, LA, hI, rfl⟩
    refine ⟨_, rfl, _, rfl, _, rfl, l, p, D, n, xs, ls, rfl, LA, hI, hl, n1, n24, src6, fun G7 k7 => ⟨_, rfl, iteF ?_⟩⟩
    have LA := LA.keeps k7
    refine ⟨_, rfl, _, rfl, mk_bookR n1 n24 LA.at_ LA.all' hI (by omega) fun b G8 hb s8 bo => ?_⟩
    have k8 := keepS (Keeps.refl k7.src) s8
    have rB : Red n (reduceF (ls.map maskN)) := ⟨_, fun z hz => by
      obtain ⟨l, hl, rfl⟩ := List.mem_map.mp hz
      exact maskN_lt (hI l hl).lt, rfl⟩
    generalize reduceF (ls.map maskN) = ms at bo rB
    have hlen := rB.len
    have srD := sr_state (k := ms.length) rB.lt n24 (by omega) (by omega)
    obtain ⟨dx, bt, g1, g2⟩ := id bo
    refine ⟨_, rfl, b, dx, _, rfl, g1, rfl, b, n, ms, rfl, bo, rB, n24, fun R G9 rs hR s9 gR hA => ?_⟩
    refine ⟨_, rfl, b, C, dx, _, _, rfl, s9 _ _ g1, BC.cls, BC.nSize, rfl, _, rfl, b, C, dx, _, _, rfl, s9 _ _ g1, BC.cls, BC.nDim, rfl, (by show 3 ≤ sizeLine; decide), fun t ht => ?_⟩
    have s10 := Same.new (Same.refl G9) (o := .tup [.ref R, .int (n : Int), .int (ms.length : Nat)]) ht
    refine ⟨t, _, rfl, state_at (s10 _ _ gR) (DvA.mono s10 _ _ hA) upd_same, srD, ?_⟩
    have k10 := keepS (Keeps.refl k8.src) (s9.trans s10)
    have bo := bo.keeps k10 k8.src
    generalize upd G9 t (.tup [.ref R, .int (n : Int), .int (ms.length : Nat)]) = G10 at k10 bo
    clear s10 gR hA ht s9 hR g1 g2
    -- a good lot
    refine ⟨_, rfl, _, rfl, l, p, n, rfl, by omega, k10.src, fun ma G11 hma k11 => ?_⟩
    refine ⟨_, rfl, _, rfl, _, rfl, l, p, (n : Int), rfl, by omega, by omega, k11.src, fun dv G12 d0 d1 k12 => ?_⟩
    obtain ⟨dv, rfl⟩ := Int.eq_ofNat_of_zero_le d0
    have ed : (1 : Int) + (dv : Int) = ((dv + 1 : Nat) : Int) := by omega
    refine ⟨_, _, rfl, rfl, l, p, dv + 1, congrArg (fun z => [V.ref p, V.int z]) ed, by omega, k12.src, fun mb G13 hmb k13 => ?_⟩
    have hlt : ma &&& mb < 2 ^ n := Nat.lt_of_le_of_lt Nat.and_le_left hma
    refine ⟨_, _, rfl, rfl, ma &&& mb, congrArg (fun z => [V.int z]) (bitAnd_nat ma mb), Nat.lt_of_lt_of_le hlt (Nat.pow_le_pow_right (by decide) (by omega)), fun g G14 hg s14 g14 => ?_⟩
    have ig : IsLot n (lotN (ma &&& mb)) := ⟨lotN_asc _, lotN_lt hlt⟩
    have kG := keepS ((k11.trans k12).trans k13) s14
    have bo := bo.keeps kG k10.src
    have dg : Dv (L2.del G14 p) (.ref g) (lotD (lotN (ma &&& mb))) := kG.src.dv_tup g14 (lotA _ _)
    generalize lotN (ma &&& mb) = gl at ig dg g14
    clear hlt hma hmb
    refine ⟨_, rfl, _, rfl, _, rfl, l, p, b, g, n, ms, gl, rfl, bo, rB, n1, n24, dg, ig, kG.src, fun G15 k15 => ⟨_, rfl, iteF ?_⟩⟩
    have bo := bo.keeps k15 kG.src
    refine ⟨_, rfl, _, rfl, l, p, b, n, ms, rfl, bo, rB, n1, n24, k15.src, fun G16 k16 => ⟨_, rfl, iteF ?_⟩⟩
    have bo := bo.keeps k16 k15.src
    -- an order
    refine ⟨_, rfl, _, rfl, l, p, n, rfl, by omega, k16.src, fun o G17 ol ho k17 go pl => ?_⟩
    have bo := bo.keeps k17 k16.src
    have no : o ≠ p := (k16.src.free_ne ho).1
    refine ⟨_, rfl, _, rfl, .inl ⟨o, _, rfl, .inl (.inl go), fun t ht => ?_⟩⟩
    have s18 := Same.new (Same.refl G17) (o := .tup (lotV ol)) ht
    have k18 := keepS (Keeps.refl k17.src) s18
    have bo := bo.keeps k18 k17.src
    have go := s18 _ _ go
    have gt : (upd G17 t (.tup (lotV ol))) t = some (.tup (lotV ol)) := upd_same
    generalize upd G17 t (.tup (lotV ol)) = G18 at k18 bo go gt
    have dt : Dv G18 (.ref t) (lotD ol) := .lot gt
    have oy := isOrdD_of pl
    refine ⟨b, n, ms, _, _, rfl, bo, rB, n1, n24, dt, fun ds e => ?_, fun e => ?_, fun _ q G19 s19 gq => ?_⟩
    · injection e with e
      rw [← e, List.length_map, pl.length_eq, List.length_range]; omega
    · rw [oy] at e; cases e
    have smn : Sm 41 (.int (n : Int)) := (it_int (nat_small (by omega))).sm
    refine ⟨_, rfl, (by show 2 ≤ sizeLine; decide), fun q2 hq2 => ?_⟩
    obtain ⟨x1, x2, x3⟩ := same_ok gq (.int _) hq2 tag_told smn (by decide)
    refine ⟨_, _, _, rfl, x1, x2, x3, _, rfl, iteF ?_⟩
    clear x1 x2 x3
    have s20 := Same.new s19 (o := .tup [sz "told", .int (n : Int)]) hq2
    have k20 := keepS (Keeps.refl k18.src) s20
    have bo := bo.keeps k20 k18.src
    have go := s20 _ _ go
    generalize upd G19 q2 (.tup [sz "told", .int (n : Int)]) = G20 at k20 bo go
    -- a bad order
    refine ⟨_, rfl, _, rfl, l, p, o, n, ol, rfl, no, go, pl, n1, n24, k20.src, fun bv bd G21 k21 db nb smb zb => ?_⟩
    have bo := bo.keeps k21 k20.src
    refine ⟨_, rfl, _, rfl, b, n, ms, _, _, rfl, bo, rB, n1, n24, db.undel, zb, fun _ q G22 s22 gq => ?_, fun e => ?_⟩
    rotate_left
    · rw [nb] at e; cases e
    have w22 := keepS (Keeps.refl k21.src) s22
    refine ⟨_, rfl, (by show 2 ≤ sizeLine; decide), fun q2 hq2 => ?_⟩
    obtain ⟨x1, x2, x3⟩ := same_ok gq (db.keeps w22).undel hq2 tag_order smb (by decide)
    refine ⟨_, _, _, rfl, x1, x2, x3, _, rfl, iteF ?_⟩
    clear x1 x2 x3
    have k23 := keepS (Keeps.refl k21.src) (Same.new s22 (o := .tup [sz "order", bv]) hq2)
    have bo := bo.keeps k23 k21.src
    generalize upd G22 q2 (.tup [sz "order", bv]) = G23 at k23 bo
    -- the book stays
    obtain ⟨dx, bt, g1, g2⟩ := id bo
    refine ⟨_, rfl, b, dx, _, rfl, g1, rfl, b, n, ms, rfl, bo, rB, n24, fun R G9 rs hR s9 gR hA => ?_⟩
    refine ⟨_, rfl, b, C, dx, _, _, rfl, s9 _ _ g1, BC.cls, BC.nSize, rfl, _, rfl, b, C, dx, _, _, rfl, s9 _ _ g1, BC.cls, BC.nDim, rfl, (by show 3 ≤ sizeLine; decide), fun t ht => ?_⟩
    have s10 := Same.new (Same.refl G9) (o := .tup [.ref R, .int (n : Int), .int (ms.length : Nat)]) ht
    refine ⟨t, _, rfl, state_at (s10 _ _ gR) (DvA.mono s10 _ _ hA) upd_same, srD, ?_⟩
    refine ⟨_, rfl, rfl, ?_⟩
    rw [decide_eq_true rfl]
    exact k _
end
end BT

set_option Elab.async false
set_option linter.all false
set_option maxRecDepth 100000
set_option maxHeartbeats 0
namespace BT
open PySem PySem.Spec PyProof.Rows L2
/-! ### the head: what stands behind the top -/
def dI : He.DefD := ⟨("BlindError", some "__init__"), "__init__", "BlindError.__init__", defArgs s_BlindError_init, defBody s_BlindError_init, defScope s_BlindError_init, [.non], []⟩
def plainD (x : Str) (st : Stmt) : He.DefD := ⟨(x, none), x, x, defArgs st, defBody st, defScope st, [], []⟩
def dfltD (x : Str) (st : Stmt) (l : List He.Dv) : He.DefD := ⟨(x, none), x, x, defArgs st, defBody st, defScope st, l, []⟩
def methD (c x q : Str) (st : Stmt) : He.DefD := ⟨(c, some x), x, q, defArgs st, defBody st, defScope st, [], []⟩
def fnK : List He.DefD := dI :: [plainD "mask_of" s_mask_of, plainD "lot_of" s_lot_of, plainD "odd" s_odd, plainD "is_number" s_is_number, plainD "is_between" s_is_between, plainD "need_size" s_need_size, plainD "is_lot" s_is_lot, plainD "need_lot" s_need_lot, plainD "need_each_lot" s_need_each_lot, plainD "plus" s_plus, plainD "_law_source" s_law_source, plainD "_law_next" s_law_next, plainD "_law_mixed" s_law_mixed, plainD "_law_draw" s_law_draw, plainD "_law_great" s_law_great, plainD "_law_lot" s_law_lot, plainD "_law_integer" s_law_integer, plainD "_law_same" s_law_same, plainD "_law_nested" s_law_nested, plainD "_law_bad_lot" s_law_bad_lot] ++ [plainD "lowest" s_lowest, plainD "cleared" s_cleared, plainD "sweep" s_sweep, plainD "reduce_rows" s_reduce_rows, plainD "picked" s_picked, plainD "span" s_span, plainD "check_rows" s_check_rows, dfltD "need_lots" s_need_lots [.int 60], plainD "need_book_size" s_need_book_size, methD "Book" "__init__" "Book.__init__" s_Book_init, plainD "_told" s_told, methD "Book" "checks" "Book.checks" s_Book_checks, methD "Book" "rows" "Book.rows" s_Book_rows, methD "Book" "turned" "Book.turned" s_Book_turned, methD "Book" "holds" "Book.holds" s_Book_holds, methD "Book" "is_check" "Book.is_check" s_Book_is_check, methD "Book" "tell_same" "Book.tell_same" s_Book_tell_same, plainD "unseen" s_unseen, methD "Book" "within" "Book.within" s_Book_within, methD "Book" "shown" "Book.shown" s_Book_shown] ++ [methD "Book" "_need_places" "Book._need_places" s_Book_need_places, methD "Book" "on" "Book.on" s_Book_on, methD "Book" "under" "Book.under" s_Book_under, methD "Book" "join" "Book.join" s_Book_join, methD "Book" "meet" "Book.meet" s_Book_meet, plainD "_is_order" s_is_order, methD "Book" "moved" "Book.moved" s_Book_moved, methD "Book" "beside" "Book.beside" s_Book_beside, methD "Book" "with_sum" "Book.with_sum" s_Book_with_sum, methD "Book" "words" "Book.words" s_Book_words, methD "Book" "word_of" "Book.word_of" s_Book_word_of, plainD "_law_made" s_law_made, plainD "_law_moved" s_law_moved, plainD "_law_asked" s_law_asked, plainD "_law_paired" s_law_paired, plainD "_law_order" s_law_order, plainD "_law_bad_order" s_law_bad_order, plainD "_law_made_holds" s_law_made_holds, plainD "_law_methods_hold" s_law_methods_hold, plainD "_law_pairs_hold" s_law_pairs_hold] ++ [plainD "law" s_law]
def faK : List He.Fa := [.free "int", .free "bool", .free "tuple", .free "list", .free "range", .free "len", .free "isinstance", .free "enumerate", .free "abs", .free "min", .free "repr", .free "sorted", .free "any", .free "all", .free "sum", .int "ALL_PLACES" (-1), .int "MOST_PLACES" 60, .int "MOST_SIZE" 24, .int "MOST_WORDS" 4096, .glo "mask_of"] ++ [.glo "lot_of", .glo "odd", .glo "is_number", .glo "is_between", .glo "need_size", .glo "is_lot", .glo "need_lot", .glo "need_each_lot", .glo "plus", .glo "_law_source", .glo "_law_next", .glo "_law_mixed", .glo "_law_draw", .glo "_law_great", .glo "_law_lot", .glo "_law_integer", .glo "_law_same", .glo "_law_nested", .glo "_law_bad_lot", .glo "lowest"] ++ [.glo "cleared", .glo "sweep", .glo "reduce_rows", .glo "picked", .glo "span", .glo "check_rows", .glo "need_lots", .glo "need_book_size", .glo "_told", .glo "unseen", .glo "_is_order", .glo "_law_made", .glo "_law_moved", .glo "_law_asked", .glo "_law_paired", .glo "_law_order", .glo "_law_bad_order", .glo "_law_made_holds", .glo "_law_methods_hold", .glo "_law_pairs_hold"] ++ [.glo "law", .glo "Book", .cls "Book", .noat "Book" "size", .noat "Book" "masks", .noat "Book" "dim", .mkr "Book", .meth "Book" "checks", .meth "Book" "rows", .meth "Book" "turned", .meth "Book" "holds", .meth "Book" "is_check", .meth "Book" "tell_same", .meth "Book" "within", .meth "Book" "shown", .meth "Book" "_need_places", .meth "Book" "on", .meth "Book" "under", .meth "Book" "join", .meth "Book" "meet"] ++ [.meth "Book" "moved", .meth "Book" "beside", .meth "Book" "with_sum", .meth "Book" "words", .meth "Book" "word_of", .exm "BadLots" "BadSize" false, .exm "TooMany" "Unlike" false]
def xsK : List Str := ["BadSize", "BadLot", "BadLots", "Unlike", "BadOrder", "TooMany"]
abbrev R : PySem.W.OpenRow := PySem.W.OpenLaw.row PySem.Challenge.rw_blindtwins_k02_books_refuse
abbrev hkK : PySem.W.Hook := hookX 5 faK fnK xsK
def obK (s : PySem.W.SharedT) : AlX := obsXG 5 faK fnK xsK (HandSHeadRun.getT s)
theorem obK_eq (s : PySem.W.SharedT) : obK s = hkK.obs s.abs := obsXG_eq (HandSHeadRun.getT_eq s)
def looseK : List Str := (R.prog.main.scope.names.filter fun p => p.2 == .local && p.1 != ("law" : Str) && p.1 != ("__name__" : Str)).map (·.1)
theorem runK (w : World) : HandSHeadRun.RunEq R (PySem.W.view R.prog [59]) hkK obK 4000 looseK w := by
  intro os
  kernel_rfl
theorem factsK {P : Program} {w : World} {K : PySem.W.Frag} {h : Heap} {mg : Str → Option Value} {f : Addr} (X : K.In h) (G : h.Ns mainGlobals mg) (hfa : mg ("law" : Str) = some (.ref f)) (ce : xsK.all (errB K) = true) (c : He.SaysD faK fnK K) :
    ∃ fd : FuncData, (∀ (s : Shared) (v : Value), BindsTo s fd ⟨[v], []⟩ [("_law_script", v)]) ∧ ∀ base : Heap, K.In base → base.Ns mainGlobals mg → FnG P w K mg base 15 f fd ["_law_script"] (spLaw K) := by
  have T : Bi mg := ⟨He.free_ok X G (c.fact 0 rfl), He.free_ok X G (c.fact 1 rfl), He.free_ok X G (c.fact 2 rfl), He.free_ok X G (c.fact 3 rfl), He.free_ok X G (c.fact 4 rfl), He.free_ok X G (c.fact 5 rfl), He.free_ok X G (c.fact 6 rfl), He.free_ok X G (c.fact 7 rfl), He.free_ok X G (c.fact 8 rfl), He.free_ok X G (c.fact 9 rfl), He.free_ok X G (c.fact 10 rfl)⟩
  have T2 : Bi2 mg := ⟨He.free_ok X G (c.fact 11 rfl), He.free_ok X G (c.fact 12 rfl), He.free_ok X G (c.fact 13 rfl), He.free_ok X G (c.fact 14 rfl)⟩
  obtain ⟨tALL_PLACES, hALL_PLACES⟩ := He.int_ok X G (c.fact 15 rfl)
  obtain ⟨tMOST_PLACES, hMOST_PLACES⟩ := He.int_ok X G (c.fact 16 rfl)
  obtain ⟨tMOST_SIZE, hMOST_SIZE⟩ := He.int_ok X G (c.fact 17 rfl)
  obtain ⟨tMOST_WORDS, hMOST_WORDS⟩ := He.int_ok X G (c.fact 18 rfl)
  obtain ⟨fdI, FI⟩ := c.def_ 0 (d := dI) rfl
  have FI : FunD K "__init__" "BlindError.__init__" (defArgs s_BlindError_init) (defBody s_BlindError_init) (defScope s_BlindError_init) [.non] [] (He.fAd K ("BlindError", some "__init__")) fdI := FI
  have bI : Binds K fdI ["self", "what"] [] := by
    obtain ⟨ds, r, b⟩ := FI.binds1 (ps := ["self", "what"]) 2 1 (by simp) rfl fun _ _ _ _ _ _ _ us its hu hi => match us, its, hu, hi with | [_, _], [_], _, _ => ⟨_, rfl, rfl⟩
    cases r
    exact b
  obtain ⟨fd0, F0⟩ := c.def_ 1 (d := plainD "mask_of" s_mask_of) rfl
  have b0 : Binds K fd0 ["lot"] [] := FunD.bindsN F0 fun _ _ _ _ _ _ us hl => match us, hl with | [_], _ => rfl
  have g0 := He.glo_ok X G (c.fact 19 rfl)
  obtain ⟨fd1, F1⟩ := c.def_ 2 (d := plainD "lot_of" s_lot_of) rfl
  have b1 : Binds K fd1 ["mask"] [] := FunD.bindsN F1 fun _ _ _ _ _ _ us hl => match us, hl with | [_], _ => rfl
  have g1 := He.glo_ok X G (c.fact 20 rfl)
  obtain ⟨fd2, F2⟩ := c.def_ 3 (d := plainD "odd" s_odd) rfl
  have b2 : Binds K fd2 ["mask"] [] := FunD.bindsN F2 fun _ _ _ _ _ _ us hl => match us, hl with | [_], _ => rfl
  have g2 := He.glo_ok X G (c.fact 21 rfl)
  obtain ⟨fd3, F3⟩ := c.def_ 4 (d := plainD "is_number" s_is_number) rfl
  have b3 : Binds K fd3 ["value"] [] := FunD.bindsN F3 fun _ _ _ _ _ _ us hl => match us, hl with | [_], _ => rfl
  have g3 := He.glo_ok X G (c.fact 22 rfl)
  obtain ⟨fd4, F4⟩ := c.def_ 5 (d := plainD "is_between" s_is_between) rfl
  have b4 : Binds K fd4 ["value", "least", "most"] [] := FunD.bindsN F4 fun _ _ _ _ _ _ us hl => match us, hl with | [_, _, _], _ => rfl
  have g4 := He.glo_ok X G (c.fact 23 rfl)
  obtain ⟨fd5, F5⟩ := c.def_ 6 (d := plainD "need_size" s_need_size) rfl
  have b5 : Binds K fd5 ["size"] [] := FunD.bindsN F5 fun _ _ _ _ _ _ us hl => match us, hl with | [_], _ => rfl
  have g5 := He.glo_ok X G (c.fact 24 rfl)
  obtain ⟨fd6, F6⟩ := c.def_ 7 (d := plainD "is_lot" s_is_lot) rfl
  have b6 : Binds K fd6 ["value", "size"] [] := FunD.bindsN F6 fun _ _ _ _ _ _ us hl => match us, hl with | [_, _], _ => rfl
  have g6 := He.glo_ok X G (c.fact 25 rfl)
  obtain ⟨fd7, F7⟩ := c.def_ 8 (d := plainD "need_lot" s_need_lot) rfl
  have b7 : Binds K fd7 ["value", "size"] [] := FunD.bindsN F7 fun _ _ _ _ _ _ us hl => match us, hl with | [_, _], _ => rfl
  have g7 := He.glo_ok X G (c.fact 26 rfl)
  obtain ⟨fd8, F8⟩ := c.def_ 9 (d := plainD "need_each_lot" s_need_each_lot) rfl
  have b8 : Binds K fd8 ["values", "size"] [] := FunD.bindsN F8 fun _ _ _ _ _ _ us hl => match us, hl with | [_, _], _ => rfl
  have g8 := He.glo_ok X G (c.fact 27 rfl)
  obtain ⟨fd9, F9⟩ := c.def_ 10 (d := plainD "plus" s_plus) rfl
  have b9 : Binds K fd9 ["one", "other"] [] := FunD.bindsN F9 fun _ _ _ _ _ _ us hl => match us, hl with | [_, _], _ => rfl
  have g9 := He.glo_ok X G (c.fact 28 rfl)
  obtain ⟨fd10, F10⟩ := c.def_ 11 (d := plainD "_law_source" s_law_source) rfl
  have b10 : Binds K fd10 ["_law_script"] [] := FunD.bindsN F10 fun _ _ _ _ _ _ us hl => match us, hl with | [_], _ => rfl
  have g10 := He.glo_ok X G (c.fact 29 rfl)
  obtain ⟨fd11, F11⟩ := c.def_ 12 (d := plainD "_law_next" s_law_next) rfl
  have b11 : Binds K fd11 ["_law_source_here"] [] := FunD.bindsN F11 fun _ _ _ _ _ _ us hl => match us, hl with | [_], _ => rfl
  have g11 := He.glo_ok X G (c.fact 30 rfl)
  obtain ⟨fd12, F12⟩ := c.def_ 13 (d := plainD "_law_mixed" s_law_mixed) rfl
  have b12 : Binds K fd12 ["_law_cell", "_law_whole", "_law_count"] [] := FunD.bindsN F12 fun _ _ _ _ _ _ us hl => match us, hl with | [_, _, _], _ => rfl
  have g12 := He.glo_ok X G (c.fact 31 rfl)
  obtain ⟨fd13, F13⟩ := c.def_ 14 (d := plainD "_law_draw" s_law_draw) rfl
  have b13 : Binds K fd13 ["_law_source_here", "_law_many"] [] := FunD.bindsN F13 fun _ _ _ _ _ _ us hl => match us, hl with | [_, _], _ => rfl
  have g13 := He.glo_ok X G (c.fact 32 rfl)
  obtain ⟨fd14, F14⟩ := c.def_ 15 (d := plainD "_law_great" s_law_great) rfl
  have b14 : Binds K fd14 ["_law_source_here", "_law_size"] [] := FunD.bindsN F14 fun _ _ _ _ _ _ us hl => match us, hl with | [_, _], _ => rfl
  have g14 := He.glo_ok X G (c.fact 33 rfl)
  obtain ⟨fd15, F15⟩ := c.def_ 16 (d := plainD "_law_lot" s_law_lot) rfl
  have b15 : Binds K fd15 ["_law_mask"] [] := FunD.bindsN F15 fun _ _ _ _ _ _ us hl => match us, hl with | [_], _ => rfl
  have g15 := He.glo_ok X G (c.fact 34 rfl)
  obtain ⟨fd16, F16⟩ := c.def_ 17 (d := plainD "_law_integer" s_law_integer) rfl
  have b16 : Binds K fd16 ["_law_value"] [] := FunD.bindsN F16 fun _ _ _ _ _ _ us hl => match us, hl with | [_], _ => rfl
  have g16 := He.glo_ok X G (c.fact 35 rfl)
  obtain ⟨fd17, F17⟩ := c.def_ 18 (d := plainD "_law_same" s_law_same) rfl
  have b17 : Binds K fd17 ["_law_actual", "_law_expected"] [] := FunD.bindsN F17 fun _ _ _ _ _ _ us hl => match us, hl with | [_, _], _ => rfl
  have g17 := He.glo_ok X G (c.fact 36 rfl)
  obtain ⟨fd18, F18⟩ := c.def_ 19 (d := plainD "_law_nested" s_law_nested) rfl
  have b18 : Binds K fd18 ["_law_value", "_law_deep"] [] := FunD.bindsN F18 fun _ _ _ _ _ _ us hl => match us, hl with | [_, _], _ => rfl
  have g18 := He.glo_ok X G (c.fact 37 rfl)
  obtain ⟨fd19, F19⟩ := c.def_ 20 (d := plainD "_law_bad_lot" s_law_bad_lot) rfl
  have b19 : Binds K fd19 ["_law_source_here", "_law_size"] [] := FunD.bindsN F19 fun _ _ _ _ _ _ us hl => match us, hl with | [_, _], _ => rfl
  have g19 := He.glo_ok X G (c.fact 38 rfl)
  obtain ⟨fd20, F20⟩ := c.def_ 21 (d := plainD "lowest" s_lowest) rfl
  have b20 : Binds K fd20 ["mask"] [] := FunD.bindsN F20 fun _ _ _ _ _ _ us hl => match us, hl with | [_], _ => rfl
  have g20 := He.glo_ok X G (c.fact 39 rfl)
  obtain ⟨fd21, F21⟩ := c.def_ 22 (d := plainD "cleared" s_cleared) rfl
  have b21 : Binds K fd21 ["mask", "rows", "part"] [] := FunD.bindsN F21 fun _ _ _ _ _ _ us hl => match us, hl with | [_, _, _], _ => rfl
  have g21 := He.glo_ok X G (c.fact 40 rfl)
  obtain ⟨fd22, F22⟩ := c.def_ 23 (d := plainD "sweep" s_sweep) rfl
  have b22 : Binds K fd22 ["masks", "part"] [] := FunD.bindsN F22 fun _ _ _ _ _ _ us hl => match us, hl with | [_, _], _ => rfl
  have g22 := He.glo_ok X G (c.fact 41 rfl)
  obtain ⟨fd23, F23⟩ := c.def_ 24 (d := plainD "reduce_rows" s_reduce_rows) rfl
  have b23 : Binds K fd23 ["masks"] [] := FunD.bindsN F23 fun _ _ _ _ _ _ us hl => match us, hl with | [_], _ => rfl
  have g23 := He.glo_ok X G (c.fact 42 rfl)
  obtain ⟨fd24, F24⟩ := c.def_ 25 (d := plainD "picked" s_picked) rfl
  have b24 : Binds K fd24 ["mask", "places"] [] := FunD.bindsN F24 fun _ _ _ _ _ _ us hl => match us, hl with | [_, _], _ => rfl
  have g24 := He.glo_ok X G (c.fact 43 rfl)
  obtain ⟨fd25, F25⟩ := c.def_ 26 (d := plainD "span" s_span) rfl
  have b25 : Binds K fd25 ["masks"] [] := FunD.bindsN F25 fun _ _ _ _ _ _ us hl => match us, hl with | [_], _ => rfl
  have g25 := He.glo_ok X G (c.fact 44 rfl)
  obtain ⟨fd26, F26⟩ := c.def_ 27 (d := plainD "check_rows" s_check_rows) rfl
  have b26 : Binds K fd26 ["rows", "size"] [] := FunD.bindsN F26 fun _ _ _ _ _ _ us hl => match us, hl with | [_, _], _ => rfl
  have g26 := He.glo_ok X G (c.fact 45 rfl)
  obtain ⟨fd27, F27⟩ := c.def_ 28 (d := dfltD "need_lots" s_need_lots [.int 60]) rfl
  obtain ⟨ds27, v27, b27⟩ := FunD.binds1 (dvs := [V.int 60]) F27 (ps := ["value", "size", "most"]) 2 0 (by simp) rfl fun _ _ _ _ _ _ _ us its hu hi => match us, its, hu, hi with | [_, _], [_], _, _ => ⟨_, rfl, rfl⟩
  have g27 := He.glo_ok X G (c.fact 46 rfl)
  obtain ⟨fd28, F28⟩ := c.def_ 29 (d := plainD "need_book_size" s_need_book_size) rfl
  have b28 : Binds K fd28 ["size"] [] := FunD.bindsN F28 fun _ _ _ _ _ _ us hl => match us, hl with | [_], _ => rfl
  have g28 := He.glo_ok X G (c.fact 47 rfl)
  obtain ⟨fd29, F29⟩ := c.def_ 30 (d := methD "Book" "__init__" "Book.__init__" s_Book_init) rfl
  have b29 : Binds K fd29 ["self", "size", "rows"] [] := FunD.bindsN F29 fun _ _ _ _ _ _ us hl => match us, hl with | [_, _, _], _ => rfl
  obtain ⟨fd30, F30⟩ := c.def_ 31 (d := plainD "_told" s_told) rfl
  have b30 : Binds K fd30 ["size", "masks"] [] := FunD.bindsN F30 fun _ _ _ _ _ _ us hl => match us, hl with | [_, _], _ => rfl
  have g30 := He.glo_ok X G (c.fact 48 rfl)
  obtain ⟨fd31, F31⟩ := c.def_ 32 (d := methD "Book" "checks" "Book.checks" s_Book_checks) rfl
  have b31 : Binds K fd31 ["self"] [] := FunD.bindsN F31 fun _ _ _ _ _ _ us hl => match us, hl with | [_], _ => rfl
  obtain ⟨fd32, F32⟩ := c.def_ 33 (d := methD "Book" "rows" "Book.rows" s_Book_rows) rfl
  have b32 : Binds K fd32 ["self"] [] := FunD.bindsN F32 fun _ _ _ _ _ _ us hl => match us, hl with | [_], _ => rfl
  obtain ⟨fd33, F33⟩ := c.def_ 34 (d := methD "Book" "turned" "Book.turned" s_Book_turned) rfl
  have b33 : Binds K fd33 ["self"] [] := FunD.bindsN F33 fun _ _ _ _ _ _ us hl => match us, hl with | [_], _ => rfl
  obtain ⟨fd34, F34⟩ := c.def_ 35 (d := methD "Book" "holds" "Book.holds" s_Book_holds) rfl
  have b34 : Binds K fd34 ["self", "word"] [] := FunD.bindsN F34 fun _ _ _ _ _ _ us hl => match us, hl with | [_, _], _ => rfl
  obtain ⟨fd35, F35⟩ := c.def_ 36 (d := methD "Book" "is_check" "Book.is_check" s_Book_is_check) rfl
  have b35 : Binds K fd35 ["self", "lot"] [] := FunD.bindsN F35 fun _ _ _ _ _ _ us hl => match us, hl with | [_, _], _ => rfl
  obtain ⟨fd36, F36⟩ := c.def_ 37 (d := methD "Book" "tell_same" "Book.tell_same" s_Book_tell_same) rfl
  have b36 : Binds K fd36 ["self", "one", "other"] [] := FunD.bindsN F36 fun _ _ _ _ _ _ us hl => match us, hl with | [_, _, _], _ => rfl
  obtain ⟨fd37, F37⟩ := c.def_ 38 (d := plainD "unseen" s_unseen) rfl
  have b37 : Binds K fd37 ["masks", "part"] [] := FunD.bindsN F37 fun _ _ _ _ _ _ us hl => match us, hl with | [_, _], _ => rfl
  have g37 := He.glo_ok X G (c.fact 49 rfl)
  obtain ⟨fd38, F38⟩ := c.def_ 39 (d := methD "Book" "within" "Book.within" s_Book_within) rfl
  have b38 : Binds K fd38 ["self", "part"] [] := FunD.bindsN F38 fun _ _ _ _ _ _ us hl => match us, hl with | [_, _], _ => rfl
  obtain ⟨fd39, F39⟩ := c.def_ 40 (d := methD "Book" "shown" "Book.shown" s_Book_shown) rfl
  have b39 : Binds K fd39 ["self", "part"] [] := FunD.bindsN F39 fun _ _ _ _ _ _ us hl => match us, hl with | [_, _], _ => rfl
  obtain ⟨fd40, F40⟩ := c.def_ 41 (d := methD "Book" "_need_places" "Book._need_places" s_Book_need_places) rfl
  have b40 : Binds K fd40 ["self", "part"] [] := FunD.bindsN F40 fun _ _ _ _ _ _ us hl => match us, hl with | [_, _], _ => rfl
  obtain ⟨fd41, F41⟩ := c.def_ 42 (d := methD "Book" "on" "Book.on" s_Book_on) rfl
  have b41 : Binds K fd41 ["self", "part"] [] := FunD.bindsN F41 fun _ _ _ _ _ _ us hl => match us, hl with | [_, _], _ => rfl
  obtain ⟨fd42, F42⟩ := c.def_ 43 (d := methD "Book" "under" "Book.under" s_Book_under) rfl
  have b42 : Binds K fd42 ["self", "part"] [] := FunD.bindsN F42 fun _ _ _ _ _ _ us hl => match us, hl with | [_, _], _ => rfl
  obtain ⟨fd43, F43⟩ := c.def_ 44 (d := methD "Book" "join" "Book.join" s_Book_join) rfl
  have b43 : Binds K fd43 ["self", "other"] [] := FunD.bindsN F43 fun _ _ _ _ _ _ us hl => match us, hl with | [_, _], _ => rfl
  obtain ⟨fd44, F44⟩ := c.def_ 45 (d := methD "Book" "meet" "Book.meet" s_Book_meet) rfl
  have b44 : Binds K fd44 ["self", "other"] [] := FunD.bindsN F44 fun _ _ _ _ _ _ us hl => match us, hl with | [_, _], _ => rfl
  obtain ⟨fd45, F45⟩ := c.def_ 46 (d := plainD "_is_order" s_is_order) rfl
  have b45 : Binds K fd45 ["value", "size"] [] := FunD.bindsN F45 fun _ _ _ _ _ _ us hl => match us, hl with | [_, _], _ => rfl
  have g45 := He.glo_ok X G (c.fact 50 rfl)
  obtain ⟨fd46, F46⟩ := c.def_ 47 (d := methD "Book" "moved" "Book.moved" s_Book_moved) rfl
  have b46 : Binds K fd46 ["self", "order"] [] := FunD.bindsN F46 fun _ _ _ _ _ _ us hl => match us, hl with | [_, _], _ => rfl
  obtain ⟨fd47, F47⟩ := c.def_ 48 (d := methD "Book" "beside" "Book.beside" s_Book_beside) rfl
  have b47 : Binds K fd47 ["self", "other"] [] := FunD.bindsN F47 fun _ _ _ _ _ _ us hl => match us, hl with | [_, _], _ => rfl
  obtain ⟨fd48, F48⟩ := c.def_ 49 (d := methD "Book" "with_sum" "Book.with_sum" s_Book_with_sum) rfl
  have b48 : Binds K fd48 ["self", "lot"] [] := FunD.bindsN F48 fun _ _ _ _ _ _ us hl => match us, hl with | [_, _], _ => rfl
  obtain ⟨fd49, F49⟩ := c.def_ 50 (d := methD "Book" "words" "Book.words" s_Book_words) rfl
  have b49 : Binds K fd49 ["self"] [] := FunD.bindsN F49 fun _ _ _ _ _ _ us hl => match us, hl with | [_], _ => rfl
  obtain ⟨fd50, F50⟩ := c.def_ 51 (d := methD "Book" "word_of" "Book.word_of" s_Book_word_of) rfl
  have b50 : Binds K fd50 ["self", "numbers"] [] := FunD.bindsN F50 fun _ _ _ _ _ _ us hl => match us, hl with | [_, _], _ => rfl
  obtain ⟨fd51, F51⟩ := c.def_ 52 (d := plainD "_law_made" s_law_made) rfl
  have b51 : Binds K fd51 ["_law_size", "_law_rows"] [] := FunD.bindsN F51 fun _ _ _ _ _ _ us hl => match us, hl with | [_, _], _ => rfl
  have g51 := He.glo_ok X G (c.fact 51 rfl)
  obtain ⟨fd52, F52⟩ := c.def_ 53 (d := plainD "_law_moved" s_law_moved) rfl
  have b52 : Binds K fd52 ["_law_book", "_law_order_here"] [] := FunD.bindsN F52 fun _ _ _ _ _ _ us hl => match us, hl with | [_, _], _ => rfl
  have g52 := He.glo_ok X G (c.fact 52 rfl)
  obtain ⟨fd53, F53⟩ := c.def_ 54 (d := plainD "_law_asked" s_law_asked) rfl
  have b53 : Binds K fd53 ["_law_book", "_law_which", "_law_value", "_law_good"] [] := FunD.bindsN F53 fun _ _ _ _ _ _ us hl => match us, hl with | [_, _, _, _], _ => rfl
  have g53 := He.glo_ok X G (c.fact 53 rfl)
  obtain ⟨fd54, F54⟩ := c.def_ 55 (d := plainD "_law_paired" s_law_paired) rfl
  have b54 : Binds K fd54 ["_law_one", "_law_other", "_law_which"] [] := FunD.bindsN F54 fun _ _ _ _ _ _ us hl => match us, hl with | [_, _, _], _ => rfl
  have g54 := He.glo_ok X G (c.fact 54 rfl)
  obtain ⟨fd55, F55⟩ := c.def_ 56 (d := plainD "_law_order" s_law_order) rfl
  have b55 : Binds K fd55 ["_law_source_here", "_law_size"] [] := FunD.bindsN F55 fun _ _ _ _ _ _ us hl => match us, hl with | [_, _], _ => rfl
  have g55 := He.glo_ok X G (c.fact 55 rfl)
  obtain ⟨fd56, F56⟩ := c.def_ 57 (d := plainD "_law_bad_order" s_law_bad_order) rfl
  have b56 : Binds K fd56 ["_law_source_here", "_law_order_here"] [] := FunD.bindsN F56 fun _ _ _ _ _ _ us hl => match us, hl with | [_, _], _ => rfl
  have g56 := He.glo_ok X G (c.fact 56 rfl)
  obtain ⟨fd57, F57⟩ := c.def_ 58 (d := plainD "_law_made_holds" s_law_made_holds) rfl
  have b57 : Binds K fd57 ["_law_source_here", "_law_size", "_law_rows"] [] := FunD.bindsN F57 fun _ _ _ _ _ _ us hl => match us, hl with | [_, _, _], _ => rfl
  have g57 := He.glo_ok X G (c.fact 57 rfl)
  obtain ⟨fd58, F58⟩ := c.def_ 59 (d := plainD "_law_methods_hold" s_law_methods_hold) rfl
  have b58 : Binds K fd58 ["_law_source_here", "_law_book", "_law_good"] [] := FunD.bindsN F58 fun _ _ _ _ _ _ us hl => match us, hl with | [_, _, _], _ => rfl
  have g58 := He.glo_ok X G (c.fact 58 rfl)
  obtain ⟨fd59, F59⟩ := c.def_ 60 (d := plainD "_law_pairs_hold" s_law_pairs_hold) rfl
  have b59 : Binds K fd59 ["_law_source_here", "_law_book"] [] := FunD.bindsN F59 fun _ _ _ _ _ _ us hl => match us, hl with | [_, _], _ => rfl
  have g59 := He.glo_ok X G (c.fact 59 rfl)
  obtain ⟨fd60, F60⟩ := c.def_ 61 (d := plainD "law" s_law) rfl
  have eL := hfa.symm.trans (He.glo_ok X G (c.fact 60 rfl))
  cases eL
  have bL := FunD.bindsA (ps := ["_law_script"]) F60 fun _ _ _ _ _ _ us hl => match us, hl with | [_], _ => rfl
  refine ⟨fd60, fun s v => bL s [v] rfl, fun base hK hN => ?_⟩
  have gCBook := He.glo_ok X G (c.fact 61 rfl)
  have mkBook := He.mkr_ok (c.fact 66 rfl)
  have BC : BookC K (He.ga K "Book") := ⟨He.cls_ok (c.fact 62 rfl), He.noat_ok (c.fact 63 rfl), He.noat_ok (c.fact 64 rfl), He.noat_ok (c.fact 65 rfl)⟩
  have nx_BadLots_BadSize := He.exm_ok (c.fact 85 rfl)
  have nx_TooMany_Unlike := He.exm_ok (c.fact 86 rfl)
  have me_checks := He.meth_ok (c.fact 67 rfl)
  have me_rows := He.meth_ok (c.fact 68 rfl)
  have me_turned := He.meth_ok (c.fact 69 rfl)
  have me_holds := He.meth_ok (c.fact 70 rfl)
  have me_is_check := He.meth_ok (c.fact 71 rfl)
  have me_tell_same := He.meth_ok (c.fact 72 rfl)
  have me_within := He.meth_ok (c.fact 73 rfl)
  have me_shown := He.meth_ok (c.fact 74 rfl)
  have me__need_places := He.meth_ok (c.fact 75 rfl)
  have me_on := He.meth_ok (c.fact 76 rfl)
  have me_under := He.meth_ok (c.fact 77 rfl)
  have me_join := He.meth_ok (c.fact 78 rfl)
  have me_meet := He.meth_ok (c.fact 79 rfl)
  have me_moved := He.meth_ok (c.fact 80 rfl)
  have me_beside := He.meth_ok (c.fact 81 rfl)
  have me_with_sum := He.meth_ok (c.fact 82 rfl)
  have me_words := He.meth_ok (c.fact 83 rfl)
  have me_word_of := He.meth_ok (c.fact 84 rfl)
  have EBadSize : ErrC P w K mg base "BadSize" (He.ga K "BadSize") := errB_ok X G (err_of ce 0) (ok_init FI) bI
  have EBadLot : ErrC P w K mg base "BadLot" (He.ga K "BadLot") := errB_ok X G (err_of ce 1) (ok_init FI) bI
  have EBadLots : ErrC P w K mg base "BadLots" (He.ga K "BadLots") := errB_ok X G (err_of ce 2) (ok_init FI) bI
  have EUnlike : ErrC P w K mg base "Unlike" (He.ga K "Unlike") := errB_ok X G (err_of ce 3) (ok_init FI) bI
  have EBadOrder : ErrC P w K mg base "BadOrder" (He.ga K "BadOrder") := errB_ok X G (err_of ce 4) (ok_init FI) bI
  have ETooMany : ErrC P w K mg base "TooMany" (He.ga K "TooMany") := errB_ok X G (err_of ce 5) (ok_init FI) bI
  generalize He.ga K "BadSize" = CBadSize at EBadSize nx_BadLots_BadSize
  generalize He.ga K "BadLot" = CBadLot at EBadLot
  generalize He.ga K "BadLots" = CBadLots at EBadLots nx_BadLots_BadSize
  generalize He.ga K "Unlike" = CUnlike at EUnlike nx_TooMany_Unlike
  generalize He.ga K "BadOrder" = CBadOrder at EBadOrder
  generalize He.ga K "TooMany" = CTooMany at ETooMany nx_TooMany_Unlike
  have D_mask_of := DefOk.mk (x := "mask_of") ⟨_, fd0, ok_mask_of (P := P) (w := w) (base := base) F0, g0, F0.kp, b0⟩
  have D_lot_of := DefOk.mk (x := "lot_of") ⟨_, fd1, ok_lot_of (P := P) (w := w) (base := base) T F1, g1, F1.kp, b1⟩
  have D_odd := DefOk.mk (x := "odd") ⟨_, fd2, ok_odd (P := P) (w := w) (base := base) F2, g2, F2.kp, b2⟩
  have D_is_number := DefOk.mk (x := "is_number") ⟨_, fd3, ok_is_number (P := P) (w := w) (base := base) T F3, g3, F3.kp, b3⟩
  have D_is_between := DefOk.mk (x := "is_between") ⟨_, fd4, ok_is_between (P := P) (w := w) (base := base) D_is_number F4, g4, F4.kp, b4⟩
  have D_need_size := DefOk.mk (x := "need_size") ⟨_, fd5, ok_need_size (P := P) (w := w) (base := base) hMOST_PLACES EBadSize D_is_between F5, g5, F5.kp, b5⟩
  have D_is_lot := DefOk.mk (x := "is_lot") ⟨_, fd6, ok_is_lot (P := P) (w := w) (base := base) T D_need_size D_is_number F6, g6, F6.kp, b6⟩
  have D_need_lot := DefOk.mk (x := "need_lot") ⟨_, fd7, ok_need_lot (P := P) (w := w) (base := base) EBadLot D_is_lot F7, g7, F7.kp, b7⟩
  have D_need_each_lot := DefOk.mk (x := "need_each_lot") ⟨_, fd8, ok_need_each_lot (P := P) (w := w) (base := base) T EBadLots D_is_lot F8, g8, F8.kp, b8⟩
  have D_plus := DefOk.mk (x := "plus") ⟨_, fd9, ok_plus (P := P) (w := w) (base := base) hMOST_PLACES D_need_lot D_mask_of D_lot_of F9, g9, F9.kp, b9⟩
  have D__law_source := DefOk.mk (x := "_law_source") ⟨_, fd10, ok_law_source (P := P) (w := w) (base := base) T F10, g10, F10.kp, b10⟩
  have D__law_next := DefOk.mk (x := "_law_next") ⟨_, fd11, ok_law_next (P := P) (w := w) (base := base) T F11, g11, F11.kp, b11⟩
  have D__law_mixed := DefOk.mk (x := "_law_mixed") ⟨_, fd12, ok_law_mixed (P := P) (w := w) (base := base) T F12, g12, F12.kp, b12⟩
  have D__law_draw := DefOk.mk (x := "_law_draw") ⟨_, fd13, ok_law_draw (P := P) (w := w) (base := base) T D__law_next D__law_mixed F13, g13, F13.kp, b13⟩
  have D__law_great := DefOk.mk (x := "_law_great") ⟨_, fd14, ok_law_great (P := P) (w := w) (base := base) T D__law_draw F14, g14, F14.kp, b14⟩
  have D__law_lot := DefOk.mk (x := "_law_lot") ⟨_, fd15, ok_law_lot (P := P) (w := w) (base := base) T F15, g15, F15.kp, b15⟩
  have D__law_integer := DefOk.mk (x := "_law_integer") ⟨_, fd16, ok_law_integer (P := P) (w := w) (base := base) T F16, g16, F16.kp, b16⟩
  have D__law_same := DefG.mk (x := "_law_same") ⟨_, fd17, ok_law_same (P := P) (w := w) (base := base) T F17, g17, F17.kp, b17⟩
  have D__law_nested := DefOk.mk (x := "_law_nested") ⟨_, fd18, ok_law_nested (P := P) (w := w) (base := base) T F18, g18, F18.kp, b18⟩
  have D__law_bad_lot := DefOk.mk (x := "_law_bad_lot") ⟨_, fd19, ok_law_bad_lot (P := P) (w := w) (base := base) T D__law_draw D__law_lot D__law_nested F19, g19, F19.kp, b19⟩
  have D_lowest := DefOk.mk (x := "lowest") ⟨_, fd20, ok_lowest (P := P) (w := w) (base := base) F20, g20, F20.kp, b20⟩
  have D_cleared := DefOk.mk (x := "cleared") ⟨_, fd21, ok_cleared (P := P) (w := w) (base := base) D_lowest F21, g21, F21.kp, b21⟩
  have D_sweep := DefOk.mk (x := "sweep") ⟨_, fd22, ok_sweep (P := P) (w := w) (base := base) D_lowest D_cleared F22, g22, F22.kp, b22⟩
  have D_reduce_rows := DefOk.mk (x := "reduce_rows") ⟨_, fd23, ok_reduce_rows (P := P) (w := w) (base := base) T2 hALL_PLACES D_lowest D_sweep F23, g23, F23.kp, b23⟩
  have D_picked := DefOk.mk (x := "picked") ⟨_, fd24, ok_picked (P := P) (w := w) (base := base) T F24, g24, F24.kp, b24⟩
  have D_span := DefOk.mk (x := "span") ⟨_, fd25, ok_span (P := P) (w := w) (base := base) F25, g25, F25.kp, b25⟩
  have D_check_rows := DefOk.mk (x := "check_rows") ⟨_, fd26, ok_check_rows (P := P) (w := w) (base := base) T T2 D_lowest D_reduce_rows F26, g26, F26.kp, b26⟩
  have D_need_lots := DefOkD.mk (x := "need_lots") ⟨_, fd27, ds27, ok_need_lots (P := P) (w := w) (base := base) T EBadLots D_need_each_lot F27, g27, F27.kp, v27, b27⟩
  have D_need_book_size := DefOk.mk (x := "need_book_size") ⟨_, fd28, ok_need_book_size (P := P) (w := w) (base := base) hMOST_SIZE EBadSize D_is_between F28, g28, F28.kp, b28⟩
  have Mk_Book := MakeOk.mk (x := "Book") gCBook ⟨_, fd29, ok_Book_init (P := P) (w := w) (base := base) T BC D_need_book_size D_need_lots D_mask_of D_reduce_rows F29, mkBook, b29⟩
  have D__told := DefOk.mk (x := "_told") ⟨_, fd30, ok_told (P := P) (w := w) (base := base) Mk_Book D_lot_of F30, g30, F30.kp, b30⟩
  have M_checks := MethOk.mk (m := "checks") ⟨_, fd31, ok_Book_checks (P := P) (w := w) (base := base) BC D_lot_of D_check_rows F31, me_checks, b31⟩
  have M_rows := MethOk.mk (m := "rows") ⟨_, fd32, ok_Book_rows (P := P) (w := w) (base := base) BC D_lot_of F32, me_rows, b32⟩
  have M_turned := MethOk.mk (m := "turned") ⟨_, fd33, ok_Book_turned (P := P) (w := w) (base := base) BC Mk_Book M_checks F33, me_turned, b33⟩
  have M_holds := MethOk.mk (m := "holds") ⟨_, fd34, ok_Book_holds (P := P) (w := w) (base := base) BC hALL_PLACES D_need_lot D_mask_of D_cleared F34, me_holds, b34⟩
  have M_is_check := MethOk.mk (m := "is_check") ⟨_, fd35, ok_Book_is_check (P := P) (w := w) (base := base) T2 BC D_need_lot D_mask_of D_odd F35, me_is_check, b35⟩
  have M_tell_same := MethOk.mk (m := "tell_same") ⟨_, fd36, ok_Book_tell_same (P := P) (w := w) (base := base) BC D_need_lot D_plus M_is_check F36, me_tell_same, b36⟩
  have D_unseen := DefOk.mk (x := "unseen") ⟨_, fd37, ok_unseen (P := P) (w := w) (base := base) D_sweep F37, g37, F37.kp, b37⟩
  have M_within := MethOk.mk (m := "within") ⟨_, fd38, ok_Book_within (P := P) (w := w) (base := base) BC D_need_lot D_mask_of D_unseen D__told F38, me_within, b38⟩
  have M_shown := MethOk.mk (m := "shown") ⟨_, fd39, ok_Book_shown (P := P) (w := w) (base := base) BC D_need_lot D_mask_of D__told F39, me_shown, b39⟩
  have M__need_places := MethOk.mk (m := "_need_places") ⟨_, fd40, ok_Book_need_places (P := P) (w := w) (base := base) T BC EBadLot D_is_lot F40, me__need_places, b40⟩
  have M_on := MethOk.mk (m := "on") ⟨_, fd41, ok_Book_on (P := P) (w := w) (base := base) T BC M__need_places D_picked D__told F41, me_on, b41⟩
  have M_under := MethOk.mk (m := "under") ⟨_, fd42, ok_Book_under (P := P) (w := w) (base := base) T BC M__need_places D_picked M_within D__told F42, me_under, b42⟩
  have M_join := MethOk.mk (m := "join") ⟨_, fd43, ok_Book_join (P := P) (w := w) (base := base) BC EUnlike D__told F43, me_join, b43⟩
  have M_meet := MethOk.mk (m := "meet") ⟨_, fd44, ok_Book_meet (P := P) (w := w) (base := base) BC M_join M_turned F44, me_meet, b44⟩
  have D__is_order := DefOk.mk (x := "_is_order") ⟨_, fd45, ok_is_order (P := P) (w := w) (base := base) T T2 D_is_number F45, g45, F45.kp, b45⟩
  have M_moved := MethOk.mk (m := "moved") ⟨_, fd46, ok_Book_moved (P := P) (w := w) (base := base) BC EBadOrder D__is_order D_picked D__told F46, me_moved, b46⟩
  have M_beside := MethOk.mk (m := "beside") ⟨_, fd47, ok_Book_beside (P := P) (w := w) (base := base) T BC hMOST_SIZE ETooMany D__told F47, me_beside, b47⟩
  have M_with_sum := MethOk.mk (m := "with_sum") ⟨_, fd48, ok_Book_with_sum (P := P) (w := w) (base := base) BC hMOST_SIZE ETooMany D_need_lot D_mask_of D_odd D__told F48, me_with_sum, b48⟩
  have M_words := MethOk.mk (m := "words") ⟨_, fd49, ok_Book_words (P := P) (w := w) (base := base) T2 BC hMOST_WORDS ETooMany D_lot_of D_span F49, me_words, b49⟩
  have M_word_of := MethOk.mk (m := "word_of") ⟨_, fd50, ok_Book_word_of (P := P) (w := w) (base := base) BC D_need_lot D_lot_of F50, me_word_of, b50⟩
  have D__law_made := DefOk.mk (x := "_law_made") ⟨_, fd51, ok_law_made (P := P) (w := w) (base := base) BC EBadSize EBadLots nx_BadLots_BadSize Mk_Book F51, g51, F51.kp, b51⟩
  have D__law_moved := DefOk.mk (x := "_law_moved") ⟨_, fd52, ok_law_moved (P := P) (w := w) (base := base) BC EBadOrder M_moved F52, g52, F52.kp, b52⟩
  have D__law_asked := DefOk.mk (x := "_law_asked") ⟨_, fd53, ok_law_asked (P := P) (w := w) (base := base) BC EBadLot M_holds M_is_check M_tell_same M_within M_shown M_on M_under M_with_sum M_word_of F53, g53, F53.kp, b53⟩
  have D__law_paired := DefOk.mk (x := "_law_paired") ⟨_, fd54, ok_law_paired (P := P) (w := w) (base := base) T BC EUnlike ETooMany nx_TooMany_Unlike M_join M_meet M_beside M_with_sum M_words F54, g54, F54.kp, b54⟩
  have D__law_order := DefOk.mk (x := "_law_order") ⟨_, fd55, ok_law_order (P := P) (w := w) (base := base) T D__law_draw F55, g55, F55.kp, b55⟩
  have D__law_bad_order := DefOk.mk (x := "_law_bad_order") ⟨_, fd56, ok_law_bad_order (P := P) (w := w) (base := base) T D__law_draw F56, g56, F56.kp, b56⟩
  have D__law_made_holds := DefG.mk (x := "_law_made_holds") ⟨_, fd57, ok_law_made_holds (P := P) (w := w) (base := base) T D__law_draw D__law_same D__law_bad_lot D__law_made F57, g57, F57.kp, b57⟩
  have D__law_methods_hold := DefG.mk (x := "_law_methods_hold") ⟨_, fd58, ok_law_methods_hold (P := P) (w := w) (base := base) BC T D__law_draw D__law_same D__law_bad_lot D__law_asked F58, g58, F58.kp, b58⟩
  have D__law_pairs_hold := DefG.mk (x := "_law_pairs_hold") ⟨_, fd59, ok_law_pairs_hold (P := P) (w := w) (base := base) BC T D__law_draw D__law_same Mk_Book D__law_paired F59, g59, F59.kp, b59⟩
  exact ok_law T BC D__law_source D__law_draw D__law_great D__law_lot D__law_made_holds Mk_Book M_rows D__law_methods_hold D__law_pairs_hold D__law_order D__law_same D__law_moved D__law_bad_order F60
end BT
open PySem PySem.W PySem.Calls PyProof.Rows
theorem PySem.Challenge.cw_blindtwins_k02_books_refuse_holds : PySem.Challenge.rw_blindtwins_k02_books_refuse.Holds := by
  w_on; o_law
  refine HandSHeadRun.head_any (r := OpenLaw.row PySem.Challenge.rw_blindtwins_k02_books_refuse) (q := view (OpenLaw.row PySem.Challenge.rw_blindtwins_k02_books_refuse).prog [59]) (H := BT.hkK) (ob := BT.obK) (M := 4000) (loose := BT.looseK) (d := HandSHeadRun.topDef (OpenLaw.row PySem.Challenge.rw_blindtwins_k02_books_refuse).prog 59) (kwd := []) BT.obK_eq
    (by kernel_rfl) (fun s => by kernel_rfl) BT.runK (by kernel_rfl) (by kernel_rfl) (by kernel_rfl) (by rfl) (by first | assumption | decide +kernel) (by decide +kernel) ⟨rfl, rfl, rfl, rfl, rfl, by decide +kernel⟩ ?hw ?hc
  case hw => w_witness2
  case hc =>
    refine BT.walk_G (l := PySem.Challenge.rw_blindtwins_k02_books_refuse) (n := 63) (k := 15) (x := "_law_script") rfl (by decide) (by kernel_rfl) ⟨rfl, by decide, by decide⟩ ?F
    intro w mg fa h Y G hmg0
    obtain ⟨K, KX, ce, c⟩ := Y
    have hmg : mg ("law" : PySem.Str) = some (.ref fa) := by
      have e : (HandSHeadRun.topDef (OpenLaw.row PySem.Challenge.rw_blindtwins_k02_books_refuse).prog 59).name = ("law" : PySem.Str) := by kernel_rfl
      rw [← e]
      exact hmg0
    obtain ⟨fd, hb, hF⟩ := BT.factsK (P := (PySem.Challenge.rw_blindtwins_k02_books_refuse).prog) (w := w) KX G hmg ce c
    exact ⟨K, fd, BT.spLaw K, KX, hb, fun H a ns hl hS => ⟨a, ns, rfl, hS, fun _ => rfl⟩, hF⟩

