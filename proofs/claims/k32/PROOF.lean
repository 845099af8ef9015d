import PyProof.Rows.All
import Wide.All
import OpenK.AllK
import Wide.FinOn
import PyProof.EqAt
import PyProof.EqKinds
import PyProof.TupleCall
import HandS.ForExc
import HandS.Comp
import HandS.Iter
import HandS.Dict
import HandS.Walk
import HandS.IsInst
import HandS.ExcInit
import HandS.ExcField
import HandS.WideBits
import HandS.TupAny
import HandS.Deep
import HandS.Conv
import HandS.FStr
import HandS.Text
import PyProof.FString3
import PyProof.Rows.StrIntSpec
import HandS.Defaults
import HandS.ExcOwn
import KE.BitLaws
import KE.OsArith
import PyProof.Rows.BitMore
import KE.KSortKey
import HandS.SortKw
import HandS.Keys
import PyProof.Draws
import PyProof.EnumMake
import KE.GoesMore
import HandS.CallSlots
import HandS.Exc
import KE.SortCalls
import HandS.SortInts
import PyProof.TupleOfSeq
import KE.KStateDown
import HandS.Ends
import HandS.Head0
import HandS.Head1
import HandS.Head2
import HandS.HeadHook1
import HandS.HeadHook2
import HandS.WordsDict
import HandS.Style
import HandS.SlotsOwn
import KE.SortData
import HandS.RaiseMore
import HandS.Rev
import HandS.Zip
import HandS.TupSets
import HandS.Strs
import PySem.Challenge.RW_blindtwins_k32_whole_against_fault
set_option linter.all false
namespace BT
/-! ### masks and lots -/
theorem or_and_add : ∀ (a b : Nat), (a ||| b) + (a &&& b) = a + b := by
  intro a
  induction a using Nat.strongRecOn with
  | _ a ih =>
    intro b
    by_cases h : a = 0
    · subst h; simp
    · have ih' := ih (a / 2) (by omega) (b / 2)
      have e1 : (a ||| b) = 2 * (a / 2 ||| b / 2) + ((a % 2) ||| (b % 2)) := by
        apply Nat.eq_of_testBit_eq
        intro i
        cases i with
        | zero =>
          simp [Nat.testBit_zero, Nat.or_mod_two_eq_one, Nat.add_mod, Nat.mul_mod]
        | succ i =>
          rw [Nat.testBit_succ, Nat.testBit_succ]
          have : (2 * (a / 2 ||| b / 2) + (a % 2 ||| b % 2)) / 2 = (a / 2 ||| b / 2) := by
            rcases Nat.mod_two_eq_zero_or_one a with h1 | h1 <;> rcases Nat.mod_two_eq_zero_or_one b with h2 | h2 <;> simp [h1, h2] <;> omega
          rw [this, Nat.or_div_two]
      have e2 : (a &&& b) = 2 * (a / 2 &&& b / 2) + ((a % 2) &&& (b % 2)) := by
        apply Nat.eq_of_testBit_eq
        intro i
        cases i with
        | zero =>
          simp [Nat.testBit_zero, Nat.and_mod_two_eq_one, Nat.add_mod, Nat.mul_mod]
        | succ i =>
          rw [Nat.testBit_succ, Nat.testBit_succ]
          have : (2 * (a / 2 &&& b / 2) + (a % 2 &&& b % 2)) / 2 = (a / 2 &&& b / 2) := by
            rcases Nat.mod_two_eq_zero_or_one a with h1 | h1 <;> rcases Nat.mod_two_eq_zero_or_one b with h2 | h2 <;> simp [h1, h2] <;> omega
          rw [this, Nat.and_div_two]
      rw [e1, e2]
      rcases Nat.mod_two_eq_zero_or_one a with h1 | h1 <;> rcases Nat.mod_two_eq_zero_or_one b with h2 | h2 <;> simp [h1, h2] <;> omega
theorem xor_and_add : ∀ (a b : Nat), (a ^^^ b) + 2 * (a &&& b) = a + b := by
  intro a b
  have h := or_and_add a b
  have e : (a ||| b) = (a ^^^ b) ||| (a &&& b) := by
    apply Nat.eq_of_testBit_eq
    intro i
    simp only [Nat.testBit_or, Nat.testBit_xor, Nat.testBit_and]
    cases a.testBit i <;> cases b.testBit i <;> rfl
  have d : (a ^^^ b) &&& (a &&& b) = 0 := by
    apply Nat.eq_of_testBit_eq
    intro i
    simp only [Nat.testBit_and, Nat.testBit_xor, Nat.zero_testBit]
    cases a.testBit i <;> cases b.testBit i <;> rfl
  have h2 := or_and_add (a ^^^ b) (a &&& b)
  rw [d] at h2
  omega
/-- the mask of a lot -/
def maskN (l : List Nat) : Nat := l.foldl (fun m p => m ||| 2 ^ p) 0
theorem maskN_snoc (l : List Nat) (p : Nat) : maskN (l ++ [p]) = maskN l ||| 2 ^ p := by
  unfold maskN; rw [List.foldl_append]; rfl
theorem testBit_foldl : ∀ (l : List Nat) (m i : Nat), (l.foldl (fun m p => m ||| 2 ^ p) m).testBit i = (m.testBit i || decide (i ∈ l))
  | [], m, i => by simp
  | p :: l, m, i => by
    rw [List.foldl_cons, testBit_foldl l, Nat.testBit_or, Nat.testBit_two_pow]
    by_cases h : p = i
    · subst h; simp
    · have h' : ¬ i = p := fun e => h e.symm
      simp [h, h']
theorem testBit_maskN (l : List Nat) (i : Nat) : (maskN l).testBit i = decide (i ∈ l) := by
  unfold maskN; rw [testBit_foldl]; simp
theorem maskN_lt {l : List Nat} {n : Nat} (h : ∀ p ∈ l, p < n) : maskN l < 2 ^ n := by
  apply Nat.lt_pow_two_of_testBit
  intro i hi
  rw [testBit_maskN]
  exact decide_eq_false fun hm => by have := h i hm; omega
/-- the lot of a mask, looked for below n -/
def lotB (n m : Nat) : List Nat := (List.range n).filter m.testBit
theorem lotB_mem {n m p : Nat} : p ∈ lotB n m ↔ p < n ∧ m.testBit p = true := by unfold lotB; simp
theorem lotB_asc (n m : Nat) : (lotB n m).Pairwise (· < ·) := List.Pairwise.filter _ List.pairwise_lt_range
theorem asc_ext : ∀ {a b : List Nat}, a.Pairwise (· < ·) → b.Pairwise (· < ·) → (∀ p, p ∈ a ↔ p ∈ b) → a = b
  | [], [], _, _, _ => rfl
  | [], y :: b, _, _, h => absurd ((h y).mpr (List.mem_cons_self ..)) (by simp)
  | x :: a, [], _, _, h => absurd ((h x).mp (List.mem_cons_self ..)) (by simp)
  | x :: a, y :: b, ha, hb, h => by
    have ha' := List.pairwise_cons.mp ha
    have hb' := List.pairwise_cons.mp hb
    have e : x = y := by
      have h1 := (h x).mp (List.mem_cons_self ..)
      have h2 := (h y).mpr (List.mem_cons_self ..)
      rcases List.mem_cons.mp h1 with e | e
      · exact e
      · rcases List.mem_cons.mp h2 with e2 | e2
        · exact e2.symm
        · have := hb'.1 x e
          have := ha'.1 y e2
          omega
    subst e
    rw [asc_ext ha'.2 hb'.2 fun p => ?_]
    constructor
    · intro hp
      rcases List.mem_cons.mp ((h p).mp (List.mem_cons_of_mem _ hp)) with e | e
      · have := ha'.1 p hp; omega
      · exact e
    · intro hp
      rcases List.mem_cons.mp ((h p).mpr (List.mem_cons_of_mem _ hp)) with e | e
      · have := hb'.1 p hp; omega
      · exact e
theorem lotB_more {n k m : Nat} (hm : m < 2 ^ n) (h : n ≤ k) : lotB k m = lotB n m := by
  refine asc_ext (lotB_asc _ _) (lotB_asc _ _) fun p => ?_
  rw [lotB_mem, lotB_mem]
  constructor
  · rintro ⟨h1, h2⟩
    refine ⟨?_, h2⟩
    refine Nat.lt_of_not_le fun hp => ?_
    rw [Nat.testBit_lt_two_pow (Nat.lt_of_lt_of_le hm (Nat.pow_le_pow_right (by omega) hp))] at h2
    cases h2
  · rintro ⟨h1, h2⟩
    exact ⟨by omega, h2⟩
theorem lotB_same {n k m : Nat} (hn : m < 2 ^ n) (hk : m < 2 ^ k) : lotB n m = lotB k m := by
  rcases Nat.le_total n k with h | h
  · exact (lotB_more hn h).symm
  · exact lotB_more hk h
/-- the number of bits -/
def bitsN (m : Nat) : Nat := if m = 0 then 0 else m.log2 + 1
theorem lt_bitsN (m : Nat) : m < 2 ^ bitsN m := by
  unfold bitsN
  by_cases h : m = 0
  · subst h; simp
  · rw [if_neg h]; exact Nat.lt_log2_self
theorem bitsN_le {m n : Nat} (h : m < 2 ^ n) : bitsN m ≤ n := by
  unfold bitsN
  by_cases h0 : m = 0
  · simp [h0]
  · rw [if_neg h0]; exact (Nat.log2_lt h0).mpr h
/-- the lot of a mask -/
def lotN (m : Nat) : List Nat := lotB (bitsN m) m
theorem lotN_eq {n m : Nat} (h : m < 2 ^ n) : lotN m = lotB n m := lotB_same (lt_bitsN m) h
theorem lotN_asc (m : Nat) : (lotN m).Pairwise (· < ·) := lotB_asc _ _
theorem lotN_lt {n m : Nat} (h : m < 2 ^ n) : ∀ p ∈ lotN m, p < n := fun p hp => by
  rw [lotN_eq h] at hp; exact (lotB_mem.mp hp).1
theorem mem_lotN {m p : Nat} : p ∈ lotN m ↔ m.testBit p = true := by
  unfold lotN
  rw [lotB_mem]
  constructor
  · exact fun h => h.2
  · intro h
    refine ⟨Nat.lt_of_not_le fun hp => ?_, h⟩
    rw [Nat.testBit_lt_two_pow (Nat.lt_of_lt_of_le (lt_bitsN m) (Nat.pow_le_pow_right (by omega) hp))] at h
    cases h
theorem lotN_maskN {l : List Nat} (ha : l.Pairwise (· < ·)) : lotN (maskN l) = l := by
  refine asc_ext (lotN_asc _) ha fun p => ?_
  rw [mem_lotN, testBit_maskN]; simp
theorem maskN_lotN (m : Nat) : maskN (lotN m) = m := by
  apply Nat.eq_of_testBit_eq
  intro i
  rw [testBit_maskN]
  by_cases h : m.testBit i = true
  · rw [h]; exact decide_eq_true (mem_lotN.mpr h)
  · have h' : m.testBit i = false := by simpa using h
    rw [h']; exact decide_eq_false fun q => h (mem_lotN.mp q)
/-! ### the number of ones -/
def pop (m : Nat) : Nat := (lotN m).length
theorem range_succ_map (n : Nat) : List.range (n + 1) = 0 :: (List.range n).map Nat.succ := List.range_succ_eq_map
theorem lotB_succ (n m : Nat) : lotB (n + 1) m = (if m % 2 = 1 then [0] else []) ++ (lotB n (m / 2)).map Nat.succ := by
  unfold lotB
  rw [range_succ_map, List.filter_cons]
  have e : (List.map Nat.succ (List.range n)).filter m.testBit = ((List.range n).filter (m / 2).testBit).map Nat.succ := by
    rw [List.filter_map]
    congr 1
    apply List.filter_congr
    intro x _
    simp [Function.comp, Nat.testBit_succ]
  rw [e]
  have e0 : m.testBit 0 = decide (m % 2 = 1) := Nat.testBit_zero m
  rw [e0]
  by_cases h : m % 2 = 1 <;> simp [h]
theorem pop_step (m : Nat) : pop m = m % 2 + pop (m / 2) := by
  have h1 : m < 2 ^ (bitsN (m / 2) + 1) := by
    have := lt_bitsN (m / 2)
    rw [Nat.pow_succ]; omega
  unfold pop
  rw [lotN_eq h1, lotB_succ, List.length_append, List.length_map, lotN_eq (lt_bitsN (m / 2))]
  rcases Nat.mod_two_eq_zero_or_one m with h | h <;> simp [h]
/-- the ones among the binary digits -/
theorem count_digits (m : Nat) : (Nat.toDigits 2 m).count '1' = pop m := by
  induction m using Nat.strongRecOn with
  | _ m ih =>
    by_cases h : m < 2
    · rcases (by omega : m = 0 ∨ m = 1) with rfl | rfl
      · rfl
      · decide
    · have e : Nat.toDigits 2 m = Nat.toDigits 2 (m / 2) ++ Nat.toDigits 2 (m % 2) := by
        rw [Nat.toDigits_append_toDigits (by omega) (by omega) (by omega)]
        congr 1
        omega
      rw [e, List.count_append, ih (m / 2) (by omega), ih (m % 2) (by omega), pop_step m]
      rcases Nat.mod_two_eq_zero_or_one m with h2 | h2
      · rw [h2]; show pop (m / 2) + 0 = 0 + pop (m / 2); omega
      · rw [h2]; have : pop 1 = 1 := by decide
        rw [this]; omega
/-! ### sums -/
/-- in how many of the lots the place is -/
def oftenL (lots : List (List Nat)) (p : Nat) : Nat := (lots.map fun l => l.count p).sum
def xorL (lots : List (List Nat)) : Nat := lots.foldl (fun m l => m ^^^ maskN l) 0
theorem asc_nodup {l : List Nat} (h : l.Pairwise (· < ·)) : l.Nodup := h.imp fun hab => by omega
end BT

set_option Elab.async false
set_option linter.all false
set_option maxRecDepth 100000
set_option maxHeartbeats 2000000
namespace BT
open PySem PySem.Spec PyProof.Rows Builtin Builtin.Float
/-- the binary digits of a number as a text -/
def binText (n : Nat) : Str := ⟨((Nat.toDigits 2 n).map Char.toNat).toArray⟩
section
variable {prog : Program} {w : World} {A : Around} {E : Value → Shared → Prop} {s : Shared}
def fB : FormatSpec := { align := 62, type := some 98 }
theorem fB_eq : parseFormatSpec (Str.ofString "b").cps.toList "int" 62 = .ok fB := by rfl
theorem binText_len {n k : Nat} (h : n < 2 ^ k) (hk : 1 ≤ k) : (binText n).length ≤ k := by
  show ((Nat.toDigits 2 n).map Char.toNat).toArray.size ≤ k
  rw [List.size_toArray, List.length_map]
  induction k generalizing n with
  | zero => omega
  | succ k ih =>
    by_cases h2 : n < 2
    · rw [Nat.toDigits_of_lt_base h2]; show 1 ≤ k + 1; omega
    · have e : Nat.toDigits 2 n = Nat.toDigits 2 (n / 2) ++ Nat.toDigits 2 (n % 2) := by
        rw [Nat.toDigits_append_toDigits (by omega) (by omega) (by omega)]
        congr 1
        omega
      have hk1 : 1 ≤ k := by
        rcases Nat.eq_zero_or_pos k with e0 | e0
        · subst e0; exact absurd h h2
        · exact e0
      have q := ih (n := n / 2) (by rw [Nat.pow_succ] at h; omega) hk1
      rw [e, List.length_append, Nat.toDigits_of_lt_base (show n % 2 < 2 by omega)]
      show _ + 1 ≤ _
      omega
theorem ret_as {x y : Str} {Q : Fin → Shared → Prop} (e : x = y) (h : wpAny (model prog w) A (retStr y) Q E s) : wpAny (model prog w) A (retStr x) Q E s := e ▸ h
theorem fmt_b {n k : Nat} {t : Tok} {Q : Value → Shared → Prop} (hk : n < 2 ^ k) (h1 : 1 ≤ k) (hk2 : k ≤ 1000)
    (h : Q (.str (binText n) (s.toks + 1)) { s with toks := s.toks + 1 + 1 }) : wpAny (model prog w) A (formatField (.int (n : Int) t) (Str.ofString "b")) Q E s := by
  have hlen : (binText n).length ≤ sizeLine := Nat.le_trans (binText_len hk h1) (Nat.le_trans hk2 (by decide))
  have hb : (Str.ofString "b").length ≤ sizeLine := by decide
  show wpAny _ _ (holding [.int (n : Int) t] (pyFormat (.int (n : Int) t) (Str.ofString "b"))) Q E s
  apply wpAny_holding
  unfold pyFormat
  refine (wpAny_bind (wpAny_mkStr ?_ hb) :)
  refine (wpAny_bind (m := callSpecial? (.int (n : Int) t) (Str.ofString "__format__") [.str (Str.ofString "b") s.toks]) (wpAny_callSpecial?_slot (name := Str.ofString "__format__") (typeIs_int _ _ t) slot_int_format ?_) :)
  refine (wpAny_call (codeAny_call_builtin slot_int_format.plain entry_int_format (slot_int_format.check _ _ _ _ _ _ _ _ (typeIs_int _ _ t) (args_int_format _ _) ?_)) :)
  unfold Builtin.«int.__format__»
  have hne : ((Str.ofString "b").length == 0) = false := by decide
  have hasc : (((Str.ofString "b").cps.toList.drop 1).any (· ≥ 128) || ((Str.ofString "b").cps.getD 0 0 ≥ 128 && !([60, 62, 61, 94] : List Nat).contains ((Str.ofString "b").cps.getD 1 0))) = false := by decide
  simp only [selfAndOne, noKeywords, Int.intOfSelf, asInt?, asStr?, List.isEmpty_nil, if_true, pure_bind, bind_pure, bind_assoc, hne, hasc, Bool.false_eq_true, if_false,
    show (Value.str (Str.ofString "b") s.toks == Value.none) = false from rfl]
  refine (wpAny_bind (wpAny_typeNameOf (T := "str") (typeIs_str _ _ _) (by decide) fun _ => ?_) :)
  refine (wpAny_bind (wpAny_typeNameOfCut_int ?_) :)
  obtain ⟨f, hf⟩ : ∃ f : FormatSpec, f = fB := ⟨_, rfl⟩
  have hp : parseFormatSpec (Str.ofString "b").cps.toList "int" 62 = .ok f := by rw [hf]; exact fB_eq
  have f1 : f.type = some 98 := by rw [hf]; rfl
  have f2 : f.precision = none := by rw [hf]; rfl
  have f3 : f.noNeg0 = false := by rw [hf]; rfl
  have f4 : f.width = none := by rw [hf]; rfl
  simp only [hp, f1]
  rw [if_pos (by decide)]
  show wpAny _ _ (if _ then _ else _) _ _ _
  rw [if_neg (by simp [f2])]
  show wpAny _ _ (if _ then _ else _) _ _ _
  rw [if_neg (by simp [f3])]
  show wpAny _ _ (if _ then _ else _) _ _ _
  rw [if_neg (by decide)]
  show wpAny _ _ (if _ then _ else _) _ _ _
  rw [if_neg (by decide)]
  show wpAny _ _ (if _ then _ else _) _ _ _
  rw [if_neg (by simp [f4])]
  show wpAny _ _ (retStr _) _ _ _
  have hdig : (Nat.toDigits 2 n).isEmpty = false := by
    have q := tDigits_len_ge 2 n
    cases e : Nat.toDigits 2 n with
    | nil => rw [e] at q; simp at q
    | cons _ _ => rfl
  have hneg : decide ((n : Int) < 0) = false := decide_eq_false (by omega)
  refine ret_as (y := binText n) ?_ ?_
  · rw [hneg, hf]
    conv => lhs; whnf
    apply congrArg Str.mk
    apply congrArg List.toArray
    have hemp : Nat.toDigits 2 n ≠ [] := fun e => by rw [e] at hdig; cases hdig
    have e88 : (((some 98).getD (if ((Str.ofString "b").cps.back? == some 0) = true then 0 else 100) == 88) = true) ↔ False := by decide
    have e2 : ((n : Int).natAbs) = n := rfl
    simp [fB, hemp, e88, e2]
  unfold retStr
  refine wpAny_bind (wpAny_mkStr (wpAny_pure ?_) hlen)
  show wpAny _ _ (isInstance _ _ >>= _) _ _ _
  exact wpAny_bind (wpAny_isInstance (typeIs_str _ _ _) isSubtype_str_str (wpAny_pure h))
end
end BT

set_option Elab.async false
set_option linter.all false
set_option maxRecDepth 100000
set_option maxHeartbeats 2000000
namespace BT
open PySem PySem.Spec PyProof.Rows L2
/-! ### data that lies in the tracked heap -/
def kD : Key → PyData
  | .inl i => .int i
  | .inr x => .str x
mutual
inductive Dv (H : Hp) : V → PyData → Prop
  | non : Dv H .non .none
  | bl (b : Bool) : Dv H (.bl b) (.bool b)
  | int (i : Int) : Dv H (.int i) (.int i)
  | str (x : Str) : Dv H (.str x) (.str x)
  | lst {a : Addr} {xs : List V} {ds : List PyData} : H a = some (.lst xs) → DvA H xs ds → Dv H (.ref a) (.list ds)
  | tup {a : Addr} {xs : List V} {ds : List PyData} : H a = some (.tup xs) → DvA H xs ds → Dv H (.ref a) (.tuple ds)
  | dct {a : Addr} {kvs : List (Key × V)} {es : List (PyData × PyData)} : H a = some (.dK kvs) → DvK H kvs es → Dv H (.ref a) (.dict es)
inductive DvA (H : Hp) : List V → List PyData → Prop
  | nil : DvA H [] []
  | cons {v : V} {vs : List V} {d : PyData} {ds : List PyData} : Dv H v d → DvA H vs ds → DvA H (v :: vs) (d :: ds)
inductive DvK (H : Hp) : List (Key × V) → List (PyData × PyData) → Prop
  | nil : DvK H [] []
  | cons {k : Key} {v : V} {r : List (Key × V)} {d : PyData} {es : List (PyData × PyData)} : Dv H v d → DvK H r es → DvK H ((k, v) :: r) ((kD k, d) :: es)
end
mutual
theorem Dv.mono {H H' : Hp} (S : Same H H') : ∀ (d : PyData) (v : V), Dv H v d → Dv H' v d
  | .none, _, h => by cases h; exact .non
  | .bool b, _, h => by cases h; exact .bl b
  | .int i, _, h => by cases h; exact .int i
  | .str x, _, h => by cases h; exact .str x
  | .list ds, _, h => by
    cases h with
    | lst e a => exact .lst (S _ _ e) (DvA.mono S ds _ a)
  | .tuple ds, _, h => by
    cases h with
    | tup e a => exact .tup (S _ _ e) (DvA.mono S ds _ a)
  | .dict es, _, h => by
    cases h with
    | dct e a => exact .dct (S _ _ e) (DvK.mono S es _ a)
theorem DvA.mono {H H' : Hp} (S : Same H H') : ∀ (ds : List PyData) (vs : List V), DvA H vs ds → DvA H' vs ds
  | [], _, h => by cases h; exact .nil
  | d :: ds, _, h => by
    cases h with
    | cons h1 h2 => exact .cons (Dv.mono S d _ h1) (DvA.mono S ds _ h2)
theorem DvK.mono {H H' : Hp} (S : Same H H') : ∀ (es : List (PyData × PyData)) (vs : List (Key × V)), DvK H vs es → DvK H' vs es
  | [], _, h => by cases h; exact .nil
  | (_, d) :: es, _, h => by
    cases h with
    | cons h1 h2 => exact .cons (Dv.mono S d _ h1) (DvK.mono S es _ h2)
end
theorem DvA.append {H : Hp} : ∀ {xs : List V} {ds : List PyData} {ys : List V} {es : List PyData}, DvA H xs ds → DvA H ys es → DvA H (xs ++ ys) (ds ++ es)
  | _, _, _, _, .nil, h => h
  | _, _, _, _, .cons a r, h => .cons a (DvA.append r h)
theorem DvA.length {H : Hp} : ∀ {xs : List V} {ds : List PyData}, DvA H xs ds → xs.length = ds.length
  | _, _, .nil => rfl
  | _, _, .cons _ r => congrArg Nat.succ (DvA.length r)
theorem DvA.get {H : Hp} : ∀ {xs : List V} {ds : List PyData} {i : Nat} {v : V}, DvA H xs ds → xs[i]? = some v → ∃ d, ds[i]? = some d ∧ Dv H v d
  | _, _, _, _, .nil, h => by simp at h
  | _, _, 0, v, .cons (d := d) a r, h => ⟨d, rfl, by have e : _ = v := Option.some.inj h; rw [← e]; exact a⟩
  | _, _, i + 1, v, .cons a r, h => by
    obtain ⟨d, h1, h2⟩ := DvA.get (i := i) r h
    exact ⟨d, h1, h2⟩
/-! ### lots -/
/-- a lot as values, as data -/
def lotV (l : List Nat) : List V := l.map fun p : Nat => .int (p : Int)
def lotD (l : List Nat) : PyData := .tuple (l.map fun p : Nat => .int (p : Int))
theorem lotA (H : Hp) : ∀ l : List Nat, DvA H (lotV l) (l.map fun p : Nat => PyData.int (p : Int))
  | [] => .nil
  | p :: l => .cons (.int _) (lotA H l)
theorem Dv.lot {H : Hp} {a : Addr} {l : List Nat} (h : H a = some (.tup (lotV l))) : Dv H (.ref a) (lotD l) := .tup h (lotA H l)
/-! ### what holds no lists, what no dicts -/
mutual
def hasList : PyData → Bool
  | .none | .bool _ | .int _ | .str _ => false
  | .list _ => true
  | .tuple xs => hasListA xs
  | .dict kvs => hasListK kvs
def hasListA : List PyData → Bool
  | [] => false
  | x :: xs => hasList x || hasListA xs
def hasListK : List (PyData × PyData) → Bool
  | [] => false
  | (_, v) :: r => hasList v || hasListK r
end
section
variable {X : Cx} {pins : List (Addr × Obj)} {σ : L2.St} {H : Hp} {s : Shared}
theorem pairs_reads {h : Heap} {w : World} {P : Program} : ∀ (ds : List (PyData × PyData)) {es : List DictEntry} {vs : List (Key × Value)} {kvs : List (Key × V)}, Pairs (mixKind P w) es vs → KV kvs vs → DvK H kvs ds →
    ReadsAll h (es.map (·.key)) (ds.map (·.1)) [] ∧ es.map (·.val) = vs.map (·.2)
  | [], es, vs, kvs, hp, r, a => by
    cases a
    cases r
    cases hp
    exact ⟨.nil, rfl⟩
  | (kd, d) :: ds, es, vs, kvs, hp, r, a => by
    cases a with
    | cons a1 a2 =>
      cases r with
      | cons r1 r2 =>
        cases hp with
        | cons hk hv hp2 =>
          rename_i k v kvr q vr e er
          obtain ⟨h1, h2⟩ := pairs_reads ds hp2 r2 a2
          obtain ⟨qk, qv⟩ := q
          obtain ⟨rk, _⟩ := r1
          have rk' : k = qk := rk
          subst rk'
          refine ⟨?_, ?_⟩
          · have hk' : keyIs k e.key = true := hk
            rcases keyIs_shape hk' with ⟨i, t, e1, e2⟩ | ⟨x, t, e1, e2⟩
            · subst e1
              show ReadsAll h (e.key :: _) (PyData.int i :: _) ([] ++ [])
              rw [e2]
              exact .cons (.int i t) h1
            · subst e1
              show ReadsAll h (e.key :: _) (PyData.str x :: _) ([] ++ [])
              rw [e2]
              exact .cons (.str x t) h1
          · show e.val :: _ = qv :: _
            rw [h2, hv]
mutual
theorem Dv.reads (I : Inv X pins σ H s) : ∀ (d : PyData) (v : V) (u : Value), Dv H v d → RelV v u → ∃ as, Reads s.heap u d as ∧ (hasList d = false → sysModules ∉ as)
  | .none, _, _, h, r => by cases h; cases r; exact ⟨_, .none, fun _ => by simp⟩
  | .bool b, _, _, h, r => by cases h; cases r; exact ⟨_, .bool b, fun _ => by simp⟩
  | .int i, _, _, h, r => by cases h; obtain ⟨t, rfl⟩ := r; exact ⟨_, .int i t, fun _ => by simp⟩
  | .str x, _, _, h, r => by cases h; obtain ⟨t, rfl⟩ := r; exact ⟨_, .str x t, fun _ => by simp⟩
  | .list ds, _, _, h, r => by
    cases h with
    | lst hs ha =>
      cases r
      obtain ⟨its, rv, ⟨o, n, ho, hc, _, hd⟩, _⟩ := I.list (.inl (.inl hs))
      obtain ⟨as, hr, _⟩ := Dv.readsAll I ds _ its ha rv
      exact ⟨_, .list ho hc hd hr, fun z => by simp [hasList] at z⟩
  | .tuple ds, _, _, h, r => by
    cases h with
    | tup hs ha =>
      cases r
      obtain ⟨its, rv, ⟨o, ho, hc, n, hd⟩, _⟩ := I.tuple (.inl (.inl hs))
      obtain ⟨as, hr, hn⟩ := Dv.readsAll I ds _ its ha rv
      exact ⟨_, .tuple ho hc hd hr, fun z => hn (by simpa [hasList] using z)⟩
  | .dict es, _, _, h, r => by
    cases h with
    | dct hs ha =>
      cases r
      obtain ⟨_, hm, vs, kv, o, ens, ep, ho, hx, hd, _, hp, _⟩ := (show ObjOk X.prog X.w H s.heap _ (.dK _) from I.hok _ _ hs)
      obtain ⟨h1, h2⟩ := pairs_reads (h := s.heap) _ hp kv ha
      obtain ⟨bs, h3, h4⟩ := Dv.readsK I es _ vs ha kv
      refine ⟨_, .dict ho hx.1 hd h1 (by rw [h2]; exact h3), fun z hb => ?_⟩
      have hne := beq_eq_false_iff_ne.mp hm
      rcases List.mem_append.mp hb with hb | hb
      · rcases List.mem_cons.mp hb with e | e
        · exact hne e.symm
        · simp at e
      · exact h4 (by simpa [hasList] using z) hb
theorem Dv.readsAll (I : Inv X pins σ H s) : ∀ (ds : List PyData) (vs : List V) (us : List Value), DvA H vs ds → Vals vs us → ∃ as, ReadsAll s.heap us ds as ∧ (hasListA ds = false → sysModules ∉ as)
  | [], _, _, h, r => by cases h; cases r; exact ⟨_, .nil, fun _ => by simp⟩
  | d :: ds, _, _, h, r => by
    cases h with
    | cons h1 h2 =>
      cases r with
      | cons r1 r2 =>
        obtain ⟨as, q1, n1⟩ := Dv.reads I d _ _ h1 r1
        obtain ⟨bs, q2, n2⟩ := Dv.readsAll I ds _ _ h2 r2
        refine ⟨_, .cons q1 q2, fun z hb => ?_⟩
        simp only [hasListA, Bool.or_eq_false_iff] at z
        rcases List.mem_append.mp hb with hb | hb
        · exact n1 z.1 hb
        · exact n2 z.2 hb
theorem Dv.readsK (I : Inv X pins σ H s) : ∀ (es : List (PyData × PyData)) (kvs : List (Key × V)) (vs : List (Key × Value)), DvK H kvs es → KV kvs vs → ∃ as, ReadsAll s.heap (vs.map (·.2)) (es.map (·.2)) as ∧ (hasListK es = false → sysModules ∉ as)
  | [], _, _, h, r => by cases h; cases r; exact ⟨_, .nil, fun _ => by simp⟩
  | (_, d) :: es, _, _, h, r => by
    cases h with
    | cons h1 h2 =>
      cases r with
      | cons r1 r2 =>
        obtain ⟨as, q1, n1⟩ := Dv.reads I d _ _ h1 r1.2
        obtain ⟨bs, q2, n2⟩ := Dv.readsK I es _ _ h2 r2
        refine ⟨_, .cons q1 q2, fun z hb => ?_⟩
        simp only [hasListK, Bool.or_eq_false_iff] at z
        rcases List.mem_append.mp hb with hb | hb
        · exact n1 z.1 hb
        · exact n2 z.2 hb
end
end
/-! ### the size of the text of data -/
def strOk (x : Str) : Bool := x.cps.toList.all fun c => decide (c < 16 ^ 8)
mutual
def okI : PyData → Bool
  | .none | .bool _ => true
  | .int i => decide (i.natAbs < 10 ^ 40)
  | .str x => strOk x
  | .list xs | .tuple xs => okIA xs
  | .dict kvs => okIK kvs
def okIA : List PyData → Bool
  | [] => true
  | x :: xs => okI x && okIA xs
def okIK : List (PyData × PyData) → Bool
  | [] => true
  | (k, v) :: r => okI k && okI v && okIK r
end
mutual
def dW : PyData → Nat
  | .none => 4
  | .bool _ => 5
  | .int _ => 41
  | .str x => 10 * x.length + 2
  | .list xs | .tuple xs => dWA xs + 3
  | .dict kvs => dWK kvs + 2
def dWA : List PyData → Nat
  | [] => 0
  | x :: xs => dW x + 2 + dWA xs
def dWK : List (PyData × PyData) → Nat
  | [] => 0
  | (k, v) :: r => dW k + dW v + 4 + dWK r
end
theorem join_le : ∀ ts : List Str, (Str.join ", " ts).length ≤ piled ts
  | [] => Nat.zero_le _
  | t :: ts => by have := join_length_add (t :: ts) (by simp); omega
theorem len1 : (("(" : String) : Str).length = 1 := rfl
theorem len2 : (("{" : String) : Str).length = 1 := rfl
theorem len3 : (("}" : String) : Str).length = 1 := rfl
theorem len4 : ((": " : String) : Str).length = 2 := rfl
theorem len5 : (("[" : String) : Str).length = 1 := rfl
theorem len6 : (("]" : String) : Str).length = 1 := rfl
theorem tupleText_le (ts : List Str) : (tupleText ts).length ≤ piled ts + 3 := by
  have e3 : (((if ts.length == 1 then ",)" else ")" : String) : Str)).length ≤ 2 := by split <;> decide
  have := join_le ts
  unfold tupleText
  rw [strLen_append, strLen_append, len1]
  omega
theorem dictText_le (ts : List Str) : (dictText ts).length ≤ piled ts + 2 := by
  have := join_le ts
  unfold dictText
  rw [strLen_append, strLen_append, len2, len3]
  omega
theorem listText_le (ts : List Str) : (listText ts).length ≤ piled ts + 2 := by
  unfold listText
  rw [strLen_append, len6]
  cases ts with
  | nil => decide
  | cons t ts =>
    show (textFrom (0 + 1) _ ts).length + 1 ≤ _
    rw [textFrom_length_pos ts (0 + 1) _ (by omega), strLen_append, strLen_append, len5]
    show 1 + 0 + t.length + piled ts + 1 ≤ (t.length + 2) + piled ts + 2
    omega
theorem piled_cons' (t : Str) (ts : List Str) : piled (t :: ts) = t.length + 2 + piled ts := by simp [piled]
theorem strOk_of {x : Str} (h : strOk x = true) : ∀ c ∈ x.cps.toList, c < 16 ^ 8 := fun c hc => of_decide_eq_true (List.all_eq_true.mp h c hc)
theorem int_shown {i : Int} (h : i.natAbs < 10 ^ 40) : (Str.ofString (toString i)).length ≤ 41 := by
  rw [PySem.ofString_length]
  exact int_text_length_le10 (by decide) h
mutual
theorem shown_le : ∀ d : PyData, okI d = true → d.shown.length ≤ dW d
  | .none, _ => by decide
  | .bool b, _ => by cases b <;> decide
  | .int i, h => int_shown (of_decide_eq_true (by simpa only [okI] using h))
  | .str x, h => by
    simp only [PyData.shown, dW]
    exact StrLaws.reprText_len x (strOk_of (by simpa only [okI] using h))
  | .list xs, h => by
    have q := shownA_le xs (by simpa only [okI] using h)
    have := listText_le (PyData.shownAll xs)
    simp only [PyData.shown, dW]
    omega
  | .tuple xs, h => by
    have q := shownA_le xs (by simpa only [okI] using h)
    have := tupleText_le (PyData.shownAll xs)
    simp only [PyData.shown, dW]
    omega
  | .dict es, h => by
    have q := shownK_le es (by simpa only [okI] using h)
    have := dictText_le (PyData.shownKv es)
    simp only [PyData.shown, dW]
    omega
theorem shownA_le : ∀ ds : List PyData, okIA ds = true → piled (PyData.shownAll ds) ≤ dWA ds
  | [], _ => Nat.le_refl _
  | d :: ds, h => by
    simp only [okIA, Bool.and_eq_true] at h
    have h1 := shown_le d h.1
    have h2 := shownA_le ds h.2
    simp only [PyData.shownAll, dWA]
    rw [piled_cons']
    omega
theorem shownK_le : ∀ es : List (PyData × PyData), okIK es = true → piled (PyData.shownKv es) ≤ dWK es
  | [], _ => Nat.le_refl _
  | (k, v) :: es, h => by
    simp only [okIK, Bool.and_eq_true] at h
    have h1 := shown_le k h.1.1
    have h2 := shown_le v h.1.2
    have h3 := shownK_le es h.2
    simp only [PyData.shownKv, dWK]
    rw [piled_cons', strLen_append, strLen_append, len4]
    omega
end
theorem log40 {i : Int} (h : i.natAbs < 10 ^ 40) : i.natAbs.log2 < 1920 := by
  by_cases h0 : i.natAbs = 0
  · rw [h0]; decide
  · exact (Nat.log2_lt h0).mpr (Nat.lt_trans h (by decide +kernel))
mutual
theorem showable_of : ∀ d : PyData, okI d = true → d.showable = true
  | .none, _ => rfl
  | .bool _, _ => rfl
  | .int i, h => by
    simp only [okI] at h
    simp only [PyData.showable]
    exact decide_eq_true (log40 (of_decide_eq_true h))
  | .str _, _ => rfl
  | .list xs, h => by
    simp only [PyData.showable]
    exact showableA_of xs (by simpa only [okI] using h)
  | .tuple xs, h => by
    simp only [PyData.showable]
    exact showableA_of xs (by simpa only [okI] using h)
  | .dict es, h => by
    simp only [PyData.showable]
    exact showableK_of es (by simpa only [okI] using h)
theorem showableA_of : ∀ ds : List PyData, okIA ds = true → PyData.showableAll ds = true
  | [], _ => rfl
  | d :: ds, h => by
    simp only [okIA, Bool.and_eq_true] at h
    simp only [PyData.showableAll, Bool.and_eq_true]
    exact ⟨showable_of d h.1, showableA_of ds h.2⟩
theorem showableK_of : ∀ es : List (PyData × PyData), okIK es = true → PyData.showableKv es = true
  | [], _ => rfl
  | (k, v) :: es, h => by
    simp only [okIK, Bool.and_eq_true] at h
    simp only [PyData.showableKv, Bool.and_eq_true]
    exact ⟨⟨showable_of k h.1.1, showable_of v h.1.2⟩, showableK_of es h.2⟩
end
/-- data whose text is short: n, a bound of it -/
structure Sm (n : Nat) (d : PyData) : Prop where
  ok : okI d = true
  w : dW d ≤ n
  dp : d.depth ≤ 40
  dl : d.hasDict = true → hasList d = false
/-- data that repr can take -/
structure Sr (d : PyData) : Prop where
  ok : okI d = true
  w : dW d ≤ 1000000
  dp : d.depth ≤ 60
  dl : d.hasDict = true → hasList d = false
theorem Sm.mono {n m : Nat} {d : PyData} (h : Sm n d) (l : n ≤ m) : Sm m d := ⟨h.ok, Nat.le_trans h.w l, h.dp, h.dl⟩
theorem Sm.sr {n : Nat} {d : PyData} (h : Sm n d) (l : n ≤ 1000000) : Sr d := ⟨h.ok, Nat.le_trans h.w l, by have := h.dp; omega, h.dl⟩
section
variable {X : Cx}
/-- repr(x), x a tuple (or another object) of short data -/
def rRepr : List V → Hp → VK → Prop := fun xs H Q => ∃ (a : Addr) (d : PyData), xs = [.ref a] ∧ Dv H (.ref a) d ∧ Sr d ∧ Q (.str d.shown) H
theorem call_repr (hg : X.A.guards = some []) (hu : X.A.units + 64 < cLine) : CallR X (.builtin "repr") rRepr := by
  intro pins s σ H xs us Q I r h
  obtain ⟨a, d, rfl, hd, sm, q⟩ := h
  obtain ⟨u, rfl, r1⟩ := vals1 r
  cases (show u = Value.ref a from r1)
  obtain ⟨as, rd, hn⟩ := Dv.reads I d (.ref a) (.ref a) hd rfl
  have hz : d.shown.length ≤ sizeLine := by
    have h1 := shown_le d sm.ok
    have h2 := sm.w
    rw [sizeLine_eq]
    omega
  refine repr_of_reads' rd (showable_of d sm.ok) (fun z => hn (sm.dl z)) hg (by have := sm.dp; omega) (fun _ _ e => e) (fun h' u tk k => ?_) hz
  exact ⟨.str d.shown, H, I.kept (h' := h') (t' := tk) k, ⟨u, rfl⟩, q⟩
/-- f'{n:b}' -/
def tFmtB (te : TE) : TE := fun σ H Q => te σ H fun x H1 => ∃ (n k : Nat), x = .int (n : Int) ∧ n < 2 ^ k ∧ 1 ≤ k ∧ k ≤ 1000 ∧ Q (.str (binText n)) H1
theorem pe_fmtB {e : Expr} {te : TE} {j : Nat} {p1 p2 p3 : Pos} (he : PE X e te) : PE X (.JoinedStr [.FormattedValue e (-1) (some (.JoinedStr [.Constant (.str (Str.ofString "b")) j p1] p2)) p3] pos) (tFmtB te) := by
  refine pe_joined1 ⟨fun pins s σ H Q I h => ?_⟩
  refine wpAny_FormattedValue_spec (thn (he.run pins s σ H _ I h) fun v s1 hv => ?_)
  obtain ⟨x, H1, I1, r1, n, k, rfl, hk, h1, h2, q⟩ := hv
  obtain ⟨t, rfl⟩ := r1
  refine thn ((pe_joined1 (pe_str (x := Str.ofString "b"))).run pins s1 σ H1 (fun v H' => v = .str (Str.ofString "b") ∧ Q (.str (binText n)) H') I1 ⟨rfl, q⟩) fun u s2 hu => ?_
  obtain ⟨y, H2, I2, r2, rfl, q2⟩ := hu
  obtain ⟨t2, rfl⟩ := r2
  exact ⟨_, _, rfl, fmt_b hk h1 h2 ⟨.str (binText n), H2, I2.tok _, ⟨_, rfl⟩, q2⟩⟩
end
end BT

set_option Elab.async false
set_option linter.all false
set_option maxRecDepth 100000
set_option maxHeartbeats 2000000
namespace BT
open PySem PySem.Spec PyProof.Rows L2
/-! ### defs that want to know that no repr is under way: as FnOk, with that one premise more -/
structure FnG (P : Program) (w : World) (K : PySem.W.Frag) (mg : Str → Option Value) (base : Heap) (k : Nat) (f : Addr) (fd : FuncData) (ps : List Str) (sp : Sp) : Prop where
  many : ∀ vs H Q E, sp vs H Q E → vs.length = ps.length
  goes : ∀ (A : Around) (outer : List Env) (s : Shared) (H : Hp) (args : Args) (us : List Value) (vs : List V) (Q : VK), Room k A → A.guards = some [] → Env0 P w K mg base A outer s H → BindsTo s fd args (ps.zip us) → Vals vs us → sp vs H Q E0 →
    codeAny (model P w) A (.call (.ref f) args) (CR CX0 outer P w H s Q E0) s
section
variable {P : Program} {w : World} {K : PySem.W.Frag} {mg : Str → Option Value} {base : Heap}
theorem fn_ofG {k : Nat} {f : Addr} {nm qual : Str} {pr : Arguments} {bd : List Stmt} {sc : Scope} {dV kV dc pm cdv ct oc : Value} {an od : Option Addr}
    {sl : Array (Option Value)} {N ps : List Str} {sp : Sp} (lk : K.lookup f = some ⟨oc, od, .func (PySem.W.fnOf nm qual pr bd sc dV kV dc pm an cdv ct), sl⟩) (hcd : PySem.W.codeIn K cdv qual = true) (S : FnScope N ps sc)
    (many : ∀ vs H Q E, sp vs H Q E → vs.length = ps.length)
    (hbody : ∀ (A : Around) (outer : List Env) (s : Shared) (H : Hp) (vs : List V) (Q : VK), Room k (A.deeper (envOfC qual sc s.heap.objs.size f cdv)) → A.guards = some [] → sp vs H Q E0 →
      ∃ t, PSs (cxOf CX0 P w K mg base N qual sc f cdv A outer s H E0) bd t ∧ t { nx := fun _ H' => Q .non H', rt := Q } (start N vs) H) :
    FnG P w K mg base (k + 1) f (PySem.W.fnOf nm qual pr bd sc dV kV dc pm an cdv ct) ps sp := by
  refine ⟨many, fun A outer s H args us vs Q room gd e0 bind rel hsp => ?_⟩
  have hlen := many _ _ _ _ hsp
  have keepB : ∀ b o, base.get? b = some o → s.heap.get? b = some o := fun b o e => (e0.bs b o e).1
  have KX : K.In s.heap := e0.mod.kin.keeps keepB
  have noLim : s.heap.NoLimit := e0.mod.nolimit.keeps keepB
  have kinds : ∀ y ∈ ps.zip us, sc.names.lookup y.1 = some .local ∨ (sc.names.lookup y.1 = some .cell ∧ ((cellsFrom (s.heap.objs.size + 1) sc.names []).lookup y.1).isSome = true) := by
    rintro ⟨n, v⟩ hy
    have hn := (List.of_mem_zip hy).1
    rcases S.par n hn with q | q
    · left; exact q
    · right; exact ⟨q, PySem.W.cellsFrom_some _ _ _ (.inl q)⟩
  refine codeAny_call_function room.depth (KX _ _ lk) rfl S.co S.gen rfl (PySem.W.codeRec_of KX hcd) (bind _ _ _ _ ?g1)
  refine wpAny_newFunctionEnv_cells S.kind kinds (fun env he s1 x => ?g2)
  subst he
  refine And.intro (noLim.keeps x.toInCall.keep) (codeAny_func ?g3)
  obtain ⟨t, run, hq⟩ := hbody A outer s H vs Q (room.deeper _) gd hsp
  have I := inv_start (CX := CX0) (E := E0) S room.hd e0 hlen rel x
  refine wpAny_mono (run.run [] s1 (start N vs) H _ I hq) (fun fl s' out => ?g4) (fun _ _ out => out)
  have done : ∀ {τ : L2.St} {H' : Hp} {v : V} {u : Value}, Inv (cxOf CX0 P w K mg base N qual sc f cdv A outer s H E0) [] τ H' s' → RelV v u → Q v H' → CE outer P w H s Q u s' := by
    intro τ H' v u J rv q
    exact ⟨v, H', J.os, J.bare, J.base, J.hok, rv, q⟩
  cases fl with
  | brk => obtain ⟨_, _, _, q⟩ := out; exact q.elim
  | cont => obtain ⟨_, _, _, q⟩ := out; exact q.elim
  | next => obtain ⟨τ, H', J, q⟩ := out; exact done (v := V.non) (u := Value.none) J rfl q
  | ret u => obtain ⟨v, τ, H', J, rv, q⟩ := out; exact done J rv q
end
section
variable {X : Cx} {k : Nat} {f : Addr} {fd : FuncData} {ps : List Str} {sp : Sp} {x : Str} {p pos : Pos} {e : Expr} {es : List Expr} {t : TA}
end
end BT

set_option Elab.async false
set_option linter.all false
set_option maxRecDepth 100000
set_option maxHeartbeats 2000000
namespace BT
open PySem PySem.Spec PyProof.Rows L2
/-! ### heaps: the law's source of draws -/
theorem del_get {H : Hp} {a b : Addr} {o : HO} (h : L2.del H a b = some o) : b ≠ a ∧ H b = some o := by
  by_cases e : b = a
  · rw [e, del_same] at h; cases h
  · rw [del_ne e] at h; exact ⟨e, h⟩
/-- at a the source stands: the list at l with the script's numbers, and six numbers more -/
structure Src (l a : Addr) (H : Hp) : Prop where
  at_ : ∃ i b c cl n w : Int, 0 ≤ i ∧ H a = some (.lst [.ref l, .int i, .int b, .int c, .int cl, .int n, .int w])
  nums : ∃ ns : List Int, H l = some (.lst (ns.map V.int))
theorem Src.ne {l a : Addr} {H : Hp} (s : Src l a H) : l ≠ a := fun e => by
  obtain ⟨i, b, c, cl, n, w, _, h1⟩ := s.at_
  obtain ⟨ns, h2⟩ := s.nums
  rw [e, h1] at h2
  have h3 := Option.some.inj h2
  injection h3 with h4
  cases ns with
  | nil => cases h4
  | cons x r =>
    rw [List.map_cons] at h4
    injection h4 with h5 _
    cases h5
/-- behind some deeds that draw from the source at a: it stands as a source, all else stands as it stood -/
structure Keeps (l a : Addr) (H H' : Hp) : Prop where
  src : Src l a H'
  same : ∀ b o, b ≠ a → H b = some o → H' b = some o
theorem Keeps.refl {l a : Addr} {H : Hp} (s : Src l a H) : Keeps l a H H := ⟨s, fun _ _ _ h => h⟩
theorem Keeps.trans {l a : Addr} {H H1 H2 : Hp} (k : Keeps l a H H1) (j : Keeps l a H1 H2) : Keeps l a H H2 := ⟨j.src, fun b o n h => j.same b o n (k.same b o n h)⟩
theorem Keeps.del {l a : Addr} {H H' : Hp} (k : Keeps l a H H') : Same (L2.del H a) (L2.del H' a) := fun b o h => by
  obtain ⟨n, e⟩ := del_get h
  rw [del_ne n]
  exact k.same b o n e
theorem Keeps.of_same {l a : Addr} {H H' : Hp} (s : Src l a H) (k : Same H H') : Keeps l a H H' := by
  obtain ⟨i, b, c, cl, n, w, h0, h1⟩ := s.at_
  obtain ⟨ns, h2⟩ := s.nums
  exact ⟨⟨⟨i, b, c, cl, n, w, h0, k _ _ h1⟩, ⟨ns, k _ _ h2⟩⟩, fun b o _ h => k b o h⟩
theorem Src.free_ne {l a : Addr} {H : Hp} (s : Src l a H) {p : Addr} (h : H p = none) : p ≠ a ∧ p ≠ l := by
  obtain ⟨i, b, c, cl, n, w, h0, h1⟩ := s.at_
  obtain ⟨ns, h2⟩ := s.nums
  exact ⟨fun e => (by rw [e, h1] at h; cases h), fun e => (by rw [e, h2] at h; cases h)⟩
/-- an object that is new since H is laid or written -/
theorem Keeps.own {l a : Addr} {H H' : Hp} (s : Src l a H) (k : Keeps l a H H') {p : Addr} {o : HO} (h : H p = none) : Keeps l a H (upd H' p o) := by
  obtain ⟨n1, n2⟩ := s.free_ne h
  obtain ⟨i, b, c, cl, n, w, h0, h1⟩ := k.src.at_
  obtain ⟨ns, h2⟩ := k.src.nums
  refine ⟨⟨⟨i, b, c, cl, n, w, h0, by rw [upd_ne (Ne.symm n1)]; exact h1⟩, ⟨ns, by rw [upd_ne (Ne.symm n2)]; exact h2⟩⟩, fun q u hq e => ?_⟩
  rw [upd_ne (ne_of_none e h)]
  exact k.same q u hq e
theorem Keeps.free {l a : Addr} {H H' : Hp} (s : Src l a H) (k : Keeps l a H H') {p : Addr} (h : H' p = none) : H p = none := by
  cases e : H p with
  | none => rfl
  | some o =>
    by_cases q : p = a
    · obtain ⟨i, b, c, cl, n, w, h0, h1⟩ := k.src.at_
      rw [q, h1] at h; cases h
    · rw [k.same p o q e] at h; cases h
theorem Keeps.new {l a : Addr} {H H' : Hp} (s : Src l a H) (k : Keeps l a H H') {p : Addr} {o : HO} (h : H' p = none) : Keeps l a H (upd H' p o) := k.own s (k.free s h)
theorem Same.new {H H' : Hp} (k : Same H H') {p : Addr} {o : HO} (h : H' p = none) : Same H (upd H' p o) := fun b u e => by
  rw [upd_ne (ne_of_none (k b u e) h)]; exact k b u e
theorem Same.own {H H' : Hp} (k : Same H H') {p : Addr} {o : HO} (h : H p = none) : Same H (upd H' p o) := fun b u e => by
  rw [upd_ne (ne_of_none e h)]; exact k b u e
theorem Dv.keeps {l a : Addr} {H H' : Hp} {v : V} {d : PyData} (k : Keeps l a H H') (h : Dv (L2.del H a) v d) : Dv (L2.del H' a) v d := Dv.mono k.del d v h
/-! ### a def that stands: its name, its promise -/
structure DefOk (P : Program) (w : World) (K : PySem.W.Frag) (mg : Str → Option Value) (base : Heap) (CX : CXT) (k : Nat) (x : Str) (ps : List Str) (sp : Sp) : Prop where
  ex : ∃ (f : Addr) (fd : FuncData), FnOk P w K mg base CX k f fd ps sp ∧ mg x = some (.ref f) ∧ PySem.W.keepIn K (.ref f) = true ∧ Binds K fd ps []
structure DefG (P : Program) (w : World) (K : PySem.W.Frag) (mg : Str → Option Value) (base : Heap) (k : Nat) (x : Str) (ps : List Str) (sp : Sp) : Prop where
  ex : ∃ (f : Addr) (fd : FuncData), FnG P w K mg base k f fd ps sp ∧ mg x = some (.ref f) ∧ PySem.W.keepIn K (.ref f) = true ∧ Binds K fd ps []
abbrev FnP (K : PySem.W.Frag) (x : Str) (st : Stmt) (f : Addr) (fd : FuncData) : Prop := FunD K x x (defArgs st) (defBody st) (defScope st) [] [] f fd
section
variable {P : Program} {w : World} {K : PySem.W.Frag} {mg : Str → Option Value} {base : Heap}
theorem okG_of {x : Str} {st : Stmt} {f : Addr} {fd : FuncData} {N ps : List Str} {k : Nat} {sp : Sp} (F : FnP K x st f fd) (S : FnScope N ps (defScope st)) (many : ∀ vs H Q E, sp vs H Q E → vs.length = ps.length)
    (hbody : ∀ (cdv : Value) (A : Around) (outer : List Env) (s : Shared) (H : Hp) (vs : List V) (Q : VK), Room k (A.deeper (envOfC x (defScope st) s.heap.objs.size f cdv)) → A.guards = some [] → sp vs H Q E0 →
      ∃ t, PSs (cxOf CX0 P w K mg base N x (defScope st) f cdv A outer s H E0).nox (defBody st) t ∧ t { nx := fun _ H' => Q .non H', rt := Q } (start N vs) H) : FnG P w K mg base (k + 1) f fd ps sp := by
  obtain ⟨oc, od, dV, kV, dc, pm, an, cdv, ct, sl, e, lk, hcd, _⟩ := F.ex
  subst e
  refine fn_ofG lk hcd S many fun A outer s H vs Q room gd hsp => ?_
  obtain ⟨t, h, q⟩ := hbody cdv A outer s H vs Q room gd hsp
  exact ⟨t, h.nox, q⟩
end
section
variable {X : Cx} {k j : Nat} {ps : List Str} {sp : Sp} {x : Str} {p pos : Pos} {e : Expr} {es : List Expr} {t : TA}
theorem pe_d (D : DefOk X.prog X.w X.K X.mg X.base CX0 k x ps sp) (hr : Room j X.A) (hg : Gl X x) (ha : PA X (e :: es) t) (hk : k ≤ j := by decide) (hdb : (x == ("__debug__" : Str)) = false := by decide)
    (he : starEach (e :: es) X.env = (false, eval e X.env) :: starEach es X.env := by rfl) (hpl : (backTo pos (starEach es X.env)).any (·.1) = false := by rfl) : PE X (.Call (.Name x p) (e :: es) [] pos) (tCall sp [] E0 t) := by
  obtain ⟨f, fd, F, hm, hkp, hb⟩ := D.ex
  exact pe_call F (hr.mono hk) hg hm hkp hb .nil pass0 ha hdb he hpl
theorem pe_dS {E : L2.St → XK} (D : DefOk X.prog X.w X.K X.mg X.base (L2.CX X.prog X.w) k x ps sp) (hr : Room j X.A) (hg : Gl X x) (hx : ∀ σ, PassesAt (L2.CX X.prog X.w) X σ (E σ)) (ha : PA X (e :: es) t) (hk : k ≤ j := by decide) (hdb : (x == ("__debug__" : Str)) = false := by decide)
    (he : starEach (e :: es) X.env = (false, eval e X.env) :: starEach es X.env := by rfl) (hpl : (backTo pos (starEach es X.env)).any (·.1) = false := by rfl) : PE X (.Call (.Name x p) (e :: es) [] pos) (tCallS sp E t) := by
  obtain ⟨f, fd, F, hm, hkp, hb⟩ := D.ex
  exact pe_callS F (hr.mono hk) hg hm hkp hb hx ha hdb he hpl
end
/-! ### the package's errors: one __init__, its attribute what -/
def spInit (K : PySem.W.Frag) : Sp := fun vs H Q _ => ∃ (a C : Addr) (y : V), vs = [.ref a, y] ∧ OexC K C ∧ PySem.W.findIn K (.ref C) "what" = some none ∧ H a = some (exo a C none) ∧
  ∀ dx, H dx = none → dx ≠ a → Q .non (upd (upd H dx (exd dx [("what", y)])) a (exo a C (some dx)))
structure ErrC (P : Program) (w : World) (K : PySem.W.Frag) (mg : Str → Option Value) (base : Heap) (x : Str) (C : Addr) : Prop where
  g : mg x = some (.ref C)
  oex : OexC K C
  xf : XfC K C
  noW : PySem.W.findIn K (.ref C) "what" = some none
  exm : PySem.W.exmOne K (.ref C) (.ref C) = some true
  ini : ∃ (fI : Addr) (fd : FuncData), PySem.W.findIn K (.ref C) "__init__" = some (some (.ref fI)) ∧ PySem.W.typeIn K (.ref fI) = some (.type "function") ∧
    FnOk P w K mg base CX0 1 fI fd ["self", "what"] (spInit K) ∧ Binds K fd ["self", "what"] []
/-- a reading that may be weakened -/
def MonoE (te : TE) : Prop := ∀ (σ : L2.St) (H : Hp) (Q Q' : VK), (∀ v H', Q v H' → Q' v H') → te σ H Q → te σ H Q'
theorem upd_comm_del {H : Hp} {a d : Addr} {u o1 o2 o3 : HO} (ha : H a = none) (hda : d ≠ a) : upd (L2.del (upd (upd (upd H a o1) d o2) a o3) a) d u = upd H d u := by
  funext b
  by_cases hb : b = d
  · rw [hb, upd_same, upd_same]
  · rw [upd_ne hb, upd_ne hb]
    by_cases hc : b = a
    · rw [hc, del_same, ha]
    · rw [del_ne hc, upd_ne hc, upd_ne hb, upd_ne hc]
section
variable {X : Cx} {k : Nat} {x : Str} {C : Addr} {e : Expr} {te : TE} {p pos p2 : Pos}
theorem pmk_err (D : ErrC X.prog X.w X.K X.mg X.base x C) (hr : Room k X.A) (hg : Gl X x) (he : PE X e te) (mono : MonoE te) (hk : 2 ≤ k := by decide)
    (hdb : (x == ("__debug__" : Str)) = false := by decide) (hs : starEach [e] X.env = (false, eval e X.env) :: starEach [] X.env := by rfl) (hpl : (backTo pos (starEach [] X.env)).any (·.1) = false := by rfl) :
    PMk X (.Call (.Name x p) [e] [] pos) (fun σ H Q => te σ H fun v H1 => ∀ d, H1 d = none → Q (.ref C) (some d) (upd H1 d (.xd [("what", v)]))) := by
  obtain ⟨fI, fd, iC, tI, F, hb⟩ := D.ini
  have q := pmk_oex (X := X) (CX := CX0) (x := x) (p := p) (pos := pos) (C := C) (e := e) (es := []) D.oex iC tI F (hr.mono hk) hb .nil pass0 hg D.g (pa_cons he pa_nil hs) hdb hs hpl
  intro pins s σ H Q I h
  refine q pins s σ H Q I (mono σ H _ _ (fun v H1 h1 => ?_) h)
  refine ⟨(by show 1 ≤ 1000; decide), fun a ha => ⟨a, C, v, rfl, D.oex, D.noW, upd_same, fun dx hd hne => ?_⟩⟩
  have hd1 : H1 dx = none := by rw [upd_ne hne] at hd; exact hd
  refine ⟨rfl, dx, [("what", v)], upd_same, by rw [upd_ne hne, upd_same], hd1, ?_⟩
  rw [upd_comm_del ha hne]
  exact h1 dx hd1
/-- raise X(e) in a def that errors leave -/
theorem ps_err {W : WX} (D : ErrC X.prog X.w X.K X.mg X.base x C) (hr : Room k X.A) (hc : X.calm = true) (tk : Takes X W) (hg : Gl X x) (he : PE X e te) (mono : MonoE te) (hk : 2 ≤ k := by decide)
    (hdb : (x == ("__debug__" : Str)) = false := by decide) (hs : starEach [e] X.env = (false, eval e X.env) :: starEach [] X.env := by rfl) (hpl : (backTo pos (starEach [] X.env)).any (·.1) = false := by rfl) :
    PS X (.Raise (some (.Call (.Name x p) [e] [] pos)) none p2) (fun _ σ H => te σ H fun v H1 => ∀ d, H1 d = none → W (.ref C) (some d) σ (upd H1 d (.xd [("what", v)]))) :=
  ps_raise hc tk (pmk_err D hr hg he mono hk hdb hs hpl)
end
/-! ### kinds of values -/
def tyD : PyData → String
  | .none => "NoneType"
  | .bool _ => "bool"
  | .int _ => "int"
  | .str _ => "str"
  | .list _ => "list"
  | .tuple _ => "tuple"
  | .dict _ => "dict"
theorem Dv.ty {K : PySem.W.Frag} {H : Hp} {v : V} {d : PyData} (h : Dv H v d) : TyX K H v (.type (tyD d)) := by
  cases h with
  | non => exact .base .non
  | bl b => exact .base (.bl b)
  | int i => exact .base (.int i)
  | str x => exact .base (.str x)
  | lst e _ => exact .base (.lst e)
  | tup e _ => exact .base (.tup e)
  | dct e _ => exact .base (.dK e)
def isS (T t : String) : Bool := t == T || (T == "int" && t == "bool")
def isD (T : String) (d : PyData) : Bool := isS T (tyD d)
def kinds : List String := ["NoneType", "bool", "int", "str", "list", "tuple", "dict"]
/-- isinstance(x, T), T a built-in class, x data -/
def rIsD (T : String) : List V → Hp → VK → Prop := fun xs H Q => ∃ (x : V) (d : PyData), xs = [x, .ty T] ∧ Dv H x d ∧ Q (.bl (isD T d)) H
section
variable {X : Cx}
end
end BT

set_option Elab.async false
set_option linter.all false
set_option maxRecDepth 100000
namespace BT
open PySem PySem.Spec PyProof.Rows L2
def top (i : Nat) : Stmt := PySem.Challenge.pw_blindtwins_k32_whole_against_fault.main.body.getD i (.Pass ⟨0, 0, 0, 0⟩)
abbrev s_wall : Stmt := top 0
abbrev s_BlindError_init : Stmt := inClass (top 2) 0
abbrev s_mask_of : Stmt := top 10
abbrev s_lot_of : Stmt := top 11
abbrev s_lowest : Stmt := top 12
abbrev s_odd : Stmt := top 13
abbrev s_picked : Stmt := top 14
abbrev s_cleared : Stmt := top 15
abbrev s_sweep : Stmt := top 16
abbrev s_reduce_rows : Stmt := top 17
abbrev s_span : Stmt := top 18
abbrev s_is_number : Stmt := top 22
abbrev s_is_between : Stmt := top 23
abbrev s_is_bit : Stmt := top 24
abbrev s_need_size : Stmt := top 25
abbrev s_is_lot : Stmt := top 26
abbrev s_need_lot : Stmt := top 27
abbrev s_need_each_lot : Stmt := top 28
abbrev s_need_lots : Stmt := top 29
abbrev s_need_log : Stmt := top 32
abbrev s_is_item : Stmt := top 33
abbrev s_against_fault : Stmt := top 34
abbrev s_need_book_size : Stmt := top 38
abbrev s_Book_init : Stmt := inClass (top 39) 0
abbrev s_Book_eq : Stmt := inClass (top 39) 1
abbrev s_Book_rows : Stmt := inClass (top 39) 2
abbrev s_Book_checks : Stmt := inClass (top 39) 3
abbrev s_Book_holds : Stmt := inClass (top 39) 4
abbrev s_Book_is_check : Stmt := inClass (top 39) 5
abbrev s_Book_tell_same : Stmt := inClass (top 39) 6
abbrev s_Book_turned : Stmt := inClass (top 39) 7
abbrev s_Book_within : Stmt := inClass (top 39) 8
abbrev s_Book_shown : Stmt := inClass (top 39) 9
abbrev s_Book_on : Stmt := inClass (top 39) 10
abbrev s_Book_under : Stmt := inClass (top 39) 11
abbrev s_Book_join : Stmt := inClass (top 39) 12
abbrev s_Book_meet : Stmt := inClass (top 39) 13
abbrev s_Book_beside : Stmt := inClass (top 39) 14
abbrev s_Book_moved : Stmt := inClass (top 39) 15
abbrev s_Book_with_sum : Stmt := inClass (top 39) 16
abbrev s_Book_words : Stmt := inClass (top 39) 17
abbrev s_Book_word_of : Stmt := inClass (top 39) 18
abbrev s_Book_need_places : Stmt := inClass (top 39) 19
abbrev s_told : Stmt := top 40
abbrev s_law_source : Stmt := top 42
abbrev s_law_open : Stmt := top 43
abbrev s_law_draw : Stmt := top 44
abbrev s_law_lot : Stmt := top 45
abbrev s_law_mask : Stmt := top 46
abbrev s_law_odd : Stmt := top 47
abbrev s_law_row : Stmt := top 48
abbrev s_law_check : Stmt := top 49
abbrev s_law_log : Stmt := top 50
abbrev s_law_due : Stmt := top 51
abbrev s_law_wrong : Stmt := top 52
abbrev s_law : Stmt := top 53
end BT

set_option linter.all false
namespace BT
open PySem PySem.Spec PyProof.Rows
/-! ### bits of numbers of any sign -/
def iBit (y : Int) (i : Nat) : Bool := if 0 ≤ y then y.toNat.testBit i else !(Builtin.bitNot y).toNat.testBit i
def andN (m : Nat) (y : Int) : Nat := if 0 ≤ y then m &&& y.toNat else m ^^^ (m &&& (Builtin.bitNot y).toNat)
theorem bitAnd_andN (m : Nat) (y : Int) : Builtin.bitAnd (m : Int) y = ((andN m y : Nat) : Int) := by
  unfold andN
  by_cases h : 0 ≤ y
  · rw [if_pos h, bitAnd_pp (Int.natCast_nonneg _) h, Int.toNat_natCast]
  · rw [if_neg h, bitAnd_pn (Int.natCast_nonneg _) h, Int.toNat_natCast]
    generalize (Builtin.bitNot y).toNat = z
    have h1 := xor_and_add m (m &&& z)
    have h2 : m &&& (m &&& z) = m &&& z := by
      apply Nat.eq_of_testBit_eq
      intro i
      simp only [Nat.testBit_and]
      cases m.testBit i <;> simp
    rw [h2] at h1
    omega
theorem testBit_andN (m : Nat) (y : Int) (i : Nat) : (andN m y).testBit i = (m.testBit i && iBit y i) := by
  unfold andN iBit
  by_cases h : 0 ≤ y
  · rw [if_pos h, if_pos h, Nat.testBit_and]
  · rw [if_neg h, if_neg h, Nat.testBit_xor, Nat.testBit_and]
    cases m.testBit i <;> cases (Builtin.bitNot y).toNat.testBit i <;> rfl
theorem iBit_nat (y i : Nat) : iBit (y : Int) i = y.testBit i := by
  unfold iBit; rw [if_pos (Int.natCast_nonneg _), Int.toNat_natCast]
theorem iBit_neg1 (i : Nat) : iBit (-1) i = true := by
  unfold iBit
  rw [if_neg (by decide)]
  have e : (Builtin.bitNot (-1)).toNat = 0 := by decide
  rw [e, Nat.zero_testBit]; rfl
theorem andN_nat (m y : Nat) : andN m (y : Int) = m &&& y := by
  apply Nat.eq_of_testBit_eq
  intro i
  rw [testBit_andN, iBit_nat, Nat.testBit_and]
theorem andN_neg1 (m : Nat) : andN m (-1) = m := by
  apply Nat.eq_of_testBit_eq
  intro i
  rw [testBit_andN, iBit_neg1, Bool.and_true]
theorem two_pow_inj {a b : Nat} (h : 2 ^ a = 2 ^ b) : a = b := by
  have q := congrArg Nat.log2 h
  rwa [Nat.log2_two_pow, Nat.log2_two_pow] at q
/-! ### the lowest one -/
def lowN (m : Nat) : Nat := andN m (-(m : Int))
theorem bitAnd_low (m : Nat) : Builtin.bitAnd (m : Int) (-(m : Int)) = ((lowN m : Nat) : Int) := bitAnd_andN m _
theorem lowN_zero : lowN 0 = 0 := rfl
theorem low_even (k : Nat) : lowN (2 * k) = 2 * lowN k := by
  rcases Nat.eq_zero_or_pos k with h | h
  · subst h; rfl
  · have e : ∀ m : Nat, 0 < m → lowN m = m ^^^ (m &&& (m - 1)) := fun m hm => by
      unfold lowN andN
      rw [if_neg (by omega)]
      have e2 : (Builtin.bitNot (-(m : Int))).toNat = m - 1 := by unfold Builtin.bitNot; omega
      rw [e2]
    rw [e _ (by omega), e _ h]
    apply Nat.eq_of_testBit_eq
    intro i
    cases i with
    | zero =>
      simp only [Nat.testBit_xor, Nat.testBit_and, Nat.testBit_zero]
      have h1 : (2 * k) % 2 = 0 := by omega
      have h2 : (2 * (k ^^^ (k &&& (k - 1)))) % 2 = 0 := by omega
      simp [h1, h2]
    | succ i =>
      have h1 : (2 * k) / 2 = k := by omega
      have h2 : (2 * k - 1) / 2 = k - 1 := by omega
      have h3 : (2 * (k ^^^ (k &&& (k - 1)))) / 2 = k ^^^ (k &&& (k - 1)) := by omega
      rw [Nat.testBit_xor, Nat.testBit_and, Nat.testBit_succ, Nat.testBit_succ, Nat.testBit_succ, h1, h2, h3, Nat.testBit_xor, Nat.testBit_and]
theorem low_odd (k : Nat) : lowN (2 * k + 1) = 1 := by
  unfold lowN andN
  rw [if_neg (by omega)]
  have e2 : (Builtin.bitNot (-((2 * k + 1 : Nat) : Int))).toNat = 2 * k := by unfold Builtin.bitNot; omega
  rw [e2]
  apply Nat.eq_of_testBit_eq
  intro i
  cases i with
  | zero =>
    simp only [Nat.testBit_xor, Nat.testBit_and, Nat.testBit_zero]
    have h1 : (2 * k + 1) % 2 = 1 := by omega
    have h2 : (2 * k) % 2 = 0 := by omega
    simp [h1, h2]
  | succ i =>
    have h1 : (2 * k + 1) / 2 = k := by omega
    have h2 : (2 * k) / 2 = k := by omega
    rw [Nat.testBit_xor, Nat.testBit_and, Nat.testBit_succ, Nat.testBit_succ, Nat.testBit_succ, h1, h2]
    cases k.testBit i <;> simp
/-- the place of the lowest one -/
theorem low_spec : ∀ m : Nat, m ≠ 0 → ∃ k, lowN m = 2 ^ k ∧ m.testBit k = true ∧ ∀ j, j < k → m.testBit j = false := by
  intro m
  induction m using Nat.strongRecOn with
  | _ m ih =>
    intro h
    rcases Nat.mod_two_eq_zero_or_one m with h2 | h2
    · have e : m = 2 * (m / 2) := by omega
      obtain ⟨k, h3, h4, h5⟩ := ih (m / 2) (by omega) (by omega)
      refine ⟨k + 1, ?_, ?_, fun j hj => ?_⟩
      · rw [e, low_even, h3, Nat.pow_succ]; omega
      · rw [Nat.testBit_succ]; exact h4
      · cases j with
        | zero => rw [Nat.testBit_zero, h2]; rfl
        | succ j => rw [Nat.testBit_succ]; exact h5 j (by omega)
    · have e : m = 2 * (m / 2) + 1 := by omega
      refine ⟨0, ?_, ?_, fun j hj => absurd hj (by omega)⟩
      · rw [e, low_odd]
      · rw [Nat.testBit_zero, h2]; rfl
theorem low_ne {m : Nat} (h : m ≠ 0) : lowN m ≠ 0 := by
  obtain ⟨k, e, _⟩ := low_spec m h
  rw [e]; exact Nat.ne_of_gt (Nat.two_pow_pos k)
theorem and_pow_ne {m k : Nat} : m &&& 2 ^ k ≠ 0 ↔ m.testBit k = true := by
  constructor
  · intro h
    refine Classical.byContradiction fun q => h ?_
    apply Nat.eq_of_testBit_eq
    intro i
    rw [Nat.testBit_and, Nat.testBit_two_pow, Nat.zero_testBit]
    by_cases e : k = i
    · subst e; simp [q]
    · simp [e]
  · intro h e
    have q := congrArg (fun z => z.testBit k) e
    simp only [Nat.testBit_and, Nat.testBit_two_pow, Nat.zero_testBit, h] at q
    exact absurd q (by simp)
theorem and_pow_zero {m k : Nat} : m &&& 2 ^ k = 0 ↔ m.testBit k = false := by
  constructor
  · intro h
    cases e : m.testBit k with
    | false => rfl
    | true => exact absurd h (and_pow_ne.mpr e)
  · intro h
    refine Classical.byContradiction fun q => ?_
    rw [and_pow_ne.mp q] at h; cases h
/-! ### rows: as the program reckons them -/
def clearStep (part : Int) (m row : Nat) : Nat := if m &&& lowN (andN row part) ≠ 0 then m ^^^ row else m
def clearedF (part : Int) (m : Nat) (rows : List Nat) : Nat := rows.foldl (clearStep part) m
def sweepStep (part : Int) (st : List Nat × List Nat) (mask : Nat) : List Nat × List Nat :=
  if lowN (andN (clearedF part mask st.1) part) ≠ 0 then
    (st.1.map (fun row => if row &&& lowN (andN (clearedF part mask st.1) part) ≠ 0 then row ^^^ clearedF part mask st.1 else row) ++ [clearedF part mask st.1], st.2)
  else (st.1, st.2 ++ [clearedF part mask st.1])
def sweepF (part : Int) (masks : List Nat) : List Nat × List Nat := masks.foldl (sweepStep part) ([], [])
theorem sweepF_snoc (part : Int) (ms : List Nat) (m : Nat) : sweepF part (ms ++ [m]) = sweepStep part (sweepF part ms) m := by
  unfold sweepF; rw [List.foldl_append]; rfl
theorem clearedF_snoc (part : Int) (m : Nat) (rows : List Nat) (r : Nat) : clearedF part m (rows ++ [r]) = clearStep part (clearedF part m rows) r := by
  unfold clearedF; rw [List.foldl_append]; rfl
/-- rows whose firsts in the part stand alone -/
def Alone (part : Int) (rows : List Nat) : Prop := ∃ ks : List Nat, ks.length = rows.length ∧
  ∀ (i : Nat) (r k : Nat), rows[i]? = some r → ks[i]? = some k → lowN (andN r part) = 2 ^ k ∧ ∀ (j : Nat) (s : Nat), rows[j]? = some s → (s.testBit k = true ↔ j = i)
theorem clearedF_bits {part : Int} {rows ks : List Nat} (hl : ks.length = rows.length) (h : ∀ (i : Nat) (r k : Nat), rows[i]? = some r → ks[i]? = some k → lowN (andN r part) = 2 ^ k ∧ ∀ (j : Nat) (s : Nat), rows[j]? = some s → (s.testBit k = true ↔ j = i)) (m : Nat) :
    ∀ n, n ≤ rows.length → ∀ (i k : Nat), ks[i]? = some k → (clearedF part m (rows.take n)).testBit k = if i < n then false else m.testBit k := by
  intro n
  induction n with
  | zero => intro _ i k _; simp [clearedF]
  | succ n ih =>
    intro hn i k hk
    have hlt : n < rows.length := by omega
    have hrow : rows[n]? = some rows[n] := List.getElem?_eq_getElem hlt
    rw [List.take_add_one, hrow]
    show (clearedF part m (rows.take n ++ [rows[n]])).testBit k = _
    rw [clearedF_snoc]
    obtain ⟨kn, hkn⟩ : ∃ kn, ks[n]? = some kn := ⟨_, List.getElem?_eq_getElem (by omega)⟩
    obtain ⟨e1, e2⟩ := h n _ kn hrow hkn
    have ik : i < ks.length := (List.getElem?_eq_some_iff.mp hk).1
    have hri : rows[i]? = some rows[i] := List.getElem?_eq_getElem (by omega)
    obtain ⟨f1, f2⟩ := h i _ k hri hk
    have old := ih (by omega) i k hk
    have oldn := ih (by omega) n kn hkn
    unfold clearStep
    rw [e1]
    have bn : rows[n].testBit k = decide (n = i) := by
      have q := f2 n _ hrow
      by_cases e : n = i
      · rw [decide_eq_true e]; exact q.mpr e
      · rw [decide_eq_false e]
        cases z : rows[n].testBit k with
        | false => rfl
        | true => exact absurd (q.mp z) e
    by_cases c : clearedF part m (rows.take n) &&& 2 ^ kn ≠ 0
    · rw [if_pos c, Nat.testBit_xor, old, bn]
      have c2 := and_pow_ne.mp c
      by_cases e : n = i
      · subst e
        have ek : k = kn := Option.some.inj (hk.symm.trans hkn)
        subst ek
        rw [old] at c2
        rw [if_neg (by omega)] at c2
        rw [if_neg (by omega), if_pos (by omega), c2, decide_eq_true rfl]; rfl
      · rw [decide_eq_false e, Bool.xor_false]
        by_cases g : i < n
        · rw [if_pos g, if_pos (by omega)]
        · rw [if_neg g, if_neg (by omega)]
    · rw [if_neg c, old]
      have c2 : (clearedF part m (rows.take n)).testBit kn = false := by
        cases z : (clearedF part m (rows.take n)).testBit kn with
        | false => rfl
        | true => exact absurd (and_pow_ne.mpr z) c
      by_cases e : n = i
      · subst e
        have ek : k = kn := Option.some.inj (hk.symm.trans hkn)
        subst ek
        rw [old] at c2
        rw [if_neg (by omega)] at c2
        rw [if_neg (by omega), if_pos (by omega), c2]
      · by_cases g : i < n
        · rw [if_pos g, if_pos (by omega)]
        · rw [if_neg g, if_neg (by omega)]
theorem alone_nil (part : Int) : Alone part [] := ⟨[], rfl, fun i r k h => by simp at h⟩
theorem alone_step {part : Int} {rows : List Nat} (A : Alone part rows) (mask : Nat) (hlow : lowN (andN (clearedF part mask rows) part) ≠ 0) :
    Alone part (rows.map (fun row => if row &&& lowN (andN (clearedF part mask rows) part) ≠ 0 then row ^^^ clearedF part mask rows else row) ++ [clearedF part mask rows]) := by
  obtain ⟨ks, hl, h⟩ := A
  have hb := clearedF_bits hl h mask rows.length (Nat.le_refl _)
  rw [List.take_length] at hb
  have hne : andN (clearedF part mask rows) part ≠ 0 := fun e => hlow (by rw [e]; rfl)
  obtain ⟨kr, ek, b1, b2⟩ := low_spec _ hne
  generalize clearedF part mask rows = rest at hb ek b1 b2
  rw [ek]
  have rk : rest.testBit kr = true ∧ iBit part kr = true := by
    rw [testBit_andN, Bool.and_eq_true] at b1; exact b1
  -- no first of a row is kr
  have kne : ∀ (i k : Nat), ks[i]? = some k → k ≠ kr ∧ rest.testBit k = false := fun i k hk => by
    have q := hb i k hk
    have ik : i < ks.length := (List.getElem?_eq_some_iff.mp hk).1
    rw [if_pos (by omega)] at q
    exact ⟨fun e => (by rw [e, rk.1] at q; cases q), q⟩
  have bits : ∀ (row i k : Nat), rows[i]? = some row → ks[i]? = some k → ∀ j, j < k → (row.testBit j && iBit part j) = false := fun row i k hr hk j hj => by
    obtain ⟨e1, _⟩ := h i row k hr hk
    have hn : andN row part ≠ 0 := fun e => by
      rw [e, lowN_zero] at e1
      exact absurd e1.symm (Nat.ne_of_gt (Nat.two_pow_pos k))
    obtain ⟨k2, e2, _, e4⟩ := low_spec _ hn
    have ee : k2 = k := two_pow_inj (e2.symm.trans e1)
    subst ee
    rw [← testBit_andN]; exact e4 j hj
  have uniq : ∀ {m k : Nat}, m.testBit k = true → (∀ j, j < k → m.testBit j = false) → lowN m = 2 ^ k := fun {m k} h1 h2 => by
    have hm : m ≠ 0 := fun e => by rw [e, Nat.zero_testBit] at h1; cases h1
    obtain ⟨k2, e1, e2, e3⟩ := low_spec m hm
    have : k2 = k := by
      rcases Nat.lt_trichotomy k2 k with q | q | q
      · rw [h2 k2 q] at e2; cases e2
      · exact q
      · rw [e3 k q] at h1; cases h1
    rw [e1, this]
  refine ⟨ks ++ [kr], by simp [hl], fun i r k hr hk => ?_⟩
  have lm : (rows.map fun row => if row &&& 2 ^ kr ≠ 0 then row ^^^ rest else row).length = rows.length := List.length_map ..
  have getNew : ∀ (j s : Nat), (rows.map (fun row => if row &&& 2 ^ kr ≠ 0 then row ^^^ rest else row) ++ [rest])[j]? = some s → (j < rows.length ∧ ∃ row, rows[j]? = some row ∧ s = if row &&& 2 ^ kr ≠ 0 then row ^^^ rest else row) ∨ (j = rows.length ∧ s = rest) := fun j s hs => by
    by_cases hj : j < rows.length
    · left
      rw [List.getElem?_append_left (by rw [lm]; exact hj), List.getElem?_map] at hs
      rw [List.getElem?_eq_getElem hj] at hs
      exact ⟨hj, _, List.getElem?_eq_getElem hj, (Option.some.inj hs).symm⟩
    · right
      have hj2 := (List.getElem?_eq_some_iff.mp hs).1
      rw [List.length_append, lm, List.length_singleton] at hj2
      have ej : j = rows.length := by omega
      subst ej
      rw [List.getElem?_append_right (by rw [lm]; exact Nat.le_refl _), lm, Nat.sub_self] at hs
      exact ⟨rfl, (Option.some.inj hs).symm⟩
  rcases getNew i r hr with ⟨hi, row, hrow, rfl⟩ | ⟨rfl, rfl⟩
  · rw [List.getElem?_append_left (by omega)] at hk
    obtain ⟨e1, e2⟩ := h i row k hrow hk
    obtain ⟨kn, rn⟩ := kne i k hk
    have rb : row.testBit k = true := (e2 i row hrow).mpr rfl
    have low := bits row i k hrow hk
    have pk : iBit part k = true := by
      have hn : andN row part ≠ 0 := fun e => by
        rw [e, lowN_zero] at e1
        exact absurd e1.symm (Nat.ne_of_gt (Nat.two_pow_pos k))
      obtain ⟨k2, q2, q3, _⟩ := low_spec _ hn
      have ee : k2 = k := two_pow_inj (q2.symm.trans e1)
      subst ee
      rw [testBit_andN, Bool.and_eq_true] at q3; exact q3.2
    refine ⟨uniq ?_ fun j hj => ?_, fun j s hs => ?_⟩
    · rw [testBit_andN, pk, Bool.and_true]
      split
      · rw [Nat.testBit_xor, rb, rn]; rfl
      · exact rb
    · rw [testBit_andN]
      split
      · rename_i c
        have c2 := and_pow_ne.mp c
        -- the row has kr, so kr is no place below its first
        have hkr : k < kr := by
          rcases Nat.lt_trichotomy k kr with q | q | q
          · exact q
          · exact absurd q kn
          · have z := low kr q
            rw [c2, rk.2] at z; cases z
        have z1 := low j hj
        have z2 := b2 j (by omega)
        rw [testBit_andN] at z2
        rw [Nat.testBit_xor]
        cases p : iBit part j with
        | false => rw [Bool.and_false]
        | true =>
          rw [p, Bool.and_true] at z1 z2
          rw [z1, z2]; rfl
      · exact low j hj
    · rcases getNew j s hs with ⟨hj, row2, hrow2, rfl⟩ | ⟨rfl, rfl⟩
      · have q := e2 j row2 hrow2
        split
        · rw [Nat.testBit_xor, rn, Bool.xor_false]; exact q
        · exact q
      · rw [rn]
        exact ⟨fun z => absurd z (by decide), fun z => absurd z (by omega)⟩
  · rw [List.getElem?_append_right (by omega), hl, Nat.sub_self] at hk
    have ekk : kr = k := Option.some.inj hk
    subst ekk
    refine ⟨ek, fun j s hs => ?_⟩
    rcases getNew j s hs with ⟨hj, row2, hrow2, rfl⟩ | ⟨rfl, rfl⟩
    · constructor
      · intro z
        split at z
        · rename_i c
          rw [Nat.testBit_xor, and_pow_ne.mp c, rk.1] at z; cases z
        · rename_i c
          exact absurd (and_pow_ne.mpr z) c
      · intro z; omega
    · exact ⟨fun _ => rfl, fun _ => rk.1⟩
theorem sweep_alone (part : Int) (ms : List Nat) : Alone part (sweepF part ms).1 := by
  have key : ∀ (ms : List Nat) (st : List Nat × List Nat), Alone part st.1 → Alone part (ms.foldl (sweepStep part) st).1 := by
    intro ms
    induction ms with
    | nil => intro st h; exact h
    | cons m ms ih =>
      intro st h
      rw [List.foldl_cons]
      refine ih _ ?_
      unfold sweepStep
      split
      · rename_i c
        exact alone_step h m c
      · exact h
  exact key ms ([], []) (alone_nil part)
end BT

set_option Elab.async false
set_option linter.all false
set_option maxRecDepth 100000
set_option maxHeartbeats 4000000
namespace BT
open PySem PySem.Spec PySem.Calls PyProof.Rows
section
variable {prog : Program} {w : World} {A : Around} {E : Value → Shared → Prop} {s : Shared} {a kS : Addr} {vs : List Value} {kz : List Int} {keys : Array Value} {e e1 : Nat} {P : PySem.Fin → Shared → Prop}
/-- the heap when the keys are let go and the sorted items are put back -/
def putBack (h : Heap) (kS a : Addr) (out : Array Value) : Heap := (h.update kS (Obj.mapSeq fun _ => #[])).update a (Obj.mapSeq fun _ => out)
theorem key_tail {st : SortSt} (gk : s.heap.get? kS = some (seqObj "list" keys e)) (ga : s.heap.get? a = some (seqObj "list" #[] e1)) (ne : kS ≠ a) (hk : IntsAre keys.toList kz) (hl : kz.length = vs.length) (lim : vs.length < 64)
    (hp : (arrOf st).Perm (keys.zip vs.toArray)) (hs : SortedTo (arrOf st) (arrOf st).size) (hf : failedOf st = none)
    (h : ∀ out : Array Value, KskOut false kz vs out.toList → out.size = vs.length → P (.done (.ret .none)) { s with heap := putBack s.heap kS a out }) :
    wpAny (model prog w) A (ksk_tail a false e1 (.ref kS) st) P E s := by
  have sk : keys.size = vs.length := by
    have := hk.length
    rw [Array.length_toList] at this
    omega
  have so : ((arrOf st).map (·.2)).size = vs.length := by rw [Array.size_map, hp.size_eq, Array.size_zip, sk, List.size_toArray, Nat.min_self]
  have lim2 : vs.length ≤ sizeLine := by rw [sizeLine_eq]; omega
  have keep := Heap.SameBut.update s.heap kS (Obj.mapSeq fun _ => (#[] : Array Value))
  have ga2 : (s.heap.update kS (Obj.mapSeq fun _ => (#[] : Array Value))).get? a = some (seqObj "list" #[] e1) := (keep.2 a (Ne.symm ne)).trans ga
  unfold ksk_tail
  dsimp only
  refine wpAny_bind (listUpdate_at gk rfl ?_ (by rw [sk]; exact lim2) (Nat.zero_le _))
  refine wpAny_bind (wpAny_letGo (wpAny_bind (seqEpoch_at ga2 rfl ?_)))
  refine wpAny_bind (listUpdate_at ga2 rfl ?_ (Nat.zero_le _) ?_)
  · rw [hf]
    simp only [bne_self_eq_false, Bool.false_eq_true, if_false]
    exact wpAny_pure (h _ (ksk_out (b := false) hk hp hs) so)
  · show ((arrOf st).map (·.2)).size ≤ _
    rw [so]; omega
theorem key_end (gk : s.heap.get? kS = some (seqObj "list" keys e)) (ga : s.heap.get? a = some (seqObj "list" #[] e1)) (ne : kS ≠ a) (hk : IntsAre keys.toList kz) (hl : kz.length = vs.length) (lim : vs.length < 64)
    (h : ∀ out : Array Value, KskOut false kz vs out.toList → out.size = vs.length → P (.done (.ret .none)) { s with heap := putBack s.heap kS a out }) :
    wpAny (model prog w) A (ksk_end a false vs.toArray e1 (.ref kS) keys) P E s := by
  have sk : keys.size = vs.length := by
    have := hk.length
    rw [Array.length_toList] at this
    omega
  have sz : (keys.zip vs.toArray).size = vs.length := by rw [Array.size_zip, sk, List.size_toArray, Nat.min_self]
  unfold ksk_end
  simp only [Bool.false_eq_true, if_false]
  by_cases few : vs.toArray.size < 2
  · rw [if_pos few, if_pos few]
    refine wpAny_bind (wpAny_pure ?_)
    rw [StateT.run_pure]
    refine wpAny_bind (wpAny_pure ?_)
    dsimp only
    refine key_tail (st := SortSt.mk' general' (keys.zip vs.toArray) #[] 7 none) gk ga ne hk hl lim (Array.Perm.refl _) (fun i j hij hj => ?_) rfl h
    have hj' : j < (keys.zip vs.toArray).size := hj
    rw [sz] at hj'
    rw [List.size_toArray] at few
    obtain rfl : i = j := by omega
    exact Int.le_refl _
  · rw [if_neg few, if_neg few]
    rw [List.size_toArray] at few
    rw [ksk_kind hk (by rw [sk]; omega)]
    refine wpAny_bind (wpAny_pure (wpAny_bind (wpAny_mono (wpS_sortRuns (a₀ := keys.zip vs.toArray) (st := SortSt.mk' oneType' (keys.zip vs.toArray) #[] 7 none)
      (Q := fun _ z => (arrOf z).Perm (keys.zip vs.toArray) ∧ failedOf z = none ∧ SortedTo (arrOf z) (keys.zip vs.toArray).size) (ksk_intKeys hk) ⟨Array.Perm.refl _, rfl, rfl, rfl⟩ (by rw [sz]; omega) (by rw [sz]; exact lim) fun z h1 h2 h3 => ⟨h1, h2, h3⟩) ?_ fun _ _ x => x)))
    rintro ⟨⟨⟩, z⟩ s' ⟨rfl, hp, hf, hs⟩
    dsimp only
    exact key_tail gk ga ne hk hl lim hp (by rw [hp.size_eq]; exact hs) hf h
end
end BT
namespace BT
open PySem PySem.Spec PyProof.Rows L2
section
variable {X : Cx} {pins : List (Addr × Obj)} {σ : L2.St} {H : Hp} {s : Shared}
/-- what the keys are: f answers .int (kz i) for the i-th item, and changes nothing -/
def KeyTurn (X : Cx) (H : Hp) (f : Value) (vs : List Value) (kz : List Int) : Prop := ∀ (i : Nat) (v : Value) (k : Int), vs[i]? = some v → kz[i]? = some k → ∀ (pins : List (Addr × Obj)) (σ : L2.St) (s : Shared), Inv X pins σ H s →
  wpAny (model X.prog X.w) X.A.in1.in1 (call f [v]) (fun r s' => ∃ t, r = .int k t ∧ Inv X pins σ H s') (fun _ _ => False) s
theorem key_rest {f : Value} {vs : List Value} {kz : List Int} {a kS : Addr} {e1 : Nat} {P : PySem.Fin → Shared → Prop} {E : Value → Shared → Prop} (I : Inv X pins σ H s) (turn : KeyTurn X H f vs kz) (hl : kz.length = vs.length) (lim : vs.length < 64) (ne : kS ≠ a)
    (fa : FpOk X pins H a) (fk : FpOk X pins H kS) (ga : s.heap.get? a = some (seqObj "list" #[] e1)) (gk : s.heap.get? kS = some (seqObj "list" #[] 0))
    (h : ∀ (s' : Shared) (out : Array Value), Inv X pins σ H s' → KskOut false kz vs out.toList → out.size = vs.length → (∃ n, s'.heap.get? a = some (seqObj "list" out n)) → P (.done (.ret .none)) s') :
    wpAny (model X.prog X.w) X.A.in1.in1 (ksk_rest a f false vs.toArray e1 (.ref kS)) P E s := by
  have pinOk : ∀ {s' : Shared} {kA : Array Value} {n : Nat}, s'.heap.get? a = some (seqObj "list" #[] e1) → s'.heap.get? kS = some (seqObj "list" kA n) → Inv X pins σ H s' → Inv X (pins ++ pinsAt [a, kS] s'.heap) σ H s' := fun {s' kA n} g1 g2 I' => by
    refine I'.pinned (fun b hb => ?_) (fun b hb => ?_)
    · rcases List.mem_cons.mp hb with rfl | hb
      · exact fa
      · rw [List.mem_singleton.mp hb]; exact fk
    · rcases List.mem_cons.mp hb with rfl | hb
      · exact ⟨_, g1, fun v z => by cases z⟩
      · rw [List.mem_singleton.mp hb]
        exact ⟨_, g2, fun v z => by cases z⟩
  unfold ksk_rest
  refine wpAny_bind (wpAny_rule ?_)
  rw [List.forIn_toArray]
  refine wpAny_bind (ksk_fold (fun i s' => Inv X pins σ H s' ∧ s'.heap.get? a = some (seqObj "list" #[] e1) ∧ ∃ kA n, s'.heap.get? kS = some (seqObj "list" kA n) ∧ IntsAre kA.toList (kz.take i)) vs 0 s ⟨I, ga, #[], 0, gk, by simpa using IntsAre.nil⟩ ?_ ?_)
  · rintro j x s1 hx ⟨I1, g1, kA, n, g2, hk⟩
    rw [Nat.zero_add] at hk ⊢
    have hj := (List.getElem?_eq_some_iff.mp hx).1
    obtain ⟨k, hkj⟩ : ∃ k, kz[j]? = some k := ⟨_, List.getElem?_eq_getElem (by omega)⟩
    have Ip := pinOk g1 g2 I1
    refine wpAny_bind (wpAny_attempt (wpAny_mono (turn j x k hx hkj _ σ s1 Ip) (fun r s2 hr => ?_) fun _ _ no => no.elim))
    obtain ⟨t, rfl, I2⟩ := hr
    have p1 := (I2.pin (a, seqObj "list" #[] e1) (List.mem_append_right _ (List.mem_append_right _ (mem_pinsAt (by simp) g1)))).1
    have p2 := (I2.pin (kS, seqObj "list" kA n) (List.mem_append_right _ (List.mem_append_right _ (mem_pinsAt (by simp) g2)))).1
    have I3 := I2.unpinned
    have size : kA.size ≤ 63 := by
      have q := hk.length
      rw [Array.length_toList, List.length_take] at q
      omega
    have sb := Heap.SameBut.update s2.heap kS (Obj.mapSeq (·.push (.int k t)))
    obtain ⟨n2, g3⟩ : ∃ n2, (s2.heap.update kS (Obj.mapSeq (·.push (.int k t)))).get? kS = some (seqObj "list" (kA.push (.int k t)) n2) := ⟨_, get?_update_seq p2 (·.push (.int k t))⟩
    refine wpAny_bind (listUpdate_at p2 rfl ?_ (by rw [sizeLine_eq]; omega) (by rw [Array.size_push, sizeLine_eq]; omega))
    refine wpAny_pure ⟨rfl, ?_, (sb.2 a (Ne.symm ne)).trans p1, kA.push (.int k t), n2, g3, ?_⟩
    · exact I3.turned (t' := s2.toks) (fun b o hb e => (sb.2 b hb).trans e) fk.1 fk.2.1 fk.2.2.2.1 fk.2.2.2.2.1 fk.2.2.2.2.2
    · have e1 : kz.take (j + 1) = kz.take j ++ [k] := by rw [List.take_add_one, hkj]; rfl
      rw [e1, Array.toList_push]
      exact ksk_snoc hk
  · rintro s1 ⟨I1, g1, kA, n, g2, hk⟩
    rw [List.take_of_length_le (by omega)] at hk
    refine wpAny_bind (listItems_at g2 rfl ?_)
    refine key_end g2 g1 ne hk hl lim fun out ho hz => ?_
    have b1 := Heap.SameBut.update s1.heap kS (Obj.mapSeq fun _ => (#[] : Array Value))
    have I2 := I1.turned (t' := s1.toks) (fun b o hb e => (b1.2 b hb).trans e) fk.1 fk.2.1 fk.2.2.2.1 fk.2.2.2.2.1 fk.2.2.2.2.2
    have g3 : (s1.heap.update kS (Obj.mapSeq fun _ => (#[] : Array Value))).get? a = some (seqObj "list" #[] e1) := (b1.2 a (Ne.symm ne)).trans g1
    have b2 := Heap.SameBut.update (s1.heap.update kS (Obj.mapSeq fun _ => (#[] : Array Value))) a (Obj.mapSeq fun _ => out)
    have I3 := I2.turned (t' := s1.toks) (fun b o hb e => (b2.2 b hb).trans e) fa.1 fa.2.1 fa.2.2.2.1 fa.2.2.2.2.1 fa.2.2.2.2.2
    exact h _ out I3 ho hz ⟨_, get?_update_seq g3 fun _ => out⟩
/-- the sorted list is a new one -/
def KeyOut (kz : List Int) (xs ys : List V) : Prop := ∃ ps : List (Int × V), ps.Perm (kz.zip xs) ∧ ys = ps.map Prod.snd ∧ ps.Pairwise fun p q => p.1 ≤ q.1
theorem key_out {kz : List Int} {xs : List V} {vs out : List Value} (r : Vals xs vs) (h : KskOut false kz vs out) : ∃ ys, Vals ys out ∧ KeyOut kz xs ys := by
  obtain ⟨ps, hp, rfl, hs⟩ := h
  obtain ⟨qs, h1, h2, h3⟩ : ∃ qs : List (Int × V), qs.Perm (kz.zip xs) ∧ Vals (qs.map Prod.snd) (ps.map Prod.snd) ∧ qs.map Prod.fst = ps.map Prod.fst := by
    have base : ∃ zs : List ((Int × V) × (Int × Value)), zs.map Prod.fst = kz.zip xs ∧ zs.map Prod.snd = kz.zip vs ∧ ∀ z ∈ zs, z.1.1 = z.2.1 ∧ RelV z.1.2 z.2.2 := by
      clear hp hs
      induction r generalizing kz with
      | nil => exact ⟨[], by simp, by simp, fun _ h => nomatch h⟩
      | cons rv _ ih =>
        cases kz with
        | nil => exact ⟨[], by simp, by simp, fun _ h => nomatch h⟩
        | cons k kz =>
          obtain ⟨zs, e1, e2, e3⟩ := ih (kz := kz)
          refine ⟨((k, _), (k, _)) :: zs, by rw [List.map_cons, List.zip_cons_cons, e1], by rw [List.map_cons, List.zip_cons_cons, e2], fun z hz => ?_⟩
          rcases List.mem_cons.mp hz with rfl | hz
          · exact ⟨rfl, rv⟩
          · exact e3 z hz
    obtain ⟨zs, e1, e2, e3⟩ := base
    rw [← e2] at hp
    have key : ∀ {ps : List (Int × Value)} {zs : List ((Int × V) × (Int × Value))}, ps.Perm (zs.map Prod.snd) → ∃ ws : List ((Int × V) × (Int × Value)), ws.Perm zs ∧ ws.map Prod.snd = ps := by
      intro ps
      induction ps with
      | nil =>
        intro zs h
        have := h.symm.eq_nil
        cases zs with
        | nil => exact ⟨[], .refl _, rfl⟩
        | cons z zs => cases this
      | cons p ps ih =>
        intro zs h
        have hm : p ∈ zs.map Prod.snd := h.mem_iff.mp (List.mem_cons_self ..)
        obtain ⟨z, hz, rfl⟩ := List.mem_map.mp hm
        obtain ⟨l1, l2, rfl⟩ := List.append_of_mem hz
        have h2 : ps.Perm ((l1 ++ l2).map Prod.snd) := by
          have h3 : ((l1 ++ z :: l2).map Prod.snd).Perm (z.2 :: (l1 ++ l2).map Prod.snd) := by
            rw [List.map_append, List.map_cons, List.map_append]
            exact List.perm_middle
          exact (List.perm_cons _).mp (h.trans h3)
        obtain ⟨ws, q1, q2⟩ := ih h2
        exact ⟨z :: ws, ((List.perm_cons _).mpr q1).trans List.perm_middle.symm, by rw [List.map_cons, q2]⟩
    obtain ⟨ws, q1, q2⟩ := key hp
    refine ⟨ws.map Prod.fst, by rw [← e1]; exact q1.map _, ?_, ?_⟩
    · rw [← q2]
      have rel : ∀ z ∈ ws, RelV z.1.2 z.2.2 := fun z hz => (e3 z (q1.mem_iff.mp hz)).2
      clear q2 q1
      induction ws with
      | nil => exact .nil
      | cons z ws ih => exact .cons (rel z (List.mem_cons_self ..)) (ih fun y hy => rel y (List.mem_cons_of_mem _ hy))
    · rw [← q2, List.map_map, List.map_map]
      exact List.map_congr_left fun z hz => (e3 z (q1.mem_iff.mp hz)).1
  refine ⟨_, h2, qs, h1, rfl, ?_⟩
  have e : ∀ {as : List (Int × V)} {bs : List (Int × Value)}, as.map Prod.fst = bs.map Prod.fst → bs.Pairwise (fun p q => if false = true then q.1 ≤ p.1 else p.1 ≤ q.1) → as.Pairwise fun p q => p.1 ≤ q.1 := by
    intro as bs e hb
    have e2 : (as.map Prod.fst).Pairwise (· ≤ ·) := by
      rw [e, List.pairwise_map]
      exact hb.imp fun h => by simpa using h
    rw [List.pairwise_map] at e2
    exact e2
  exact e h3 hs
theorem sorted_key {f : Value} {kz : List Int} {l : Addr} {xs : List V} {Q : VK} (I : Inv X pins σ H s) (hs : SqL X.K H l xs) (hl : kz.length = xs.length) (lim : xs.length < 64) (ha1 : argsOk "sorted" ⟨[.ref l], [(Str.ofString "key", f)]⟩) (ha2 : ∀ x, argsOk "list.sort" ⟨[.ref x], [(Str.ofString "key", f)]⟩)
    (ht : ∀ x, Builtin.«list.sort» ⟨[.ref x], [(Str.ofString "key", f)]⟩ = ksk_tree x f false) (turn : ∀ vs : List Value, Vals xs vs → KeyTurn X H f vs kz)
    (q : ∀ (ys : List V) (p : Addr), KeyOut kz xs ys → H p = none → Q (.ref p) (upd H p (.lst ys))) :
    wpAny (model X.prog X.w) X.A (call (.builtin "sorted") [.ref l] [(Str.ofString "key", f)]) (EP X pins σ Q) X.xe s := by
  obtain ⟨vs, rv, pl, hz⟩ := I.list hs
  have lv : xs.length = vs.length := rv.length
  have lim2 : vs.length ≤ sizeLine := by rw [sizeLine_eq]; omega
  refine call_function_entry_kw kind_sorted plain_sorted entry_sorted ha1 ?_
  unfold Builtin.«sorted»
  refine wpAny_bind (m := checkCount "sorted" 1 1 _) (wpAny_pure (wpAny_bind (collect_list pl.isList ?_ lim2)))
  refine wpAny_bind (wpAny_newList ?_ lim2)
  -- the heap with the list to sort
  have sb := Heap.SameBut.update (s.heap.push (seqObj "list" #[] 0)) s.heap.objs.size (Obj.mapSeq (· ++ vs.toArray))
  generalize hh1 : (s.heap.push (seqObj "list" #[] 0)).update s.heap.objs.size (Obj.mapSeq (· ++ vs.toArray)) = h1 at sb
  have s1 : h1.objs.size = s.heap.objs.size + 1 := by rw [← hh1, Heap.size_update, size_push']
  have keep1 : ∀ b o, s.heap.get? b = some o → h1.get? b = some o := fun b o e => by
    have hb := Heap.lt_size e
    rw [sb.2 b (Nat.ne_of_lt hb), Heap.get?_push_ne _ _ _ (Nat.ne_of_lt hb)]
    exact e
  have I1 : Inv X pins σ H { s with heap := h1, toks := s.toks } := I.kept keep1
  generalize hs1 : ({ s with heap := h1, toks := s.toks } : Shared) = t1 at I1
  have e1 : t1.heap = h1 := by rw [← hs1]
  have fa : FpOk X pins H t1.heap.objs.size := I1.fpOk (Nat.le_refl _) (I1.hok.fresh (Nat.le_refl _))
  have I2 : Inv X pins σ H { t1 with heap := t1.heap.push (seqObj "list" vs.toArray 0), toks := t1.toks } := I1.kept fun b o e => Heap.get?_push_of_some _ e
  have g2 : (t1.heap.push (seqObj "list" vs.toArray 0)).get? t1.heap.objs.size = some (seqObj "list" vs.toArray 0) := Heap.get?_push_size _ rfl
  show wpAny _ _ _ _ _ { t1 with heap := t1.heap.push (seqObj "list" vs.toArray 0), toks := t1.toks }
  generalize ha : t1.heap.objs.size = a at fa g2 ⊢
  have alt : a < (t1.heap.push (seqObj "list" vs.toArray 0)).objs.size := by rw [size_push', ha]; exact Nat.lt_succ_self _
  generalize hs2 : ({ t1 with heap := t1.heap.push (seqObj "list" vs.toArray 0), toks := t1.toks } : Shared) = t2 at I2 ⊢
  have e2 : t2.heap = t1.heap.push (seqObj "list" vs.toArray 0) := by rw [← hs2]
  rw [← e2] at g2 alt
  clear hs2 e2
  refine wpAny_bind (wpAny_holding (wpAny_call_entry_kw slot_list_sort ⟨_, g2, rfl⟩ entry_list_sort ?_ (ha2 _)))
  show wpAny (model X.prog X.w) X.A.in1.in1 (Builtin.«list.sort» ⟨[.ref a], [(Str.ofString "key", f)]⟩) _ _ _
  rw [ht a]
  unfold ksk_tree
  obtain ⟨n3, g3⟩ : ∃ n3, (t2.heap.update a (Obj.mapSeq fun _ => (#[] : Array Value))).get? a = some (seqObj "list" #[] n3) := ⟨_, get?_update_seq g2 fun _ => #[]⟩
  have b3 := Heap.SameBut.update t2.heap a (Obj.mapSeq fun _ => (#[] : Array Value))
  refine wpAny_bind (listItems_at g2 rfl (wpAny_bind (listUpdate_at g2 rfl ?_ (by rw [List.size_toArray]; exact lim2) (Nat.zero_le _))))
  refine wpAny_bind (seqEpoch_at g3 rfl (wpAny_bind (wpAny_newTuple ?_ (by show vs.length ≤ _; exact lim2))))
  refine wpAny_bind (wpAny_newList ?_ (Nat.zero_le _))
  refine wpAny_holding ?_
  have I3 := I2.turned (t' := t2.toks) (fun b o hb e => (b3.2 b hb).trans e) fa.1 fa.2.1 fa.2.2.2.1 fa.2.2.2.2.1 fa.2.2.2.2.2
  generalize hs3 : ({ t2 with heap := t2.heap.update a (Obj.mapSeq fun _ => #[]), toks := t2.toks } : Shared) = t3 at I3 ⊢
  have e3 : t3.heap = t2.heap.update a (Obj.mapSeq fun _ => #[]) := by rw [← hs3]
  rw [← e3] at g3
  have a3 : a < t3.heap.objs.size := Heap.lt_size g3
  have I4 : Inv X pins σ H { t3 with heap := t3.heap.push (seqObj "tuple" vs.toArray.toList.toArray 0), toks := t3.toks } := I3.kept fun b o e => Heap.get?_push_of_some _ e
  have g4 : (t3.heap.push (seqObj "tuple" vs.toArray.toList.toArray 0)).get? a = some (seqObj "list" #[] n3) := Heap.get?_push_of_some _ g3
  have a4 : a < (t3.heap.push (seqObj "tuple" vs.toArray.toList.toArray 0)).objs.size := by rw [size_push']; exact Nat.lt_succ_of_lt a3
  generalize hs4 : ({ t3 with heap := t3.heap.push (seqObj "tuple" vs.toArray.toList.toArray 0), toks := t3.toks } : Shared) = t4 at I4 ⊢
  have e4 : t4.heap = t3.heap.push (seqObj "tuple" vs.toArray.toList.toArray 0) := by rw [← hs4]
  rw [← e4] at g4 a4
  have fk : FpOk X pins H t4.heap.objs.size := I4.fpOk (Nat.le_refl _) (I4.hok.fresh (Nat.le_refl _))
  have I5 : Inv X pins σ H { t4 with heap := t4.heap.push (seqObj "list" #[] 0), toks := t4.toks } := I4.kept fun b o e => Heap.get?_push_of_some _ e
  refine key_rest (kS := t4.heap.objs.size) I5 (turn vs rv) (by omega) (by omega) (Nat.ne_of_gt a4) fa fk (Heap.get?_push_of_some _ g4) (Heap.get?_push_size _ rfl) fun s' out I' ho hz' hg => ?_
  obtain ⟨n, hg⟩ := hg
  obtain ⟨ys, ry, hy⟩ := key_out rv ho
  refine ⟨_, rfl, wpAny_pure ⟨_, rfl, .ref a, upd H a (.lst ys), ?_, rfl, q ys a hy fa.1⟩⟩
  refine I'.take (t' := s'.toks) (fun b ob _ e => e) fa ⟨?_, out.toList, n, ry, by rw [Array.toArray_toList]; exact hg⟩
  rw [ry.length, Array.length_toList, hz']; exact lim2
def rSortedKey (K : PySem.W.Frag) (f : Addr) (sp : Sp) : List V → List V → Hp → VK → Prop := fun vs zs H Q => ∃ (l : Addr) (xs : List V) (kz : List Int), vs = [.ref l] ∧ zs = [.ref f] ∧ SqL K H l xs ∧ kz.length = xs.length ∧ xs.length < 64 ∧
  (∀ (i : Nat) (x : V) (k : Int), xs[i]? = some x → kz[i]? = some k → sp [x] H (fun v H' => v = .int k ∧ H' = H) E0) ∧ ∀ (ys : List V) (p : Addr), KeyOut kz xs ys → H p = none → Q (.ref p) (upd H p (.lst ys))
theorem vals_at {xs : List V} {vs : List Value} (r : Vals xs vs) : ∀ {i : Nat} {v : Value}, vs[i]? = some v → ∃ x, xs[i]? = some x ∧ RelV x v := by
  induction r with
  | nil => intro i v h; simp at h
  | cons rv _ ih =>
    intro i v h
    cases i with
    | zero =>
      have e := Option.some.inj h
      exact ⟨_, rfl, e ▸ rv⟩
    | succ i => exact ih h
theorem cr_sortedKeyF {k : Nat} {f : Addr} {fd : FuncData} {y : Str} {sp : Sp} (F : FnOk X.prog X.w X.K X.mg X.base CX0 k f fd [y] sp) (hr : Room (k + 2) X.A) (hb : Binds X.K fd [y] []) : CallRK X (.builtin "sorted") [Str.ofString "key"] (rSortedKey X.K f sp) := by
  intro pins s σ H vs zs us ws Q I r rz h
  obtain ⟨l, xs, kz, rfl, rfl, hs, hl, lim, hk, q⟩ := h
  obtain ⟨u1, rfl, r1⟩ := vals1 r
  obtain ⟨w1, rfl, r2⟩ := vals1 rz
  cases (show u1 = Value.ref l from r1)
  cases (show w1 = Value.ref f from r2)
  refine sorted_key I hs hl lim (ksk_s1 _ _) (fun x => ksk_l1 _ _) (fun x => ksk_t1 _ _) (fun vs rv i v k hv hk2 pins σ s I' => ?_) q
  obtain ⟨x, hx, rx⟩ := vals_at rv hv
  refine wpAny_call (codeAny_mono (F.run X.A.in1.in1 X.stack s H ⟨[v], []⟩ [v] [x] _ E0 hr.in1.in1 I'.env0.in1.in1 (hb s [v] I'.kIn rfl) (.cons rx .nil) (hk i x k hx hk2)) fun r s' hq => ?_)
  cases r with
  | error e => exact hq.elim
  | ok fl =>
    cases fl with
    | ret u =>
      obtain ⟨v', H', I2, rv', e, e2⟩ := I'.after hq
      subst e e2
      obtain ⟨t, rfl⟩ := rv'
      exact ⟨t, rfl, I2⟩
    | next => exact False.elim hq
    | brk => exact False.elim hq
    | cont => exact False.elim hq
end
section
variable {X : Cx} {k j : Nat} {y x : Str} {sp : Sp} {p p2 kpos pos : Pos} {e : Expr} {te : TE}
/-- sorted(e, key=x), x a def of one number that changes nothing -/
def tSortedKey (K : PySem.W.Frag) (mg : Str → Option Value) (x : Str) (sp : Sp) (te : TE) : TE := fun σ H Q => ∃ f, mg x = some (.ref f) ∧ tCKw (rSortedKey K f sp) (tCons te tNil) (tCons (tC (.ref f)) tNil) σ H Q
theorem pe_sortedKey (D : DefOk X.prog X.w X.K X.mg X.base CX0 k x [y] sp) (hr : Room j X.A) (hg : Gl X "sorted") (hm : X.mg "sorted" = none) (hgx : Gl X x) (he : PE X e te) (hk : k + 2 ≤ j := by decide) (hdb : (x == ("__debug__" : Str)) = false := by decide)
    (h1 : backTo pos (starEach [e] X.env) = (false, eval e X.env) :: backTo pos (starEach [] X.env) := by rfl) (h2 : (backTo pos (starEach [e] X.env)).any (·.1) = false := by rfl) (h0 : starEach [e] X.env = (false, eval e X.env) :: starEach [] X.env := by rfl)
    (h3 : (backToKw pos (keywordEach [⟨some (Str.ofString "key"), .Name x p2, kpos⟩] X.env)).all (·.1.isSome) = true := by rfl) (h4 : (backToKw pos (keywordEach [⟨some (Str.ofString "key"), .Name x p2, kpos⟩] X.env)).any (·.1.isNone) = false := by rfl)
    (h5 : (backToKw pos (keywordEach [⟨some (Str.ofString "key"), .Name x p2, kpos⟩] X.env)).filterMap (·.1) = [Str.ofString "key"] := by rfl) :
    PE X (.Call (.Name "sorted" p) [e] [⟨some (Str.ofString "key"), .Name x p2, kpos⟩] pos) (tSortedKey X.K X.mg x sp te) := by
  obtain ⟨f, fd, F, hmx, hkp, hb⟩ := D.ex
  have q := pe_callBK (X := X) (x := "sorted") (p := p) (pos := pos) (e := e) (es := []) (kws := [⟨some (Str.ofString "key"), .Name x p2, kpos⟩]) (cr_sortedKeyF F (hr.mono hk) hb) hg hm (by decide +kernel) (pa_cons he pa_nil h0) (pk_cons (pe_glob (v := .ref f) (hd := hdb) hgx hmx rfl) pk_nil) (by decide) (by decide) h1 h2 h3 h4 h5
  refine ⟨fun pins s σ H Q I h => ?_⟩
  obtain ⟨f2, e2, h⟩ := h
  rw [hmx] at e2
  cases e2
  exact q.run pins s σ H Q I h
end
end BT

set_option Elab.async false
set_option linter.all false
namespace BT
open PySem PySem.Spec PyProof.Rows L2
theorem sorted_one {α : Type} (key : α → Nat) : ∀ {a b : List α}, a.Perm b → a.Pairwise (fun x y => key x ≤ key y) → b.Pairwise (fun x y => key x ≤ key y) → (∀ x ∈ b, ∀ y ∈ b, key x = key y → x = y) → a = b
  | [], b, h, _, _, _ => h.symm.eq_nil.symm
  | x :: a, [], h, _, _, _ => by have := h.eq_nil; cases this
  | x :: a, y :: b, h, ha, hb, hk => by
    have ha' := List.pairwise_cons.mp ha
    have hb' := List.pairwise_cons.mp hb
    have hx : x ∈ y :: b := h.mem_iff.mp (List.mem_cons_self ..)
    have hy : y ∈ x :: a := h.mem_iff.mpr (List.mem_cons_self ..)
    have e : x = y := by
      rcases List.mem_cons.mp hx with e | hx2
      · exact e
      · rcases List.mem_cons.mp hy with e | hy2
        · exact e.symm
        · exact hk x hx y (List.mem_cons_self ..) (Nat.le_antisymm (ha'.1 y hy2) (hb'.1 x hx2))
    subst e
    rw [sorted_one key ((List.perm_cons _).mp h) ha'.2 hb'.2 fun p hp q hq => hk p (List.mem_cons_of_mem _ hp) q (List.mem_cons_of_mem _ hq)]
/-- sorted by the lowest place -/
def insLow (x : Nat) : List Nat → List Nat
  | [] => [x]
  | y :: r => if lowN x ≤ lowN y then x :: y :: r else y :: insLow x r
def sortLow (l : List Nat) : List Nat := l.foldr insLow []
theorem insLow_perm (x : Nat) : ∀ l : List Nat, (insLow x l).Perm (x :: l)
  | [] => .refl _
  | y :: r => by
    unfold insLow
    split
    · exact .refl _
    · exact ((insLow_perm x r).cons y).trans (List.Perm.swap x y r)
theorem sortLow_perm : ∀ l : List Nat, (sortLow l).Perm l
  | [] => .refl _
  | x :: l => (insLow_perm x (sortLow l)).trans ((sortLow_perm l).cons x)
theorem insLow_sorted (x : Nat) : ∀ l : List Nat, l.Pairwise (fun a b => lowN a ≤ lowN b) → (insLow x l).Pairwise fun a b => lowN a ≤ lowN b
  | [], _ => List.pairwise_singleton _ _
  | y :: r, h => by
    have h' := List.pairwise_cons.mp h
    unfold insLow
    split
    · rename_i c
      refine List.pairwise_cons.mpr ⟨fun z hz => ?_, h⟩
      rcases List.mem_cons.mp hz with rfl | hz
      · exact c
      · exact Nat.le_trans c (h'.1 z hz)
    · rename_i c
      refine List.pairwise_cons.mpr ⟨fun z hz => ?_, insLow_sorted x r h'.2⟩
      rcases List.mem_cons.mp ((insLow_perm x r).mem_iff.mp hz) with rfl | hz
      · omega
      · exact h'.1 z hz
theorem sortLow_sorted : ∀ l : List Nat, (sortLow l).Pairwise fun a b => lowN a ≤ lowN b
  | [] => .nil
  | x :: l => insLow_sorted x _ (sortLow_sorted l)
def reduceF (ms : List Nat) : List Nat := sortLow (sweepF (-1) ms).1
theorem alone_inj {rows : List Nat} (A : Alone (-1) rows) : ∀ x ∈ rows, ∀ y ∈ rows, lowN x = lowN y → x = y := fun x hx y hy e => by
  obtain ⟨ks, hl, h⟩ := A
  obtain ⟨i, hi, rfl⟩ := List.getElem_of_mem hx
  obtain ⟨j, hj, rfl⟩ := List.getElem_of_mem hy
  obtain ⟨a1, a2⟩ := h i _ ks[i] (List.getElem?_eq_getElem hi) (List.getElem?_eq_getElem (by omega))
  obtain ⟨b1, b2⟩ := h j _ ks[j] (List.getElem?_eq_getElem hj) (List.getElem?_eq_getElem (by omega))
  rw [andN_neg1] at a1 b1
  have ek : ks[i] = ks[j] := two_pow_inj (a1.symm.trans (e.trans b1))
  have q := (b2 j _ (List.getElem?_eq_getElem hj)).mpr rfl
  have z := (a2 j _ (List.getElem?_eq_getElem hj)).mp (by rw [ek]; exact q)
  subst z; rfl
end BT

set_option Elab.async false
set_option linter.all false
set_option maxRecDepth 100000
set_option maxHeartbeats 2000000
namespace BT
open PySem PySem.Spec PyProof.Rows L2
/-! ### walks over a list or a tuple -/
def iSeq (K : PySem.W.Frag) (te : TE) : TI := fun σ H R => te σ H fun x H1 => ∃ (a : Addr) (xs : List V), x = .ref a ∧ ((SqL K H1 a xs ∧ R (Itl K a) H1) ∨ (SqT K H1 a xs ∧ R (Itt K a) H1))
section
variable {X : Cx} {tg e : Expr} {te : TE}
theorem pi_seq (he : PE X e te) : PI X tg e (iSeq X.K te) := by
  refine ⟨fun pins s σ H R I h => thn (he.run pins s σ H _ I h) fun v s1 out => ?_⟩
  obtain ⟨x, H1, I1, r, a, xs, rfl, w⟩ := out
  cases r
  rcases w with ⟨hq, q⟩ | ⟨hq, q⟩
  · obtain ⟨its, rv, p, hz⟩ := I1.list hq
    exact wpAny_pyIter_list p.isList (pi_one (tk := s1.toks) I1 _ (turn_list a _) ⟨_, Heap.get?_push_size _ rfl, rfl, rfl⟩ q)
  · obtain ⟨its, rv, p, hz⟩ := I1.tuple hq
    exact wpAny_pyIter_tuple (show s1.heap.IsTuple a its.toArray from p) (pi_one (tk := s1.toks) I1 _ (turn_tuple a _) ⟨_, Heap.get?_push_size _ rfl, rfl, rfl⟩ q)
end
/-- numbers in a list or a tuple -/
def NatsAt (H : Hp) (a : Addr) (ns : List Nat) : Prop := H a = some (.lst (lotV ns)) ∨ H a = some (.tup (lotV ns))
theorem NatsAt.same {H H' : Hp} {a : Addr} {ns : List Nat} (s : Same H H') (h : NatsAt H a ns) : NatsAt H' a ns := h.imp (s a _) (s a _)
end BT

set_option Elab.async false
set_option linter.all false
set_option maxRecDepth 100000
set_option maxHeartbeats 4000000
namespace PySem
open AutoSeq1 (wpAny_loadPart')
/-- enumerate of a tuple: its iterator, then the enumerate object -/
theorem BT_enum_new (t : Addr) (items : Array Value) (n : Nat) (dct : Option Addr) (sl : Array (Option Value)) :
    Meets (Builtin.«enumerate.__new__» ⟨[.type "enumerate", .ref t], []⟩) (fun _ R s => s.heap.get? t = some { cls := .type "tuple", dict := dct, data := .seq items n, slots := sl } ∧
      R (.ok (.ret (.ref (s.heap.push { cls := .type "tuple_iterator", data := .fields #[.ref t, .int 0 0] }).objs.size)))
        { s with heap := (s.heap.push { cls := .type "tuple_iterator", data := .fields #[.ref t, .int 0 0] }).push { cls := .type "enumerate", data := .fields #[.none, .bool false, .ref s.heap.objs.size, rawInt 0, .none, .none] } }) :=
  .of_wp fun prog w A R s h => by
    obtain ⟨hp, g, d, tk, os⟩ := s; obtain ⟨ht, h⟩ := h
    have hT : Heap.IsTuple (Shared.heap ⟨hp, g, d, tk, os⟩) t items := ⟨_, ht, rfl, n, rfl⟩
    have sub := sub_enumerate
    wp_walk using wpAny_loadPart' ht
    refine wpAny_stack_any fun st => wpAny_pure ?_
    split
    · rename_i c _ _ _ _ _
      cases (c == Value.type "enumerate") <;> (wp_walk using wpAny_loadPart' ht, wpAny_pyIter_tuple hT; exact ⟨_, rfl, h⟩)
    · wp_walk using wpAny_loadPart' ht, wpAny_pyIter_tuple hT
      exact ⟨_, rfl, h⟩
end PySem
namespace BT
open PySem PySem.Spec PyProof.Rows L2
section
variable {prog : Program} {w : World} {A : Around} {E : Value → Shared → Prop} {s : Shared}
theorem call_enum_tup {t : Addr} {items : Array Value} {Q : Value → Shared → Prop} (hT : s.heap.IsTuple t items)
    (h : ∀ h' : Heap, IsEnum h' (s.heap.objs.size + 1) s.heap.objs.size 0 .none → h'.IsTupleIter s.heap.objs.size t 0 → (∀ b o, s.heap.get? b = some o → h'.get? b = some o) → Q (.ref (s.heap.objs.size + 1)) { s with heap := h' }) :
    wpAny (model prog w) A (call (.type "enumerate") [.ref t]) Q E s := by
  obtain ⟨⟨c, dct, dt, sl⟩, ht, hc, n, hd⟩ := hT
  cases (show c = .type "tuple" from hc)
  cases (show dt = .seq items n from hd)
  refine callType_new F.called_enumerate (by decide) (F.typeCall_enumerate_1 _) (F.newCall_enumerate_1 _) (fun _ => F.args_object_init_2 _ _) F.entry_enumerate_new (BT_enum_new t items n dct sl) ⟨ht, ?_⟩
  have size1 : (s.heap.push { cls := .type "tuple_iterator", data := .fields #[.ref t, .int 0 0] }).objs.size = s.heap.objs.size + 1 := Heap.size_push ..
  show _ ∧ _
  rw [size1]
  have he : IsEnum ((s.heap.push { cls := .type "tuple_iterator", data := .fields #[.ref t, .int 0 0] }).push { cls := .type "enumerate", data := .fields #[.none, .bool false, .ref s.heap.objs.size, rawInt 0, .none, .none] }) (s.heap.objs.size + 1) s.heap.objs.size 0 .none := by
    rw [← size1]
    exact Heap.get?_push_size _ rfl
  exact ⟨⟨_, he, rfl⟩, h _ he ⟨_, Heap.get?_push_of_some _ (Heap.get?_push_size _ rfl), rfl, rfl⟩ fun b o x => Heap.get?_push_of_some _ (Heap.get?_push_of_some _ x)⟩
theorem draws_tup (hh : A.handled = none) (it t : Addr) (ne : t ≠ it) (items : Array Value) : Draws prog w A it [it, t] items.size (fun i v => items[i]? = some v) (fun i h => h.IsTupleIter it t i ∧ h.IsTuple t items) := by
  constructor
  · rintro i h ⟨⟨o, ho, _⟩, _⟩
    exact ⟨o, ho⟩
  · rintro i h h' ⟨⟨o, ho, r⟩, ⟨u, hu, q⟩⟩ k
    exact ⟨⟨o, k it (by simp) o ho, r⟩, ⟨u, k t (by simp) u hu, q⟩⟩
  · rintro i s Q E hi ⟨h1, h2⟩ hQ
    exact wpAny_nextOf_tuple_item h1 h2 (x := items[i]) (by simp [hi]) fun h' g1 sb => hQ _ h' s.toks (by simp [hi]) ⟨g1, h2.extBut sb.extBut ne⟩ sb
  · rintro s Q E ⟨h1, h2⟩ hE
    exact wpAny_nextOf_tuple_end hh h1 h2 (by simp) hE
end
/-- the tuple at a, its items with their numbers in new pairs -/
def IteT (K : PySem.W.Frag) (a : Addr) : It where
  go := fun i H => ∃ (xs : List V) (x : V), SqT K H a xs ∧ xs[i]? = some x
  yld := fun i H v H' => ∃ T x, v = .ref T ∧ H T = none ∧ H' = upd H T (.tup [.int (i : Nat), x]) ∧ ∀ xs, SqT K H a xs → xs[i]? = some x
  stop := fun i H => ∃ xs : List V, SqT K H a xs ∧ xs.length = i
theorem turn_enumT {P : Program} {w : World} {K : PySem.W.Frag} {elts : List Expr} {kk : Nat} {tpos : Pos} (a e it : Addr) :
    Turn P w K (.Tuple elts kk tpos) (IteT K a) [e, it] e (fun i h => (∃ old, IsEnum h e it ((i : Nat) : Int) old) ∧ h.IsTupleIter it a i ∧ e ≠ it ∧ a ≠ e ∧ a ≠ it) where
  mem := List.mem_cons_self ..
  obj := by
    rintro i h ⟨⟨old, he⟩, ⟨o, ho, _, hd⟩, _⟩ b hb
    rcases List.mem_cons.mp hb with rfl | hb
    · exact ⟨_, he, fun v q => by cases q⟩
    · rw [List.mem_singleton.mp hb]
      exact ⟨o, ho, fun v q => by rw [hd] at q; cases q⟩
  keep := by
    rintro i h h' ⟨⟨old, he⟩, ⟨o, ho, r⟩, n⟩ k
    exact ⟨⟨old, k e (by simp) _ he⟩, ⟨o, k it (by simp) _ ho, r⟩, n⟩
  item := by
    intro X hP hw hK hc i pins s σ H E I hf st hg
    subst hP hw hK
    obtain ⟨⟨old, he⟩, hit, ne, n1, n2⟩ := st
    obtain ⟨xs, x, hq, hx⟩ := hg
    obtain ⟨its, rv, p, hz⟩ := I.tuple hq
    obtain ⟨u, hu, ru⟩ := rv.get hx
    have lt1 := Heap.lt_size he
    have lt2 : it < s.heap.objs.size := by obtain ⟨_, q, _⟩ := hit; exact Heap.lt_size q
    have hi : i < its.toArray.size := by
      rw [List.size_toArray]
      exact (List.getElem?_eq_some_iff.mp hu).1
    refine wpAny_pyNext_enum_itemD (draws_tup (A := X.A.in1) (I.ok.hd hc) it a n2 its.toArray) he ⟨hit, show s.heap.IsTuple a its.toArray from p⟩ hi ne (by simp [ne, Ne.symm n1]) fun y h' tk hy ho hst hT hsz hk => ?_
    have ey : y = u := by
      rw [List.getElem?_toArray] at hy
      exact Option.some.inj (hy.symm.trans hu)
    subst ey
    refine ⟨_, rfl, wpAny_letOwnedTupleGo_enum (s := { s with heap := h', toks := tk + 1 }) ho fun h2 he2 sb => ?_⟩
    have g : h2.get? s.heap.objs.size = some { cls := .type "tuple", data := .seq #[.int i tk, y] } := (sb.2 _ (Nat.ne_of_gt lt1)).trans hT
    have new : ObjOk X.prog X.w (upd H s.heap.objs.size (.tup [.int (i : Nat), x])) h2 s.heap.objs.size (.tup [.int (i : Nat), x]) := ⟨by show 2 ≤ sizeLine; decide, [.int i tk, y], .cons ⟨_, rfl⟩ (.cons ru .nil), ⟨_, g, rfl, _, rfl⟩⟩
    have I1 : Inv X pins σ (upd H s.heap.objs.size (.tup [.int (i : Nat), x])) { s with heap := h2, toks := tk + 1 } :=
      I.turnedNew (ch := [e, it]) (fun b ob hb q => (sb.2 b fun z => hb (by simp [z])).trans (hk b ob (fun z => hb (by simp [z])) (fun z => hb (by simp [z])) q)) hf (Nat.le_refl _) new
    refine ⟨.ref s.heap.objs.size, _, I1, rfl, ⟨_, x, rfl, I.hok.fresh (Nat.le_refl _), rfl, fun ys hy => by rw [I.tuple_inj hy hq]; exact hx⟩, ⟨⟨y, ?_⟩, ?_, ne, n1, n2⟩, fun b hb => ?_⟩
    · have e1 : ((i + 1 : Nat) : Int) = (i : Int) + 1 := by omega
      rw [e1]
      exact he2
    · obtain ⟨⟨o, q1, r⟩, _⟩ := hst
      exact ⟨o, (sb.2 it (Ne.symm ne)).trans q1, r⟩
    · have hlt : b < s.heap.objs.size := by
        rcases List.mem_cons.mp hb with rfl | hb
        · exact lt1
        · rw [List.mem_singleton.mp hb]; exact lt2
      rw [upd_ne (Nat.ne_of_lt hlt)]
      exact (hf b hb).1
  done := by
    intro X hP hw hK hc i pins s σ H E I hf st hg
    subst hP hw hK
    obtain ⟨⟨old, he⟩, hit, ne, n1, n2⟩ := st
    obtain ⟨xs, hq, hx⟩ := hg
    obtain ⟨its, rv, p, hz⟩ := I.tuple hq
    obtain ⟨f0, f1, f2, f3, f4, f5⟩ := hf it (by simp)
    have hl := rv.length
    have en : its.toArray.size = i := by rw [List.size_toArray, ← hl, hx]
    subst en
    exact wpAny_pyNext_enum_endD (draws_tup (A := X.A.in1) (I.ok.hd hc) it a n2 its.toArray) he ⟨hit, show s.heap.IsTuple a its.toArray from p⟩ fun h' eb => ⟨rfl, I.turned (t' := s.toks) (fun b o hb q => eb b o hb q) f0 f1 f3 f4 f5⟩
  self := fun A i s Q E st h => let ⟨⟨_, he⟩, _⟩ := st; wpAny_pyIter_enum he h
/-- enumerate of a list or a tuple -/
def iEnumA (K : PySem.W.Frag) (ta : TA) : TI := fun σ H R => ta σ H fun vs H1 => ∃ (a : Addr) (xs : List V), vs = [.ref a] ∧ ((SqL K H1 a xs ∧ R (Ite K a) H1) ∨ (SqT K H1 a xs ∧ R (IteT K a) H1))
theorem pi_enumA {X : Cx} {e : Expr} {ta : TA} {p pos tpos : Pos} {elts : List Expr} {kk : Nat} (hg : Gl X "enumerate") (hm : X.mg "enumerate" = none) (ha : PA X [e] ta) (hs : starEach [e] X.env = [(false, eval e X.env)] := by rfl) :
    PI X (.Tuple elts kk tpos) (.Call (.Name "enumerate" p) [e] [] pos) (iEnumA X.K ta) := by
  refine ⟨fun pins s σ H R I h => Call_ (ld_blt I hg hm boot_enumerate (PyProof.Rows.callWith_type1 (thn (ha.run pos pins s σ H _ I h) fun us s1 out => ?_) hs rfl))⟩
  obtain ⟨vs, H1, I1, r1, a, xs, rfl, w⟩ := out
  obtain ⟨u, rfl, r2⟩ := vals1 r1
  cases (show u = Value.ref a from r2)
  have fresh : ∀ b : Addr, b = s1.heap.objs.size + 1 ∨ b = s1.heap.objs.size → FpOk X pins H1 b := fun b hb => by
    have hle : s1.heap.objs.size ≤ b := by
      rcases hb with z | z
      · rw [z]; exact Nat.le_add_right _ _
      · rw [z]; exact Nat.le_refl _
    exact I1.fpOk hle (I1.hok.fresh hle)
  rcases w with ⟨hq, q⟩ | ⟨hq, q⟩
  · obtain ⟨its, rv, p', hz⟩ := I1.list hq
    refine call_enumerate_list p'.isList fun h' he hit _ hk => wpAny_pyIter_enum he ?_
    exact ⟨_, [s1.heap.objs.size + 1, s1.heap.objs.size], _, _, H1, rfl, I1.kept (t' := s1.toks) hk, turn_enum a _ _, ⟨⟨.none, he⟩, hit, Nat.succ_ne_self _⟩, fun b hb => fresh b (by simpa using hb), q⟩
  · obtain ⟨its, rv, p', hz⟩ := I1.tuple hq
    obtain ⟨ob, hob, _⟩ := id p'
    have lt := Heap.lt_size hob
    refine call_enum_tup (show s1.heap.IsTuple a its.toArray from p') fun h' he hit hk => wpAny_pyIter_enum he ?_
    exact ⟨_, [s1.heap.objs.size + 1, s1.heap.objs.size], _, _, H1, rfl, I1.kept (t' := s1.toks) hk, turn_enumT a _ _, ⟨⟨.none, he⟩, hit, Nat.succ_ne_self _, Nat.ne_of_lt (Nat.lt_succ_of_lt lt), Nat.ne_of_lt lt⟩, fun b hb => fresh b (by simpa using hb), q⟩
end BT

set_option Elab.async false
set_option linter.all false
set_option maxRecDepth 100000
set_option maxHeartbeats 4000000
namespace BT
open PySem PySem.Spec PyProof.Rows L2
/-! ### methods that stand, classes that make -/
structure MethOk (P : Program) (w : World) (K : PySem.W.Frag) (mg : Str → Option Value) (base : Heap) (CX : CXT) (k : Nat) (C : Addr) (m : Str) (ps : List Str) (sp : Sp) : Prop where
  ex : ∃ (f : Addr) (fd : FuncData), FnOk P w K mg base CX k f fd ps sp ∧ Meth K C m f ∧ Binds K fd ps []
structure MakeOk (P : Program) (w : World) (K : PySem.W.Frag) (mg : Str → Option Value) (base : Heap) (CX : CXT) (k : Nat) (C : Addr) (x : Str) (ps : List Str) (sp : Sp) : Prop where
  g : mg x = some (.ref C)
  ex : ∃ (f : Addr) (fd : FuncData), FnOk P w K mg base CX k f fd ps sp ∧ Mk K C f ∧ Binds K fd ps []
abbrev FnM (K : PySem.W.Frag) (x qual : Str) (st : Stmt) (f : Addr) (fd : FuncData) : Prop := FunD K x qual (defArgs st) (defBody st) (defScope st) [] [] f fd
/-- the answer of a method, a call where what is raised is wished for at the slots -/
def tMethS (C : Addr) (m : Str) (sp : Sp) (E : L2.St → XK) (ta : TE) (t : TA) : TE := fun σ H Q => ta σ H fun x H1 => ∃ a dx fs, x = .ref a ∧ H1 a = some (.ins C dx fs) ∧ fs.lookup m = none ∧ t σ H1 fun vs H2 => sp (x :: vs) H2 Q (E σ)
def tMakeS (C : Addr) (sp : Sp) (E : L2.St → XK) (t : TA) : TE := fun σ H Q => t σ H fun vs H1 => ∀ x dx, H1 x = none → H1 dx = none → dx ≠ x → sp (.ref x :: vs) (upd (upd H1 dx (.own x)) x (.ins C dx [])) (fun v H2 => v = .non ∧ Q (.ref x) H2) (E σ)
section
variable {X : Cx} {CX : CXT} {k j : Nat} {C : Addr} {ps : List Str} {sp : Sp} {x m : Str} {p pos apos : Pos} {e o : Expr} {es : List Expr} {ta : TE} {t : TA}
theorem pe_mS {E : L2.St → XK} {pl : Sem Bool} (D : MethOk X.prog X.w X.K X.mg X.base CX k C m ps sp) (c : Cls X.K C) (he : PE X o ta) (hr : Room j X.A) (hx : ∀ σ, PassesAt CX X σ (E σ)) (ha : PA X (e :: es) t) (hk : k ≤ j := by decide)
    (h1 : starEach (e :: es) X.env = (false, eval e X.env) :: starEach es X.env := by rfl) (h2 : (backTo pos (starEach es X.env)).any (·.1) = false := by rfl)
    (h3 : eval (.Call (.Attribute o m apos) (e :: es) [] pos) X.env = (do
      let v ← eval o X.env
      standAt apos.atName
      let (f, first) ← holding [v] (getMethod v m pl)
      callWith pos f first (backTo pos (starEach (e :: es) X.env)) (backToKw pos (keywordEach [] X.env))) := by rfl) :
    PE X (.Call (.Attribute o m apos) (e :: es) [] pos) (tMethS C m sp E ta t) := by
  obtain ⟨f, fd, F, hm, hb⟩ := D.ex
  refine ⟨fun pins s σ H Q I h => PySem.W.methodCall_KW (pl := pl) (thn (he.run pins s σ H _ I h) fun u s1 out => ?_) h3⟩
  obtain ⟨y, H1, I1, ry, a, dx, fs, rfl, ea, l, q⟩ := out
  cases (show u = Value.ref a from ry)
  refine getmeth_ok I1 ea c hm l (PySem.W.callWith_K (first := [.ref a]) (h₀ := X.base) I.ok.mod.kin hm.kp (thn (ha.run pos pins s1 σ H1 _ I1 q) fun us s2 out => ?_) h1 h2)
  obtain ⟨vs, H2, I2, r, q2⟩ := out
  exact ⟨I2.kIn, run_fnSD (us := .ref a :: us) (vs := .ref a :: vs) F (hr.mono hk) hb .nil (hx σ) I2 (.cons rfl r) (by rw [List.append_nil]; exact q2)⟩
theorem pe_mkS {E : L2.St → XK} (D : MakeOk X.prog X.w X.K X.mg X.base CX k C x ps sp) (hr : Room j X.A) (hg : Gl X x) (hx : ∀ σ, PassesAt CX X σ (E σ)) (ha : PA X (e :: es) t) (hk : k + 1 ≤ j := by decide) (hdb : (x == ("__debug__" : Str)) = false := by decide)
    (h1 : starEach (e :: es) X.env = (false, eval e X.env) :: starEach es X.env := by rfl) (h2 : (backTo pos (starEach es X.env)).any (·.1) = false := by rfl) : PE X (.Call (.Name x p) (e :: es) [] pos) (tMakeS C sp E t) := by
  obtain ⟨f, fd, F, M, hb⟩ := D.ex
  refine ⟨fun pins s σ H Q I h => wpAny_Call_Name_kw (ld_glob I hg D.g (PySem.W.callWith_K (h₀ := X.base) I.ok.mod.kin M.kp (thn (ha.run pos pins s σ H _ I h) fun us s1 out => ?_) h1 h2) hdb)⟩
  obtain ⟨vs, H1, I1, r, q⟩ := out
  refine ⟨I1.kIn, ?_⟩
  have hq := q (s1.heap.objs.size + 1) s1.heap.objs.size (I1.hok.fresh (Nat.le_succ _)) (I1.hok.fresh (Nat.le_refl _)) (Nat.ne_of_lt (Nat.lt_succ_self _))
  have I2 := Inv.made (C := C) I1
  have r2 : Vals (V.ref (s1.heap.objs.size + 1) :: vs) (Value.ref (s1.heap.objs.size + 1) :: us) := .cons rfl r
  have len : (Value.ref (s1.heap.objs.size + 1) :: us).length = ps.length := by
    rw [← r2.length]
    exact F.len _ _ _ _ hq
  have bt := hb _ (Value.ref (s1.heap.objs.size + 1) :: us) I2.kIn (by rw [List.append_nil]; exact len)
  rw [List.append_nil] at bt
  refine wpAny_call (make_map (f := f) I1.kIn M.makes M.init (beq_iff_eq.mp M.fn) (codeAny_mono (F.run _ X.stack _ _ ⟨Value.ref (s1.heap.objs.size + 1) :: us, []⟩ (Value.ref (s1.heap.objs.size + 1) :: us) _ _ (E σ) ((hr.mono hk).make C us []) (I2.env0.make C us []) bt r2 hq) fun r s' out => ?_))
  cases r with
  | error er => exact hx σ pins _ _ er s' I2 out
  | ok fl =>
    cases fl with
    | ret u =>
      obtain ⟨v, H', I3, rv, ev, q3⟩ := I2.after out
      subst ev
      exact ⟨rv, ⟨V.ref (s1.heap.objs.size + 1), H', I3, rfl, q3⟩⟩
    | next => exact False.elim out
    | brk => exact False.elim out
    | cont => exact False.elim out
end
end BT

set_option Elab.async false
set_option linter.all false
set_option maxRecDepth 100000
set_option maxHeartbeats 4000000
namespace BT
open PySem PySem.Spec PyProof.Rows L2
/-! ### try with more than one clause 'except x as n' -/
/-- the clauses, and what they wish, each behind those ahead of it -/
inductive Clauses (X : Cx) (Wout : WX) : List ExceptHandler → (Ends → WX) → Prop
  | nil : Clauses X Wout [] fun _ => Wout
  | cons {x n : Str} {c : Value} {i : Nat} {ts : Addr → Value → Option Addr → TS} {b₀ : Stmt} {suite : List Stmt} {np pos' : Pos} {hds : List ExceptHandler} {W : Ends → WX} (hi : X.N[i]? = some n) (hln : X.env.kindOf n = some .local) (hc : Names X x c)
      (hsu : ∀ (a : Addr) (oe : Obj) (cls : Value) (d : Option Addr) (pn : List (Addr × Obj)), Zc cls d oe → (∃ vs, oe.data = .fields vs) → PSs (X.suite a ((a, oe) :: pn)) (b₀ :: suite) (ts a cls d)) (r : Clauses X Wout hds W) :
      Clauses X Wout (.ExceptHandler (some (.Name x np)) (some n) (b₀ :: suite) pos' :: hds) fun D => wAs X.K c i ts (W D) D
/-- an exception that has come down to the clauses -/
structure Down (X : Cx) (pins : List (Addr × Obj)) (σ : L2.St) (H : Hp) (cls : Value) (d : Option Addr) (B : Heap) (a : Addr) (sI s : Shared) : Prop where
  inv : Inv X pins σ H sI
  nb : ∀ b o, sI.heap.get? b = some o → b ∉ frs X.stack → B.get? b = some o
  up : sI.heap.UpToSlots s.heap
  na : H a = none
  os : s.os = sI.os
  ag : AllBare s.gens
  fl : HandSPX.FlyingZ B (X.env :: X.outer) a (Zc cls d) s.heap
section
variable {X : Cx} {pins : List (Addr × Obj)} {σ : L2.St} {H : Hp} {cls : Value} {d : Option Addr} {B : Heap} {a : Addr} {sI s : Shared} {Wout : WX}
theorem Down.now (q : Down X pins σ H cls d B a sI s) : Inv X pins σ H s := q.inv.landed q.nb q.fl.1 q.up q.os q.ag
theorem Down.obj (q : Down X pins σ H cls d B a sI s) (hf : X.env.frame = some X.env.locals) : ∃ oe vs, s.heap.get? a = some oe ∧ Zc cls d oe ∧ oe.data = .fields vs ∧ a ≠ X.env.locals ∧ a ∉ X.fs := by
  obtain ⟨oe, vs, e, z, dt⟩ := q.fl.there
  have no : a ∉ frs (X.env :: X.outer) := fun hm => by
    obtain ⟨_, o2, e2, bad⟩ := q.fl.2.2.1.mem hm
    rw [e] at e2
    cases e2
    exact bad _ dt
  refine ⟨oe, vs, e, z, dt, fun h => no ?_, fun h => no ?_⟩
  · exact List.mem_filterMap.mpr ⟨X.env, List.mem_cons_self, by rw [hf, h]⟩
  · obtain ⟨v, hv, p⟩ := List.mem_filterMap.mp h
    exact List.mem_filterMap.mpr ⟨v, List.mem_cons_of_mem _ hv, p⟩
theorem Down.rest {D : Ends} (ok : X.Ok) (hs : X.stack = X.env :: X.outer) (hf : X.env.frame = some X.env.locals) (hN : X.N.Nodup) (tk : Takes X Wout) {hds : List ExceptHandler} {W : Ends → WX} (hh : Clauses X Wout hds W) :
    ∀ {s : Shared}, Down X pins σ H cls d B a sI s → W D cls d σ H → wpAny (model X.prog X.w) X.A (handleBy (.ref a) X.env hds) (SP X pins D) X.xe s := by
  induction hh with
  | nil =>
    intro s q w
    obtain ⟨oe, vs, T, oT, ty, he, hz, hd, h1, hr⟩ := q.fl.2.2.2
    refine wpAny_handleBy_nil ?_
    unfold PySem.passOn
    refine wpAny_bind (wpAny_field he hd h1 ?_)
    rw [if_neg (show ¬ ((Value.ref T == Value.none) = true) from by simp)]
    have last : wpAny (model X.prog X.w) X.A (setFlight (.ref a) X.env.frame) (fun _ s4 => wpAny (model X.prog X.w) X.A (throw (.ref a) : Sem Flow) (SP X pins D) X.xe s4) X.xe s := by
      rw [hf]
      exact HandSPX.setFlight_upZ q.fl fun h4 held up4 => wpAny_throw (tk _ _ ⟨a, B, sI, pins, σ, H, cls, d, rfl, q.inv, q.nb, q.up.trans up4, .inr (.inr (by rw [hs]; exact held)), q.na, q.os, q.ag, w⟩)
    first
      | exact wpAny_bind (wpAny_pure (wpAny_bind last))
      | exact wpAny_bind last
  | @cons x n c i ts b₀ suite np pos' hds W hi hln hc hsu r ih =>
    intro s q w
    obtain ⟨b, hb, yes, no⟩ := w
    obtain ⟨oe, vs, e, z, dt, nL, nF⟩ := q.obj hf
    have inS := q.now.suite e dt q.na nL nF
    have ty : PySem.W.Looks (model X.prog X.w) s.heap (typeOf (.ref a)) cls := fun A Q E s k p => wpAny_typeOf_ref (k _ _ e) (by rw [z.1]; exact p)
    have ask : ∀ {Q : Value → Shared → Prop} {E : Value → Shared → Prop}, Q c s → wpAny (model X.prog X.w) (X.A.mark (some (.ref a))) (eval (.Name x np) X.env) Q E s := fun {Q E} p => by
      rcases hc with ⟨g, nd, m | ⟨m, bt, nn⟩⟩
      · exact ld_glob (X := X.suite a ((a, oe) :: (X.pn ++ pins))) inS g m p nd
      · exact ld_blt (X := X.suite a ((a, oe) :: (X.pn ++ pins))) inS g m bt p nn nd
    refine wpAny_handleBy_cons (codeAny_handlers_test ?_) (by intro p; cases p)
    refine ask ((PySem.W.exm_one (M := model X.prog X.w) q.now.kIn ty hb).here ?_)
    cases b with
    | false => exact ih q (no rfl)
    | true =>
      refine codeAny_handlers_suite_as (HandSPX.lands_againZ q.fl fun h4 fl4 up4 => ?_)
      have q4 : Down X pins σ H cls d B a sI { s with heap := h4 } := ⟨q.inv, q.nb, q.up.trans up4, q.na, q.os, q.ag, fl4⟩
      obtain ⟨oe4, vs4, e4, z4, dt4, nL4, nF4⟩ := q4.obj hf
      refine store_ok (X := X.suite a ((a, oe4) :: (X.pn ++ pins))) (v := .ref a) (q4.now.suite e4 dt4 q.na nL4 nF4) hN hi (.inl hln) rfl (fun s5 I5 => ?_) (.inr hln)
      refine wpAny_mono ((hsu a oe4 cls d (X.pn ++ pins) z4 ⟨_, dt4⟩).run [] s5 _ H _ I5 (yes rfl a q.na)) (fun f s6 hsp => ?_) (fun _ _ p => False.elim p)
      have leave : ∀ {σ6 : L2.St} {H6 : Hp} {Q : Shared → Prop}, Inv (X.suite a ((a, oe4) :: (X.pn ++ pins))) [] σ6 H6 s6 → (∀ s7, Inv X pins (σ6.set i none) H6 s7 → Q s7) →
          wpAny (model X.prog X.w) X.A (do bindName X.env n .none; unbindBehindTheSuite X.env n pos') (fun _ s7 => Q s7) X.xe s6 := fun I6 k => gone_ok (I6.unsuite ok) hN hi hln k
      cases f with
      | next => obtain ⟨_, _, I6, p⟩ := hsp; exact leave I6 fun _ I7 => ⟨_, _, I7, p⟩
      | brk => obtain ⟨_, _, I6, p⟩ := hsp; exact leave I6 fun _ I7 => ⟨_, _, I7, p⟩
      | cont => obtain ⟨_, _, I6, p⟩ := hsp; exact leave I6 fun _ I7 => ⟨_, _, I7, p⟩
      | ret u => obtain ⟨_, _, _, I6, rv, p⟩ := hsp; exact leave I6 fun _ I7 => ⟨_, _, _, I7, rv, p⟩
end
end BT

set_option Elab.async false
set_option linter.all false
set_option maxRecDepth 100000
set_option maxHeartbeats 4000000
namespace BT
open PySem PySem.Spec PyProof.Rows L2
theorem ints_at : ∀ {vs : List Value} {ns : List Int}, IntsAre vs ns → ∀ {i : Nat} {v : Value}, vs[i]? = some v → ∃ t, v = .int (ns.getD i 0) t
  | _, _, .nil, i, v, h => by simp at h
  | _, _, .cons n t r, 0, v, h => ⟨t, (Option.some.inj h).symm⟩
  | _, _, .cons n t r, i + 1, v, h => ints_at r (i := i) h
theorem any_ints : ∀ ns : List Int, (List.range ns.length).any (fun i => ns.getD i 0 != 0) = ns.any (· != 0)
  | [] => rfl
  | n :: ns => by
    rw [List.length_cons, List.range_succ_eq_map, List.any_cons, List.any_map, List.any_cons, ← any_ints ns]
    rfl
/-- any of a list of whole numbers -/
def rAnyI (K : PySem.W.Frag) : List V → Hp → VK → Prop := fun vs H Q => ∃ (a : Addr) (ns : List Int), vs = [V.ref a] ∧ SqL K H a (ns.map V.int) ∧ Q (.bl (ns.any (· != 0))) H
theorem cr_anyI {X : Cx} (hc : X.calm = true) : CallR X (.builtin "any") (rAnyI X.K) := by
  intro pins s σ H vs us Q I r h
  obtain ⟨a, ns, rfl, hs, q⟩ := h
  obtain ⟨u, rfl, r1⟩ := vals1 r
  cases (show u = Value.ref a from r1)
  obtain ⟨its, rv, hl, _⟩ := I.list hs
  have hi : IntsAre its ns := rv.ints
  have tr : TruthOf X.prog X.w X.A.in1 (fun i v => its.toArray[i]? = some v) (fun i => ns.getD i 0 != 0) := fun i v s Q E hv hq => by
    have hv : its.toArray[i]? = some v := hv
    rw [List.getElem?_toArray] at hv
    obtain ⟨t, rfl⟩ := ints_at hi hv
    exact truthy_int hq
  refine call_any_walk (iter_any hl.isList fun s2 e2 st hne => ?_)
  subst e2
  refine ⟨_, _, _, _, _, _, _, rfl, Walks.list (A := X.A.in1) (I.ok.hd hc) _ a hne its.toArray, st, tr, fun h' tk hk => ⟨.bl _, H, I.kept fun b o eo => hk b o (fun hm => ?_) (Heap.get?_push_of_some _ eo), ?_, q⟩⟩
  · rcases List.mem_cons.mp hm with e | hm
    · exact absurd (e ▸ Heap.lt_size eo) (Nat.lt_irrefl _)
    · cases hm
  · show Value.bool _ = Value.bool _
    rw [← any_ints, List.size_toArray, hi.length]
end BT

set_option Elab.async false
set_option linter.all false
set_option maxRecDepth 100000
set_option maxHeartbeats 4000000
namespace BT
open PySem PySem.W PySem.SeqAt PySem.Calls PyProof.Rows
section
variable {prog : Program} {w : World} {A : Around} {E : Value → Shared → Prop} {s : Shared}
end
section
variable {M : Model} {A : Around} {E : Value → Shared → Prop} {s : Shared}
end
section
variable {prog : Program} {w : World} {A : Around} {s : Shared}
end
end BT
namespace BT
open PySem PySem.Spec PySem.W PySem.SeqAt PyProof.Rows L2
/-- data sorted by the order of tuples -/
noncomputable def sortD (ds : List PyData) : List PyData := ds.mergeSort (sortLe (listOrd itemOrd) false keyToks)
/-- tuples of whole numbers -/
def TupD (d : PyData) : Prop := ∃ ns : List Int, d = .tuple (ns.map PyData.int)
section
variable {X : Cx}
/-- sorted(xs), xs a list of tuples of whole numbers of any lengths -/
def rSortedD (K : PySem.W.Frag) : List V → Hp → VK → Prop := fun vs H Q => ∃ (a : Addr) (xs : List V) (ds : List PyData), vs = [V.ref a] ∧ H a = some (.lst xs) ∧ DvA H xs ds ∧ (∀ d ∈ ds, TupD d) ∧ ∀ (ys : List V) (p : Addr), DvA H ys (sortD ds) → H p = none → Q (.ref p) (upd H p (.lst ys))
end
end BT

set_option Elab.async false
set_option linter.all false
set_option maxRecDepth 100000
set_option maxHeartbeats 4000000
namespace BT
open PySem PySem.Spec PySem.Calls PyProof.Rows L2
section
variable {X : Cx}
/-- sorted(t), t a tuple of whole numbers -/
def rSortedTI (K : PySem.W.Frag) : List V → Hp → VK → Prop := fun vs H Q => ∃ (a : Addr) (ns : List Int), vs = [V.ref a] ∧ H a = some (.tup (ns.map V.int)) ∧ ∀ (ns' : List Int) (p : Addr), ns'.Perm ns → ns'.Pairwise (· ≤ ·) → H p = none → Q (.ref p) (upd H p (.lst (ns'.map V.int)))
end
/-! ### the order of sorted tuples is one -/
end BT

set_option Elab.async false
set_option linter.all false
set_option maxRecDepth 100000
set_option maxHeartbeats 4000000
namespace BT
open PySem PySem.Spec PyProof.Rows L2
/-! ### the end: the law's def called with the script, where no repr is under way -/
/-- the heap that knows the script alone (where the module does not hold it) -/
def scrH (K : PySem.W.Frag) (a : Addr) (o : Obj) (xs : List V) : Hp := fun b => if b = a ∧ K.lookup a = none then some (.frz o (.lst xs)) else none
theorem scrH_cases (K : PySem.W.Frag) (a : Addr) (o : Obj) (xs : List V) (b : Addr) : scrH K a o xs b = none ∨ (b = a ∧ K.lookup a = none ∧ scrH K a o xs b = some (.frz o (.lst xs))) := by
  by_cases h : b = a ∧ K.lookup a = none
  · exact .inr ⟨h.1, h.2, if_pos h⟩
  · exact .inl (if_neg h)
theorem scrH_some {K : PySem.W.Frag} {a b : Addr} {o : Obj} {xs : List V} {u : HO} (h : scrH K a o xs b = some u) : b = a ∧ K.lookup a = none ∧ u = .frz o (.lst xs) := by
  rcases scrH_cases K a o xs b with q | ⟨h1, h2, q⟩
  · rw [h] at q; cases q
  · rw [h] at q
    exact ⟨h1, h2, Option.some.inj q⟩
theorem law_callG {P : Program} {w : World} {K : PySem.W.Frag} {mg mb : Str → Option Value} {k : Nat} {fa a : Addr} {fd : FuncData} {x : Str} {sp : Sp} {s : Shared} {vs : List Value} {ns : List Int}
    (hK : K.In s.heap) (hm : s.heap.Ns mainGlobals mg) (hb : s.heap.Ns builtinsNs mb) (hbb : ∀ x : Str, x ≠ "__name__" → mb x = bootBuiltins x) (hlim : s.heap.NoLimit) (hg : s.gens = #[])
    (ha : s.heap.get? a = some { cls := .type "list", data := .seq vs.toArray }) (hi : IntsAre vs ns) (hl : ns.length ≤ sizeLine) (hr : Room k callerA)
    (F : ∀ base : Heap, K.In base → base.Ns mainGlobals mg → FnG P w K mg base k fa fd [x] sp) (hbind : ∀ (s : Shared) (u : Value), BindsTo s fd ⟨[u], []⟩ [(x, u)])
    (hsp : ∀ H : Hp, SqL K H a (ns.map V.int) → sp [.ref a] H (fun v _ => v = .bl true) E0) :
    codeAny (model P w) callerA (.call (.ref fa) ⟨[.ref a], []⟩) (fun r s' => r = .ok (.ret (.bool true)) ∧ OldK s.heap s'.heap ∧ s'.os = s.os ∧ AllBare s'.gens) s := by
  have rv := vals_ints hi
  have hlen := hi.length
  obtain ⟨o, ho⟩ : ∃ o : Obj, o = { cls := .type "list", data := .seq vs.toArray } := ⟨_, rfl⟩
  rw [← ho] at ha
  obtain ⟨H, hH⟩ : ∃ H : Hp, H = scrH K a o (ns.map V.int) := ⟨_, rfl⟩
  have inv : ∀ {b : Addr} {u : HO}, H b = some u → b = a ∧ K.lookup a = none ∧ u = .frz o (.lst (ns.map V.int)) := fun e => scrH_some (hH ▸ e)
  have hS : SqL K H a (ns.map V.int) := by
    cases e : K.lookup a with
    | none =>
      refine .inl (.inr ⟨o, ?_⟩)
      rw [hH]; exact if_pos ⟨rfl, e⟩
    | some ob =>
      have e2 := hK a ob e
      rw [ha] at e2
      cases Option.some.inj e2
      exact .inr ⟨o, vs.toArray, _, e, by rw [ho], by rw [ho], by rw [ho], by rw [List.size_toArray, hlen]; exact hl, rv⟩
  have hok : HOk P w H s.heap := fun b u e => by
    obtain ⟨rfl, _, rfl⟩ := inv e
    rw [ho] at ha ⊢
    exact ⟨ha, by rw [List.length_map]; exact hl, vs, _, rv, ha⟩
  -- what the base keeps
  have keep : ∀ {b : Addr} {ob : Obj}, s.heap.get? b = some ob → H b = none → (hidT s.heap H).get? b = some ob := fun e n => hidT_get e n
  have noDict : ∀ {b : Addr} {ob : Obj} {es : Array DictEntry} {ep : Nat}, s.heap.get? b = some ob → ob.data = .dict es ep → H b = none := fun {b ob es ep} e d => by
    cases q : H b with
    | none => rfl
    | some u =>
      obtain ⟨rfl, _, _⟩ := inv q
      rw [ha] at e
      cases Option.some.inj e
      rw [ho] at d
      cases (show Data.seq vs.toArray _ = Data.dict es ep from d)
  have nsB : ∀ {b : Addr} {m : Str → Option Value}, s.heap.Ns b m → (hidT s.heap H).Ns b m := fun {b m} h => by
    obtain ⟨ob, es, ep, e, d, r⟩ := h
    exact ⟨ob, es, ep, keep e (noDict e d), d, r⟩
  have kB : K.In (hidT s.heap H) := fun b ob e => keep (hK b ob e) (by
    cases q : H b with
    | none => rfl
    | some u =>
      obtain ⟨rfl, n, _⟩ := inv q
      rw [n] at e; cases e)
  have limB : (hidT s.heap H).NoLimit := by
    obtain ⟨mc, h1, h2⟩ := hlim
    exact ⟨mc, nsB h1, h2⟩
  have env : Env0 P w K mg (hidT s.heap H) callerA [] s H :=
    { frames := rfl, mod := ⟨kB, nsB hm, ⟨mb, nsB hb, hbb⟩, limB⟩, bs := fun b ob e => of_hidT e, bsz := Nat.le_of_eq (hidT_size _ _), funs := trivial, frf := fun b hb => absurd (show b ∈ ([] : List Addr) from hb) (by simp), hok := hok, bare := .of_eq hg }
  refine codeAny_mono ((F _ kB (nsB hm)).goes callerA [] s H ⟨[.ref a], []⟩ [.ref a] [.ref a] _ hr rfl env (hbind s (.ref a)) (.cons rfl .nil) (hsp H hS)) fun r s' out => ?_
  rcases r with er | fl
  · exact (show False from out).elim
  · cases fl with
    | ret u =>
      obtain ⟨v, H', hos, hbare, un, hok', r1, q⟩ := out
      cases (show v = .bl true from q)
      cases (show u = Value.bool true from r1)
      refine ⟨rfl, OldK.of_keep fun b ob e => ?_, hos, hbare⟩
      cases q : H b with
      | none => exact un.keep b ob e q (fun z => nomatch (show b ∈ ([] : List Addr) from z)) (by simp)
      | some u =>
        obtain ⟨rfl, _, rfl⟩ := inv q
        have z := un.frzs b o _ q
        obtain ⟨e1, _⟩ := hok b _ q
        obtain ⟨e2, _⟩ := hok' b _ z
        rw [e1] at e
        cases Option.some.inj e
        exact e2
    | next => exact (show False from out).elim
    | brk => exact (show False from out).elim
    | cont => exact (show False from out).elim
theorem walk_G {l : PySem.W.OpenLaw} {n k : Nat} {q : Program} {loose : List Str} {XP : (Str → Option Value) → Heap → Prop} {YP : World → Heap → Prop} {d : DefRec} {x : Str}
    (hn : l.most = some n) (hz : n ≤ sizeLine) (hd : d.params.defaults = []) (hr : Room k callerA)
    (F : ∀ (w : World) (mg : Str → Option Value) (fa : Addr) (h : Heap), YP w h → h.Ns mainGlobals mg → mg d.name = some (.ref fa) →
      ∃ (K : PySem.W.Frag) (fd : FuncData) (sp : Sp), K.In h ∧ (∀ (s : Shared) (u : Value), BindsTo s fd ⟨[u], []⟩ [(x, u)]) ∧
        (∀ (H : Hp) (a : Addr) (ns : List Int), ns.length ≤ n → SqL K H a (ns.map V.int) → sp [.ref a] H (fun v _ => v = .bl true) E0) ∧
        ∀ base : Heap, K.In base → base.Ns mainGlobals mg → FnG l.prog w K mg base k fa fd [x] sp) :
    PySem.W.WalkO q loose XP YP l.row.toRowW d [] (fun f vs => PySem.call f vs) := by
  refine Att.attach_call hn hd fun w s0 s mg mb fa o pm cd doc a vs ns G Y ho hdt hcd hmg hobj hints hlen hg => ?_
  obtain ⟨K, fd, sp, hK, hbind, hsp, hF⟩ := F w mg fa _ Y G.T.g hmg
  exact law_callG hK G.T.g G.T.b G.T.builtins G.T.nolimit hg hobj hints (Nat.le_trans hlen hz) hr hF hbind fun H hS => hsp H a ns hlen hS
/-! ### the package's error classes, looked at -/
def oexB (K : PySem.W.Frag) (C : Addr) : Bool := match K.lookup C with
  | some ⟨.type "type", _, .cls cd, sl⟩ => (match cd.mro, sl.toList with
    | .ref C' :: bm, [_, _, _, _, some (.builtin n), _] => decide (C' = C) && (decide (n = "ValueError.__new__") && ((!cd.hasDel) && (cd.hasDict && PySem.HandSPX.refsVE bm)))
    | _, _ => false)
  | _ => false
theorem oexB_ok {K : PySem.W.Frag} {C : Addr} (h : oexB K C = true) : ∃ nm q N bs bm sn sub ab col dd k0 k1 k2 k3 k5, K.lookup C = some (excClassObj nm q C N bs bm true sn sub ab col dd k0 k1 k2 k3 k5 "ValueError.__new__") ∧ PySem.HandSPX.refsVE bm = true := by
  unfold oexB at h
  split at h
  · rename_i dd cd sl e
    split at h
    · rename_i C' bm k0 k1 k2 k3 n k5 hm hs
      simp only [Bool.and_eq_true, decide_eq_true_eq, Bool.not_eq_true'] at h
      obtain ⟨rfl, rfl, h1, h2, h3⟩ := h
      obtain ⟨nm, bs, mro, N, qn, hd, sn, sub, ab, col, del⟩ := cd
      dsimp only at hm h1 h2
      subst hm h1 h2
      obtain ⟨l⟩ := sl
      dsimp only at hs
      subst hs
      exact ⟨nm, qn, N, bs, bm, sn, sub, ab, col, dd, k0, k1, k2, k3, k5, e, h3⟩
    · cases h
  · cases h
/-- an error class x: over BlindError, with its __init__ -/
def errB (K : PySem.W.Frag) (x : Str) : Bool :=
  oexB K (He.ga K x) && (decide (PySem.W.findIn K (.ref (He.ga K x)) "__setattr__" = some (some (.builtin "object.__setattr__"))) && (decide (PySem.W.subIn K (.ref (He.ga K x)) (.type "BaseException") = some true) && (decide (PySem.W.typeIn K (.ref (He.ga K x)) = some (.type "type")) &&
  (PySem.W.keepIn K (.ref (He.ga K x)) && (xfB K (He.ga K x) && (decide (PySem.W.findIn K (.ref (He.ga K x)) "what" = some none) && (decide (PySem.W.exmOne K (.ref (He.ga K x)) (.ref (He.ga K x)) = some true) &&
  (decide (PySem.W.findIn K (.ref (He.ga K x)) "__init__" = some (some (.ref (He.fAd K ("BlindError", some "__init__"))))) && (decide (PySem.W.typeIn K (.ref (He.fAd K ("BlindError", some "__init__"))) = some (.type "function")) && He.eqO (PySem.W.nsIn K mainGlobals x) (some (some (.ref (He.ga K x)))))))))))))
theorem errB_ok {P : Program} {w : World} {K : PySem.W.Frag} {mg : Str → Option Value} {base h : Heap} {x : Str} {fd : FuncData} (X : K.In h) (G : h.Ns mainGlobals mg) (b : errB K x = true)
    (F : FnOk P w K mg base CX0 1 (He.fAd K ("BlindError", some "__init__")) fd ["self", "what"] (spInit K)) (hb : Binds K fd ["self", "what"] []) : ErrC P w K mg base x (He.ga K x) := by
  unfold errB at b
  simp only [Bool.and_eq_true, decide_eq_true_eq] at b
  obtain ⟨b1, b2, b3, b4, b5, b6, b7, b8, b9, b10, b11⟩ := b
  exact ⟨PySem.W.mg_of X G (He.eqO_ok b11), ⟨oexB_ok b1, b2, b3, b4, b5⟩, xfB_ok b6, b7, b8, ⟨_, fd, b9, b10, F, hb⟩⟩
/-! ### the hook -/
abbrev AlX : Type := Bool × He.AlD
def obsX (fa : List He.Fa) (fn : List He.DefD) (xs : List Str) (K : PySem.W.Frag) : AlX := (xs.all (errB K), He.obsD fa fn K)
def obsXG (n : Nat) (fa : List He.Fa) (fn : List He.DefD) (xs : List Str) (g : Addr → Option Obj) : AlX := obsX fa fn xs (He.frG g (He.asD g n))
def hookX (n : Nat) (fa : List He.Fa) (fn : List He.DefD) (xs : List Str) : PySem.W.Hook where
  α := AlX
  obs := fun s => obsXG n fa fn xs s.heap.get?
  val := fun _ => (true, He.valD fn)
  says := fun _ h => ∃ K : PySem.W.Frag, K.In h ∧ xs.all (errB K) = true ∧ He.SaysD fa fn K
  of := fun _ _ e => ⟨_, He.frG_in, congrArg (fun z : AlX => z.1) e, congrArg (fun z : AlX => z.2) e⟩
  keeps := fun _ _ _ h k => by
    obtain ⟨K, h1, h2, h3⟩ := h
    exact ⟨K, PySem.W.Frag.In.keeps h1 k, h2, h3⟩
theorem err_of {K : PySem.W.Frag} {xs : List Str} (c : xs.all (errB K) = true) (i : Nat) {x : Str} (h : xs[i]? = some x := by rfl) : errB K x = true := List.all_eq_true.mp c x (List.mem_of_getElem? h)
end BT

set_option Elab.async false
set_option linter.all false
set_option maxRecDepth 100000
set_option maxHeartbeats 2000000
theorem L2.Room.units5 {k : Nat} {A : PySem.Around} (r : L2.Room k A) : A.units + 65 < PySem.cLine := by have := r.un; omega
namespace DL
open PySem PySem.Spec PyProof.Rows L2 BT
structure Bi3 (mg : Str → Option Value) : Prop where
  str : mg "str" = none
  dict : mg "dict" = none
/-! ### data, by value -/
inductive D where
  | non | bl (b : Bool) | int (i : Int) | str (x : Str)
  | tup (xs : List D) | lst (xs : List D) | dct (kvs : List (Key × D)) | obj (c : Str) (fs : List (Str × D))
/-- a heap that is read in part -/
abbrev Fz (B : Addr → Prop) (H : Hp) : Addr → HO → Prop := fun b o => ¬ B b ∧ H b = some o
mutual
/-- the value v is the data d -/
inductive Dx (ad : Str → Addr) (F : Addr → HO → Prop) : V → D → Prop
  | non : Dx ad F .non .non
  | bl (b : Bool) : Dx ad F (.bl b) (.bl b)
  | int (i : Int) : Dx ad F (.int i) (.int i)
  | str (x : Str) : Dx ad F (.str x) (.str x)
  | tup {a : Addr} {vs : List V} {ds : List D} : F a (.tup vs) → DxA ad F vs ds → Dx ad F (.ref a) (.tup ds)
  | lst {a : Addr} {vs : List V} {ds : List D} : F a (.lst vs) → DxA ad F vs ds → Dx ad F (.ref a) (.lst ds)
  | dct {a : Addr} {kvs : List (Key × V)} {es : List (Key × D)} : F a (.dK kvs) → DxK ad F kvs es → Dx ad F (.ref a) (.dct es)
  | obj {a dx : Addr} {c : Str} {fvs : List (Str × V)} {fs : List (Str × D)} : F a (.ins (ad c) dx fvs) → DxF ad F fvs fs → Dx ad F (.ref a) (.obj c fs)
inductive DxA (ad : Str → Addr) (F : Addr → HO → Prop) : List V → List D → Prop
  | nil : DxA ad F [] []
  | cons {v : V} {vs : List V} {d : D} {ds : List D} : Dx ad F v d → DxA ad F vs ds → DxA ad F (v :: vs) (d :: ds)
inductive DxK (ad : Str → Addr) (F : Addr → HO → Prop) : List (Key × V) → List (Key × D) → Prop
  | nil : DxK ad F [] []
  | cons {k : Key} {v : V} {vs : List (Key × V)} {d : D} {ds : List (Key × D)} : Dx ad F v d → DxK ad F vs ds → DxK ad F ((k, v) :: vs) ((k, d) :: ds)
inductive DxF (ad : Str → Addr) (F : Addr → HO → Prop) : List (Str × V) → List (Str × D) → Prop
  | nil : DxF ad F [] []
  | cons {k : Str} {v : V} {vs : List (Str × V)} {d : D} {ds : List (Str × D)} : Dx ad F v d → DxF ad F vs ds → DxF ad F ((k, v) :: vs) ((k, d) :: ds)
end
section
variable {ad : Str → Addr} {F F' : Addr → HO → Prop}
mutual
theorem Dx.mono (S : ∀ b o, F b o → F' b o) : ∀ {v : V} {d : D}, Dx ad F v d → Dx ad F' v d
  | _, _, .non => .non
  | _, _, .bl b => .bl b
  | _, _, .int i => .int i
  | _, _, .str x => .str x
  | _, _, .tup e a => .tup (S _ _ e) (DxA.mono S a)
  | _, _, .lst e a => .lst (S _ _ e) (DxA.mono S a)
  | _, _, .dct e a => .dct (S _ _ e) (DxK.mono S a)
  | _, _, .obj e a => .obj (S _ _ e) (DxF.mono S a)
theorem DxA.mono (S : ∀ b o, F b o → F' b o) : ∀ {v : List V} {d : List D}, DxA ad F v d → DxA ad F' v d
  | _, _, .nil => .nil
  | _, _, .cons a r => .cons (Dx.mono S a) (DxA.mono S r)
theorem DxK.mono (S : ∀ b o, F b o → F' b o) : ∀ {v : List (Key × V)} {d : List (Key × D)}, DxK ad F v d → DxK ad F' v d
  | _, _, .nil => .nil
  | _, _, .cons a r => .cons (Dx.mono S a) (DxK.mono S r)
theorem DxF.mono (S : ∀ b o, F b o → F' b o) : ∀ {v : List (Str × V)} {d : List (Str × D)}, DxF ad F v d → DxF ad F' v d
  | _, _, .nil => .nil
  | _, _, .cons a r => .cons (Dx.mono S a) (DxF.mono S r)
end
theorem DxA.append : ∀ {xs : List V} {ds : List D} {ys : List V} {es : List D}, DxA ad F xs ds → DxA ad F ys es → DxA ad F (xs ++ ys) (ds ++ es)
  | _, _, _, _, .nil, h => h
  | _, _, _, _, .cons a r, h => .cons a (DxA.append r h)
theorem DxA.length : ∀ {xs : List V} {ds : List D}, DxA ad F xs ds → xs.length = ds.length
  | _, _, .nil => rfl
  | _, _, .cons _ r => congrArg Nat.succ (DxA.length r)
theorem DxA.get : ∀ {xs : List V} {ds : List D} {i : Nat} {v : V}, DxA ad F xs ds → xs[i]? = some v → ∃ d, ds[i]? = some d ∧ Dx ad F v d
  | _, _, _, _, .nil, h => by simp at h
  | _, _, 0, v, .cons (d := d) a r, h => ⟨d, rfl, by have e : _ = v := Option.some.inj h; rw [← e]; exact a⟩
  | _, _, i + 1, v, .cons a r, h => by
    obtain ⟨d, h1, h2⟩ := DxA.get (i := i) r h
    exact ⟨d, h1, h2⟩
theorem DxA.getD : ∀ {xs : List V} {ds : List D} {i : Nat} {d : D}, DxA ad F xs ds → ds[i]? = some d → ∃ v, xs[i]? = some v ∧ Dx ad F v d
  | _, _, _, _, .nil, h => by simp at h
  | _, _, 0, d, .cons (v := v) a r, h => ⟨v, rfl, by have e : _ = d := Option.some.inj h; rw [← e]; exact a⟩
  | _, _, i + 1, d, .cons a r, h => by
    obtain ⟨v, h1, h2⟩ := DxA.getD (i := i) r h
    exact ⟨v, h1, h2⟩
theorem DxA.take : ∀ {xs : List V} {ds : List D} (j : Nat), DxA ad F xs ds → DxA ad F (xs.take j) (ds.take j)
  | _, _, 0, _ => .nil
  | _, _, _ + 1, .nil => .nil
  | _, _, j + 1, .cons a r => .cons a (DxA.take j r)
theorem DxA.drop : ∀ {xs : List V} {ds : List D} (j : Nat), DxA ad F xs ds → DxA ad F (xs.drop j) (ds.drop j)
  | _, _, 0, r => r
  | _, _, _ + 1, .nil => .nil
  | _, _, j + 1, .cons a r => DxA.drop j r
theorem DxF.lookup : ∀ {fvs : List (Str × V)} {fs : List (Str × D)} {f : Str} {d : D}, DxF ad F fvs fs → fs.lookup f = some d → ∃ v, fvs.lookup f = some v ∧ Dx ad F v d
  | _, _, _, _, .nil, h => by simp at h
  | _, _, f, d, .cons (k := k) a r, h => by
    rw [List.lookup_cons] at h ⊢
    split at h
    · have := Option.some.inj h
      subst this
      exact ⟨_, rfl, a⟩
    · exact DxF.lookup r h
theorem DxF.lookup_none : ∀ {fvs : List (Str × V)} {fs : List (Str × D)} {f : Str}, DxF ad F fvs fs → fs.lookup f = none → fvs.lookup f = none
  | _, _, _, .nil, h => rfl
  | _, _, f, .cons (k := k) a r, h => by
    rw [List.lookup_cons] at h ⊢
    split at h
    · cases h
    · exact DxF.lookup_none r h
end
/-! ### the frame: what stands stays, but for the law's source -/
abbrev SO := Option (Addr × Addr)
structure Wd (B : Addr → Prop) (s : SO) (H : Hp) : Prop where
  al : ∀ b, B b → ∃ o, H b = some o ∧ ∀ xs, o ≠ .tup xs
  sr : ∀ l a, s = some (l, a) → Src l a H ∧ B a ∧ B l
structure Frm (s : SO) (H H' : Hp) : Prop where
  st : ∀ b o, (∀ l a, s = some (l, a) → b ≠ a) → H b = some o → H' b = some o
  sr : ∀ l a, s = some (l, a) → Src l a H'
section
variable {B : Addr → Prop} {s : SO} {H H1 H2 : Hp}
theorem Wd.refl (w : Wd B s H) : Frm s H H := ⟨fun _ _ _ h => h, fun l a e => (w.sr l a e).1⟩
theorem Frm.trans (f : Frm s H H1) (g : Frm s H1 H2) : Frm s H H2 := ⟨fun b o n h => g.st b o n (f.st b o n h), g.sr⟩
theorem Wd.same (w : Wd B s H) (S : Same H H1) : Frm s H H1 := ⟨fun b o _ h => S b o h, fun l a e => (Keeps.of_same (w.sr l a e).1 S).src⟩
theorem Wd.new (w : Wd B s H) {p : Addr} {o : HO} (h : H p = none) : Frm s H (upd H p o) := w.same (Same.new (Same.refl H) h)
theorem Wd.frm (w : Wd B s H) (f : Frm s H H1) : Wd B s H1 := ⟨fun b h => by
    obtain ⟨o, e, nt⟩ := w.al b h
    by_cases q : ∃ l, s = some (l, b)
    · obtain ⟨l, q⟩ := q
      obtain ⟨i, x, c, cl, n, y, _, h1⟩ := (f.sr l b q).at_
      exact ⟨_, h1, fun _ e => (nomatch e)⟩
    · exact ⟨o, f.st b o (fun l a e he => q ⟨l, he ▸ e⟩) e, nt⟩, fun l a e => ⟨f.sr l a e, (w.sr l a e).2⟩⟩
theorem Wd.nb (w : Wd B s H) {p : Addr} (h : H p = none) : ¬ B p := fun q => by
  obtain ⟨o, e, _⟩ := w.al p q
  rw [h] at e; cases e
theorem Wd.nt (w : Wd B s H) {p : Addr} {xs : List V} (h : H p = some (.tup xs)) : ¬ B p := fun q => by
  obtain ⟨o, e, n⟩ := w.al p q
  rw [h] at e
  exact n xs (Option.some.inj e).symm
theorem Wd.fz (w : Wd B s H) (f : Frm s H H1) : ∀ b o, Fz B H b o → Fz B H1 b o := fun b o h => ⟨h.1, f.st b o (fun l a e q => h.1 (q ▸ (w.sr l a e).2.1)) h.2⟩
theorem Wd.dx {ad : Str → Addr} {v : V} {d : D} (w : Wd B s H) (f : Frm s H H1) (h : Dx ad (Fz B H) v d) : Dx ad (Fz B H1) v d := h.mono (w.fz f)
end
/-! ### slots -/
inductive Sl where
  | un | dat (d : D) | own (xs : List D) | ownD (kvs : List (Key × D)) | src | exc (a x : Addr) (d : D) | scr (K : PySem.W.Frag) | adr (a : Addr)
/-- the script, whether it is tracked or the module's -/
def ScrOk (K : PySem.W.Frag) (B : Addr → Prop) (s : SO) (H : Hp) (a : Addr) (xs : List V) : Prop :=
  (∃ o, (o = .lst xs ∨ ∃ ob, o = .frz ob (.lst xs)) ∧ Fz B H a o ∧ ∀ l a', s = some (l, a') → a ≠ a') ∨
    ∃ (o : Obj) (its : Array Value) (n : Nat), K.lookup a = some o ∧ o.cls = .type "list" ∧ o.dict = none ∧ o.data = .seq its n ∧ its.size ≤ sizeLine ∧ Vals xs its.toList
theorem ScrOk.sq {K : PySem.W.Frag} {B : Addr → Prop} {s : SO} {H : Hp} {a : Addr} {xs : List V} (h : ScrOk K B s H a xs) : SqL K H a xs := by
  rcases h with ⟨o, h | ⟨ob, h⟩, q, _⟩ | h
  · subst h; exact .inl (.inl q.2)
  · subst h; exact .inl (.inr ⟨ob, q.2⟩)
  · exact .inr h
theorem ScrOk.mono {K : PySem.W.Frag} {B B' : Addr → Prop} {s : SO} {H H1 : Hp} {a : Addr} {xs : List V} (h : ScrOk K B s H a xs) (fz : ∀ b o, Fz B H b o → Fz B' H1 b o) : ScrOk K B' s H1 a xs := by
  rcases h with ⟨o, h, q, n⟩ | h
  · exact .inl ⟨o, h, fz _ _ q, n⟩
  · exact .inr h
def SlR (ad : Str → Addr) (B : Addr → Prop) (s : SO) (H : Hp) (o : Option (Option V)) : Sl → Prop
  | .un => True
  | .dat d => ∃ v, o = some (some v) ∧ Dx ad (Fz B H) v d
  | .own xs => ∃ p vs, o = some (some (.ref p)) ∧ B p ∧ (∀ l a, s = some (l, a) → p ≠ a) ∧ H p = some (.lst vs) ∧ DxA ad (Fz B H) vs xs
  | .ownD xs => ∃ p vs, o = some (some (.ref p)) ∧ B p ∧ (∀ l a, s = some (l, a) → p ≠ a) ∧ H p = some (.dK vs) ∧ DxK ad (Fz B H) vs xs
  | .src => ∃ l a, s = some (l, a) ∧ o = some (some (.ref a))
  | .exc a x d => ∃ v, o = some (some (.ref a)) ∧ H x = some (.xd [("what", v)]) ∧ Dx ad (Fz B H) v d
  | .scr K => ∃ (a : Addr) (ns : List Int), o = some (some (.ref a)) ∧ ScrOk K B s H a (ns.map V.int)
  | .adr a => o = some (some (.ref a))
theorem SlR.frm {ad : Str → Addr} {B : Addr → Prop} {s : SO} {H H1 : Hp} {o : Option (Option V)} (w : Wd B s H) (f : Frm s H H1) : ∀ {sl : Sl}, SlR ad B s H o sl → SlR ad B s H1 o sl
  | .un, h => h
  | .dat d, ⟨v, e, h⟩ => ⟨v, e, w.dx f h⟩
  | .own xs, ⟨p, vs, e, b, n, h, r⟩ => ⟨p, vs, e, b, n, f.st _ _ n h, r.mono (w.fz f)⟩
  | .ownD xs, ⟨p, vs, e, b, n, h, r⟩ => ⟨p, vs, e, b, n, f.st _ _ n h, r.mono (w.fz f)⟩
  | .src, h => h
  | .exc a x d, ⟨v, e, h, r⟩ => ⟨v, e, f.st _ _ (fun l a' es q => by
      obtain ⟨i, y, c, cl, n, z, _, h1⟩ := (w.sr l a' es).1.at_
      rw [q, h1] at h; cases h) h, w.dx f r⟩
  | .scr K, ⟨a, ns, e, h⟩ => ⟨a, ns, e, h.mono (w.fz f)⟩
  | .adr a, h => h
structure RepE (ad : Str → Addr) (B : Addr → Prop) (s : SO) (H : Hp) (σ : L2.St) (ρ : List Sl) : Prop where
  wd : Wd B s H
  sl : ∀ (i : Nat) (sl : Sl), ρ[i]? = some sl → SlR ad B s H (σ[i]?) sl
  len : σ.length = ρ.length
abbrev DXt := List Sl → Str → D → Prop
abbrev DE := List Sl → (D → Prop) → DXt → Prop
abbrev DT := List Sl → (Bool → Prop) → DXt → Prop
abbrev DA := List Sl → (List Sl → Prop) → DXt → Prop
structure Wl (ad : Str → Addr) (E : L2.St → XK) (Ed : DXt) (B : Addr → Prop) (s : SO) (ρ : List Sl) (σ : L2.St) (H : Hp) : Prop where
  rep : RepE ad B s H σ ρ
  tie : ∀ cn d v x H', Frm s H H' → Dx ad (Fz B H') v d → H' x = none → Ed ρ cn d → E σ (.ref (ad cn)) (some x) (upd H' x (.xd [("what", v)]))
section
variable {ad : Str → Addr} {E : L2.St → XK} {Ed : DXt} {B : Addr → Prop} {s : SO} {ρ : List Sl} {σ : L2.St} {H H1 : Hp}
theorem Wl.wd (w : Wl ad E Ed B s ρ σ H) : Wd B s H := w.rep.wd
theorem Wl.frm (w : Wl ad E Ed B s ρ σ H) (f : Frm s H H1) : Wl ad E Ed B s ρ σ H1 := ⟨⟨w.wd.frm f, fun i sl e => (w.rep.sl i sl e).frm w.wd f, w.rep.len⟩, fun cn d v x H' g => w.tie cn d v x H' (f.trans g)⟩
theorem Wl.refl (w : Wl ad E Ed B s ρ σ H) : Frm s H H := w.wd.refl
end
/-! ### readings by value -/
def teD (ad : Str → Addr) (E : L2.St → XK) (Ed : DXt) (f : DE) : TE := fun σ H Q => ∃ B s ρ Qd, Wl ad E Ed B s ρ σ H ∧ f ρ Qd Ed ∧ ∀ d v H', Qd d → Frm s H H' → Dx ad (Fz B H') v d → Q v H'
def ttD (ad : Str → Addr) (E : L2.St → XK) (Ed : DXt) (f : DT) : TT := fun σ H Q => ∃ B s ρ Qd, Wl ad E Ed B s ρ σ H ∧ f ρ Qd Ed ∧ ∀ b H', Qd b → Frm s H H' → Q b H'
/-- an argument: data, or the source -/
def ArR (ad : Str → Addr) (B : Addr → Prop) (s : SO) (H : Hp) (v : V) : Sl → Prop
  | .dat d => Dx ad (Fz B H) v d
  | .src => ∃ l a, s = some (l, a) ∧ v = .ref a
  | _ => False
inductive ArA (ad : Str → Addr) (B : Addr → Prop) (s : SO) (H : Hp) : List V → List Sl → Prop
  | nil : ArA ad B s H [] []
  | cons {v : V} {vs : List V} {a : Sl} {as : List Sl} : ArR ad B s H v a → ArA ad B s H vs as → ArA ad B s H (v :: vs) (a :: as)
theorem ArR.frm {ad : Str → Addr} {B : Addr → Prop} {s : SO} {H H1 : Hp} {v : V} (w : Wd B s H) (f : Frm s H H1) : ∀ {a : Sl}, ArR ad B s H v a → ArR ad B s H1 v a
  | .dat d, h => w.dx f h
  | .src, h => h
theorem ArA.frm {ad : Str → Addr} {B : Addr → Prop} {s : SO} {H H1 : Hp} (w : Wd B s H) (f : Frm s H H1) : ∀ {vs : List V} {as : List Sl}, ArA ad B s H vs as → ArA ad B s H1 vs as
  | _, _, .nil => .nil
  | _, _, .cons a r => .cons (a.frm w f) (ArA.frm w f r)
theorem ArA.length {ad : Str → Addr} {B : Addr → Prop} {s : SO} {H : Hp} : ∀ {vs : List V} {as : List Sl}, ArA ad B s H vs as → vs.length = as.length
  | _, _, .nil => rfl
  | _, _, .cons _ r => congrArg Nat.succ (ArA.length r)
/-- arguments of a built-in: all data -/
theorem ArA.dat {ad : Str → Addr} {B : Addr → Prop} {s : SO} {H : Hp} : ∀ {vs : List V} {ds : List D}, ArA ad B s H vs (ds.map Sl.dat) → DxA ad (Fz B H) vs ds
  | _, [], .nil => .nil
  | _, _ :: _, .cons a r => .cons a (ArA.dat r)
def taD (ad : Str → Addr) (E : L2.St → XK) (Ed : DXt) (n : Nat) (f : DA) : TA := fun σ H Q => ∃ B s ρ Qd, Wl ad E Ed B s ρ σ H ∧ f ρ Qd Ed ∧ ∀ as vs H', Qd as → as.length = n → Frm s H H' → ArA ad B s H' vs as → Q vs H'
structure PD (X : Cx) (ad : Str → Addr) (E : L2.St → XK) (Ed : DXt) (e : Expr) (f : DE) : Prop where
  pe : PE X e (teD ad E Ed f)
structure TD (X : Cx) (ad : Str → Addr) (E : L2.St → XK) (Ed : DXt) (e : Expr) (f : DT) : Prop where
  pt : PT X e (ttD ad E Ed f)
structure AD (X : Cx) (ad : Str → Addr) (E : L2.St → XK) (Ed : DXt) (es : List Expr) (n : Nat) (f : DA) : Prop where
  pa : PA X es (taD ad E Ed n f)
theorem weakE {X : Cx} {e : Expr} {t t' : TE} (h : PE X e t) (k : ∀ σ H Q, t' σ H Q → t σ H Q) : PE X e t' := ⟨fun pins s σ H Q I q => h.run pins s σ H Q I (k σ H Q q)⟩
theorem weakT {X : Cx} {e : Expr} {t t' : TT} (h : PT X e t) (k : ∀ σ H Q, t' σ H Q → t σ H Q) : PT X e t' := ⟨fun pins s σ H Q I q => h.run pins s σ H Q I (k σ H Q q)⟩
theorem weakA {X : Cx} {e : List Expr} {t t' : TA} (h : PA X e t) (k : ∀ σ H Q, t' σ H Q → t σ H Q) : PA X e t' := ⟨fun pos pins s σ H Q I q => h.run pos pins s σ H Q I (k σ H Q q)⟩
theorem weakS {X : Cx} {e : Stmt} {t t' : TS} (h : PS X e t) (k : ∀ D σ H, t' D σ H → t D σ H) : PS X e t' := ⟨fun pins s σ H D I q => h.run pins s σ H D I (k D σ H q)⟩
theorem weakSs {X : Cx} {e : List Stmt} {t t' : TS} (h : PSs X e t) (k : ∀ D σ H, t' D σ H → t D σ H) : PSs X e t' := ⟨fun pins s σ H D I q => h.run pins s σ H D I (k D σ H q)⟩
section
variable {X : Cx} {ad : Str → Addr} {E : L2.St → XK} {Ed : DXt} {a b : Expr} {fa fb : DE} {pos : Pos}
/-! ### names, constants -/
def eV (i : Nat) : DE := fun ρ Q _ => match ρ[i]? with
  | some (.dat d) => Q d
  | _ => False
theorem pdv {x : Str} (i : Nat) (h : PE X (.Name x pos) (tVar i)) : PD X ad E Ed (.Name x pos) (eV i) := ⟨weakE h fun σ H Q ⟨B, s, ρ, Qd, W, h, k⟩ => by
  unfold eV at h
  split at h
  · rename_i d e
    obtain ⟨v, ev, hv⟩ := W.rep.sl i _ e
    exact ⟨v, ev, k d v H h W.refl hv⟩
  · exact h.elim⟩
def eC (d : D) : DE := fun _ Q _ => Q d
theorem pdInt {i : Int} {j : Nat} : PD X ad E Ed (.Constant (.int i) j pos) (eC (.int i)) := ⟨weakE pe_int fun σ H Q ⟨B, s, ρ, Qd, W, h, k⟩ => k _ _ H h W.refl (.int i)⟩
theorem pdBl {i : Bool} {j : Nat} : PD X ad E Ed (.Constant (.bool i) j pos) (eC (.bl i)) := ⟨weakE pe_bl fun σ H Q ⟨B, s, ρ, Qd, W, h, k⟩ => k _ _ H h W.refl (.bl i)⟩
theorem pdNon {j : Nat} : PD X ad E Ed (.Constant .none j pos) (eC .non) := ⟨weakE pe_non fun σ H Q ⟨B, s, ρ, Qd, W, h, k⟩ => k _ _ H h W.refl .non⟩
theorem pdStr {x : Str} {j : Nat} : PD X ad E Ed (.Constant (.str x) j pos) (eC (.str x)) := ⟨weakE pe_str fun σ H Q ⟨B, s, ρ, Qd, W, h, k⟩ => k _ _ H h W.refl (.str x)⟩
theorem pdGlobI {x : Str} {i : Int} {t : Tok} (hg : Gl X x) (hm : X.mg x = some (.int i t)) (hd : (x == ("__debug__" : Str)) = false := by decide) : PD X ad E Ed (.Name x pos) (eC (.int i)) := ⟨weakE (pe_glob (v := .int i) hg hm ⟨_, rfl⟩ hd) fun σ H Q ⟨B, s, ρ, Qd, W, h, k⟩ => k _ _ H h W.refl (.int i)⟩
/-! ### two-place operations -/
def OpD (ad : Str → Addr) (r : R2) (o : D → D → (D → Prop) → Prop) : Prop := ∀ (B : Addr → Prop) (s : SO) (H : Hp) (x y : V) (dx dy : D) (Qd : D → Prop) (Q : VK), Wd B s H → Dx ad (Fz B H) x dx → Dx ad (Fz B H) y dy → o dx dy Qd →
  (∀ d v H', Qd d → Frm s H H' → Dx ad (Fz B H') v d → Q v H') → r x y H Q
def e2 (o : D → D → (D → Prop) → Prop) (fa fb : DE) : DE := fun ρ Q Ed => fa ρ (fun x => fb ρ (fun y => o x y Q) Ed) Ed
theorem e2_of {r : R2} {o : D → D → (D → Prop) → Prop} (hr : OpD ad r o) : ∀ σ H Q, teD ad E Ed (e2 o fa fb) σ H Q → tOp r (teD ad E Ed fa) (teD ad E Ed fb) σ H Q := fun σ H Q ⟨B, s, ρ, Qd, W, h, k⟩ =>
  ⟨B, s, ρ, _, W, h, fun x v H1 hx f1 dx => ⟨B, s, ρ, _, W.frm f1, hx, fun y u H2 hy f2 dy => hr B s H2 v u x y Qd Q (W.frm (f1.trans f2)).wd ((W.frm f1).wd.dx f2 dx) dy hy fun d v' H' hd f' dd => k d v' H' hd (f1.trans (f2.trans f')) dd⟩⟩
theorem pdOp {op : Operator} {r : R2} {o : D → D → (D → Prop) → Prop} (ho : OpR X (binaryOp op) r) (hr : OpD ad r o) (ha : PD X ad E Ed a fa) (hb : PD X ad E Ed b fb) : PD X ad E Ed (.BinOp a op b pos) (e2 o fa fb) := ⟨weakE (pe_op ho ha.pe hb.pe) (e2_of hr)⟩
theorem pdCmp {op : CmpOp} {r : R2} {o : D → D → (D → Prop) → Prop} (ho : OpR X (compareOp op) r) (hr : OpD ad r o) (ha : PD X ad E Ed a fa) (hb : PD X ad E Ed b fb) (hm : behindInMarks op b = false) : PD X ad E Ed (.Compare a [op] [b] pos) (e2 o fa fb) := ⟨weakE (pe_cmpR ho ha.pe hb.pe hm) (e2_of hr)⟩
/-- a test by a comparison -/
def t2 (o : D → D → (D → Prop) → Prop) (fa fb : DE) : DT := fun ρ Q Ed => fa ρ (fun x => fb ρ (fun y => o x y fun d => match d with | .bl c => Q c | _ => False) Ed) Ed
theorem tdCmp {op : CmpOp} {r : R2} {o : D → D → (D → Prop) → Prop} (ho : OpR X (compareOp op) r) (hr : OpD ad r o) (ha : PD X ad E Ed a fa) (hb : PD X ad E Ed b fb) (hm : behindInMarks op b = false) : TD X ad E Ed (.Compare a [op] [b] pos) (t2 o fa fb) :=
  ⟨weakT (pt_cmpR ho ha.pe hb.pe hm) fun σ H Q ⟨B, s, ρ, Qd, W, h, k⟩ => e2_of (E := E) (Ed := Ed) hr σ H _ ⟨B, s, ρ, _, W, h, fun d v H' hd f dv => by
    cases d with
    | bl c => cases dv; exact ⟨c, rfl, k c H' hd f⟩
    | _ => exact hd.elim⟩⟩
theorem OpD.or {r1 r2 : R2} {o1 o2 : D → D → (D → Prop) → Prop} (h1 : OpD ad r1 o1) (h2 : OpD ad r2 o2) : OpD ad (fun x y H Q => r1 x y H Q ∨ r2 x y H Q) (fun x y Q => o1 x y Q ∨ o2 x y Q) := fun B s H x y dx dy Qd Q w a b h k => h.imp (fun h => h1 B s H x y dx dy Qd Q w a b h k) (fun h => h2 B s H x y dx dy Qd Q w a b h k)
theorem OpR.or {f : Value → Value → Sem Value} {r1 r2 : R2} (h1 : OpR X f r1) (h2 : OpR X f r2) : OpR X f (fun x y H Q => r1 x y H Q ∨ r2 x y H Q) := fun pins s σ H x y v u Q I a b h => h.elim (h1 pins s σ H x y v u Q I a b) (h2 pins s σ H x y v u Q I a b)
theorem OpD.im {r : R2} {o o' : D → D → (D → Prop) → Prop} (h : OpD ad r o) (k : ∀ x y Q, o' x y Q → o x y Q) : OpD ad r o' := fun B s H x y dx dy Qd Q w a b g => h B s H x y dx dy Qd Q w a b (k _ _ _ g)
/-- ints in, an int or a flag out -/
def oI (g : Int → Int → D) : D → D → (D → Prop) → Prop
  | .int i, .int j, Q => Q (g i j)
  | _, _, _ => False
def oIC (C : Int → Int → Prop) (g : Int → Int → D) : D → D → (D → Prop) → Prop
  | .int i, .int j, Q => C i j ∧ Q (g i j)
  | _, _, _ => False
theorem dI {g : Int → Int → V} {g' : Int → Int → D} (hg : ∀ i j F, Dx ad F (g i j) (g' i j)) : OpD ad (rI0 g) (oI g') := fun B s H x y dx dy Qd Q w a b h k => by
  unfold oI at h
  split at h
  · rename_i i j
    cases a
    cases b
    exact ⟨i, j, rfl, rfl, k _ _ H h w.refl (hg i j _)⟩
  · exact h.elim
theorem dIC {C : Int → Int → Prop} {g : Int → Int → V} {g' : Int → Int → D} (hg : ∀ i j F, Dx ad F (g i j) (g' i j)) : OpD ad (rI C g) (oIC C g') := fun B s H x y dx dy Qd Q w a b h k => by
  unfold oIC at h
  split at h
  · rename_i i j
    cases a
    cases b
    exact ⟨i, j, rfl, rfl, h.1, k _ _ H h.2 w.refl (hg i j _)⟩
  · exact h.elim
end
end DL

set_option Elab.async false
set_option linter.all false
set_option maxRecDepth 100000
set_option maxHeartbeats 2000000
namespace DL
open PySem PySem.Spec PyProof.Rows L2 BT
/-! ### data as the model's plain data -/
mutual
/-- data that == and in may compare -/
def pyN : D → Option PyData
  | .non => some .none
  | .bl b => some (.bool b)
  | .int i => some (.int i)
  | .str x => some (.str x)
  | .tup xs => (pyNs xs).map .tuple
  | .lst xs => (pyNs xs).map .list
  | .dct _ => none
  | .obj _ _ => none
def pyNs : List D → Option (List PyData)
  | [] => some []
  | x :: xs => (pyN x).bind fun p => (pyNs xs).map (p :: ·)
end
mutual
/-- data that repr may show -/
def pyR : D → Option PyData
  | .non => some .none
  | .bl b => some (.bool b)
  | .int i => some (.int i)
  | .str x => some (.str x)
  | .tup xs => (pyRs xs).map .tuple
  | .lst xs => (pyRs xs).map .list
  | .dct es => (pyRk es).map .dict
  | .obj _ _ => none
def pyRs : List D → Option (List PyData)
  | [] => some []
  | x :: xs => (pyR x).bind fun p => (pyRs xs).map (p :: ·)
def pyRk : List (Key × D) → Option (List (PyData × PyData))
  | [] => some []
  | (k, x) :: xs => (pyR x).bind fun p => (pyRk xs).map ((kD k, p) :: ·)
end
section
variable {ad : Str → Addr} {B : Addr → Prop} {H : Hp} {K : PySem.W.Frag}
mutual
theorem Dx.dp : ∀ {d : D} {v : V} {p : PyData}, Dx ad (Fz B H) v d → pyN d = some p → Dp K H v p
  | .non, _, _, h, e => by cases h; cases (Option.some.inj e); exact .non
  | .bl b, _, _, h, e => by cases h; cases (Option.some.inj e); exact .bl b
  | .int b, _, _, h, e => by cases h; cases (Option.some.inj e); exact .int b
  | .str b, _, _, h, e => by cases h; cases (Option.some.inj e); exact .str b
  | .tup xs, _, _, h, e => by
    obtain ⟨ps, e1, e2⟩ := Option.map_eq_some_iff.mp (by simpa only [pyN] using e)
    subst e2
    cases h with
    | tup a r => exact .tup (.inl (.inl a.2)) (DxA.dp r e1)
  | .lst xs, _, _, h, e => by
    obtain ⟨ps, e1, e2⟩ := Option.map_eq_some_iff.mp (by simpa only [pyN] using e)
    subst e2
    cases h with
    | lst a r => exact .lst (.inl (.inl a.2)) (DxA.dp r e1)
  | .dct _, _, _, _, e => by simp [pyN] at e
  | .obj _ _, _, _, _, e => by simp [pyN] at e
theorem DxA.dp : ∀ {d : List D} {v : List V} {p : List PyData}, DxA ad (Fz B H) v d → pyNs d = some p → DpAll K H v p
  | [], _, _, h, e => by
    cases h
    cases (Option.some.inj (by simpa only [pyNs] using e : some [] = some _))
    exact .nil
  | x :: xs, _, _, h, e => by
    obtain ⟨p, e1, e2⟩ := Option.bind_eq_some_iff.mp (by simpa only [pyNs] using e)
    obtain ⟨ps, e3, e4⟩ := Option.map_eq_some_iff.mp e2
    subst e4
    cases h with
    | cons a r => exact .cons (Dx.dp a e1) (DxA.dp r e3)
end
mutual
theorem Dx.dv : ∀ {d : D} {v : V} {p : PyData}, Dx ad (Fz B H) v d → pyR d = some p → Dv H v p
  | .non, _, _, h, e => by cases h; cases (Option.some.inj e); exact .non
  | .bl b, _, _, h, e => by cases h; cases (Option.some.inj e); exact .bl b
  | .int b, _, _, h, e => by cases h; cases (Option.some.inj e); exact .int b
  | .str b, _, _, h, e => by cases h; cases (Option.some.inj e); exact .str b
  | .tup xs, _, _, h, e => by
    obtain ⟨ps, e1, e2⟩ := Option.map_eq_some_iff.mp (by simpa only [pyR] using e)
    subst e2
    cases h with
    | tup a r => exact .tup a.2 (DxA.dv r e1)
  | .lst xs, _, _, h, e => by
    obtain ⟨ps, e1, e2⟩ := Option.map_eq_some_iff.mp (by simpa only [pyR] using e)
    subst e2
    cases h with
    | lst a r => exact .lst a.2 (DxA.dv r e1)
  | .dct es, _, _, h, e => by
    obtain ⟨ps, e1, e2⟩ := Option.map_eq_some_iff.mp (by simpa only [pyR] using e)
    subst e2
    cases h with
    | dct a r => exact .dct a.2 (DxK.dv r e1)
  | .obj _ _, _, _, _, e => by simp [pyR] at e
theorem DxA.dv : ∀ {d : List D} {v : List V} {p : List PyData}, DxA ad (Fz B H) v d → pyRs d = some p → DvA H v p
  | [], _, _, h, e => by
    cases h
    cases (Option.some.inj (by simpa only [pyRs] using e : some [] = some _))
    exact .nil
  | x :: xs, _, _, h, e => by
    obtain ⟨p, e1, e2⟩ := Option.bind_eq_some_iff.mp (by simpa only [pyRs] using e)
    obtain ⟨ps, e3, e4⟩ := Option.map_eq_some_iff.mp e2
    subst e4
    cases h with
    | cons a r => exact .cons (Dx.dv a e1) (DxA.dv r e3)
theorem DxK.dv : ∀ {d : List (Key × D)} {v : List (Key × V)} {p : List (PyData × PyData)}, DxK ad (Fz B H) v d → pyRk d = some p → DvK H v p
  | [], _, _, h, e => by
    cases h
    cases (Option.some.inj (by simpa only [pyRk] using e : some [] = some _))
    exact .nil
  | (k, x) :: xs, _, _, h, e => by
    obtain ⟨p, e1, e2⟩ := Option.bind_eq_some_iff.mp (by simpa only [pyRk] using e)
    obtain ⟨ps, e3, e4⟩ := Option.map_eq_some_iff.mp e2
    subst e4
    cases h with
    | cons a r => exact .cons (Dx.dv a e1) (DxK.dv r e3)
end
end
section
variable {X : Cx} {ad : Str → Addr} {E : L2.St → XK} {Ed : DXt} {a b : Expr} {fa fb : DE} {pos : Pos} {es : List Expr} {n : Nat} {ga : DA}
/-! ### arguments -/
def aN : DA := fun _ Q _ => Q []
def aC (f : DE) (g : DA) : DA := fun ρ Q Ed => f ρ (fun d => g ρ (fun as => Q (.dat d :: as)) Ed) Ed
/-- a name as an argument: data, or the source -/
def aV (i : Nat) (g : DA) : DA := fun ρ Q Ed => match ρ[i]? with
  | some (.dat d) => g ρ (fun as => Q (.dat d :: as)) Ed
  | some .src => g ρ (fun as => Q (.src :: as)) Ed
  | _ => False
theorem adN : AD X ad E Ed [] 0 aN := ⟨weakA pa_nil fun σ H Q ⟨B, s, ρ, Qd, W, h, k⟩ => k _ _ H h rfl W.refl .nil⟩
theorem adC (ha : PD X ad E Ed a fa) (hr : AD X ad E Ed es n ga) (hs : starEach (a :: es) X.env = (false, eval a X.env) :: starEach es X.env := by rfl) : AD X ad E Ed (a :: es) (n + 1) (aC fa ga) :=
  ⟨weakA (pa_cons ha.pe hr.pa hs) fun σ H Q ⟨B, s, ρ, Qd, W, h, k⟩ => ⟨B, s, ρ, _, W, h, fun d v H1 hd f1 dv => ⟨B, s, ρ, _, W.frm f1, hd, fun as vs H2 ha hl f2 da =>
    k _ _ H2 ha (congrArg Nat.succ hl) (f1.trans f2) (.cons ((W.frm f1).wd.dx f2 dv) da)⟩⟩⟩
theorem adV {x : Str} (i : Nat) (ha : PE X (.Name x pos) (tVar i)) (hr : AD X ad E Ed es n ga) (hs : starEach (.Name x pos :: es) X.env = (false, eval (.Name x pos) X.env) :: starEach es X.env := by rfl) : AD X ad E Ed (.Name x pos :: es) (n + 1) (aV i ga) :=
  ⟨weakA (pa_cons ha hr.pa hs) fun σ H Q ⟨B, s, ρ, Qd, W, h, k⟩ => by
    unfold aV at h
    split at h
    · rename_i d e
      obtain ⟨v, ev, hv⟩ := W.rep.sl i _ e
      exact ⟨v, ev, B, s, ρ, _, W, h, fun as vs H2 ha hl f2 da => k _ _ H2 ha (congrArg Nat.succ hl) f2 (.cons (W.wd.dx f2 hv) da)⟩
    · rename_i e
      obtain ⟨l, c, es, ev⟩ := W.rep.sl i _ e
      exact ⟨.ref c, ev, B, s, ρ, _, W, h, fun as vs H2 ha hl f2 da => k _ _ H2 ha (congrArg Nat.succ hl) f2 (.cons ⟨l, c, es, rfl⟩ da)⟩
    · exact h.elim⟩
/-- all of them data -/
def dats : List Sl → Option (List D)
  | [] => some []
  | .dat d :: r => (dats r).map (d :: ·)
  | _ => none
theorem dats_ok : ∀ {as : List Sl} {ds : List D}, dats as = some ds → as = ds.map Sl.dat
  | [], ds, h => by cases (Option.some.inj (by simpa only [dats] using h : some [] = some _)); rfl
  | .dat d :: r, ds, h => by
    obtain ⟨ps, e1, e2⟩ := Option.map_eq_some_iff.mp (by simpa only [dats] using h)
    subst e2
    rw [dats_ok e1]; rfl
  | .un :: _, _, h => by simp [dats] at h
  | .own _ :: _, _, h => by simp [dats] at h
  | .ownD _ :: _, _, h => by simp [dats] at h
  | .src :: _, _, h => by simp [dats] at h
  | .exc _ _ _ :: _, _, h => by simp [dats] at h
  | .adr _ :: _, _, h => by simp [dats] at h
/-! ### tuples, lists -/
def eTup (g : DA) : DE := fun ρ Q Ed => g ρ (fun as => match dats as with
  | some ds => Q (.tup ds)
  | none => False) Ed
def eLst (g : DA) : DE := fun ρ Q Ed => g ρ (fun as => match dats as with
  | some ds => Q (.lst ds)
  | none => False) Ed
theorem pdTup {kk : Nat} (h : AD X ad E Ed es n ga) (hn : n ≤ 1000 := by decide) : PD X ad E Ed (.Tuple es kk pos) (eTup ga) :=
  ⟨weakE (pe_tup h.pa) fun σ H Q ⟨B, s, ρ, Qd, W, h, k⟩ => ⟨B, s, ρ, _, W, h, fun as vs H1 ha hl f1 da => by
    split at ha
    · rename_i ds e
      rw [dats_ok e] at da hl
      have := da.length
      refine ⟨by rw [this, hl, sizeLine_eq]; omega, fun p hp => ?_⟩
      have w1 := (W.frm f1).wd
      have f2 := w1.new (o := .tup vs) hp
      exact k _ _ _ ha (f1.trans f2) (.tup ⟨w1.nb hp, upd_same⟩ (da.dat.mono (w1.fz f2)))
    · exact ha.elim⟩⟩
/-! ### operators -/
def oAdd : D → D → (D → Prop) → Prop
  | .int i, .int j, Q => Q (.int (i + j))
  | .lst xs, .lst ys, Q => xs.length + ys.length ≤ 1000000 ∧ Q (.lst (xs ++ ys))
  | .tup xs, .tup ys, Q => xs.length + ys.length ≤ 1000000 ∧ Q (.tup (xs ++ ys))
  | .str x, .str y, Q => x.length + y.length ≤ 1000000 ∧ Q (.str (x ++ y))
  | _, _, _ => False
theorem pdAdd (ha : PD X ad E Ed a fa) (hb : PD X ad E Ed b fb) : PD X ad E Ed (.BinOp a .Add b pos) (e2 oAdd fa fb) := by
  refine pdOp (OpR.or op_add (OpR.or op_cat (OpR.or op_catA op_add_str))) (fun B s H x y dx dy Qd Q w da db h k => ?_) ha hb
  unfold oAdd at h
  split at h
  · cases da; cases db
    exact .inl ⟨_, _, rfl, rfl, k _ _ H h w.refl (.int _)⟩
  · rename_i xs ys
    cases da with
    | lst ea ra => cases db with
      | lst eb rb =>
        have la := ra.length
        have lb := rb.length
        refine .inr (.inl ⟨_, _, _, _, rfl, rfl, ea.2, eb.2, by rw [la, lb, sizeLine_eq]; omega, fun p hp => ?_⟩)
        exact k _ _ _ h.2 (w.new hp) (.lst ⟨w.nb hp, upd_same⟩ ((ra.append rb).mono (w.fz (w.new hp))))
  · rename_i xs ys
    cases da with
    | tup ea ra => cases db with
      | tup eb rb =>
        have la := ra.length
        have lb := rb.length
        refine .inr (.inr (.inl ⟨_, _, _, _, rfl, rfl, .inl (.inl ea.2), .inl (.inl eb.2), by rw [la, lb, sizeLine_eq]; omega, fun e => ?_, fun _ e => ?_, fun _ _ p hp => ?_⟩))
        · subst e
          cases ra
          exact k _ _ _ h.2 w.refl (.tup eb rb)
        · subst e
          cases rb
          rw [List.append_nil] at h
          exact k _ _ _ h.2 w.refl (.tup ea ra)
        · exact k _ _ _ h.2 (w.new hp) (.tup ⟨w.nb hp, upd_same⟩ ((ra.append rb).mono (w.fz (w.new hp))))
  · cases da; cases db
    exact .inr (.inr (.inr ⟨_, _, rfl, rfl, by rw [sizeLine_eq]; omega, k _ _ H h.2 w.refl (.str _)⟩))
  · exact h.elim
def rep (xs : List D) (k : Nat) : List D := (List.replicate k xs).flatten
def oMul : D → D → (D → Prop) → Prop
  | .int i, .int j, Q => CMul i j ∧ Q (.int (i * j))
  | .lst xs, .int k, Q => 0 ≤ k ∧ k ≤ 1000000 ∧ xs.length * k.toNat ≤ 1000000 ∧ Q (.lst (rep xs k.toNat))
  | _, _, _ => False
theorem DxA.rep {F : Addr → HO → Prop} {xs : List V} {ds : List D} (h : DxA ad F xs ds) : ∀ k : Nat, DxA ad F (List.replicate k xs).flatten (DL.rep ds k)
  | 0 => .nil
  | k + 1 => by
    unfold DL.rep
    rw [List.replicate_succ, List.replicate_succ, List.flatten_cons, List.flatten_cons]
    exact h.append (DxA.rep h k)
theorem pdSub (ha : PD X ad E Ed a fa) (hb : PD X ad E Ed b fb) : PD X ad E Ed (.BinOp a .Sub b pos) (e2 (oI fun i j => .int (i - j)) fa fb) := pdOp op_sub (dI fun i j F => .int _) ha hb
theorem pdMod (ha : PD X ad E Ed a fa) (hb : PD X ad E Ed b fb) : PD X ad E Ed (.BinOp a .Mod b pos) (e2 (oIC (fun _ j => 0 < j) fun i j => .int (i % j)) fa fb) := pdOp op_mod (dIC fun i j F => .int _) ha hb
theorem pdPow (ha : PD X ad E Ed a fa) (hb : PD X ad E Ed b fb) : PD X ad E Ed (.BinOp a .Pow b pos) (e2 (oIC CPow fun i j => .int (i ^ j.toNat)) fa fb) := pdOp op_pow (dIC fun i j F => .int _) ha hb
theorem pdShl (ha : PD X ad E Ed a fa) (hb : PD X ad E Ed b fb) : PD X ad E Ed (.BinOp a .LShift b pos) (e2 (oIC CPow fun i j => .int (i * 2 ^ j.toNat)) fa fb) := pdOp op_shl (dIC fun i j F => .int _) ha hb
theorem pdShr (ha : PD X ad E Ed a fa) (hb : PD X ad E Ed b fb) : PD X ad E Ed (.BinOp a .RShift b pos) (e2 (oIC (fun _ j => 0 ≤ j) fun i j => .int (i / 2 ^ j.toNat)) fa fb) := pdOp op_shr (dIC fun i j F => .int _) ha hb
theorem pdAnd (ha : PD X ad E Ed a fa) (hb : PD X ad E Ed b fb) : PD X ad E Ed (.BinOp a .BitAnd b pos) (e2 (oI fun i j => .int (Builtin.bitAnd i j)) fa fb) := pdOp op_and (dI fun i j F => .int _) ha hb
theorem pdXor (ha : PD X ad E Ed a fa) (hb : PD X ad E Ed b fb) : PD X ad E Ed (.BinOp a .BitXor b pos) (e2 (oI fun i j => .int (Builtin.bitXor i j)) fa fb) := pdOp op_xor (dI fun i j F => .int _) ha hb
def e1 (o : D → (D → Prop) → Prop) (fa : DE) : DE := fun ρ Q Ed => fa ρ (fun x => o x Q) Ed
def oI1 (g : Int → D) : D → (D → Prop) → Prop
  | .int i, Q => Q (g i)
  | _, _ => False
theorem pdUn {op : UnaryOp} {g : Int → Int} (ho : UnR X (unaryOp op) (rU fun i => .int (g i))) (ha : PD X ad E Ed a fa) : PD X ad E Ed (.UnaryOp op a pos) (e1 (oI1 fun i => .int (g i)) fa) :=
  ⟨weakE (pe_un ho ha.pe) fun σ H Q ⟨B, s, ρ, Qd, W, h, k⟩ => ⟨B, s, ρ, _, W, h, fun d v H1 hd f1 dv => by
    unfold oI1 at hd
    split at hd
    · cases dv; exact ⟨_, rfl, k _ _ _ hd f1 (.int _)⟩
    · exact hd.elim⟩⟩
theorem pdNeg (ha : PD X ad E Ed a fa) : PD X ad E Ed (.UnaryOp .USub a pos) (e1 (oI1 fun i => .int (-i)) fa) := pdUn un_neg ha
/-! ### comparisons -/
def ng : Bool → Bool → Bool
  | false, c => c
  | true, c => !c
def oEq (neg : Bool) : D → D → (D → Prop) → Prop
  | .int i, .int j, Q => Q (.bl (ng neg (decide (i = j))))
  | .str i, .str j, Q => Q (.bl (ng neg (decide (i = j))))
  | .bl i, .bl j, Q => Q (.bl (ng neg (decide (i = j))))
  | x, y, Q => ∃ p q, pyN x = some p ∧ pyN y = some q ∧ SeqAt.shaped p = true ∧ SeqAt.shaped q = true ∧ Q (.bl (ng neg (PyData.eqv p q)))
theorem xor_f (c : Bool) : ng false c = c := rfl
theorem xor_t (c : Bool) : ng true c = !c := rfl
theorem decV_int {i j : Int} : decide (V.int i = V.int j) = decide (i = j) := by
  by_cases h : i = j
  · subst h; simp
  · rw [decide_eq_false h, decide_eq_false fun e => h (by injection e)]
theorem decV_str {i j : Str} : decide (V.str i = V.str j) = decide (i = j) := by
  by_cases h : i = j
  · subst h; simp
  · rw [decide_eq_false h, decide_eq_false fun e => h (by injection e)]
theorem decV_bl {i j : Bool} : decide (V.bl i = V.bl j) = decide (i = j) := by
  by_cases h : i = j
  · subst h; simp
  · rw [decide_eq_false h, decide_eq_false fun e => h (by injection e)]
theorem dEq {K : PySem.W.Frag} : OpD ad (fun x y H Q => rEq x y H Q ∨ rEqD K x y H Q) (oEq false) := fun B s H x y dx dy Qd Q w da db h k => by
  unfold oEq at h
  split at h
  · cases da; cases db
    rw [xor_f] at h
    exact .inl ⟨rfl, by rw [decV_int]; exact k _ _ H h w.refl (.bl _)⟩
  · cases da; cases db
    rw [xor_f] at h
    exact .inl ⟨rfl, by rw [decV_str]; exact k _ _ H h w.refl (.bl _)⟩
  · cases da; cases db
    rw [xor_f] at h
    exact .inl ⟨rfl, by rw [decV_bl]; exact k _ _ H h w.refl (.bl _)⟩
  · obtain ⟨p, q, e1, e2, e3, e4, h⟩ := h
    rw [xor_f] at h
    exact .inr ⟨p, q, da.dp e1, db.dp e2, e3, e4, k _ _ H h w.refl (.bl _)⟩
theorem dNe {K : PySem.W.Frag} : OpD ad (fun x y H Q => rNe x y H Q ∨ rNeD K x y H Q) (oEq true) := fun B s H x y dx dy Qd Q w da db h k => by
  unfold oEq at h
  split at h
  · cases da; cases db
    rw [xor_t] at h
    exact .inl ⟨rfl, by rw [decV_int]; exact k _ _ H h w.refl (.bl _)⟩
  · cases da; cases db
    rw [xor_t] at h
    exact .inl ⟨rfl, by rw [decV_str]; exact k _ _ H h w.refl (.bl _)⟩
  · cases da; cases db
    rw [xor_t] at h
    exact .inl ⟨rfl, by rw [decV_bl]; exact k _ _ H h w.refl (.bl _)⟩
  · obtain ⟨p, q, e1, e2, e3, e4, h⟩ := h
    rw [xor_t] at h
    exact .inr ⟨p, q, da.dp e1, db.dp e2, e3, e4, k _ _ H h w.refl (.bl _)⟩
theorem pdEq (hu : X.A.units + 64 < cLine) (ha : PD X ad E Ed a fa) (hb : PD X ad E Ed b fb) (hm : behindInMarks .Eq b = false) : PD X ad E Ed (.Compare a [.Eq] [b] pos) (e2 (oEq false) fa fb) := pdCmp (OpR.or op_eq (op_eqD hu)) dEq ha hb hm
theorem tdEq (hu : X.A.units + 64 < cLine) (ha : PD X ad E Ed a fa) (hb : PD X ad E Ed b fb) (hm : behindInMarks .Eq b = false) : TD X ad E Ed (.Compare a [.Eq] [b] pos) (t2 (oEq false) fa fb) := tdCmp (OpR.or op_eq (op_eqD hu)) dEq ha hb hm
theorem tdNe (hu : X.A.units + 64 < cLine) (ha : PD X ad E Ed a fa) (hb : PD X ad E Ed b fb) (hm : behindInMarks .NotEq b = false) : TD X ad E Ed (.Compare a [.NotEq] [b] pos) (t2 (oEq true) fa fb) := tdCmp (OpR.or op_ne (op_neD hu)) dNe ha hb hm
abbrev oLt : D → D → (D → Prop) → Prop := oI fun i j => .bl (decide (i < j))
abbrev oLe : D → D → (D → Prop) → Prop := oI fun i j => .bl (decide (i ≤ j))
abbrev oGt : D → D → (D → Prop) → Prop := oI fun i j => .bl (decide (j < i))
abbrev oGe : D → D → (D → Prop) → Prop := oI fun i j => .bl (decide (j ≤ i))
theorem dLt : OpD ad (rI0 fun i j => .bl (decide (i < j))) oLt := dI fun _ _ _ => .bl _
theorem dLe : OpD ad (rI0 fun i j => .bl (decide (i ≤ j))) oLe := dI fun _ _ _ => .bl _
theorem dGt : OpD ad (rI0 fun i j => .bl (decide (j < i))) oGt := dI fun _ _ _ => .bl _
def oIsN (neg : Bool) : D → D → (D → Prop) → Prop
  | .non, .non, Q => Q (.bl (!neg))
  | _, .non, Q => Q (.bl neg)
  | _, _, _ => False
theorem dIsN : OpD ad (fun x y H Q => y = .non ∧ Q (.bl (decide (x = .non))) H) (oIsN false) := fun B s H x y dx dy Qd Q w da db h k => by
  unfold oIsN at h
  split at h
  · cases da; cases db
    exact ⟨rfl, k _ _ H h w.refl (.bl _)⟩
  · cases db
    refine ⟨rfl, ?_⟩
    have e : decide (x = V.non) = false := by
      cases da <;> first | rfl | (rename_i hn; exact absurd rfl (hn))
    rw [e]
    exact k _ _ H h w.refl (.bl _)
  · exact h.elim
/-! ### tests -/
def tBl (f : DE) : DT := fun ρ Q Ed => f ρ (fun d => match d with
  | .bl c => Q c
  | _ => False) Ed
/-- truth -/
def tru : D → Option Bool
  | .non => some false
  | .bl b => some b
  | .int i => some (i != 0)
  | .lst xs => some (!xs.isEmpty)
  | .tup xs => some (!xs.isEmpty)
  | .dct xs => some (!xs.isEmpty)
  | _ => none
def tTru (f : DE) : DT := fun ρ Q Ed => f ρ (fun d => match tru d with
  | some c => Q c
  | none => False) Ed
theorem DxA.emp {F : Addr → HO → Prop} {xs : List V} {ds : List D} (h : DxA ad F xs ds) : xs.isEmpty = ds.isEmpty := by cases h <;> rfl
theorem DxK.emp {F : Addr → HO → Prop} {xs : List (Key × V)} {ds : List (Key × D)} (h : DxK ad F xs ds) : xs.isEmpty = ds.isEmpty := by cases h <;> rfl
theorem tdTru (h : PD X ad E Ed a fa) (he : ∀ whole, isTrue a X.env whole = (do let v ← whole; standAt a.pos; holding [v] (truthy v)) := by intro _; rfl) : TD X ad E Ed a (tTru fa) :=
  ⟨weakT (pt_truth h.pe he) fun σ H Q ⟨B, s, ρ, Qd, W, h, k⟩ => ⟨B, s, ρ, _, W, h, fun d v H1 hd f1 dv => by
    cases dv with
    | non => exact ⟨_, rfl, k _ H1 hd f1⟩
    | bl b => exact ⟨_, rfl, k _ H1 hd f1⟩
    | int i => exact ⟨_, rfl, k _ H1 hd f1⟩
    | str x => exact hd.elim
    | tup e r => exact ⟨_, .inr (.inl ⟨_, .inl (.inl e.2), rfl⟩), by rw [r.emp]; exact k _ H1 hd f1⟩
    | lst e r => exact ⟨_, .inl ⟨_, .inl (.inl e.2), rfl⟩, by rw [r.emp]; exact k _ H1 hd f1⟩
    | dct e r => exact ⟨_, .inr (.inr ⟨_, e.2, rfl⟩), by rw [r.emp]; exact k _ H1 hd f1⟩
    | obj e r => exact hd.elim⟩⟩
def tN (t : DT) : DT := fun ρ Q Ed => t ρ (fun c => Q (!c)) Ed
theorem tdNot {t : DT} (h : TD X ad E Ed a t) : TD X ad E Ed (.UnaryOp .Not a pos) (tN t) :=
  ⟨weakT (pt_not h.pt) fun σ H Q ⟨B, s, ρ, Qd, W, h, k⟩ => ⟨B, s, ρ, _, W, h, fun c H1 hc f1 => k _ H1 hc f1⟩⟩
structure BD (X : Cx) (ad : Str → Addr) (E : L2.St → XK) (Ed : DXt) (e : Expr) (f : DT) : Prop where
  pw : PW X e (ttD ad E Ed f)
theorem weakW {X : Cx} {e : Expr} {t t' : TT} (h : PW X e t) (k : ∀ σ H Q, t' σ H Q → t σ H Q) : PW X e t' := ⟨fun whole pins s σ H Q I q => h.run whole pins s σ H Q I (k σ H Q q)⟩
def tAn (t u : DT) : DT := fun ρ Q Ed => t ρ (fun c => if c = true then u ρ Q Ed else Q false) Ed
def tOo (t u : DT) : DT := fun ρ Q Ed => t ρ (fun c => if c = true then Q true else u ρ Q Ed) Ed
theorem bdAnd1 {t : DT} (h : TD X ad E Ed a t) : BD X ad E Ed (.BoolOp .And [a] pos) t := ⟨pw_and1 h.pt⟩
theorem bdOr1 {t : DT} (h : TD X ad E Ed a t) : BD X ad E Ed (.BoolOp .Or [a] pos) t := ⟨pw_or1 h.pt⟩
theorem bdAnd {t u : DT} {rest : List Expr} (h : TD X ad E Ed a t) (h2 : BD X ad E Ed (.BoolOp .And (b :: rest) pos) u) : BD X ad E Ed (.BoolOp .And (a :: b :: rest) pos) (tAn t u) :=
  ⟨weakW (pw_and h.pt h2.pw) fun σ H Q ⟨B, s, ρ, Qd, W, h, k⟩ => ⟨B, s, ρ, _, W, h, fun c H1 hc f1 => by
    cases c with
    | true => exact ⟨B, s, ρ, Qd, W.frm f1, hc, fun b H2 hb f2 => k b H2 hb (f1.trans f2)⟩
    | false => exact k _ H1 hc f1⟩⟩
theorem bdOr {t u : DT} {rest : List Expr} (h : TD X ad E Ed a t) (h2 : BD X ad E Ed (.BoolOp .Or (b :: rest) pos) u) : BD X ad E Ed (.BoolOp .Or (a :: b :: rest) pos) (tOo t u) :=
  ⟨weakW (pw_or h.pt h2.pw) fun σ H Q ⟨B, s, ρ, Qd, W, h, k⟩ => ⟨B, s, ρ, _, W, h, fun c H1 hc f1 => by
    cases c with
    | true => exact k _ H1 hc f1
    | false => exact ⟨B, s, ρ, Qd, W.frm f1, hc, fun b H2 hb f2 => k b H2 hb (f1.trans f2)⟩⟩⟩
theorem BD.td {t : DT} (h : BD X ad E Ed a t) : TD X ad E Ed a t := ⟨PW.pt h.pw⟩
/-- chains of comparisons -/
def tCh (o o' : D → D → (D → Prop) → Prop) (fa fb fc : DE) : DT := fun ρ Q Ed => fa ρ (fun x => fb ρ (fun y => o x y fun d => match d with
  | .bl true => fc ρ (fun z => o' y z fun d => match d with | .bl c => Q c | _ => False) Ed
  | .bl false => Q false
  | _ => False) Ed) Ed
end
end DL

set_option Elab.async false
set_option linter.all false
set_option maxRecDepth 100000
set_option maxHeartbeats 2000000
namespace DL
open PySem PySem.Spec PyProof.Rows L2 BT
/-! ### promises by value -/
abbrev DSp := List Sl → (D → Prop) → (Str → D → Prop) → Prop
def spD (ad : Str → Addr) (f : DSp) : Sp := fun vs H Q E => ∃ B s as Qd Xd, Wd B s H ∧ ArA ad B s H vs as ∧ f as Qd Xd ∧ (∀ d v H', Qd d → Frm s H H' → Dx ad (Fz B H') v d → Q v H') ∧
  (∀ cn d v x H', Xd cn d → Frm s H H' → Dx ad (Fz B H') v d → H' x = none → E (.ref (ad cn)) (some x) (upd H' x (.xd [("what", v)])))
/-- of an __init__, called by its class's name -/
def spI (ad : Str → Addr) (c : Str) (f : DSp) : Sp := fun vs H Q E => ∃ x dx us H1 B s as Qd Xd, vs = .ref x :: us ∧ H = upd (upd H1 dx (.own x)) x (.ins (ad c) dx []) ∧ H1 x = none ∧ H1 dx = none ∧ dx ≠ x ∧ Wd B s H1 ∧ ArA ad B s H1 us as ∧ f as Qd Xd ∧
  (∀ d H', Qd d → Frm s H1 H' → Dx ad (Fz B H') (.ref x) d → Q .non H') ∧ (∀ cn d v y H', Xd cn d → Frm s H1 H' → Dx ad (Fz B H') v d → H' y = none → E (.ref (ad cn)) (some y) (upd H' y (.xd [("what", v)])))
abbrev DefX (P : Program) (w : World) (K : PySem.W.Frag) (mg : Str → Option Value) (base : Heap) (ad : Str → Addr) (k : Nat) (x : Str) (ps : List Str) (f : DSp) : Prop := DefOk P w K mg base (L2.CX P w) k x ps (spD ad f)
abbrev DefY (P : Program) (w : World) (K : PySem.W.Frag) (mg : Str → Option Value) (base : Heap) (ad : Str → Addr) (k : Nat) (x : Str) (ps : List Str) (f : DSp) : Prop := DefG P w K mg base k x ps (spD ad f)
abbrev MetX (P : Program) (w : World) (K : PySem.W.Frag) (mg : Str → Option Value) (base : Heap) (ad : Str → Addr) (k : Nat) (c m : Str) (ps : List Str) (f : DSp) : Prop := MethOk P w K mg base (L2.CX P w) k (ad c) m ps (spD ad f)
abbrev MakX (P : Program) (w : World) (K : PySem.W.Frag) (mg : Str → Option Value) (base : Heap) (ad : Str → Addr) (k : Nat) (c : Str) (ps : List Str) (f : DSp) : Prop := MakeOk P w K mg base (L2.CX P w) k (ad c) c ps (spI ad c f)
/-- where nothing may be raised -/
def X0 : DXt := fun _ _ _ => False
section
variable {X : Cx} {ad : Str → Addr} {E : L2.St → XK} {Ed : DXt} {a b e o : Expr} {fa fb fo : DE} {p pos apos p2 : Pos} {es : List Expr} {n k j : Nat} {ga : DA} {x m c : Str} {ps : List Str} {dsp : DSp}
/-- what an expression may let out -/
def Lets (X : Cx) (E : L2.St → XK) : Prop := ∀ σ, PassesAt (L2.CX X.prog X.w) X σ (E σ)
theorem lets0 : Lets X (fun _ => E0) := fun σ pins H s e s' I c => passL pins σ H s e s' I c
theorem letsP {E : XK} (h : Passes (L2.CX X.prog X.w) X E) : Lets X (fun _ => E) := fun σ pins H s e s' I c => h pins σ H s e s' I c
def eCall (f : DSp) (g : DA) : DE := fun ρ Q Ed => g ρ (fun as => f as Q (Ed ρ)) Ed
theorem pdCall (D : DefX X.prog X.w X.K X.mg X.base ad k x ps dsp) (hr : Room j X.A) (hx : Lets X E) (hg : Gl X x) (ha : AD X ad E Ed (e :: es) n ga) (hk : k ≤ j := by decide) (hdb : (x == ("__debug__" : Str)) = false := by decide)
    (he : starEach (e :: es) X.env = (false, eval e X.env) :: starEach es X.env := by rfl) (hpl : (backTo pos (starEach es X.env)).any (·.1) = false := by rfl) : PD X ad E Ed (.Call (.Name x p) (e :: es) [] pos) (eCall dsp ga) :=
  ⟨weakE (pe_dS D hr hg hx ha.pa hk hdb he hpl) fun σ H Q ⟨B, s, ρ, Qd, W, h, kk⟩ => ⟨B, s, ρ, _, W, h, fun as vs H1 ha hl f1 da => ⟨B, s, as, Qd, Ed ρ, (W.frm f1).wd, da, ha, fun d v H' hd f dv => kk d v H' hd (f1.trans f) dv,
    fun cn d v x H' hd f dv hx => W.tie cn d v x H' (f1.trans f) dv hx hd⟩⟩⟩
/-- a def of the law's -/
def eCallG (f : DSp) (g : DA) : DE := fun ρ Q Ed => g ρ (fun as => f as Q fun _ _ => False) Ed
/-! ### methods, makers, fields -/
def eMeth (c m : Str) (f : DSp) (fo : DE) (g : DA) : DE := fun ρ Q Ed => fo ρ (fun o => match o with
  | .obj c' fs => c' = c ∧ fs.lookup m = none ∧ g ρ (fun as => f (.dat (.obj c' fs) :: as) Q (Ed ρ)) Ed
  | _ => False) Ed
theorem pdMeth {pl : Sem Bool} (D : MetX X.prog X.w X.K X.mg X.base ad k c m ps dsp) (cl : Cls X.K (ad c)) (hr : Room j X.A) (hx : Lets X E) (ho : PD X ad E Ed o fo) (ha : AD X ad E Ed (e :: es) n ga) (hk : k ≤ j := by decide)
    (h1 : starEach (e :: es) X.env = (false, eval e X.env) :: starEach es X.env := by rfl) (h2 : (backTo pos (starEach es X.env)).any (·.1) = false := by rfl)
    (h3 : eval (.Call (.Attribute o m apos) (e :: es) [] pos) X.env = (do
      let v ← eval o X.env
      standAt apos.atName
      let (f, first) ← holding [v] (getMethod v m pl)
      callWith pos f first (backTo pos (starEach (e :: es) X.env)) (backToKw pos (keywordEach [] X.env))) := by rfl) : PD X ad E Ed (.Call (.Attribute o m apos) (e :: es) [] pos) (eMeth c m dsp fo ga) :=
  ⟨weakE (pe_mS (pl := pl) D cl ho.pe hr hx ha.pa hk h1 h2 h3) fun σ H Q ⟨B, s, ρ, Qd, W, h, kk⟩ => ⟨B, s, ρ, _, W, h, fun d v H1 hd f1 dv => by
    cases dv with
    | obj ea ra =>
      obtain ⟨rfl, hm, hd⟩ := hd
      refine ⟨_, _, _, rfl, ea.2, ra.lookup_none hm, B, s, ρ, _, W.frm f1, hd, fun as vs H2 ha hl f2 da => ⟨B, s, _, Qd, Ed ρ, ((W.frm f1).frm f2).wd, .cons (a := .dat _) ((W.frm f1).wd.dx f2 (.obj ea ra)) da, ha, fun d v H' hd f dv => kk d v H' hd (f1.trans (f2.trans f)) dv,
        fun cn d v x H' hd f dv hx => W.tie cn d v x H' (f1.trans (f2.trans f)) dv hx hd⟩⟩
    | _ => exact hd.elim⟩⟩
theorem pdMake (D : MakX X.prog X.w X.K X.mg X.base ad k c ps dsp) (hr : Room j X.A) (hx : Lets X E) (hg : Gl X c) (ha : AD X ad E Ed (e :: es) n ga) (hk : k + 1 ≤ j := by decide) (hdb : (c == ("__debug__" : Str)) = false := by decide)
    (he : starEach (e :: es) X.env = (false, eval e X.env) :: starEach es X.env := by rfl) (hpl : (backTo pos (starEach es X.env)).any (·.1) = false := by rfl) : PD X ad E Ed (.Call (.Name c p) (e :: es) [] pos) (eCall dsp ga) :=
  ⟨weakE (pe_mkS D hr hg hx ha.pa hk hdb he hpl) fun σ H Q ⟨B, s, ρ, Qd, W, h, kk⟩ => ⟨B, s, ρ, _, W, h, fun as vs H1 ha hl f1 da => fun x dx hx hdx ne => ⟨x, dx, vs, H1, B, s, as, Qd, Ed ρ, rfl, rfl, hx, hdx, ne, (W.frm f1).wd, da, ha,
    fun d H' hd f dv => ⟨rfl, kk d _ H' hd (f1.trans f) dv⟩, fun cn d v x H' hd f dv hx => W.tie cn d v x H' (f1.trans f) dv hx hd⟩⟩⟩
/-- the classes and their attributes -/
def tabHas (tab : List (Str × List Str)) (c f : Str) : Bool := match tab.lookup c with
  | some fs => fs.any (· == f)
  | none => false
structure ClsTab (K : PySem.W.Frag) (ad : Str → Addr) (tab : List (Str × List Str)) : Prop where
  cls : ∀ c fs, tab.lookup c = some fs → Cls K (ad c)
  no : ∀ c fs, tab.lookup c = some fs → ∀ f ∈ fs, NoAttr K (ad c) f
def eFld (tab : List (Str × List Str)) (f : Str) (fo : DE) : DE := fun ρ Q Ed => fo ρ (fun o => match o with
  | .obj c fs => match fs.lookup f with
    | some d => tabHas tab c f = true ∧ Q d
    | none => False
  | _ => False) Ed
theorem pdFld {tab : List (Str × List Str)} {f : Str} (T : ClsTab X.K ad tab) (ho : PD X ad E Ed o fo) (hb : attributeBase o f X.env (eval o X.env) = eval o X.env) : PD X ad E Ed (.Attribute o f pos) (eFld tab f fo) :=
  ⟨weakE (pe_fld ho.pe hb) fun σ H Q ⟨B, s, ρ, Qd, W, h, kk⟩ => ⟨B, s, ρ, _, W, h, fun d v H1 hd f1 dv => by
    cases dv with
    | obj ea ra =>
      rename_i c fvs fs
      dsimp only at hd
      cases hl : fs.lookup f with
      | none => rw [hl] at hd; exact hd.elim
      | some d =>
        rw [hl] at hd
        obtain ⟨ht, hd⟩ := hd
        obtain ⟨v, hv, dv⟩ := ra.lookup hl
        unfold tabHas at ht
        split at ht
        · rename_i gs eg
          obtain ⟨g, hg, e⟩ := List.any_eq_true.mp ht
          have e := eq_of_beq e
          subst e
          exact ⟨_, _, _, _, v, rfl, ea.2, T.cls _ _ eg, T.no _ _ eg _ hg, hv, kk d v H1 hd f1 dv⟩
        · cases ht
    | _ => exact hd.elim⟩⟩
/-! ### chains -/
theorem tdChain {op op' : CmpOp} {r r' : R2} {o1 o2 : D → D → (D → Prop) → Prop} {c : Expr} {fc : DE} (ho : OpR X (compareOp op) r) (ho' : OpR X (compareOp op') r') (h1 : OpD ad r o1) (h2 : OpD ad r' o2) (ha : PD X ad E Ed a fa) (hb : PD X ad E Ed b fb) (hc : PD X ad E Ed c fc)
    (pt : ∀ {ta tb tc : TE}, PE X a ta → PE X b tb → PE X c tc → PT X (.Compare a [op, op'] [b, c] pos) (tTest (tChain r r' ta tb tc))) : TD X ad E Ed (.Compare a [op, op'] [b, c] pos) (tCh o1 o2 fa fb fc) :=
  ⟨weakT (pt ha.pe hb.pe hc.pe) fun σ H Q ⟨B, s, ρ, Qd, W, h, k⟩ => ⟨B, s, ρ, _, W, h, fun x v H1 hx f1 dx => ⟨B, s, ρ, _, W.frm f1, hx, fun y u H2 hy f2 dy =>
    h1 B s H2 v u x y _ _ (W.frm (f1.trans f2)).wd ((W.frm f1).wd.dx f2 dx) dy hy fun d v' H3 hd f3 dd => by
      cases d with
      | bl c =>
        cases dd
        cases c with
        | true => exact ⟨true, rfl, iteT ⟨B, s, ρ, _, W.frm (f1.trans (f2.trans f3)), hd, fun z z' H4 hz f4 dz => h2 B s H4 u z' y z _ _ (W.frm (f1.trans (f2.trans (f3.trans f4)))).wd ((W.frm (f1.trans f2)).wd.dx (f3.trans f4) dy) dz hz fun d2 w' H5 hd2 f5 dd2 => by
            cases d2 with
            | bl c => cases dd2; exact ⟨c, rfl, k c H5 hd2 (f1.trans (f2.trans (f3.trans (f4.trans f5))))⟩
            | _ => exact hd2.elim⟩⟩
        | false => exact ⟨false, rfl, iteF ⟨false, rfl, k false H3 hd (f1.trans (f2.trans f3))⟩⟩
      | _ => exact hd.elim⟩⟩⟩
/-! ### subscripts, slices -/
theorem DxA.at_ {F : Addr → HO → Prop} {vs : List V} {ds : List D} {i : Int} {d : D} (h : DxA ad F vs ds) (e : atI ds i = some d) : ∃ v, atI vs i = some v ∧ Dx ad F v d := by
  unfold atI at e ⊢
  rw [h.length]
  cases q : ixN ds.length i with
  | none => rw [q] at e; cases e
  | some j =>
    rw [q] at e
    exact h.getD e
def oIx : D → D → (D → Prop) → Prop
  | .lst xs, .int i, Q => (match atI xs i with | some d => Q d | none => False)
  | .tup xs, .int i, Q => (match atI xs i with | some d => Q d | none => False)
  | _, _, _ => False
theorem pdIx (ha : PD X ad E Ed a fa) (hb : PD X ad E Ed b fb) (hs : PlainIx b) : PD X ad E Ed (.Subscript a b pos) (e2 oIx fa fb) :=
  ⟨weakE (pe_ix (IxR.or ix_list ix_tup) ha.pe hb.pe hs) (e2_of fun B s H x y dx dy Qd Q w da db h k => by
    unfold oIx at h
    split at h
    · split at h
      · rename_i e
        cases db
        cases da with
        | lst ea ra =>
          obtain ⟨v, hv, dv⟩ := ra.at_ e
          exact .inl ⟨_, _, _, v, rfl, rfl, .inl (.inl ea.2), hv, k _ _ H h w.refl dv⟩
      · exact h.elim
    · split at h
      · rename_i e
        cases db
        cases da with
        | tup ea ra =>
          obtain ⟨v, hv, dv⟩ := ra.at_ e
          exact .inr ⟨_, _, _, v, rfl, rfl, .inl (.inl ea.2), hv, k _ _ H h w.refl dv⟩
      · exact h.elim
    · exact h.elim)⟩
abbrev DO := List Sl → (Option Int → Prop) → DXt → Prop
def toD (ad : Str → Addr) (E : L2.St → XK) (Ed : DXt) (f : DO) : TO := fun σ H Q => ∃ B s ρ Qd, Wl ad E Ed B s ρ σ H ∧ f ρ Qd Ed ∧ ∀ b H', Qd b → Frm s H H' → Q b H'
structure OD (X : Cx) (ad : Str → Addr) (E : L2.St → XK) (Ed : DXt) (e : Option Expr) (f : DO) : Prop where
  po : PO X e (toD ad E Ed f)
theorem weakO {X : Cx} {e : Option Expr} {t t' : TO} (h : PO X e t) (k : ∀ σ H Q, t' σ H Q → t σ H Q) : PO X e t' := ⟨fun pins s σ H Q I q => h.run pins s σ H Q I (k σ H Q q)⟩
def oNo : DO := fun _ Q _ => Q none
def oPt (f : DE) : DO := fun ρ Q Ed => f ρ (fun d => match d with
  | .int i => Q (some i)
  | _ => False) Ed
theorem odNo : OD X ad E Ed none oNo := ⟨weakO po_none fun σ H Q ⟨B, s, ρ, Qd, W, h, k⟩ => k _ H h W.refl⟩
theorem odPt (h : PD X ad E Ed e fa) : OD X ad E Ed (some e) (oPt fa) := ⟨weakO (po_some h.pe) fun σ H Q ⟨B, s, ρ, Qd, W, h, k⟩ => ⟨B, s, ρ, _, W, h, fun d v H1 hd f1 dv => by
    cases d with
    | int i => cases dv; exact ⟨i, rfl, k _ H1 hd f1⟩
    | _ => exact hd.elim⟩⟩
def cutD (xs : List D) (lo hi : Option Int) : List D := (xs.drop (HT.sIx xs.length 0 lo)).take (HT.sIx xs.length xs.length hi - HT.sIx xs.length 0 lo)
theorem DxA.cut {F : Addr → HO → Prop} {vs : List V} {ds : List D} (h : DxA ad F vs ds) (lo hi : Option Int) : DxA ad F (cutV vs lo hi) (cutD ds lo hi) := by
  unfold cutV cutD
  rw [h.length]
  exact (h.drop _).take _
theorem cut_whole {F : Addr → HO → Prop} {vs : List V} {ds : List D} {lo hi : Option Int} (h : DxA ad F vs ds) (hw : HT.sIx vs.length 0 lo = 0 ∧ HT.sIx vs.length vs.length hi = vs.length) : cutD ds lo hi = ds := by
  unfold cutD
  rw [h.length] at hw
  rw [hw.1, hw.2, List.drop_zero, Nat.sub_zero, List.take_length]
def eSl (fa : DE) (lo hi : DO) : DE := fun ρ Q Ed => fa ρ (fun x => lo ρ (fun l => hi ρ (fun u => match x with
  | .lst xs => Q (.lst (cutD xs l u))
  | .tup xs => Q (.tup (cutD xs l u))
  | _ => False) Ed) Ed) Ed
theorem pdSl {lo hi : Option Expr} {fl fh : DO} (ha : PD X ad E Ed a fa) (hl : OD X ad E Ed lo fl) (hh : OD X ad E Ed hi fh) : PD X ad E Ed (.Subscript a (.Slice lo hi none p2) pos) (eSl fa fl fh) :=
  ⟨weakE (pe_slice (SlR.or sl_list sl_tupA) ha.pe hl.po hh.po) fun σ H Q ⟨B, s, ρ, Qd, W, h, k⟩ => ⟨B, s, ρ, _, W, h, fun x v H1 hx f1 dx => ⟨B, s, ρ, _, W.frm f1, hx, fun l H2 hl f2 => ⟨B, s, ρ, _, (W.frm f1).frm f2, hl, fun u H3 hu f3 => by
    have w3 := (((W.frm f1).frm f2).frm f3).wd
    have ff := f1.trans (f2.trans f3)
    have dx := (W.frm f1).wd.dx (f2.trans f3) dx
    split at hu
    · cases dx with
      | lst ea ra => exact .inl ⟨_, _, rfl, .inl (.inl ea.2), fun p hp => k _ _ _ hu (ff.trans (w3.new hp)) (.lst ⟨w3.nb hp, upd_same⟩ ((ra.cut l u).mono (w3.fz (w3.new hp))))⟩
    · cases dx with
      | tup ea ra =>
        refine .inr ⟨_, _, rfl, .inl (.inl ea.2), fun hw => ?_, fun _ p hp => k _ _ _ hu (ff.trans (w3.new hp)) (.tup ⟨w3.nb hp, upd_same⟩ ((ra.cut l u).mono (w3.fz (w3.new hp))))⟩
        refine k _ _ _ hu ff ?_
        rw [cut_whole ra hw]
        exact .tup ea ra
    · exact hu.elim⟩⟩⟩⟩
/-! ### built-ins -/
/-- a call of a built-in with data: r by values, o by data -/
def CaD (ad : Str → Addr) (r : List V → Hp → VK → Prop) (o : List D → (D → Prop) → Prop) : Prop := ∀ (B : Addr → Prop) (s : SO) (H : Hp) (vs : List V) (ds : List D) (Qd : D → Prop) (Q : VK), Wd B s H → DxA ad (Fz B H) vs ds → o ds Qd →
  (∀ d v H', Qd d → Frm s H H' → Dx ad (Fz B H') v d → Q v H') → r vs H Q
def eB (o : List D → (D → Prop) → Prop) (g : DA) : DE := fun ρ Q Ed => g ρ (fun as => match dats as with
  | some ds => o ds Q
  | none => False) Ed
theorem eB_of {r : List V → Hp → VK → Prop} {o : List D → (D → Prop) → Prop} (hr : CaD ad r o) : ∀ σ H Q, teD ad E Ed (eB o ga) σ H Q → tCB r (taD ad E Ed n ga) σ H Q := fun σ H Q ⟨B, s, ρ, Qd, W, h, k⟩ => ⟨B, s, ρ, _, W, h, fun as vs H1 ha hl f1 da => by
    split at ha
    · rename_i ds e
      rw [dats_ok e] at da
      exact hr B s H1 vs ds Qd Q (W.frm f1).wd da.dat ha fun d v H' hd f dv => k d v H' hd (f1.trans f) dv
    · exact ha.elim⟩
theorem pdB {id : String} {r : List V → Hp → VK → Prop} {o : List D → (D → Prop) → Prop} (hc : CallR X (.builtin id) r) (hr : CaD ad r o) (hg : Gl X x) (hm : X.mg x = none) (hv : bootBuiltins x = some (.builtin id)) (ha : AD X ad E Ed (e :: es) n ga)
    (hn : x ≠ "__name__" := by decide) (hdb : (x == ("__debug__" : Str)) = false := by decide) (he : starEach (e :: es) X.env = (false, eval e X.env) :: starEach es X.env := by rfl) (hpl : (backTo pos (starEach es X.env)).any (·.1) = false := by rfl) :
    PD X ad E Ed (.Call (.Name x p) (e :: es) [] pos) (eB o ga) := ⟨weakE (pe_callB hc hg hm hv ha.pa hn hdb he hpl) (eB_of hr)⟩
theorem pdTy {T : String} {r : List V → Hp → VK → Prop} {o : List D → (D → Prop) → Prop} (hc : CallR X (.type T) r) (hr : CaD ad r o) (hg : Gl X x) (hm : X.mg x = none) (hv : bootBuiltins x = some (.type T)) (ha : AD X ad E Ed (e :: es) n ga)
    (hn : x ≠ "__name__" := by decide) (hdb : (x == ("__debug__" : Str)) = false := by decide) (he : starEach (e :: es) X.env = (false, eval e X.env) :: starEach es X.env := by rfl) (hpl : (backTo pos (starEach es X.env)).any (·.1) = false := by rfl) :
    PD X ad E Ed (.Call (.Name x p) (e :: es) [] pos) (eB o ga) := ⟨weakE (pe_callTy hc hg hm hv ha.pa hn hdb he hpl) (eB_of hr)⟩
def oLen : List D → (D → Prop) → Prop
  | [.lst xs], Q => Q (.int xs.length)
  | [.tup xs], Q => Q (.int xs.length)
  | [.dct xs], Q => Q (.int xs.length)
  | _, _ => False
theorem DxK.length {F : Addr → HO → Prop} : ∀ {xs : List (Key × V)} {ds : List (Key × D)}, DxK ad F xs ds → xs.length = ds.length
  | _, _, .nil => rfl
  | _, _, .cons _ r => congrArg Nat.succ (DxK.length r)
theorem pdLen (hg : Gl X "len") (hm : X.mg "len" = none) (ha : AD X ad E Ed [e] n ga) (he : starEach [e] X.env = (false, eval e X.env) :: starEach [] X.env := by rfl) (hpl : (backTo pos (starEach [] X.env)).any (·.1) = false := by rfl) : PD X ad E Ed (.Call (.Name "len" p) [e] [] pos) (eB oLen ga) :=
  pdB (CallR.or call_len_seq call_lenD) (fun B s H vs ds Qd Q w da h k => by
    unfold oLen at h
    split at h
    · cases da with
      | cons a r => cases r; cases a with
        | lst ea ra => exact .inl ⟨_, _, rfl, .inl (.inl (.inl ea.2)), k _ _ H h w.refl (by rw [ra.length]; exact .int _)⟩
    · cases da with
      | cons a r => cases r; cases a with
        | tup ea ra => exact .inl ⟨_, _, rfl, .inr (.inl (.inl ea.2)), k _ _ H h w.refl (by rw [ra.length]; exact .int _)⟩
    · cases da with
      | cons a r => cases r; cases a with
        | dct ea ra => exact .inr ⟨_, _, rfl, ea.2, k _ _ H h w.refl (by rw [ra.length]; exact .int _)⟩
    · exact h.elim) hg hm PySem.boot_len ha (by decide) (by decide) he hpl
def oList : List D → (D → Prop) → Prop
  | [.lst xs], Q => Q (.lst xs)
  | [.tup xs], Q => Q (.lst xs)
  | _, _ => False
def oTuple : D → (D → Prop) → Prop
  | .lst xs, Q => Q (.tup xs)
  | .tup xs, Q => Q (.tup xs)
  | _, _ => False
theorem pdTuple (hg : Gl X "tuple") (hm : X.mg "tuple" = none) (ha : PD X ad E Ed a fa) (he : starEach [a] X.env = (false, eval a X.env) :: starEach [] X.env := by rfl) : PD X ad E Ed (.Call (.Name "tuple" p) [a] [] pos) (e1 oTuple fa) :=
  ⟨weakE (pe_tupleOf hg hm ha.pe he) fun σ H Q ⟨B, s, ρ, Qd, W, h, k⟩ => ⟨B, s, ρ, _, W, h, fun d v H1 hd f1 dv => by
    have w := (W.frm f1).wd
    unfold oTuple at hd
    split at hd
    · cases dv with
      | lst ea ra => exact .inl ⟨_, _, rfl, .inl (.inl ea.2), fun l hl => k _ _ _ hd (f1.trans (w.new hl)) (.tup ⟨w.nb hl, upd_same⟩ (ra.mono (w.fz (w.new hl))))⟩
    · cases dv with
      | tup ea ra => exact .inr ⟨_, _, rfl, .inl (.inl ea.2), k _ _ _ hd f1 (.tup ea ra)⟩
    · exact hd.elim⟩⟩
def oAbs : List D → (D → Prop) → Prop
  | [.int i], Q => Q (.int (if i < 0 then -i else i))
  | _, _ => False
def oMin2 : List D → (D → Prop) → Prop
  | [.int i, .int j], Q => Q (.int (if j < i then j else i))
  | _, _ => False
def oInt1 : List D → (D → Prop) → Prop
  | [.int i], Q => Q (.int i)
  | [.bl b], Q => Q (.int (if b then 1 else 0))
  | _, _ => False
theorem pdInt1 (hg : Gl X "int") (hm : X.mg "int" = none) (ha : AD X ad E Ed [e] n ga) (he : starEach [e] X.env = (false, eval e X.env) :: starEach [] X.env := by rfl) (hpl : (backTo pos (starEach [] X.env)).any (·.1) = false := by rfl) : PD X ad E Ed (.Call (.Name "int" p) [e] [] pos) (eB oInt1 ga) :=
  pdTy call_int1 (fun B s H vs ds Qd Q w da h k => by
    unfold oInt1 at h
    split at h
    · cases da with
      | cons a r => cases r; cases a; exact .inl ⟨_, rfl, k _ _ H h w.refl (.int _)⟩
    · cases da with
      | cons a r => cases r; cases a; exact .inr ⟨_, rfl, k _ _ H h w.refl (.int _)⟩
    · exact h.elim) hg hm PyProof.Rows.boot_int ha (by decide) (by decide) he hpl
/-- repr: of data that is short -/
def oRepr : List D → (D → Prop) → Prop
  | [d], Q => (match d with | .tup _ => True | .lst _ => True | .dct _ => True | _ => False) ∧ ∃ p, pyR d = some p ∧ Sr p ∧ Q (.str p.shown)
  | _, _ => False
end
end DL

set_option Elab.async false
set_option linter.all false
set_option maxRecDepth 100000
set_option maxHeartbeats 2000000
namespace DL
open PySem PySem.Spec PyProof.Rows L2 BT
/-! ### statements -/
structure Ct where
  A : Addr → Prop
  s : SO
  Z : Addr → HO → Prop
  ar : Bool := true
def Bl (c : Ct) (P : Nat → Option Addr) : Addr → Prop := fun b => c.A b ∨ ∃ i, P i = some b
structure Rep (ad : Str → Addr) (c : Ct) (P : Nat → Option Addr) (H : Hp) (σ : L2.St) (ρ : List Sl) : Prop where
  wd : Wd (Bl c P) c.s H
  sa : ∀ l a, c.s = some (l, a) → c.A a ∧ c.A l ∧ ∀ o, ¬ c.Z a o
  z : ∀ b o, c.Z b o → H b = some o
  ow : ∀ i p, P i = some p → ¬ c.A p ∧ ∀ o, ¬ c.Z p o
  inj : ∀ i j p, P i = some p → P j = some p → i = j
  sl : ∀ (i : Nat) (sl : Sl), ρ[i]? = some sl → SlR ad (Bl c P) c.s H (σ[i]?) sl
  own : ∀ (i : Nat) (xs : List D), ρ[i]? = some (.own xs) → ∃ p, P i = some p ∧ σ[i]? = some (some (.ref p))
  ownD : ∀ (i : Nat) (xs : List (Key × D)), ρ[i]? = some (.ownD xs) → ∃ p, P i = some p ∧ σ[i]? = some (some (.ref p))
  len : σ.length = ρ.length
/-- c' is c, some fresh places more blocked, more that stands; another source, if c has none of its caller's -/
structure CtLe (c c' : Ct) : Prop where
  A : ∀ b, c.A b → c'.A b
  Z : ∀ b o, c.Z b o → c'.Z b o
  n : ∀ b, c'.A b → c.A b ∨ ∀ o, ¬ c.Z b o
  s : c.ar = true → c'.s = c.s
  r : c'.ar = c.ar
theorem CtLe.refl (c : Ct) : CtLe c c := ⟨fun _ h => h, fun _ _ h => h, fun _ h => .inl h, fun _ => rfl, rfl⟩
theorem CtLe.trans {a b c : Ct} (h : CtLe a b) (k : CtLe b c) : CtLe a c := ⟨fun x q => k.A x (h.A x q), fun x o q => k.Z x o (h.Z x o q), fun x q => (k.n x q).elim (h.n x) (fun z => .inr fun o y => z o (h.Z x o y)), fun q => by rw [k.s (by rw [h.r]; exact q), h.s q], by rw [k.r, h.r]⟩
theorem CtLe.bl {c c' : Ct} {P : Nat → Option Addr} (h : CtLe c c') : ∀ b, Bl c P b → Bl c' P b := fun b q => q.imp (h.A b) id
structure TieC (ad : Str → Addr) (E : L2.St → XK) (Ed : DXt) (c : Ct) : Prop where
  t' : ∀ c', CtLe c c' → ∀ P σ ρ H cn d v x, Rep ad c' P H σ ρ → Dx ad (Fz (Bl c' P) H) v d → H x = none → Ed ρ cn d → E σ (.ref (ad cn)) (some x) (upd H x (.xd [("what", v)]))
theorem TieC.t {ad : Str → Addr} {E : L2.St → XK} {Ed : DXt} {c : Ct} (h : TieC ad E Ed c) : ∀ P σ ρ H cn d v x, Rep ad c P H σ ρ → Dx ad (Fz (Bl c P) H) v d → H x = none → Ed ρ cn d → E σ (.ref (ad cn)) (some x) (upd H x (.xd [("what", v)])) := h.t' c (CtLe.refl c)
theorem TieC.up {ad : Str → Addr} {E : L2.St → XK} {Ed : DXt} {c c' : Ct} (h : TieC ad E Ed c) (l : CtLe c c') : TieC ad E Ed c' := ⟨fun c2 l2 => h.t' c2 (l.trans l2)⟩
structure DEnds where
  nx : List Sl → Prop
  ct : List Sl → Prop := fun _ => False
  bk : List Sl → Prop := fun _ => False
  rt : D → Prop
  /-- a new list is returned that nothing else holds -/
  ro : List D → Prop := fun _ => False
  /-- the source is one's own: another may be taken -/
  fr : Bool := false
/-- a list that is new since the body began, held by nothing else -/
structure NewL (ad : Str → Addr) (c : Ct) (P : Nat → Option Addr) (H : Hp) (p : Addr) (vs : List V) (xs : List D) : Prop where
  nb : ¬ Bl c P p
  nz : ∀ o, ¬ c.Z p o
  at_ : H p = some (.lst vs)
  da : DxA ad (Fz (fun b => Bl c P b ∨ b = p) H) vs xs
structure EnT (ad : Str → Addr) (c : Ct) (De : DEnds) (Dn : Ends) : Prop where
  nx' : ∀ c', CtLe c c' → ∀ P σ ρ H, Rep ad c' P H σ ρ → De.nx ρ → Dn.nx σ H
  ct' : ∀ c', CtLe c c' → ∀ P σ ρ H, Rep ad c' P H σ ρ → De.ct ρ → Dn.ct σ H
  bk' : ∀ c', CtLe c c' → ∀ P σ ρ H, Rep ad c' P H σ ρ → De.bk ρ → Dn.bk σ H
  rt' : ∀ c', CtLe c c' → ∀ P σ ρ H d v, Rep ad c' P H σ ρ → Dx ad (Fz (Bl c' P) H) v d → De.rt d → Dn.rt v H
  ro' : ∀ c', CtLe c c' → ∀ P σ ρ H p vs xs, Rep ad c' P H σ ρ → NewL ad c' P H p vs xs → De.ro xs → Dn.rt (.ref p) H
  fr : De.fr = true → c.ar = false
section
variable {ad : Str → Addr} {c c' : Ct} {De : DEnds} {Dn : Ends}
theorem EnT.nx (h : EnT ad c De Dn) : ∀ P σ ρ H, Rep ad c P H σ ρ → De.nx ρ → Dn.nx σ H := h.nx' c (CtLe.refl c)
theorem EnT.ct (h : EnT ad c De Dn) : ∀ P σ ρ H, Rep ad c P H σ ρ → De.ct ρ → Dn.ct σ H := h.ct' c (CtLe.refl c)
theorem EnT.bk (h : EnT ad c De Dn) : ∀ P σ ρ H, Rep ad c P H σ ρ → De.bk ρ → Dn.bk σ H := h.bk' c (CtLe.refl c)
theorem EnT.rt (h : EnT ad c De Dn) : ∀ P σ ρ H d v, Rep ad c P H σ ρ → Dx ad (Fz (Bl c P) H) v d → De.rt d → Dn.rt v H := h.rt' c (CtLe.refl c)
theorem EnT.up (h : EnT ad c De Dn) (l : CtLe c c') : EnT ad c' De Dn := ⟨fun c2 l2 => h.nx' c2 (l.trans l2), fun c2 l2 => h.ct' c2 (l.trans l2), fun c2 l2 => h.bk' c2 (l.trans l2), fun c2 l2 => h.rt' c2 (l.trans l2), fun c2 l2 => h.ro' c2 (l.trans l2), fun q => by rw [l.r]; exact h.fr q⟩
end
abbrev DS := DEnds → List Sl → DXt → Prop
def tsD (ad : Str → Addr) (E : L2.St → XK) (Ed : DXt) (g : DS) : TS := fun Dn σ H => ∃ c P ρ De, Rep ad c P H σ ρ ∧ TieC ad E Ed c ∧ EnT ad c De Dn ∧ g De ρ Ed
structure SD (X : Cx) (ad : Str → Addr) (E : L2.St → XK) (Ed : DXt) (st : Stmt) (g : DS) : Prop where
  ps : PS X st (tsD ad E Ed g)
structure BS (X : Cx) (ad : Str → Addr) (E : L2.St → XK) (Ed : DXt) (st : List Stmt) (g : DS) : Prop where
  ps : PSs X st (tsD ad E Ed g)
section
variable {ad : Str → Addr} {c : Ct} {P : Nat → Option Addr} {H H1 : Hp} {σ : L2.St} {ρ : List Sl} {E : L2.St → XK} {Ed : DXt}
theorem Rep.frm (r : Rep ad c P H σ ρ) (f : Frm c.s H H1) : Rep ad c P H1 σ ρ :=
  ⟨r.wd.frm f, r.sa, fun b o h => f.st b o (fun l a e q => (r.sa l a e).2.2 o (q ▸ h)) (r.z b o h), r.ow, r.inj, fun i sl e => (r.sl i sl e).frm r.wd f, r.own, r.ownD, r.len⟩
theorem Rep.wl (r : Rep ad c P H σ ρ) (t : TieC ad E Ed c) : Wl ad E Ed (Bl c P) c.s ρ σ H := ⟨⟨r.wd, r.sl, r.len⟩, fun cn d v x H' f dv hx he => t.t P σ ρ H' cn d v x (r.frm f) dv hx he⟩
theorem Rep.refl (r : Rep ad c P H σ ρ) : Frm c.s H H := r.wd.refl
def rm (P : Nat → Option Addr) (i : Nat) : Nat → Option Addr := fun j => if j = i then none else P j
def st (P : Nat → Option Addr) (i : Nat) (p : Addr) : Nat → Option Addr := fun j => if j = i then some p else P j
theorem rm_some {i j : Nat} {p : Addr} (h : rm P i j = some p) : P j = some p ∧ j ≠ i := by
  unfold rm at h
  split at h
  · cases h
  · rename_i n; exact ⟨h, n⟩
theorem bl_rm (i : Nat) : ∀ b, Bl c (rm P i) b → Bl c P b := fun b h => h.imp id fun ⟨j, e⟩ => ⟨j, (rm_some e).1⟩
theorem fz_rm (i : Nat) : ∀ b o, Fz (Bl c P) H b o → Fz (Bl c (rm P i)) H b o := fun b o h => ⟨fun q => h.1 (bl_rm i b q), h.2⟩
theorem SlR.rm {i j : Nat} {o : Option (Option V)} (hji : j ≠ i) : ∀ {sl : Sl}, SlR ad (Bl c P) c.s H o sl → ((∃ xs, sl = .own xs) ∨ (∃ xs, sl = .ownD xs) → ∃ p, P j = some p ∧ o = some (some (.ref p))) → SlR ad (Bl c (rm P i)) c.s H o sl
  | .un, h, _ => h
  | .dat d, ⟨v, e, h⟩, _ => ⟨v, e, h.mono (fz_rm i)⟩
  | .own xs, ⟨p, vs, e, b, n, h, r⟩, k => by
    obtain ⟨q, e1, e2⟩ := k (.inl ⟨_, rfl⟩)
    rw [e] at e2
    have : p = q := by injection e2 with e2; injection e2 with e2; injection e2
    subst this
    exact ⟨p, vs, e, .inr ⟨j, by unfold DL.rm; rw [if_neg hji]; exact e1⟩, n, h, r.mono (fz_rm i)⟩
  | .ownD xs, ⟨p, vs, e, b, n, h, r⟩, k => by
    obtain ⟨q, e1, e2⟩ := k (.inr ⟨_, rfl⟩)
    rw [e] at e2
    have : p = q := by injection e2 with e2; injection e2 with e2; injection e2
    subst this
    exact ⟨p, vs, e, .inr ⟨j, by unfold DL.rm; rw [if_neg hji]; exact e1⟩, n, h, r.mono (fz_rm i)⟩
  | .src, h, _ => h
  | .exc a x d, ⟨v, e, h, r⟩, _ => ⟨v, e, h, r.mono (fz_rm i)⟩
  | .scr K, ⟨a, ns, e, h⟩, _ => ⟨a, ns, e, h.mono (fz_rm i)⟩
  | .adr a, h, _ => h
theorem Rep.ownAt (r : Rep ad c P H σ ρ) {j : Nat} {sl : Sl} (e : ρ[j]? = some sl) : ((∃ xs, sl = .own xs) ∨ (∃ xs, sl = .ownD xs) → ∃ p, P j = some p ∧ σ[j]? = some (some (.ref p))) := fun h => by
  rcases h with ⟨xs, rfl⟩ | ⟨xs, rfl⟩
  · exact r.own j xs e
  · exact r.ownD j xs e
/-- a slot is given a value, what it owned is let go -/
theorem Rep.setS (r : Rep ad c P H σ ρ) {i : Nat} {v : Option V} {sl : Sl} (hs : ∀ xs, sl ≠ .own xs) (hd : ∀ xs, sl ≠ .ownD xs) (h : SlR ad (Bl c (rm P i)) c.s H (some v) sl) : Rep ad c (rm P i) H (σ.set i v) (ρ.set i sl) := by
  refine ⟨⟨fun b q => r.wd.al b (bl_rm i b q), fun l a e => ⟨(r.wd.sr l a e).1, .inl (r.sa l a e).1, .inl (r.sa l a e).2.1⟩⟩, r.sa, r.z, fun j p e => r.ow j p (rm_some e).1, fun j k p e1 e2 => r.inj j k p (rm_some e1).1 (rm_some e2).1, fun j sl' e => ?_, fun j xs e => ?_, fun j xs e => ?_, by rw [List.length_set, List.length_set, r.len]⟩
  · by_cases hj : j = i
    · subst hj
      by_cases hl : j < ρ.length
      · rw [List.getElem?_set_self hl] at e
        cases e
        rw [List.getElem?_set_self (by rw [r.len]; exact hl)]
        exact h
      · rw [List.getElem?_eq_none (by rw [List.length_set]; omega)] at e; cases e
    · rw [List.getElem?_set_ne (Ne.symm hj)] at e ⊢
      exact (r.sl j sl' e).rm hj (r.ownAt e)
  · by_cases hj : j = i
    · subst hj
      by_cases hl : j < ρ.length
      · rw [List.getElem?_set_self hl] at e
        exact absurd (Option.some.inj e) (hs xs)
      · rw [List.getElem?_eq_none (by rw [List.length_set]; omega)] at e; cases e
    · rw [List.getElem?_set_ne (Ne.symm hj)] at e ⊢
      obtain ⟨p, h1, h2⟩ := r.own j xs e
      exact ⟨p, by unfold rm; rw [if_neg hj]; exact h1, h2⟩
  · by_cases hj : j = i
    · subst hj
      by_cases hl : j < ρ.length
      · rw [List.getElem?_set_self hl] at e
        exact absurd (Option.some.inj e) (hd xs)
      · rw [List.getElem?_eq_none (by rw [List.length_set]; omega)] at e; cases e
    · rw [List.getElem?_set_ne (Ne.symm hj)] at e ⊢
      obtain ⟨p, h1, h2⟩ := r.ownD j xs e
      exact ⟨p, by unfold rm; rw [if_neg hj]; exact h1, h2⟩
theorem Rep.setD (r : Rep ad c P H σ ρ) {i : Nat} {v : V} {d : D} (h : Dx ad (Fz (Bl c P) H) v d) : Rep ad c (rm P i) H (σ.set i (some v)) (ρ.set i (.dat d)) :=
  r.setS (fun _ e => (nomatch e)) (fun _ e => (nomatch e)) ⟨v, rfl, h.mono (fz_rm i)⟩
/-- a list of its own is no longer written -/
theorem Rep.freeze (r : Rep ad c P H σ ρ) {i : Nat} {xs : List D} (e : ρ[i]? = some (.own xs)) : Rep ad c (rm P i) H σ (ρ.set i (.dat (.lst xs))) := by
  obtain ⟨p, e1, e2⟩ := r.own i xs e
  obtain ⟨q, vs, e3, b, n, h, da⟩ := r.sl i _ e
  rw [e2] at e3
  have : p = q := by injection e3 with e3; injection e3 with e3; injection e3
  subst this
  have np : ¬ Bl c (rm P i) p := fun q => by
    rcases q with q | ⟨j, q⟩
    · exact (r.ow i p e1).1 q
    · exact (rm_some q).2 (r.inj j i p (rm_some q).1 e1)
  have key := r.setS (i := i) (v := some (.ref p)) (sl := .dat (.lst xs)) (fun _ e => (nomatch e)) (fun _ e => (nomatch e)) ⟨_, rfl, .lst ⟨np, h⟩ (da.mono (fz_rm i))⟩
  have hl : i < σ.length := (List.getElem?_eq_some_iff.mp e2).1
  have e4 : σ.set i (some (.ref p)) = σ := by
    refine List.ext_getElem? fun j => ?_
    by_cases hj : j = i
    · subst hj; rw [List.getElem?_set_self hl, e2]
    · rw [List.getElem?_set_ne (Ne.symm hj)]
  rw [e4] at key
  exact key
end
section
variable {X : Cx} {ad : Str → Addr} {E : L2.St → XK} {Ed : DXt} {a b e : Expr} {fa fb : DE} {pos pos' : Pos} {s1 : Stmt} {ss sa sb : List Stmt} {g ga gb : DS} {tc : DT}
theorem tie_e (c : Ct) (P : Nat → Option Addr) (ρ : List Sl) (De : DEnds) (Dn : Ends) {σ : L2.St} {H : Hp} {Qd : D → Prop} (r : Rep ad c P H σ ρ) (t : TieC ad E Ed c) (h : fa ρ Qd Ed) {Q : VK} (k : ∀ d v H1, Qd d → Rep ad c P H1 σ ρ → Frm c.s H H1 → Dx ad (Fz (Bl c P) H1) v d → Q v H1) : teD ad E Ed fa σ H Q :=
  ⟨Bl c P, c.s, ρ, Qd, r.wl t, h, fun d v H1 hd f dv => k d v H1 hd (r.frm f) f dv⟩
theorem tie_t {c : Ct} {P : Nat → Option Addr} {ρ : List Sl} {σ : L2.St} {H : Hp} {Qd : Bool → Prop} (r : Rep ad c P H σ ρ) (t : TieC ad E Ed c) (h : tc ρ Qd Ed) {Q : Bool → Hp → Prop} (k : ∀ b H1, Qd b → Rep ad c P H1 σ ρ → Q b H1) : ttD ad E Ed tc σ H Q :=
  ⟨Bl c P, c.s, ρ, Qd, r.wl t, h, fun b H1 hd f => k b H1 hd (r.frm f)⟩
def sNil : DS := fun De ρ _ => De.nx ρ
def sSeq (g h : DS) : DS := fun De ρ Ed => g { De with nx := fun ρ' => h De ρ' Ed } ρ Ed
theorem bsNil : BS X ad E Ed [] sNil := ⟨weakSs pss_nil fun Dn σ H ⟨c, P, ρ, De, r, t, en, h⟩ => en.nx P σ ρ H r h⟩
theorem bsOne (h : SD X ad E Ed s1 g) : BS X ad E Ed [s1] g := ⟨pss_one h.ps⟩
theorem bsCons (h : SD X ad E Ed s1 g) (h2 : BS X ad E Ed ss gb) : BS X ad E Ed (s1 :: ss) (sSeq g gb) :=
  ⟨weakSs (pss_cons h.ps h2.ps) fun Dn σ H ⟨c, P, ρ, De, r, t, en, h⟩ => ⟨c, P, ρ, { De with nx := fun ρ' => gb De ρ' Ed }, r, t, ⟨fun c' le P' σ' ρ' H' r' q => ⟨c', P', ρ', De, r', t.up le, en.up le, q⟩, en.ct', en.bk', en.rt', en.ro', en.fr⟩, h⟩⟩
def sExp (f : DE) : DS := fun De ρ Ed => f ρ (fun _ => De.nx ρ) Ed
theorem sdExp (h : PD X ad E Ed e fa) (hs : swapsWith e none pos.line X.env = pure false := by rfl) : SD X ad E Ed (.Expr e pos) (sExp fa) :=
  ⟨weakS (ps_expr h.pe hs) fun Dn σ H ⟨c, P, ρ, De, r, t, en, h⟩ => tie_e c P ρ De Dn r t h fun d v H1 hd r1 _ _ => en.nx P σ ρ H1 r1 hd⟩
def sRet (f : DE) : DS := fun De ρ Ed => f ρ De.rt Ed
theorem sdRet (h : PD X ad E Ed e fa) : SD X ad E Ed (.Return (some e) pos) (sRet fa) :=
  ⟨weakS (ps_ret h.pe) fun Dn σ H ⟨c, P, ρ, De, r, t, en, h⟩ => tie_e c P ρ De Dn r t h fun d v H1 hd r1 _ dv => en.rt P σ ρ H1 d v r1 dv hd⟩
def sIf (t : DT) (g h : DS) : DS := fun De ρ Ed => t ρ (fun c => if c = true then g De ρ Ed else h De ρ Ed) Ed
theorem sdIf (hc : TD X ad E Ed e tc) (ha : BS X ad E Ed sa ga) (hb : BS X ad E Ed sb gb) : SD X ad E Ed (.If e sa sb pos) (sIf tc ga gb) :=
  ⟨weakS (ps_if hc.pt ha.ps hb.ps) fun Dn σ H ⟨c, P, ρ, De, r, t, en, h⟩ => tie_t r t h fun b H1 hb r1 => by
    cases b with
    | true => exact ⟨c, P, ρ, De, r1, t, en, hb⟩
    | false => exact ⟨c, P, ρ, De, r1, t, en, hb⟩⟩
def sPass : DS := fun De ρ _ => De.nx ρ
def sCont : DS := fun De ρ _ => De.ct ρ
def sBrk : DS := fun De ρ _ => De.bk ρ
/-- name = value -/
def sSet (i : Nat) (f : DE) : DS := fun De ρ Ed => f ρ (fun d => De.nx (ρ.set i (.dat d))) Ed
theorem sdSet {i : Nat} {x : Str} (ps : ∀ {te : TE}, PE X e te → PS X (.Assign [.Name x pos'] e pos) (tAsg te (gName i))) (h : PD X ad E Ed e fa) : SD X ad E Ed (.Assign [.Name x pos'] e pos) (sSet i fa) :=
  ⟨weakS (ps h.pe) fun Dn σ H ⟨c, P, ρ, De, r, t, en, h⟩ => tie_e c P ρ De Dn r t h fun d v H1 hd r1 _ dv => en.nx _ _ _ H1 (r1.setD dv) hd⟩
/-- name op= value -/
def IpD (ad : Str → Addr) (ti : TIp) (o : D → D → (D → Prop) → Prop) : Prop := ∀ (B : Addr → Prop) (s : SO) (H : Hp) (x y : V) (dx dy : D) (Qd : D → Prop) (Q : VK), Wd B s H → Dx ad (Fz B H) x dx → Dx ad (Fz B H) y dy → o dx dy Qd →
  (∀ d v H', Qd d → Frm s H H' → Dx ad (Fz B H') v d → Q v H') → ti x y H Q
def sAug (i : Nat) (o : D → D → (D → Prop) → Prop) (f : DE) : DS := fun De ρ Ed => match ρ[i]? with
  | some (.dat x) => f ρ (fun y => o x y fun d => De.nx (ρ.set i (.dat d))) Ed
  | _ => False
theorem sdAug {i : Nat} {x : Str} {op : Operator} {ti : TIp} {o : D → D → (D → Prop) → Prop} (ps : ∀ {te : TE}, PE X e te → PS X (.AugAssign (.Name x pos') op e pos) (tAug i te ti)) (ho : OpD ad ti o) (h : PD X ad E Ed e fa) : SD X ad E Ed (.AugAssign (.Name x pos') op e pos) (sAug i o fa) :=
  ⟨weakS (ps h.pe) fun Dn σ H ⟨c, P, ρ, De, r, t, en, h⟩ => by
    unfold sAug at h
    split at h
    · rename_i d e
      obtain ⟨v, ev, dv⟩ := r.sl i _ e
      exact ⟨v, ev, tie_e c P ρ De Dn r t h fun d2 v2 H1 hd r1 f1 dv2 => ho (Bl c P) c.s H1 v v2 d d2 _ _ r1.wd (r.wd.dx f1 dv) dv2 hd fun d3 v3 H2 hd3 f2 dv3 => en.nx _ _ _ H2 ((r1.frm f2).setD dv3) hd3⟩
    · exact h.elim⟩
/-- a list that was written is read from now on -/
def sFrz (i : Nat) (g : DS) : DS := fun De ρ Ed => match ρ[i]? with
  | some (.own xs) => g De (ρ.set i (.dat (.lst xs))) Ed
  | _ => g De ρ Ed
theorem sdFrz (i : Nat) (h : SD X ad E Ed s1 g) : SD X ad E Ed s1 (sFrz i g) := ⟨weakS h.ps fun Dn σ H ⟨c, P, ρ, De, r, t, en, h⟩ => by
    unfold sFrz at h
    split at h
    · rename_i xs e
      exact ⟨c, _, _, De, r.freeze e, t, en, h⟩
    · exact ⟨c, P, ρ, De, r, t, en, h⟩⟩
/-! ### raise -/
def sRaise (cn : Str) (f : DE) : DS := fun _ ρ Ed => f ρ (fun d => Ed ρ cn d) Ed
theorem mono_teD (f : DE) : MonoE (teD ad E Ed f) := fun σ H Q Q' hq ⟨B, s, ρ, Qd, W, h, k⟩ => ⟨B, s, ρ, Qd, W, h, fun d v H' hd f dv => hq _ _ (k d v H' hd f dv)⟩
theorem sdRaise {k : Nat} {x : Str} {p p2 : Pos} (D : ErrC X.prog X.w X.K X.mg X.base x (ad x)) (hr : Room k X.A) (hc : X.calm = true) (tk : Takes X (fun cls d σ H => E σ cls d H)) (hg : Gl X x) (he : PD X ad E Ed e fa) (hk : 2 ≤ k := by decide)
    (hdb : (x == ("__debug__" : Str)) = false := by decide) (hs : starEach [e] X.env = (false, eval e X.env) :: starEach [] X.env := by rfl) (hpl : (backTo pos (starEach [] X.env)).any (·.1) = false := by rfl) :
    SD X ad E Ed (.Raise (some (.Call (.Name x p) [e] [] pos)) none p2) (sRaise x fa) :=
  ⟨weakS (ps_err D hr hc tk hg he.pe (mono_teD fa) hk hdb hs hpl) fun Dn σ H ⟨c, P, ρ, De, r, t, en, h⟩ => tie_e c P ρ De Dn r t h fun d v H1 hd r1 _ dv x hx => t.t P σ ρ H1 _ d v x r1 dv hx hd⟩
end
end DL

set_option Elab.async false
set_option linter.all false
set_option maxRecDepth 100000
set_option maxHeartbeats 2000000
namespace DL
open PySem PySem.Spec PyProof.Rows L2 BT
/-! ### walks -/
/-- J walks the data xs, which stand in H1 -/
def ItOk (ad : Str → Addr) (B : Addr → Prop) (H1 : Hp) (J : It) (xs : List D) : Prop := ∀ (i : Nat) (H' : Hp) (B' : Addr → Prop) (s : SO), Wd B' s H' → (∀ b o, Fz B H1 b o → Fz B' H' b o) →
  (i = xs.length → J.stop i H') ∧ ∀ x, xs[i]? = some x → J.go i H' ∧ ∀ v H'', J.yld i H' v H'' → Same H' H'' ∧ Dx ad (Fz B' H'') v x
abbrev DI := List Sl → (List D → Prop) → DXt → Prop
def tiD (ad : Str → Addr) (E : L2.St → XK) (Ed : DXt) (f : DI) : TI := fun σ H R => ∃ B s ρ Qd, Wl ad E Ed B s ρ σ H ∧ f ρ Qd Ed ∧ ∀ xs H1 J, Qd xs → Frm s H H1 → ItOk ad B H1 J xs → R J H1
structure ID (X : Cx) (ad : Str → Addr) (E : L2.St → XK) (Ed : DXt) (tg iter : Expr) (f : DI) : Prop where
  pi : PI X tg iter (tiD ad E Ed f)
theorem weakI {X : Cx} {tg e : Expr} {t t' : TI} (h : PI X tg e t) (k : ∀ σ H Q, t' σ H Q → t σ H Q) : PI X tg e t' := ⟨fun pins s σ H Q I q => h.run pins s σ H Q I (k σ H Q q)⟩
section
variable {X : Cx} {ad : Str → Addr} {E : L2.St → XK} {Ed : DXt} {tg a e e' : Expr} {fa : DE} {p pos : Pos} {n : Nat} {ga : DA}
def seqD : D → Option (List D)
  | .lst xs => some xs
  | .tup xs => some xs
  | _ => none
def iSq (f : DE) : DI := fun ρ Q Ed => f ρ (fun d => match seqD d with
  | some xs => Q xs
  | none => False) Ed
theorem itl_ok {K : PySem.W.Frag} {B : Addr → Prop} {H : Hp} {p : Addr} {vs : List V} {xs : List D} (h : Fz B H p (.lst vs)) (da : DxA ad (Fz B H) vs xs) : ItOk ad B H (Itl K p) xs := fun i H' B' s w k =>
  ⟨fun hi => ⟨vs, .inl (.inl (k _ _ h).2), by rw [da.length, hi]; exact Nat.le_refl _⟩, fun x hx => by
    obtain ⟨v, hv, dv⟩ := da.getD hx
    exact ⟨⟨vs, v, .inl (.inl (k _ _ h).2), hv⟩, fun u H'' ⟨e, q⟩ => by
      subst e
      have z := q vs (.inl (.inl (k _ _ h).2))
      rw [hv] at z
      cases Option.some.inj z
      exact ⟨Same.refl _, dv.mono k⟩⟩⟩
theorem itt_ok {K : PySem.W.Frag} {B : Addr → Prop} {H : Hp} {p : Addr} {vs : List V} {xs : List D} (h : Fz B H p (.tup vs)) (da : DxA ad (Fz B H) vs xs) : ItOk ad B H (Itt K p) xs := fun i H' B' s w k =>
  ⟨fun hi => ⟨vs, .inl (.inl (k _ _ h).2), by rw [da.length, hi]; exact Nat.le_refl _⟩, fun x hx => by
    obtain ⟨v, hv, dv⟩ := da.getD hx
    exact ⟨⟨vs, v, .inl (.inl (k _ _ h).2), hv⟩, fun u H'' ⟨e, q⟩ => by
      subst e
      have z := q vs (.inl (.inl (k _ _ h).2))
      rw [hv] at z
      cases Option.some.inj z
      exact ⟨Same.refl _, dv.mono k⟩⟩⟩
theorem idSq (h : PD X ad E Ed e fa) : ID X ad E Ed tg e (iSq fa) := ⟨weakI (pi_seq h.pe) fun σ H R ⟨B, s, ρ, Qd, W, h, k⟩ => ⟨B, s, ρ, _, W, h, fun d v H1 hd f1 dv => by
    cases dv with
    | lst ea ra => exact ⟨_, _, rfl, .inl ⟨.inl (.inl ea.2), k _ H1 _ hd f1 (itl_ok ea ra)⟩⟩
    | tup ea ra => exact ⟨_, _, rfl, .inr ⟨.inl (.inl ea.2), k _ H1 _ hd f1 (itt_ok ea ra)⟩⟩
    | _ => exact hd.elim⟩⟩
/-- whole numbers lo, lo + 1, .., n of them -/
def rgD (lo : Int) (n : Nat) : List D := (List.range n).map fun i : Nat => .int (lo + (i : Int))
theorem rgD_len (lo : Int) (n : Nat) : (rgD lo n).length = n := by unfold rgD; rw [List.length_map, List.length_range]
theorem rgD_get {lo : Int} {n i : Nat} {x : D} (h : (rgD lo n)[i]? = some x) : i < n ∧ x = .int (lo + (i : Int)) := by
  unfold rgD at h
  rw [List.getElem?_map] at h
  have hl : i < n := by
    cases q : (List.range n)[i]? with
    | none => rw [q] at h; cases h
    | some z =>
      have := (List.getElem?_eq_some_iff.mp q).1
      rw [List.length_range] at this; exact this
  rw [List.getElem?_range hl] at h
  exact ⟨hl, (Option.some.inj h).symm⟩
theorem itr_ok {B : Addr → Prop} {H : Hp} {lo : Int} {m : Nat} : ItOk ad B H (Itr lo m) (rgD lo m) := fun i H' B' s w k =>
  ⟨fun hi => by rw [rgD_len] at hi; exact Nat.le_of_eq hi.symm, fun x hx => by
    obtain ⟨h1, rfl⟩ := rgD_get hx
    exact ⟨h1, fun v H'' ⟨e1, e2⟩ => by subst e1 e2; exact ⟨Same.refl _, .int _⟩⟩⟩
def iRg1 (g : DA) : DI := fun ρ Q Ed => g ρ (fun as => match as with
  | [.dat (.int j)] => -(2 ^ 62) ≤ j ∧ j < 2 ^ 62 ∧ Q (rgD 0 j.toNat)
  | _ => False) Ed
theorem idRg1 (hg : Gl X "range") (hm : X.mg "range" = none) (ha : AD X ad E Ed [e] n ga) (hs : starEach [e] X.env = [(false, eval e X.env)] := by rfl) : ID X ad E Ed tg (.Call (.Name "range" p) [e] [] pos) (iRg1 ga) :=
  ⟨weakI (pi_range1 hg hm ha.pa hs) fun σ H R ⟨B, s, ρ, Qd, W, h, k⟩ => ⟨B, s, ρ, _, W, h, fun as vs H1 hd hl f1 da => by
    split at hd
    · rename_i j
      obtain ⟨h1, h2, hd⟩ := hd
      cases da with
      | cons a r =>
        cases r
        cases a
        exact ⟨j, rfl, h1, h2, k _ H1 _ hd f1 itr_ok⟩
    · exact hd.elim⟩⟩
def iRg2 (g : DA) : DI := fun ρ Q Ed => g ρ (fun as => match as with
  | [.dat (.int i), .dat (.int j)] => -(2 ^ 62) ≤ i ∧ i < 2 ^ 62 ∧ -(2 ^ 62) ≤ j ∧ j < 2 ^ 62 ∧ Q (rgD i (j - i).toNat)
  | _ => False) Ed
end
/-! ### targets, loops -/
abbrev DG := D → List Sl → (List Sl → Prop) → Prop
def tgD (ad : Str → Addr) (g : DG) : TG := fun v σ H Q => ∃ c P ρ d Qd, Rep ad c P H σ ρ ∧ Dx ad (Fz (Bl c P) H) v d ∧ g d ρ Qd ∧ ∀ P' σ' ρ', Rep ad c P' H σ' ρ' → Qd ρ' → Q σ' H
structure GD (X : Cx) (ad : Str → Addr) (tg : Expr) (g : DG) : Prop where
  pg : PG X tg (tgD ad g)
theorem weakG {X : Cx} {tg : Expr} {t t' : TG} (h : PG X tg t) (k : ∀ v σ H Q, t' v σ H Q → t v σ H Q) : PG X tg t' := ⟨fun pins s σ H v u Q I r q => h.run pins s σ H v u Q I r (k v σ H Q q)⟩
def gN (i : Nat) : DG := fun d ρ Q => Q (ρ.set i (.dat d))
/-- two names -/
def gN2 (i j : Nat) : DG := fun d ρ Q => match d with
  | .tup [x, y] => Q ((ρ.set i (.dat x)).set j (.dat y))
  | _ => False
section
variable {X : Cx} {ad : Str → Addr} {E : L2.St → XK} {Ed : DXt} {tg e : Expr} {pos : Pos} {g : DG} {gb : DS} {ss : List Stmt} {fi : DI} {fa : DE}
theorem gdN {i : Nat} {x : Str} (h : PG X (.Name x pos) (gName i)) : GD X ad (.Name x pos) (gN i) := ⟨weakG h fun v σ H Q ⟨c, P, ρ, d, Qd, r, dv, h, k⟩ => k _ _ _ (r.setD dv) h⟩
theorem gdN2 {i j : Nat} {tgt : Expr} {K : PySem.W.Frag} (h : PG X tgt (gTup K 2 (gCons (gName i) (gCons (gName j) gNil)))) : GD X ad tgt (gN2 i j) := ⟨weakG h fun v σ H Q ⟨c, P, ρ, d, Qd, r, dv, h, k⟩ => by
    unfold gN2 at h
    split at h
    · rename_i x y
      cases dv with
      | tup ea ra =>
        cases ra with
        | cons a ra => cases ra with
          | cons b ra =>
            cases ra
            exact ⟨_, _, rfl, .inl (.inl ea.2), rfl, _, _, rfl, _, _, rfl, rfl, k _ _ _ ((r.setD a).setD (b.mono (fz_rm _))) h⟩
    · exact h.elim⟩
/-- the loop's start, its data fixed -/
def ctAt (c : Ct) (P : Nat → Option Addr) (H : Hp) : Ct := ⟨c.A, c.s, fun b o => (∀ l a, c.s = some (l, a) → b ≠ a) ∧ (∀ i, P i ≠ some b) ∧ H b = some o, c.ar⟩
theorem Rep.at_ {c : Ct} {P : Nat → Option Addr} {H : Hp} {σ : L2.St} {ρ : List Sl} (r : Rep ad c P H σ ρ) : Rep ad (ctAt c P H) P H σ ρ :=
  ⟨r.wd, fun l a e => ⟨(r.sa l a e).1, (r.sa l a e).2.1, fun o q => q.1 l a e rfl⟩, fun b o q => q.2.2, fun i p e => ⟨(r.ow i p e).1, fun o q => q.2.1 i e⟩, r.inj, r.sl, r.own, r.ownD, r.len⟩
theorem Rep.at_le {c : Ct} {P : Nat → Option Addr} {H : Hp} {σ : L2.St} {ρ : List Sl} (r : Rep ad c P H σ ρ) : CtLe c (ctAt c P H) :=
  ⟨fun _ h => h, fun b o q => ⟨fun l a e z => (r.sa l a e).2.2 o (z ▸ q), fun i e => (r.ow i b e).2 o q, r.z b o q⟩, fun _ h => .inl h, fun _ => rfl, rfl⟩
theorem fz_at {c c' : Ct} {P P' : Nat → Option Addr} {H H' : Hp} {σ σ' : L2.St} {ρ ρ' : List Sl} (r : Rep ad c P H σ ρ) (le : CtLe (ctAt c P H) c') (r' : Rep ad c' P' H' σ' ρ') : ∀ b o, Fz (Bl c P) H b o → Fz (Bl c' P') H' b o := fun b o h => by
  have z : (ctAt c P H).Z b o := ⟨fun l a e q => h.1 (.inl (q ▸ (r.sa l a e).1)), fun i e => h.1 (.inr ⟨i, e⟩), h.2⟩
  refine ⟨fun q => ?_, r'.z b o (le.Z b o z)⟩
  rcases q with q | ⟨i, q⟩
  · rcases le.n b q with q | q
    · exact h.1 (.inl q)
    · exact q o z
  · exact (r'.ow i b q).2 o (le.Z b o z)
def sFor (fi : DI) (g : DG) (gb : DS) : DS := fun De ρ Ed => fi ρ (fun xs => ∃ Iv : Nat → List Sl → Prop, Iv 0 ρ ∧
  (∀ i x ρ', xs[i]? = some x → Iv i ρ' → g x ρ' fun ρ2 => gb { nx := Iv (i + 1), ct := Iv (i + 1), bk := De.nx, rt := De.rt, ro := De.ro, fr := De.fr } ρ2 Ed) ∧ ∀ ρ', Iv xs.length ρ' → De.nx ρ') Ed
theorem sdFor (hp : PassesOwn (model X.prog X.w) X.A X.env X.xe) (hc : X.calm = true) (hi : ID X ad E Ed tg e fi) (hg : GD X ad tg g) (hb : BS X ad E Ed ss gb) (hs : ∀ x, foldedSetIterable e X.env x = pure x := by intro _; rfl) : SD X ad E Ed (.For tg e ss [] pos) (sFor fi g gb) :=
  ⟨weakS (ps_for hp hc hi.pi hg.pg hb.ps hs) fun Dn σ H ⟨c, P, ρ, De, r, t, en, h⟩ => ⟨Bl c P, c.s, ρ, _, r.wl t, h, fun xs H1 J hx f1 io => by
    obtain ⟨Iv, h0, hs, hd⟩ := hx
    have r1 := r.frm f1
    have le0 := r1.at_le
    refine ⟨fun i m σ' H' => m = xs.length - i ∧ i ≤ xs.length ∧ ∃ c' P' ρ', CtLe (ctAt c P H1) c' ∧ Rep ad c' P' H' σ' ρ' ∧ Iv i ρ', ⟨xs.length, by simp, Nat.zero_le _, _, P, ρ, CtLe.refl _, r1.at_, h0⟩, ?_⟩
    rintro i m σ' H' ⟨rfl, hi, c', P', ρ', le, r', iv⟩
    have io := io i H' _ c'.s r'.wd (fz_at r1 le r')
    by_cases hlt : i < xs.length
    · obtain ⟨go, yl⟩ := io.2 xs[i] (List.getElem?_eq_getElem hlt)
      refine .inr ⟨go, fun σ2 H2 => ∃ c2 P2 ρ2, CtLe (ctAt c P H1) c2 ∧ Rep ad c2 P2 H2 σ2 ρ2 ∧ Iv (i + 1) ρ2, fun σ2 H2 ⟨c2, P2, ρ2, l2, r2, iv2⟩ => ⟨_, by omega, rfl, hlt, c2, P2, ρ2, l2, r2, iv2⟩, fun v H2 y => ?_⟩
      obtain ⟨sm, dv⟩ := yl v H2 y
      have r2 := r'.frm (r'.wd.same sm)
      refine ⟨_, P', ρ', xs[i], _, r2, dv, hs i xs[i] ρ' (List.getElem?_eq_getElem hlt) iv, fun P3 σ3 ρ3 r3 q => ?_⟩
      have lc := le0.trans le
      refine ⟨_, P3, ρ3, { nx := Iv (i + 1), ct := Iv (i + 1), bk := De.nx, rt := De.rt, ro := De.ro, fr := De.fr }, r3, t.up lc, ⟨fun c4 l4 P4 σ4 ρ4 H4 r4 q4 => ⟨c4, P4, ρ4, le.trans l4, r4, q4⟩, fun c4 l4 P4 σ4 ρ4 H4 r4 q4 => ⟨c4, P4, ρ4, le.trans l4, r4, q4⟩, fun c4 l4 P4 σ4 ρ4 H4 r4 q4 => en.nx' c4 (lc.trans l4) _ _ _ _ r4 q4, fun c4 l4 P4 σ4 ρ4 H4 d v r4 dv q4 => en.rt' c4 (lc.trans l4) _ _ _ _ _ _ r4 dv q4, fun c4 l4 P4 σ4 ρ4 H4 p4 vs4 xs4 r4 nl q4 => en.ro' c4 (lc.trans l4) _ _ _ _ _ _ _ r4 nl q4, (en.up lc).fr⟩, q⟩
    · have e : i = xs.length := by omega
      subst e
      exact .inl ⟨io.1 rfl, en.nx' c' (le0.trans le) _ _ _ _ r' (hd ρ' iv)⟩⟩⟩
/-- a, b = value, and other targets -/
def sAsg (f : DE) (g : DG) : DS := fun De ρ Ed => f ρ (fun d => g d ρ De.nx) Ed
theorem sdAsg (he : PD X ad E Ed e fa) (hg : GD X ad tg g) (hs : swapsWithSole [tg] e pos.line X.env = pure false := by rfl) (hw : swappedStores [tg] e X.env = pure none := by rfl)
    (h1 : (assignEach [tg] X.env).map (·.2) = [assign tg X.env] := by rfl) : SD X ad E Ed (.Assign [tg] e pos) (sAsg fa g) :=
  ⟨weakS (ps_asg he.pe hg.pg hs hw h1) fun Dn σ H ⟨c, P, ρ, De, r, t, en, h⟩ => tie_e c P ρ De Dn r t h fun d v H1 hd r1 _ dv => ⟨c, P, ρ, d, _, r1, dv, hd, fun P' σ' ρ' r' q => en.nx _ _ _ _ r' q⟩⟩
end
/-! ### comprehensions -/
def wipeD (ρ : List Sl) : List Nat → List Sl
  | [] => ρ
  | v :: vs => (wipeD ρ vs).set v .un
theorem wipe_get {σ : L2.St} {i : Nat} : ∀ {vs : List Nat}, i ∉ vs → (wipe σ vs)[i]? = σ[i]?
  | [], _ => rfl
  | v :: vs, h => by
    unfold wipe
    rw [List.getElem?_set_ne (fun e => h (by rw [e]; exact List.mem_cons_self)), wipe_get fun m => h (List.mem_cons_of_mem _ m)]
theorem wipeD_get {ρ : List Sl} {i : Nat} {sl : Sl} : ∀ {vs : List Nat}, (wipeD ρ vs)[i]? = some sl → sl = .un ∨ (i ∉ vs ∧ ρ[i]? = some sl)
  | [], h => .inr ⟨by simp, h⟩
  | v :: vs, h => by
    unfold wipeD at h
    by_cases e : i = v
    · subst e
      by_cases hl : i < (wipeD ρ vs).length
      · rw [List.getElem?_set_self hl] at h; exact .inl (Option.some.inj h).symm
      · rw [List.getElem?_eq_none (by rw [List.length_set]; omega)] at h; cases h
    · rw [List.getElem?_set_ne (Ne.symm e)] at h
      rcases wipeD_get h with h | ⟨h1, h2⟩
      · exact .inl h
      · exact .inr ⟨fun m => (List.mem_cons.mp m).elim e h1, h2⟩
theorem wipe_set {σ : L2.St} {v : Option V} {i : Nat} (vs : List Nat) (h : i ∈ vs) : wipe ((wipe σ vs).set i v) vs = wipe σ vs := by
  have nn : ∀ {vs : List Nat} {τ : L2.St} {j : Nat}, j ∈ vs → j < τ.length → (wipe τ vs)[j]? = some none := by
    intro vs
    induction vs with
    | nil => intro τ j hj; cases hj
    | cons w vs ih =>
      intro τ j hj hl
      unfold wipe
      by_cases e : j = w
      · subst e
        rw [List.getElem?_set_self (by rw [wipe_length]; exact hl)]
      · rw [List.getElem?_set_ne (Ne.symm e)]
        exact ih ((List.mem_cons.mp hj).resolve_left e) hl
  refine List.ext_getElem? fun j => ?_
  by_cases hj : j ∈ vs
  · by_cases hl : j < σ.length
    · rw [nn hj (by rw [List.length_set, wipe_length]; exact hl), nn hj hl]
    · rw [List.getElem?_eq_none (by rw [wipe_length, List.length_set, wipe_length]; omega), List.getElem?_eq_none (by rw [wipe_length]; omega)]
  · rw [wipe_get hj, List.getElem?_set_ne (fun e : i = j => hj (e ▸ h))]
section
variable {X : Cx} {ad : Str → Addr} {E : L2.St → XK} {Ed : DXt} {tg elt iter e : Expr} {ifs : List Expr} {scope : Scope} {own : List (Str × Nat)} {pos : Pos} {fi : DI} {tt : DT} {te : DE}
structure FD (X : Cx) (ad : Str → Addr) (E : L2.St → XK) (Ed : DXt) (es : List Expr) (f : DT) : Prop where
  pts : PTs X es (ttD ad E Ed f)
def tYs : DT := fun _ Q _ => Q true
theorem fdN : FD X ad E Ed [] tYs := ⟨⟨fun pins s σ H Q I ⟨B, s', ρ, Qd, W, h, k⟩ => pts_nil.run pins s σ H Q I (k true H h W.refl)⟩⟩
theorem fd1 {t : DT} (h : TD X ad E Ed e t) : FD X ad E Ed [e] t := ⟨pts_one h.pt⟩
/-- an expression that makes a new list -/
abbrev DF := List Sl → (List D → Prop) → DXt → Prop
def teF (ad : Str → Addr) (E : L2.St → XK) (Ed : DXt) (f : DF) : TE := fun σ H Q => ∃ B s ρ Qd, Wl ad E Ed B s ρ σ H ∧ f ρ Qd Ed ∧ ∀ xs p vs H', Qd xs → H p = none → Frm s H H' → H' p = some (.lst vs) → DxA ad (Fz (fun b => B b ∨ b = p) H') vs xs → Q (.ref p) H'
structure PF (X : Cx) (ad : Str → Addr) (E : L2.St → XK) (Ed : DXt) (e : Expr) (f : DF) : Prop where
  pe : PE X e (teF ad E Ed f)
def eF (f : DF) : DE := fun ρ Q Ed => f ρ (fun xs => Q (.lst xs)) Ed
theorem PF.pd {f : DF} (h : PF X ad E Ed e f) : PD X ad E Ed e (eF f) := ⟨weakE h.pe fun σ H Q ⟨B, s, ρ, Qd, W, h, k⟩ => ⟨B, s, ρ, _, W, h, fun xs p vs H' hx hp f hd da => k _ _ _ hx f (.lst ⟨W.wd.nb hp, hd⟩ (da.mono fun b o q => ⟨fun z => q.1 (.inl z), q.2⟩))⟩⟩
/-- [elt for x in iter if ..], x in slot i -/
def fLc (fi : DI) (vs : List Nat) (i : Nat) (tt : DT) (te : DE) : DF := fun ρ Q Ed => fi ρ (fun xs => xs.length ≤ 1000000 ∧ ∃ Iv : Nat → List D → Prop, Iv 0 [] ∧
  (∀ j x acc, xs[j]? = some x → Iv j acc → tt ((wipeD ρ vs).set i (.dat x)) (fun b => if b = true then te ((wipeD ρ vs).set i (.dat x)) (fun y => Iv (j + 1) (acc ++ [y])) X0 else Iv (j + 1) acc) X0) ∧ ∀ acc, Iv xs.length acc → Q acc) Ed
theorem RepE.wipe1 {B B' : Addr → Prop} {s : SO} {H H' : Hp} {σ : L2.St} {ρ : List Sl} {vs : List Nat} {i : Nat} {v : V} {d : D} (w : Wd B' s H') (hk : ∀ (j : Nat) (sl : Sl), ρ[j]? = some sl → SlR ad B' s H' (σ[j]?) sl) (hl : σ.length = ρ.length) (dv : Dx ad (Fz B' H') v d) :
    RepE ad B' s H' ((wipe σ vs).set i (some v)) ((wipeD ρ vs).set i (.dat d)) := by
  have hw : (wipeD ρ vs).length = ρ.length := by
    have : ∀ us : List Nat, (wipeD ρ us).length = ρ.length := by
      intro us
      induction us with
      | nil => rfl
      | cons u us ih => unfold wipeD; rw [List.length_set, ih]
    exact this vs
  refine ⟨w, fun j sl e => ?_, by rw [List.length_set, List.length_set, wipe_length, hw, hl]⟩
  by_cases hj : j = i
  · subst hj
    by_cases hlt : j < (wipeD ρ vs).length
    · rw [List.getElem?_set_self hlt] at e
      cases e
      rw [List.getElem?_set_self (by rw [wipe_length, hl, ← hw]; exact hlt)]
      exact ⟨v, rfl, dv⟩
    · rw [List.getElem?_eq_none (by rw [List.length_set]; omega)] at e; cases e
  · rw [List.getElem?_set_ne (Ne.symm hj)] at e ⊢
    rcases wipeD_get e with e | ⟨h1, h2⟩
    · subst e; exact trivial
    · rw [wipe_get h1]; exact hk j sl h2
theorem SlR.up {B B' : Addr → Prop} {s : SO} {H H' : Hp} {o : Option (Option V)} (w : Wd B s H) (hB : ∀ b, B b → B' b) (fz : ∀ b o, Fz B H b o → Fz B' H' b o) (st : ∀ b o, (∀ l a, s = some (l, a) → b ≠ a) → H b = some o → H' b = some o) : ∀ {sl : Sl}, SlR ad B s H o sl → SlR ad B' s H' o sl
  | .un, h => h
  | .dat d, ⟨v, e, h⟩ => ⟨v, e, h.mono fz⟩
  | .own xs, ⟨p, vs, e, b, n, h, r⟩ => ⟨p, vs, e, hB _ b, n, st _ _ n h, r.mono fz⟩
  | .ownD xs, ⟨p, vs, e, b, n, h, r⟩ => ⟨p, vs, e, hB _ b, n, st _ _ n h, r.mono fz⟩
  | .src, h => h
  | .exc a x d, ⟨v, e, h, r⟩ => ⟨v, e, st _ _ (fun l a' es q => by
      obtain ⟨i, y, c, cl, n, z, _, h1⟩ := (w.sr l a' es).1.at_
      rw [q, h1] at h; cases h) h, r.mono fz⟩
  | .scr K, ⟨a, ns, e, h⟩ => ⟨a, ns, e, h.mono fz⟩
  | .adr a, h => h
theorem lc_low {B : Addr → Prop} {s : SO} {ρ : List Sl} {σ : L2.St} {H H1 : Hp} {J : It} {xs : List D} {us : List Nat} {i : Nat} {Qd : List D → Prop} {Q : VK} (him : i ∈ us) (W : Wl ad E Ed B s ρ σ H) (f1 : Frm s H H1) (io : ItOk ad B H1 J xs)
    (hx : xs.length ≤ 1000000 ∧ ∃ Iv : Nat → List D → Prop, Iv 0 [] ∧ (∀ j x acc, xs[j]? = some x → Iv j acc → tt ((wipeD ρ us).set i (.dat x)) (fun b => if b = true then te ((wipeD ρ us).set i (.dat x)) (fun y => Iv (j + 1) (acc ++ [y])) X0 else Iv (j + 1) acc) X0) ∧ ∀ acc, Iv xs.length acc → Qd acc)
    (k : ∀ xs p vs H', Qd xs → H p = none → Frm s H H' → H' p = some (.lst vs) → DxA ad (Fz (fun b => B b ∨ b = p) H') vs xs → Q (.ref p) H') :
    ∀ D, H1 D = none → ∃ W : Nat → Nat → Hp → Prop, (∃ m, W 0 m (upd H1 D (.lst []))) ∧ ∀ i' m H, W i' m H → (J.stop i' H ∧ Q (.ref D) H) ∨ (J.go i' H ∧ ∃ Nx : Hp → Prop, (∀ H', Nx H' → ∃ m', m' < m ∧ W (i' + 1) m' H') ∧ ∀ x H', J.yld i' H x H' →
      gName i x (wipe σ us) H' fun σ2 H2 => wipe σ2 us = wipe σ us ∧ ttD ad (fun _ => E0) X0 tt σ2 H2 fun b H3 => if b = true then teD ad (fun _ => E0) X0 te σ2 H3 fun y H4 => ∃ acc, H4 D = some (.lst acc) ∧ acc.length < sizeLine ∧ Nx (upd H4 D (.lst (acc ++ [y]))) else Nx H3) := by
  intro D hD
  obtain ⟨hlen, Iv, h0, hs, hd⟩ := hx
  have W1 := W.frm f1
  have wd1 := W1.wd
  have Dn : ∀ l a, s = some (l, a) → D ≠ a ∧ D ≠ l := fun l a e => by
    obtain ⟨q, _, _⟩ := wd1.sr l a e
    exact q.free_ne hD
  have wdk : ∀ {H' : Hp}, Frm s H1 H' → (∃ vs, H' D = some (.lst vs)) → Wd (fun b => B b ∨ b = D) s H' := fun {H'} f h => ⟨fun b q => by
      rcases q with q | rfl
      · exact (wd1.frm f).al b q
      · exact ⟨_, h.choose_spec, fun _ e => (nomatch e)⟩, fun l a e => ⟨f.sr l a e, .inl (wd1.sr l a e).2.1, .inl (wd1.sr l a e).2.2⟩⟩
  have fzk : ∀ {H' : Hp}, Frm s H1 H' → ∀ b o, Fz B H1 b o → Fz (fun b => B b ∨ b = D) H' b o := fun {H'} f b o h => ⟨fun q => q.elim h.1 (fun e => by
      have z := h.2
      rw [e, hD] at z
      cases z), (wd1.fz f b o h).2⟩
  refine ⟨fun j m H' => m = xs.length - j ∧ j ≤ xs.length ∧ Frm s H1 H' ∧ ∃ vs acc, H' D = some (.lst vs) ∧ DxA ad (Fz (fun b => B b ∨ b = D) H') vs acc ∧ acc.length ≤ j ∧ Iv j acc, ⟨xs.length, by simp, Nat.zero_le _, wd1.new hD, [], [], upd_same, .nil, Nat.zero_le _, h0⟩, ?_⟩
  rintro j m H' ⟨rfl, hj, f, vs, acc, hv, da, hl, iv⟩
  have io := io j H' _ s (wdk f ⟨_, hv⟩) (fzk f)
  by_cases hlt : j < xs.length
  · obtain ⟨go, yl⟩ := io.2 xs[j] (List.getElem?_eq_getElem hlt)
    refine .inr ⟨go, fun H2 => Frm s H1 H2 ∧ ∃ vs acc, H2 D = some (.lst vs) ∧ DxA ad (Fz (fun b => B b ∨ b = D) H2) vs acc ∧ acc.length ≤ j + 1 ∧ Iv (j + 1) acc, fun H2 q => ⟨_, by omega, rfl, hlt, q⟩, fun v H2 y => ?_⟩
    obtain ⟨sm, dv⟩ := yl v H2 y
    have f2 := (wdk f ⟨_, hv⟩).same sm
    have f12 := f.trans f2
    have hv2 := sm _ _ hv
    have w2 := wdk f12 ⟨_, hv2⟩
    have da2 := da.mono ((wdk f ⟨_, hv⟩).fz f2)
    have st := hs j xs[j] acc (List.getElem?_eq_getElem hlt) iv
    have Wb : Wl ad (fun _ => E0) X0 (fun b => B b ∨ b = D) s ((wipeD ρ us).set i (.dat xs[j])) ((wipe σ us).set i (some v)) H2 :=
      ⟨RepE.wipe1 (B := B) (H := H) w2 (fun j sl e => (W.rep.sl j sl e).up W.wd (fun b q => .inl q) (fun b o q => fzk f12 b o (W.wd.fz f1 b o q)) (f1.trans f12).st) W.rep.len dv, fun cn d v x H' _ _ _ q => q.elim⟩
    refine ⟨wipe_set us him, _, s, _, _, Wb, st, fun b H3 hb f3 => ?_⟩
    have hv3 := f3.st D _ (fun l a e => (Dn l a e).1) hv2
    have da3 := da2.mono (w2.fz f3)
    cases b with
    | false => exact ⟨f12.trans f3, vs, acc, hv3, da3, by omega, hb⟩
    | true =>
      refine ⟨_, s, _, _, Wb.frm f3, hb, fun y u H4 hy f4 dy => ?_⟩
      have hv4 := f4.st D _ (fun l a e => (Dn l a e).1) hv3
      have w3 := (Wb.frm f3).wd
      have da4 := da3.mono (w3.fz f4)
      have f14 := f12.trans (f3.trans f4)
      have fzu : ∀ b o, Fz (fun b => B b ∨ b = D) H4 b o → Fz (fun b => B b ∨ b = D) (upd H4 D (.lst (vs ++ [u]))) b o := fun b o q => ⟨q.1, by rw [upd_ne (fun e => q.1 (.inr e))]; exact q.2⟩
      refine ⟨vs, hv4, by rw [da.length, sizeLine_eq]; omega, ⟨fun b o n q => ?_, fun l a e => ?_⟩, vs ++ [u], acc ++ [y], upd_same, (da4.append (.cons dy .nil)).mono fzu, by rw [List.length_append, List.length_singleton]; omega, hy⟩
      · rw [upd_ne (ne_of_none q hD)]
        exact f14.st b o n q
      · obtain ⟨⟨i0, b0, c0, cl, n0, w0, h00, h1⟩, ns, h2⟩ := f14.sr l a e
        exact ⟨⟨i0, b0, c0, cl, n0, w0, h00, by rw [upd_ne (Ne.symm (Dn l a e).1)]; exact h1⟩, ns, by rw [upd_ne (Ne.symm (Dn l a e).2)]; exact h2⟩
  · have e : j = xs.length := by omega
    subst e
    have hn : H D = none := by
      cases q : H D with
      | none => rfl
      | some o =>
        have := f1.st D o (fun l a e => (Dn l a e).1) q
        rw [hD] at this; cases this
    exact .inl ⟨io.1 rfl, k acc D vs H' (hd acc iv) hn (f1.trans f) hv da⟩
theorem pfLc {i : Nat} (hc : X.calm = true) (hN : X.N.Nodup) (hi : ID X ad E Ed tg iter fi) (ok : BlkOk X.N X.env.scope scope own)
    (hg : ∀ (s : Shared) (H : Hp) (C : Addr) (cl : List (Str × Addr)) (fp : List Addr), PG (X.blk s H scope (compEnvC scope cl C X.env) fp) tg (gName i)) (ht : ∀ (s : Shared) (H : Hp) (C : Addr) (cl : List (Str × Addr)) (fp : List Addr), FD (X.blk s H scope (compEnvC scope cl C X.env) fp) ad (fun _ => E0) X0 ifs tt)
    (he : ∀ (s : Shared) (H : Hp) (C : Addr) (cl : List (Str × Addr)) (fp : List Addr), PD (X.blk s H scope (compEnvC scope cl C X.env) fp) ad (fun _ => E0) X0 elt te) (him : i ∈ own.map (·.2) := by decide) (hs : ∀ x, foldedSetIterable iter X.env x = pure x := by intro _; rfl) :
    PF X ad E Ed (.ListComp elt [⟨tg, iter, ifs, 0⟩] scope pos) (fLc fi (own.map (·.2)) i tt te) :=
  ⟨weakE (pe_lc hc hN hi.pi ok hg (fun s H C cl fp => (ht s H C cl fp).pts) (fun s H C cl fp => (he s H C cl fp).pe) hs) fun σ H Q ⟨B, s, ρ, Qd, W, h, k⟩ => ⟨B, s, ρ, _, W, h, fun xs H1 J hx f1 io => lc_low him W f1 io hx k⟩⟩
/-- name = [..] on one line -/
theorem sdSetLc {i j : Nat} {y : Str} {py spos : Pos} (hc : X.calm = true) (hN : X.N.Nodup) (hy : X.N[j]? = some y) (hyl : X.env.scope.names.lookup y = some .local) (hsw : swapsWith (.ListComp elt [⟨tg, iter, ifs, 0⟩] scope pos) (some (.Name y py)) spos.line X.env = pure true)
    (hi : ID X ad E Ed tg iter fi) (ok : BlkOk X.N X.env.scope scope own)
    (hg : ∀ (s : Shared) (H : Hp) (C : Addr) (cl : List (Str × Addr)) (fp : List Addr), PG (X.blk s H scope (compEnvC scope cl C X.env) fp) tg (gName i)) (ht : ∀ (s : Shared) (H : Hp) (C : Addr) (cl : List (Str × Addr)) (fp : List Addr), FD (X.blk s H scope (compEnvC scope cl C X.env) fp) ad (fun _ => E0) X0 ifs tt)
    (he : ∀ (s : Shared) (H : Hp) (C : Addr) (cl : List (Str × Addr)) (fp : List Addr), PD (X.blk s H scope (compEnvC scope cl C X.env) fp) ad (fun _ => E0) X0 elt te) (him : i ∈ own.map (·.2) := by decide) (hs : ∀ x, foldedSetIterable iter X.env x = pure x := by intro _; rfl) :
    SD X ad E Ed (.Assign [.Name y py] (.ListComp elt [⟨tg, iter, ifs, 0⟩] scope pos) spos) (sSet j (eF (fLc fi (own.map (·.2)) i tt te))) :=
  ⟨weakS (ps_setLc hc hN hy hyl hsw hi.pi ok hg (fun s H C cl fp => (ht s H C cl fp).pts) (fun s H C cl fp => (he s H C cl fp).pe) hs) fun Dn σ H ⟨c, P, ρ, De, r, t, en, h⟩ =>
    ⟨Bl c P, c.s, ρ, _, r.wl t, h, fun xs H1 J hx f1 io => lc_low (Q := fun x H1 => gName j x σ H1 Dn.nx) him (r.wl t) f1 io hx fun xs p vs H' hd hp f hv da => en.nx _ _ _ _ ((r.frm f).setD (.lst ⟨r.wd.nb hp, hv⟩ (da.mono fun b o q => ⟨fun z => q.1 (.inl z), q.2⟩))) hd⟩⟩
end
end DL

set_option Elab.async false
set_option linter.all false
set_option maxRecDepth 100000
set_option maxHeartbeats 2000000
namespace DL
open PySem PySem.Spec PyProof.Rows L2 BT
/-! ### lists of one's own -/
section
variable {ad : Str → Addr} {c : Ct} {P : Nat → Option Addr} {H H1 : Hp} {σ : L2.St} {ρ : List Sl} {E : L2.St → XK} {Ed : DXt}
theorem st_some {i j : Nat} {p q : Addr} (h : st P i p j = some q) : (j = i ∧ q = p) ∨ (j ≠ i ∧ P j = some q) := by
  unfold st at h
  split at h
  · exact .inl ⟨by assumption, (Option.some.inj h).symm⟩
  · exact .inr ⟨by assumption, h⟩
theorem Rep.setO (r : Rep ad c P H σ ρ) {i : Nat} {p : Addr} {vs : List V} {xs : List D} (f : Frm c.s H H1) (hp : H p = none) (hv : H1 p = some (.lst vs)) (da : DxA ad (Fz (fun b => Bl c P b ∨ b = p) H1) vs xs) :
    Rep ad c (st P i p) H1 (σ.set i (some (.ref p))) (ρ.set i (.own xs)) := by
  have bs : ∀ b, Bl c (st P i p) b → Bl c P b ∨ b = p := fun b h => by
    rcases h with h | ⟨j, h⟩
    · exact .inl (.inl h)
    · rcases st_some h with ⟨_, rfl⟩ | ⟨_, h⟩
      · exact .inr rfl
      · exact .inl (.inr ⟨j, h⟩)
  have fz : ∀ b o, Fz (Bl c P) H b o → Fz (Bl c (st P i p)) H1 b o := fun b o h => ⟨fun q => (bs b q).elim h.1 (fun e => by
    have z := h.2
    rw [e, hp] at z
    cases z), (r.wd.fz f b o h).2⟩
  have np : ∀ j, P j ≠ some p := fun j e => r.wd.nb hp (.inr ⟨j, e⟩)
  have na : ¬ c.A p := fun q => r.wd.nb hp (.inl q)
  have w1 := r.wd.frm f
  have src : ∀ l a, c.s = some (l, a) → p ≠ a := fun l a e => fun q => na (q ▸ (r.sa l a e).1)
  refine ⟨⟨fun b h => ?_, fun l a e => ⟨(w1.sr l a e).1, .inl (r.sa l a e).1, .inl (r.sa l a e).2.1⟩⟩, r.sa, (r.frm f).z, fun j q e => ?_, fun j k q e1 e2 => ?_, fun j sl e => ?_, fun j ys e => ?_, fun j ys e => ?_, by rw [List.length_set, List.length_set, r.len]⟩
  · rcases bs b h with h | rfl
    · exact w1.al b h
    · exact ⟨_, hv, fun _ e => (nomatch e)⟩
  · rcases st_some e with ⟨_, rfl⟩ | ⟨_, e⟩
    · exact ⟨na, fun o q => by rw [r.z _ _ q] at hp; cases hp⟩
    · exact r.ow j q e
  · rcases st_some e1 with ⟨a1, b1⟩ | ⟨a1, b1⟩
    · rcases st_some e2 with ⟨a2, b2⟩ | ⟨a2, b2⟩
      · rw [a1, a2]
      · exact absurd (b1 ▸ b2) (np k)
    · rcases st_some e2 with ⟨a2, b2⟩ | ⟨a2, b2⟩
      · exact absurd (b2 ▸ b1) (np j)
      · exact r.inj j k q b1 b2
  · by_cases hj : j = i
    · subst hj
      by_cases hl : j < ρ.length
      · rw [List.getElem?_set_self hl] at e
        cases e
        rw [List.getElem?_set_self (by rw [r.len]; exact hl)]
        exact ⟨p, vs, rfl, .inr ⟨j, by unfold st; rw [if_pos rfl]⟩, src, hv, da.mono fun b o q => ⟨fun z => q.1 (bs b z), q.2⟩⟩
      · rw [List.getElem?_eq_none (by rw [List.length_set]; omega)] at e; cases e
    · rw [List.getElem?_set_ne (Ne.symm hj)] at e ⊢
      have so := r.sl j sl e
      have ow := r.ownAt e
      cases sl with
      | own ys =>
        obtain ⟨q, us, e1, b, n, h, da⟩ := so
        obtain ⟨q2, e2, e3⟩ := ow (.inl ⟨_, rfl⟩)
        rw [e1] at e3
        have : q = q2 := by injection e3 with e3; injection e3 with e3; injection e3
        subst this
        exact ⟨q, us, e1, .inr ⟨j, by unfold st; rw [if_neg hj]; exact e2⟩, n, f.st _ _ n h, da.mono fz⟩
      | ownD ys =>
        obtain ⟨q, us, e1, b, n, h, da⟩ := so
        obtain ⟨q2, e2, e3⟩ := ow (.inr ⟨_, rfl⟩)
        rw [e1] at e3
        have : q = q2 := by injection e3 with e3; injection e3 with e3; injection e3
        subst this
        exact ⟨q, us, e1, .inr ⟨j, by unfold st; rw [if_neg hj]; exact e2⟩, n, f.st _ _ n h, da.mono fz⟩
      | un => exact so
      | dat d => exact so.imp fun v h => ⟨h.1, h.2.mono fz⟩
      | src => exact so
      | adr a => exact so
      | exc a x d =>
        obtain ⟨v, e1, h, dv⟩ := so
        exact ⟨v, e1, f.st _ _ (fun l a' es q => by
          obtain ⟨i0, y, c0, cl, n0, z, _, h1⟩ := (r.wd.sr l a' es).1.at_
          rw [q, h1] at h; cases h) h, dv.mono fz⟩
      | scr K =>
        obtain ⟨a, ns, e1, h⟩ := so
        exact ⟨a, ns, e1, h.mono fz⟩
  · by_cases hj : j = i
    · subst hj
      by_cases hl : j < ρ.length
      · exact ⟨p, by unfold st; rw [if_pos rfl], by rw [List.getElem?_set_self (by rw [r.len]; exact hl)]⟩
      · rw [List.getElem?_eq_none (by rw [List.length_set]; omega)] at e; cases e
    · rw [List.getElem?_set_ne (Ne.symm hj)] at e ⊢
      obtain ⟨q, h1, h2⟩ := r.own j ys e
      exact ⟨q, by unfold st; rw [if_neg hj]; exact h1, h2⟩
  · by_cases hj : j = i
    · subst hj
      by_cases hl : j < ρ.length
      · rw [List.getElem?_set_self hl] at e; cases e
      · rw [List.getElem?_eq_none (by rw [List.length_set]; omega)] at e; cases e
    · rw [List.getElem?_set_ne (Ne.symm hj)] at e ⊢
      obtain ⟨q, h1, h2⟩ := r.ownD j ys e
      exact ⟨q, by unfold st; rw [if_neg hj]; exact h1, h2⟩
theorem Rep.app (r : Rep ad c P H σ ρ) {i : Nat} {p : Addr} {vs ws : List V} {xs ys : List D} (e : ρ[i]? = some (.own xs)) (ep : P i = some p) (es : σ[i]? = some (some (.ref p))) (hv : H p = some (.lst vs)) (da : DxA ad (Fz (Bl c P) H) ws ys) :
    Rep ad c P (upd H p (.lst ws)) σ (ρ.set i (.own ys)) := by
  have bp : Bl c P p := .inr ⟨i, ep⟩
  have fz : ∀ b o, Fz (Bl c P) H b o → Fz (Bl c P) (upd H p (.lst ws)) b o := fun b o h => ⟨h.1, by rw [upd_ne (fun e : b = p => h.1 (by rw [e]; exact bp))]; exact h.2⟩
  have ns : ∀ l a, c.s = some (l, a) → a ≠ p ∧ l ≠ p := fun l a e2 => ⟨fun q => (r.ow i p ep).1 (q ▸ (r.sa l a e2).1), fun q => (r.ow i p ep).1 (q ▸ (r.sa l a e2).2.1)⟩
  refine ⟨⟨fun b h => ?_, fun l a e2 => ⟨?_, .inl (r.sa l a e2).1, .inl (r.sa l a e2).2.1⟩⟩, r.sa, fun b o h => ?_, r.ow, r.inj, fun j sl e2 => ?_, fun j zs e2 => ?_, fun j zs e2 => ?_, by rw [List.length_set, r.len]⟩
  · by_cases q : b = p
    · exact ⟨.lst ws, (by rw [q]; exact upd_same), fun _ e => (nomatch e)⟩
    · obtain ⟨o, h, nt⟩ := r.wd.al b h
      exact ⟨o, by rw [upd_ne q]; exact h, nt⟩
  · obtain ⟨⟨i0, b0, c0, cl, n0, w0, h00, h1⟩, zs, h2⟩ := (r.wd.sr l a e2).1
    exact ⟨⟨i0, b0, c0, cl, n0, w0, h00, by rw [upd_ne (ns l a e2).1]; exact h1⟩, zs, by rw [upd_ne (ns l a e2).2]; exact h2⟩
  · rw [upd_ne (fun q : b = p => (r.ow i p ep).2 o (by rw [← q]; exact h))]
    exact r.z b o h
  · by_cases hj : j = i
    · subst hj
      rw [List.getElem?_set_self (List.getElem?_eq_some_iff.mp e).1] at e2
      cases e2
      exact ⟨p, ws, es, bp, fun l a e3 q => (ns l a e3).1 q.symm, upd_same, da.mono fz⟩
    · rw [List.getElem?_set_ne (Ne.symm hj)] at e2
      have so := r.sl j sl e2
      have ow := r.ownAt e2
      cases sl with
      | own zs =>
        obtain ⟨q, us, e1, b, n, h, da⟩ := so
        obtain ⟨q2, e3, e4⟩ := ow (.inl ⟨_, rfl⟩)
        rw [e1] at e4
        have : q = q2 := by injection e4 with e4; injection e4 with e4; injection e4
        subst this
        exact ⟨q, us, e1, b, n, by rw [upd_ne (fun z : q = p => hj (r.inj j i p (by rw [← z]; exact e3) ep))]; exact h, da.mono fz⟩
      | ownD zs =>
        obtain ⟨q, us, e1, b, n, h, da⟩ := so
        exact ⟨q, us, e1, b, n, by rw [upd_ne (fun z => by rw [z, hv] at h; cases h)]; exact h, da.mono fz⟩
      | un => exact so
      | dat d => exact so.imp fun v h => ⟨h.1, h.2.mono fz⟩
      | src => exact so
      | adr a => exact so
      | exc a x d =>
        obtain ⟨v, e1, h, dv⟩ := so
        exact ⟨v, e1, by rw [upd_ne (fun z => by rw [z, hv] at h; cases h)]; exact h, dv.mono fz⟩
      | scr K =>
        obtain ⟨a, ns, e1, h⟩ := so
        exact ⟨a, ns, e1, h.mono fz⟩
  · by_cases hj : j = i
    · subst hj; exact ⟨p, ep, es⟩
    · rw [List.getElem?_set_ne (Ne.symm hj)] at e2
      exact r.own j zs e2
  · by_cases hj : j = i
    · subst hj
      rw [List.getElem?_set_self (List.getElem?_eq_some_iff.mp e).1] at e2; cases e2
    · rw [List.getElem?_set_ne (Ne.symm hj)] at e2
      exact r.ownD j zs e2
end
section
variable {X : Cx} {ad : Str → Addr} {E : L2.St → XK} {Ed : DXt} {a b e : Expr} {fa fb : DE} {pos pos' apos p : Pos} {g ga gb : DS} {f : DF} {n : Nat}
def sSetO (i : Nat) (f : DF) : DS := fun De ρ Ed => f ρ (fun xs => De.nx (ρ.set i (.own xs))) Ed
theorem sdSetO {i : Nat} {x : Str} (ps : ∀ {te : TE}, PE X e te → PS X (.Assign [.Name x pos'] e pos) (tAsg te (gName i))) (h : PF X ad E Ed e f) : SD X ad E Ed (.Assign [.Name x pos'] e pos) (sSetO i f) :=
  ⟨weakS (ps h.pe) fun Dn σ H ⟨c, P, ρ, De, r, t, en, h⟩ => ⟨Bl c P, c.s, ρ, _, r.wl t, h, fun xs p vs H' hd hp f hv da => en.nx _ _ _ _ (r.setO f hp hv da) hd⟩⟩
/-- [..] as a new list -/
def fLst (g : DA) : DF := fun ρ Q Ed => g ρ (fun as => match dats as with
  | some ds => Q ds
  | none => False) Ed
theorem pfLst {es : List Expr} {ga : DA} (h : AD X ad E Ed es n ga) (hn : n ≤ 1000 := by decide) : PF X ad E Ed (.List es pos) (fLst ga) :=
  ⟨weakE (pe_lst h.pa) fun σ H Q ⟨B, s, ρ, Qd, W, h, k⟩ => ⟨B, s, ρ, _, W, h, fun as vs H1 ha hl f1 da => by
    split at ha
    · rename_i ds e
      rw [dats_ok e] at da hl
      have := da.length
      refine ⟨by rw [this, hl, sizeLine_eq]; omega, fun p hp => ?_⟩
      have w1 := (W.frm f1).wd
      have hn : H p = none := by
        cases q : H p with
        | none => rfl
        | some o =>
          by_cases z : ∃ l, s = some (l, p)
          · obtain ⟨l, z⟩ := z
            obtain ⟨i, x, c, cl, n, y, _, h1⟩ := (f1.sr l p z).at_
            rw [hp] at h1; cases h1
          · have := f1.st p o (fun l a e1 e2 => z ⟨l, e2 ▸ e1⟩) q
            rw [hp] at this; cases this
      refine k _ _ _ _ ha hn (f1.trans (w1.new hp)) upd_same (da.dat.mono fun b o q => ⟨fun z => z.elim q.1 fun e => ?_, (w1.fz (w1.new hp) b o q).2⟩)
      have z := q.2
      rw [e, hp] at z; cases z
    · exact ha.elim⟩⟩
/-- name.append(value), the name's list its own -/
def sApp (i : Nat) (f : DE) : DS := fun De ρ Ed => match ρ[i]? with
  | some (.own xs) => f ρ (fun d => xs.length < 1000000 ∧ De.nx (ρ.set i (.own (xs ++ [d])))) Ed
  | _ => False
theorem sdApp {i : Nat} {x : Str} (hv : PE X (.Name x pos') (tVar i)) (h : PD X ad E Ed e fa)
    (pe : ∀ {te : TE}, PE X e te → PS X (.Expr (.Call (.Attribute (.Name x pos') "append" apos) [e] [] p) pos) (tDrop (tBM X.K "list" rAppend (tVar i) (tCons te tNil)))) : SD X ad E Ed (.Expr (.Call (.Attribute (.Name x pos') "append" apos) [e] [] p) pos) (sApp i fa) :=
  ⟨weakS (pe h.pe) fun Dn σ H ⟨c, P, ρ, De, r, t, en, h⟩ => by
    unfold sApp at h
    split at h
    · rename_i xs e
      obtain ⟨p, ep, es⟩ := r.own i xs e
      obtain ⟨q, vs, e2, b, n, hq, da⟩ := r.sl i _ e
      rw [es] at e2
      have : p = q := by injection e2 with e2; injection e2 with e2; injection e2
      subst this
      refine ⟨.ref p, es, .inl ⟨rfl, _, .inl (.inl hq)⟩, tie_e c P ρ De Dn r t h fun d v H1 hd r1 f1 dv => ?_⟩
      have hv1 := f1.st p _ n hq
      have da1 := da.mono (r.wd.fz f1)
      exact ⟨p, vs, v, rfl, rfl, hv1, by rw [da.length, sizeLine_eq]; omega, en.nx _ _ _ _ (r1.app e ep es hv1 (da1.append (.cons dv .nil))) hd.2⟩
    · exact h.elim⟩
end
end DL

set_option Elab.async false
set_option linter.all false
set_option maxRecDepth 100000
set_option maxHeartbeats 2000000
namespace DL
open PySem PySem.Spec PyProof.Rows L2 BT
/-! ### try -/
/-- e.what in a handler: e in slot i -/
def eXc (a x : Addr) (i : Nat) : DE := fun ρ Q _ => match ρ[i]? with
  | some (.exc a' x' d) => (a' = a ∧ x' = x) ∧ Q d
  | _ => False
abbrev Hd := Str × Nat × (Addr → Addr → DS)
def hxD : List Hd → DEnds → DXt → DXt
  | [], De, Ed => Ed
  | (h, i, s) :: r, De, Ed => fun ρ cn d => if cn = h then ∀ a x, s a x { nx := fun ρ2 => De.nx (ρ2.set i .un), ct := fun ρ2 => De.ct (ρ2.set i .un), bk := fun ρ2 => De.bk (ρ2.set i .un), rt := De.rt, ro := De.ro, fr := De.fr } (ρ.set i (.exc a x d)) X0 else hxD r De Ed ρ cn d
def sTry (errs : List Str) (g : DS) (hs : List Hd) : DS := fun De ρ Ed => g De ρ fun ρ' cn d => cn ∈ errs ∧ hxD hs De Ed ρ' cn d
/-- the error classes of the package, each its own kind -/
structure ErT (K : PySem.W.Frag) (ad : Str → Addr) (errs : List Str) : Prop where
  ex : ∀ x y, x ∈ errs → y ∈ errs → PySem.W.exmOne K (.ref (ad x)) (.ref (ad y)) = some (decide (x = y))
section
variable {X : Cx} {ad : Str → Addr} {E : L2.St → XK} {Ed : DXt} {errs : List Str}
inductive ClD (X : Cx) (ad : Str → Addr) (errs : List Str) : List ExceptHandler → List Hd → Prop
  | nil : ClD X ad errs [] []
  | cons {x n : Str} {i : Nat} {s : Addr → Addr → DS} {b₀ : Stmt} {suite : List Stmt} {np pos' : Pos} {hds : List ExceptHandler} {hs : List Hd} (hi : X.N[i]? = some n) (hln : X.env.kindOf n = some .local) (hc : Names X x (.ref (ad x))) (hx : x ∈ errs)
      (hsu : ∀ (a : Addr) (oe : Obj) (x' : Addr) (pn : List (Addr × Obj)), Zc (.ref (ad x)) (some x') oe → (∃ vs, oe.data = .fields vs) → BS (X.suite a ((a, oe) :: pn)) ad (fun _ => E0) X0 (b₀ :: suite) (s a x')) (r : ClD X ad errs hds hs) :
      ClD X ad errs (.ExceptHandler (some (.Name x np)) (some n) (b₀ :: suite) pos' :: hds) ((x, i, s) :: hs)
theorem ClD.low (T : ErT X.K ad errs) : ∀ {hds : List ExceptHandler} {hs : List Hd}, ClD X ad errs hds hs → ∃ W : Ends → WX, Clauses X (fun cls d σ H => E σ cls d H) hds W ∧
    ∀ (Dn : Ends) (De : DEnds) (c : Ct) (Ed : DXt), EnT ad c De Dn → TieC ad E Ed c → ∀ P σ ρ H cn d v x, Rep ad c P H σ ρ → Dx ad (Fz (Bl c P) H) v d → H x = none → cn ∈ errs → hxD hs De Ed ρ cn d → W Dn (.ref (ad cn)) (some x) σ (upd H x (.xd [("what", v)]))
  | _, _, .nil => ⟨_, .nil, fun Dn De c Ed en t P σ ρ H cn d v x r dv hx _ q => t.t P σ ρ H cn d v x r dv hx q⟩
  | _, _, .cons (x := y) (i := i) (s := s) hi hln hc hy hsu r => by
    obtain ⟨W, h1, h2⟩ := ClD.low T r
    refine ⟨_, .cons (i := i) (ts := fun a cls d Dn σ H => ∃ x', cls = .ref (ad y) ∧ d = some x' ∧ tsD ad (fun _ => E0) X0 (s a x') Dn σ H) hi hln hc (fun a oe cls d pn hz hf => ⟨fun pins s σ H Dn I ⟨x', e1, e2, h⟩ => ?_⟩) h1, fun Dn De c Ed en t P σ ρ H cn d v x r dv hx he q => ?_⟩
    · subst e1 e2
      exact (hsu a oe x' pn hz hf).ps.run pins s σ H Dn I h
    · have ex := T.ex cn y he hy
      have r1 := r.frm (r.wd.new (o := .xd [("what", v)]) hx)
      have dv1 := r.wd.dx (r.wd.new (o := .xd [("what", v)]) hx) dv
      refine ⟨decide (cn = y), ex, fun e a ha => ?_, fun e => ?_⟩
      · have e := of_decide_eq_true e
        subst e
        have q : ∀ a x, s a x { nx := fun ρ2 => De.nx (ρ2.set i .un), ct := fun ρ2 => De.ct (ρ2.set i .un), bk := fun ρ2 => De.bk (ρ2.set i .un), rt := De.rt, ro := De.ro, fr := De.fr } (ρ.set i (.exc a x d)) X0 := by
          have q' := q
          unfold hxD at q'
          rw [if_pos rfl] at q'
          exact q'
        have r2 := r1.setS (i := i) (v := some (.ref a)) (sl := .exc a x d) (fun _ e => (nomatch e)) (fun _ e => (nomatch e)) ⟨v, rfl, upd_same, dv1.mono (fz_rm i)⟩
        refine ⟨x, rfl, rfl, c, _, _, { nx := fun ρ2 => De.nx (ρ2.set i .un), ct := fun ρ2 => De.ct (ρ2.set i .un), bk := fun ρ2 => De.bk (ρ2.set i .un), rt := De.rt, ro := De.ro, fr := De.fr }, r2, ⟨fun _ _ P σ ρ H cn d v x _ _ _ q => q.elim⟩, ⟨fun c3 l3 P3 σ3 ρ3 H3 r3 q3 => ?_, fun c3 l3 P3 σ3 ρ3 H3 r3 q3 => ?_, fun c3 l3 P3 σ3 ρ3 H3 r3 q3 => ?_, fun c3 l3 P3 σ3 ρ3 H3 d3 v3 r3 dv3 q3 => en.rt' c3 l3 _ _ _ _ _ _ r3 dv3 q3, fun c3 l3 P3 σ3 ρ3 H3 p3 vs3 xs3 r3 nl q3 => en.ro' c3 l3 _ _ _ _ _ _ _ r3 nl q3, en.fr⟩, q a x⟩
        · exact en.nx' c3 l3 _ _ _ _ (r3.setS (i := i) (v := none) (sl := .un) (fun _ e => (nomatch e)) (fun _ e => (nomatch e)) trivial) q3
        · exact en.ct' c3 l3 _ _ _ _ (r3.setS (i := i) (v := none) (sl := .un) (fun _ e => (nomatch e)) (fun _ e => (nomatch e)) trivial) q3
        · exact en.bk' c3 l3 _ _ _ _ (r3.setS (i := i) (v := none) (sl := .un) (fun _ e => (nomatch e)) (fun _ e => (nomatch e)) trivial) q3
      · have e := of_decide_eq_false e
        have q' := q
        unfold hxD at q'
        rw [if_neg e] at q'
        exact h2 Dn De c Ed en t P σ ρ H cn d v x r dv hx he q'
end
/-! ### defs -/
section
variable {P : Program} {w : World} {K : PySem.W.Frag} {mg : Str → Option Value} {base : Heap} {ad : Str → Addr}
theorem ArA.sl {ad : Str → Addr} {B : Addr → Prop} {s : SO} {H : Hp} : ∀ {vs : List V} {as : List Sl}, ArA ad B s H vs as → ∀ (i : Nat) (sl : Sl), as[i]? = some sl → SlR ad B s H ((vs.map some)[i]?) sl ∧ (∀ xs, sl ≠ .own xs) ∧ ∀ xs, sl ≠ .ownD xs
  | _, _, .nil, i, sl, e => by simp at e
  | _, _, .cons (v := v) (a := a) h r, 0, sl, e => by
    have e : a = sl := Option.some.inj e
    subst e
    cases a with
    | dat d => exact ⟨⟨v, rfl, h⟩, fun _ e => (nomatch e), fun _ e => (nomatch e)⟩
    | src =>
      obtain ⟨l, b, e1, e2⟩ := h
      exact ⟨⟨l, b, e1, by rw [e2]; rfl⟩, fun _ e => (nomatch e), fun _ e => (nomatch e)⟩
    | _ => exact h.elim
  | _, _, .cons h r, i + 1, sl, e => ArA.sl r i sl e
/-- what stands as the body begins; whether the source is the caller's -/
def ct0 (B : Addr → Prop) (s : SO) (H : Hp) : Ct := ⟨B, s, fun b o => (∀ l a, s = some (l, a) → b ≠ a) ∧ H b = some o, s.isSome⟩
/-- the body's beginning -/
theorem body_start {B : Addr → Prop} {s : SO} {H : Hp} {vs : List V} {as : List Sl} {N : List Str} (w : Wd B s H) (a : ArA ad B s H vs as) :
    Rep ad (ct0 B s H) (fun _ => none) H (L2.start N vs) (as ++ List.replicate (N.length - as.length) .un) := by
  have hB : ∀ b, Bl (ct0 B s H) (fun _ => none) b ↔ B b := fun b => ⟨fun h => h.elim id fun ⟨i, e⟩ => (nomatch e), .inl⟩
  have hl := a.length
  have sl : ∀ (i : Nat) (sl : Sl), (as ++ List.replicate (N.length - as.length) Sl.un)[i]? = some sl → sl = .un ∨ (as[i]? = some sl ∧ (L2.start N vs)[i]? = (vs.map some)[i]?) := fun i sl e => by
    by_cases q : i < as.length
    · rw [List.getElem?_append_left q] at e
      refine .inr ⟨e, ?_⟩
      unfold L2.start
      rw [List.getElem?_append_left (by rw [List.length_map, hl]; exact q)]
    · rw [List.getElem?_append_right (by omega), List.getElem?_replicate] at e
      split at e
      · exact .inl (Option.some.inj e).symm
      · cases e
  refine ⟨⟨fun b h => w.al b ((hB b).mp h), fun l a e => ⟨(w.sr l a e).1, .inl (w.sr l a e).2.1, .inl (w.sr l a e).2.2⟩⟩, fun l a e => ⟨(w.sr l a e).2.1, (w.sr l a e).2.2, fun o q => q.1 l a e rfl⟩, fun b o q => q.2, fun i p e => (nomatch e), fun i j p e => (nomatch e), fun i sl' e => ?_, fun i xs e => ?_, fun i xs e => ?_, ?_⟩
  · rcases sl i sl' e with rfl | ⟨e1, e2⟩
    · trivial
    · rw [e2]
      have q := (a.sl i sl' e1).1
      exact q.up w (fun b h => .inl h) (fun b o h => ⟨fun z => h.1 ((hB b).mp z), h.2⟩) (fun b o _ h => h)
  · rcases sl i _ e with e | ⟨e1, e2⟩
    · cases e
    · exact absurd rfl ((a.sl i _ e1).2.1 xs)
  · rcases sl i _ e with e | ⟨e1, e2⟩
    · cases e
    · exact absurd rfl ((a.sl i _ e1).2.2 xs)
  · unfold L2.start
    rw [List.length_append, List.length_map, List.length_replicate, List.length_append, List.length_replicate, hl]
theorem body_end {B : Addr → Prop} {s : SO} {H H' : Hp} {σ : L2.St} {ρ : List Sl} {Q : Nat → Option Addr} {c' : Ct} (le : CtLe (ct0 B s H) c') (r : Rep ad c' Q H' σ ρ) : Frm s H H' := ⟨fun b o n h => r.z b o (le.Z b o ⟨n, h⟩), fun l a e => by
  have es : c'.s = s := le.s (by show s.isSome = true; rw [e]; rfl)
  exact (r.wd.sr l a (es.trans e)).1⟩
theorem body_fz {B : Addr → Prop} {s : SO} {H H' : Hp} {Q : Nat → Option Addr} {c' : Ct} (le : CtLe (ct0 B s H) c') : ∀ b o, Fz (Bl c' Q) H' b o → Fz B H' b o := fun b o h => ⟨fun q => h.1 (.inl (le.A b q)), h.2⟩
theorem body_low {E : XK} {g : DS} {dsp : DSp} {N ps : List Str} {vs : List V} {H : Hp} {Q : VK} (sem : ∀ as Qd Xd, dsp as Qd Xd → as.length = ps.length ∧ g { nx := fun _ => Qd .non, rt := Qd } (as ++ List.replicate (N.length - as.length) .un) fun _ => Xd)
    (h : spD ad dsp vs H Q E) : vs.length = ps.length ∧ ∃ Ed, tsD ad (fun _ => E) Ed g { nx := fun _ H' => Q .non H', rt := Q } (L2.start N vs) H := by
  obtain ⟨B, s, as, Qd, Xd, wd, da, hd, hq, hx⟩ := h
  obtain ⟨hl, hg⟩ := sem as Qd Xd hd
  refine ⟨by rw [da.length, hl], fun _ => Xd, _, _, _, { nx := fun _ => Qd .non, rt := Qd }, body_start wd da, ⟨fun c' le P σ ρ H' cn d v x r dv hx' q => hx cn d v x H' q (body_end le r) (dv.mono (body_fz le)) hx'⟩, ⟨fun c' le P σ ρ H' r q => hq .non .non H' q (body_end le r) .non, fun c' le P σ ρ H' r q => q.elim, fun c' le P σ ρ H' r q => q.elim, fun c' le P σ ρ H' d v r dv q => hq d v H' q (body_end le r) (dv.mono (body_fz le)), fun _ _ _ _ _ _ _ _ _ _ _ q => q.elim, fun q => (nomatch q)⟩, hg⟩
theorem fnX {x qual : Str} {pr : Arguments} {body : List Stmt} {sc : Scope} {f : Addr} {fd : FuncData} {N ps : List Str} {k : Nat} {dsp : DSp} {g : DS} (F : FunD K x qual pr body sc [] [] f fd) (S : FnScope N ps sc)
    (rd : ∀ (cdv : Value) (A : Around) (outer : List Env) (s : Shared) (H : Hp) (E : XK) (Ed : DXt), Room k (A.deeper (envOfC qual sc s.heap.objs.size f cdv)) → BS (cxOf (L2.CX P w) P w K mg base N qual sc f cdv A outer s H E) ad (fun _ => E) Ed body g)
    (sem : ∀ as Qd Xd, dsp as Qd Xd → as.length = ps.length ∧ g { nx := fun _ => Qd .non, rt := Qd } (as ++ List.replicate (N.length - as.length) .un) fun _ => Xd) : FnOk P w K mg base (L2.CX P w) (k + 1) f fd ps (spD ad dsp) := by
  refine F.ok S (fun vs H Q E h => (body_low (N := N) sem h).1) (fun cdv A outer s H vs Q E hr h => ?_)
  obtain ⟨_, Ed, h⟩ := body_low (N := N) sem h
  exact ⟨_, (rd cdv A outer s H E Ed hr).ps, h⟩
theorem FnOk.wide {k : Nat} {f : Addr} {fd : FuncData} {ps : List Str} {sp : Sp} (F : FnOk P w K mg base CX0 k f fd ps sp) : FnOk P w K mg base (L2.CX P w) k f fd ps sp :=
  ⟨F.len, fun A outer s H args us vs Q E hr e0 bt r q => codeAny_mono (F.run A outer s H args us vs Q E hr e0 bt r q) fun res s' out => by
    cases res with
    | error er => exact False.elim out
    | ok fl => cases fl with
      | ret u => exact out
      | _ => exact False.elim out⟩
end
end DL

set_option Elab.async false
set_option linter.all false
set_option maxRecDepth 100000
set_option maxHeartbeats 2000000
namespace DL
open PySem PySem.Spec PyProof.Rows L2 BT
section
variable {X : Cx} {ad : Str → Addr} {E : L2.St → XK} {Ed : DXt} {a b c e e' o : Expr} {fa fb fc : DE} {p pos apos p1 p2 p3 : Pos} {n i : Nat} {ga : DA} {x : Str} {rest : List Expr} {tc : DT}
/-! ### truth as a value -/
def eNot (f : DE) : DE := fun ρ Q Ed => f ρ (fun d => match d with
  | .bl c => Q (.bl (!c))
  | _ => False) Ed
theorem pdNot (h : PD X ad E Ed a fa) : PD X ad E Ed (.UnaryOp .Not a pos) (eNot fa) := ⟨weakE (pe_not h.pe) fun σ H Q ⟨B, s, ρ, Qd, W, h, k⟩ => ⟨B, s, ρ, _, W, h, fun d v H1 hd f1 dv => by
    cases d with
    | bl c => cases dv; exact ⟨c, rfl, k _ _ _ hd f1 (.bl _)⟩
    | _ => exact hd.elim⟩⟩
theorem pdOne {op : BoolOp} (h : PD X ad E Ed a fa) : PD X ad E Ed (.BoolOp op [a] pos) fa := ⟨pe_one h.pe⟩
def eAn (f g : DE) : DE := fun ρ Q Ed => f ρ (fun d => match d with
  | .bl c => if c = true then g ρ Q Ed else Q (.bl false)
  | _ => False) Ed
def eOo (f g : DE) : DE := fun ρ Q Ed => f ρ (fun d => match d with
  | .bl c => if c = true then Q (.bl true) else g ρ Q Ed
  | _ => False) Ed
theorem pdAn (h : PD X ad E Ed a fa) (h2 : PD X ad E Ed (.BoolOp .And (b :: rest) pos) fb) : PD X ad E Ed (.BoolOp .And (a :: b :: rest) pos) (eAn fa fb) := ⟨weakE (pe_and h.pe h2.pe) fun σ H Q ⟨B, s, ρ, Qd, W, h, k⟩ => ⟨B, s, ρ, _, W, h, fun d v H1 hd f1 dv => by
    cases d with
    | bl c =>
      cases dv
      cases c with
      | true => exact ⟨true, rfl, iteT ⟨B, s, ρ, Qd, W.frm f1, hd, fun d v H2 hd f2 dv => k d v H2 hd (f1.trans f2) dv⟩⟩
      | false => exact ⟨false, rfl, iteF (k _ _ H1 hd f1 (.bl _))⟩
    | _ => exact hd.elim⟩⟩
theorem pdOo (h : PD X ad E Ed a fa) (h2 : PD X ad E Ed (.BoolOp .Or (b :: rest) pos) fb) : PD X ad E Ed (.BoolOp .Or (a :: b :: rest) pos) (eOo fa fb) := ⟨weakE (pe_or h.pe h2.pe) fun σ H Q ⟨B, s, ρ, Qd, W, h, k⟩ => ⟨B, s, ρ, _, W, h, fun d v H1 hd f1 dv => by
    cases d with
    | bl c =>
      cases dv
      cases c with
      | true => exact ⟨true, rfl, iteT (k _ _ H1 hd f1 (.bl _))⟩
      | false => exact ⟨false, rfl, iteF ⟨B, s, ρ, Qd, W.frm f1, hd, fun d v H2 hd f2 dv => k d v H2 hd (f1.trans f2) dv⟩⟩
    | _ => exact hd.elim⟩⟩
def eIf (t : DT) (f g : DE) : DE := fun ρ Q Ed => t ρ (fun c => if c = true then f ρ Q Ed else g ρ Q Ed) Ed
theorem pdIf (hc : TD X ad E Ed c tc) (ha : PD X ad E Ed a fa) (hb : PD X ad E Ed b fb) : PD X ad E Ed (.IfExp c a b pos) (eIf tc fa fb) := ⟨weakE (pe_ifExp hc.pt ha.pe hb.pe) fun σ H Q ⟨B, s, ρ, Qd, W, h, k⟩ => ⟨B, s, ρ, _, W, h, fun c H1 hc f1 => by
    cases c with
    | true => exact iteT ⟨B, s, ρ, Qd, W.frm f1, hc, fun d v H2 hd f2 dv => k d v H2 hd (f1.trans f2) dv⟩
    | false => exact iteF ⟨B, s, ρ, Qd, W.frm f1, hc, fun d v H2 hd f2 dv => k d v H2 hd (f1.trans f2) dv⟩⟩⟩
/-! ### kinds -/
def tyS : D → Option String
  | .non => some "NoneType"
  | .bl _ => some "bool"
  | .int _ => some "int"
  | .str _ => some "str"
  | .lst _ => some "list"
  | .tup _ => some "tuple"
  | .dct _ => some "dict"
  | .obj _ _ => none
theorem Dx.ty {K : PySem.W.Frag} {B : Addr → Prop} {H : Hp} {v : V} {d : D} {t : String} (h : Dx ad (Fz B H) v d) (e : tyS d = some t) : TyX K H v (.type t) := by
  cases h with
  | non => cases e; exact .base .non
  | bl b => cases e; exact .base (.bl b)
  | int i => cases e; exact .base (.int i)
  | str x => cases e; exact .base (.str x)
  | lst ea _ => cases e; exact .base (.lst ea.2)
  | tup ea _ => cases e; exact .base (.tup ea.2)
  | dct ea _ => cases e; exact .base (.dK ea.2)
  | obj ea _ => cases e
/-- isinstance(x, T), x no object of the package's -/
def eIs (T : String) (f : DE) : DE := fun ρ Q Ed => f ρ (fun d => match tyS d with
  | some t => Q (.bl (isS T t))
  | none => False) Ed
theorem pdIs {T : String} {y : Str} (hg : Gl X "isinstance") (hm : X.mg "isinstance" = none) (gT : Gl X y) (mT : X.mg y = none) (bT : bootBuiltins y = some (.type T)) (hk : (kinds.all fun t => decide (kitB t T = some (isS T t))) = true) (ha : PD X ad E Ed e fa)
    (hn : y ≠ "__name__" := by decide) (hdb : (y == ("__debug__" : Str)) = false := by decide)
    (hs : starEach [e, .Name y p2] X.env = (false, eval e X.env) :: starEach [.Name y p2] X.env := by rfl) (hs2 : starEach [.Name y p2] X.env = (false, eval (.Name y p2) X.env) :: starEach [] X.env := by rfl) (hpl : (backTo pos (starEach [.Name y p2] X.env)).any (·.1) = false := by rfl) :
    PD X ad E Ed (.Call (.Name "isinstance" p) [e, .Name y p2] [] pos) (eIs T fa) :=
  ⟨weakE (pe_callB call_isi hg hm PyProof.Rows.boot_isinstance (pa_cons ha.pe (pa_cons (pe_bltn (v := .ty T) gT mT bT rfl hn hdb) pa_nil hs2) hs) (by decide) (by decide) hs hpl) fun σ H Q ⟨B, s, ρ, Qd, W, h, k⟩ => ⟨B, s, ρ, _, W, h, fun d v H1 hd f1 dv => by
    split at hd
    · rename_i t et
      have mem : t ∈ kinds := by cases d <;> cases et <;> simp [kinds]
      exact ⟨v, .ty T, _, _, _, rfl, .ty T, dv.ty et, kit_ty (of_decide_eq_true (List.all_eq_true.mp hk _ mem)), k _ _ H1 hd f1 (.bl _)⟩
    · exact hd.elim⟩⟩
/-! ### bits, texts of bits -/
theorem pdBits (ho : PD X ad E Ed o fa) (hbase : attributeBase o "bit_length" X.env (eval o X.env) = eval o X.env := by rfl) (hline : (apos.endLine == pos.line) = true := by rfl) : PD X ad E Ed (.Call (.Attribute o "bit_length" apos) [] [] pos) (e1 (oI1 fun i => .int (Builtin.Int.intBits i : Nat)) fa) :=
  ⟨weakE (pe_bits ho.pe hbase hline) fun σ H Q ⟨B, s, ρ, Qd, W, h, k⟩ => ⟨B, s, ρ, _, W, h, fun d v H1 hd f1 dv => by
    unfold oI1 at hd
    split at hd
    · cases dv; exact ⟨_, rfl, k _ _ _ hd f1 (.int _)⟩
    · exact hd.elim⟩⟩
/-! ### lists of whole numbers, of flags -/
def intsD : List D → Option (List Int)
  | [] => some []
  | .int i :: r => (intsD r).map (i :: ·)
  | _ => none
def blsD : List D → Option (List Bool)
  | [] => some []
  | .bl i :: r => (blsD r).map (i :: ·)
  | _ => none
theorem DxA.intsD {F : Addr → HO → Prop} : ∀ {vs : List V} {ds : List D} {ns : List Int}, DxA ad F vs ds → DL.intsD ds = some ns → vs = ns.map V.int
  | _, _, _, .nil, e => by
    simp only [DL.intsD] at e
    cases Option.some.inj e; rfl
  | _, _, _, .cons a r, e => by
    cases a with
    | int i =>
      simp only [DL.intsD] at e
      obtain ⟨ns, e1, e2⟩ := Option.map_eq_some_iff.mp e
      subst e2
      rw [DxA.intsD r e1]; rfl
    | _ => simp [DL.intsD] at e
theorem DxA.blsD {F : Addr → HO → Prop} : ∀ {vs : List V} {ds : List D} {ns : List Bool}, DxA ad F vs ds → DL.blsD ds = some ns → vs = ns.map V.bl
  | _, _, _, .nil, e => by
    simp only [DL.blsD] at e
    cases Option.some.inj e; rfl
  | _, _, _, .cons a r, e => by
    cases a with
    | bl i =>
      simp only [DL.blsD] at e
      obtain ⟨ns, e1, e2⟩ := Option.map_eq_some_iff.mp e
      subst e2
      rw [DxA.blsD r e1]; rfl
    | _ => simp [DL.blsD] at e
theorem ints_of : ∀ ns : List Int, intsD (ns.map D.int) = some ns
  | [] => rfl
  | n :: ns => by simp only [List.map_cons, intsD, ints_of ns, Option.map_some]
theorem bools_of : ∀ ns : List Bool, blsD (ns.map D.bl) = some ns
  | [] => rfl
  | n :: ns => by simp only [List.map_cons, blsD, bools_of ns, Option.map_some]
def oSum : List D → (D → Prop) → Prop
  | [.lst xs], Q => (match intsD xs with | some ns => Q (.int ns.sum) | none => False)
  | _, _ => False
def oAny : List D → (D → Prop) → Prop
  | [.lst xs], Q => (match blsD xs with
    | some bs => Q (.bl (bs.any id))
    | none => match intsD xs with
      | some ns => Q (.bl (ns.any (· != 0)))
      | none => False)
  | _, _ => False
theorem pdAny (hc : X.calm = true) (hg : Gl X "any") (hm : X.mg "any" = none) (ha : AD X ad E Ed [e] n ga) (he : starEach [e] X.env = (false, eval e X.env) :: starEach [] X.env := by rfl) (hpl : (backTo pos (starEach [] X.env)).any (·.1) = false := by rfl) : PD X ad E Ed (.Call (.Name "any" p) [e] [] pos) (eB oAny ga) :=
  pdB (CallR.or (cr_any hc) (cr_anyI hc)) (fun B s H vs ds Qd Q w da h k => by
    unfold oAny at h
    split at h
    · split at h
      · rename_i ns e
        cases da with
        | cons a r => cases r; cases a with
          | lst ea ra =>
            have ev := ra.blsD e
            subst ev
            exact .inl ⟨_, ns, rfl, .inl (.inl ea.2), k _ _ H h w.refl (.bl _)⟩
      · split at h
        · rename_i ns e
          cases da with
          | cons a r => cases r; cases a with
            | lst ea ra =>
              have ev := ra.intsD e
              subst ev
              exact .inr ⟨_, ns, rfl, .inl (.inl ea.2), k _ _ H h w.refl (.bl _)⟩
        · exact h.elim
    · exact h.elim) hg hm (by decide +kernel) ha (by decide) (by decide) he hpl
def oAll : List D → (D → Prop) → Prop
  | [.lst xs], Q => (match blsD xs with | some bs => Q (.bl (bs.all id)) | none => False)
  | _, _ => False
/-- sorted, of whole numbers -/
def oSrtI : List D → (D → Prop) → Prop
  | [.lst xs], Q => ∃ ns, intsD xs = some ns ∧ ∀ ns' : List Int, ns'.Perm ns → ns'.Pairwise (· ≤ ·) → Q (.lst (ns'.map D.int))
  | _, _ => False
/-- xs[::-1] -/
def eRev (f : DE) : DE := fun ρ Q Ed => f ρ (fun d => match d with
  | .lst xs => Q (.lst xs.reverse)
  | _ => False) Ed
theorem DxA.reverse {F : Addr → HO → Prop} : ∀ {vs : List V} {ds : List D}, DxA ad F vs ds → DxA ad F vs.reverse ds.reverse
  | _, _, .nil => .nil
  | _, _, .cons a r => by
    rw [List.reverse_cons, List.reverse_cons]
    exact (DxA.reverse r).append (.cons a .nil)
/-- x in xs -/
def oIn (neg : Bool) : D → D → (D → Prop) → Prop
  | x, .lst ys, Q => ∃ d ds, pyN x = some d ∧ pyNs ys = some ds ∧ SeqAt.shaped d = true ∧ SeqAt.shaped (.list ds) = true ∧ Q (.bl (ng neg (ds.any fun z => PyData.eqv z d)))
  | _, _, _ => False
end
/-! ### lists that are being written, looked at -/
def seqO : Sl → Option (List D)
  | .own xs => some xs
  | .dat (.lst xs) => some xs
  | _ => none
theorem seqO_at {ad : Str → Addr} {B : Addr → Prop} {s : SO} {H : Hp} {o : Option (Option V)} {sl : Sl} {xs : List D} (w : Wd B s H) (h : SlR ad B s H o sl) (e : seqO sl = some xs) : ∃ p vs, o = some (some (.ref p)) ∧ ∀ H1, Frm s H H1 → H1 p = some (.lst vs) ∧ DxA ad (Fz B H1) vs xs := by
  cases sl with
  | own ys =>
    cases Option.some.inj e
    obtain ⟨p, vs, e1, _, n, hv, da⟩ := h
    exact ⟨p, vs, e1, fun H1 f => ⟨f.st _ _ n hv, da.mono (w.fz f)⟩⟩
  | dat d =>
    obtain ⟨v, e1, dv⟩ := h
    cases dv with
    | lst ea ra =>
      cases Option.some.inj e
      exact ⟨_, _, e1, fun H1 f => ⟨(w.fz f _ _ ea).2, ra.mono (w.fz f)⟩⟩
    | _ => cases e
  | _ => cases e
section
variable {X : Cx} {ad : Str → Addr} {E : L2.St → XK} {Ed : DXt} {e o b : Expr} {fa fb : DE} {p pos pos' pos2 apos : Pos} {i j : Nat} {x : Str} {n : Nat} {ga : DA}
/-- len(x) -/
def eLenO (i : Nat) : DE := fun ρ Q _ => match (ρ[i]?).bind seqO with
  | some xs => Q (.int xs.length)
  | none => False
/-- x[e] -/
def eIxO (i : Nat) (f : DE) : DE := fun ρ Q Ed => match (ρ[i]?).bind seqO with
  | some xs => f ρ (fun d => match d with
    | .int k => (match atI xs k with | some d => Q d | none => False)
    | _ => False) Ed
  | none => False
theorem pdIxO (hv : PE X (.Name x pos') (tVar i)) (hb : PD X ad E Ed b fb) (hs : PlainIx b) : PD X ad E Ed (.Subscript (.Name x pos') b pos) (eIxO i fb) :=
  ⟨weakE (pe_ix ix_list hv hb.pe hs) fun σ H Q ⟨B, s, ρ, Qd, W, h, k⟩ => by
    unfold eIxO at h
    split at h
    · rename_i xs e
      obtain ⟨sl, e1, e2⟩ := Option.bind_eq_some_iff.mp e
      obtain ⟨q, vs, e3, hh⟩ := seqO_at W.wd (W.rep.sl i _ e1) e2
      refine ⟨.ref q, e3, B, s, ρ, _, W, h, fun d v H1 hd f1 dv => ?_⟩
      obtain ⟨h1, da⟩ := hh H1 f1
      cases dv with
      | int j =>
        dsimp only at hd
        split at hd
        · rename_i y ey
          obtain ⟨u, hu, du⟩ := da.at_ ey
          exact ⟨q, vs, j, u, rfl, rfl, .inl (.inl h1), hu, k y u H1 hd f1 du⟩
        · exact hd.elim
      | _ => exact hd.elim
    · exact h.elim⟩
/-- x[e] = value, x a list of its own -/
def sPut (i : Nat) (fk fv : DE) : DS := fun De ρ Ed => fv ρ (fun d => match ρ[i]? with
  | some (.own xs) => fk ρ (fun k => match k with
    | .int z => (match ixN xs.length z with | some j => De.nx (ρ.set i (.own (xs.set j d))) | none => False)
    | _ => False) Ed
  | _ => False) Ed
theorem DxA.set {F : Addr → HO → Prop} {v : V} {d : D} (h : Dx ad F v d) : ∀ {vs : List V} {ds : List D} (j : Nat), DxA ad F vs ds → DxA ad F (vs.set j v) (ds.set j d)
  | _, _, _, .nil => .nil
  | _, _, 0, .cons a r => .cons h r
  | _, _, j + 1, .cons a r => .cons a (DxA.set h j r)
/-- list(x), x * k: new lists -/
def fList (f : DE) : DF := fun ρ Q Ed => f ρ (fun d => match seqD d with
  | some xs => Q xs
  | none => False) Ed
theorem none_back {s : SO} {H H1 : Hp} {p : Addr} (f : Frm s H H1) (hp : H1 p = none) : H p = none := by
  cases q : H p with
  | none => rfl
  | some o =>
    by_cases z : ∃ l, s = some (l, p)
    · obtain ⟨l, z⟩ := z
      obtain ⟨i, x, c, cl, n, y, _, h1⟩ := (f.sr l p z).at_
      rw [hp] at h1; cases h1
    · have := f.st p o (fun l a e1 e2 => z ⟨l, e2 ▸ e1⟩) q
      rw [hp] at this; cases this
theorem fin_new {B : Addr → Prop} {s : SO} {H H1 : Hp} {p : Addr} {vs : List V} {xs : List D} {Qd : List D → Prop} {Q : VK} (w1 : Wd B s H1) (f1 : Frm s H H1) (hp : H1 p = none) (da : DxA ad (Fz B H1) vs xs) (hx : Qd xs)
    (k : ∀ xs p vs H', Qd xs → H p = none → Frm s H H' → H' p = some (.lst vs) → DxA ad (Fz (fun b => B b ∨ b = p) H') vs xs → Q (.ref p) H') : Q (.ref p) (upd H1 p (.lst vs)) :=
  k _ _ _ _ hx (none_back f1 hp) (f1.trans (w1.new hp)) upd_same (da.mono fun b o q => ⟨fun z => z.elim q.1 (fun e => by
    have z := q.2
    rw [e, hp] at z
    cases z), (w1.fz (w1.new hp) b o q).2⟩)
theorem pfList (hg : Gl X "list") (hm : X.mg "list" = none) (h : PD X ad E Ed e fa) (he : starEach [e] X.env = (false, eval e X.env) :: starEach [] X.env := by rfl) (hpl : (backTo pos (starEach [] X.env)).any (·.1) = false := by rfl) : PF X ad E Ed (.Call (.Name "list" p) [e] [] pos) (fList fa) :=
  ⟨weakE (pe_callTy call_list_of hg hm PyProof.Rows.boot_list (pa_cons h.pe pa_nil he) (by decide) (by decide) he hpl) fun σ H Q ⟨B, s, ρ, Qd, W, h, k⟩ => ⟨B, s, ρ, _, W, h, fun d v H1 hd f1 dv => by
    cases dv with
    | lst ea ra => exact ⟨_, _, rfl, .inl (.inl (.inl ea.2)), fun l hl => fin_new (W.frm f1).wd f1 hl ra hd k⟩
    | tup ea ra => exact ⟨_, _, rfl, .inr (.inl (.inl ea.2)), fun l hl => fin_new (W.frm f1).wd f1 hl ra hd k⟩
    | _ => exact hd.elim⟩⟩
def fRep (f g : DE) : DF := fun ρ Q Ed => f ρ (fun x => g ρ (fun y => match x, y with
  | .lst xs, .int k => 0 ≤ k ∧ k ≤ 1000000 ∧ xs.length * k.toNat ≤ 1000000 ∧ Q (rep xs k.toNat)
  | _, _ => False) Ed) Ed
/-- xs + ys: a new list -/
def fCat (f g : DE) : DF := fun ρ Q Ed => f ρ (fun x => g ρ (fun y => match x, y with
  | .lst xs, .lst ys => xs.length + ys.length ≤ 1000000 ∧ Q (xs ++ ys)
  | _, _ => False) Ed) Ed
end
/-! ### comprehensions that are maps -/
theorem take_snocD {α : Type _} {l : List α} {i : Nat} {x : α} (h : l[i]? = some x) : l.take (i + 1) = l.take i ++ [x] := by
  rw [List.take_add_one, h]; rfl
theorem lcMap {fi : DI} {vs : List Nat} {i : Nat} {te : DE} {ρ : List Sl} {Q : List D → Prop} {Ed : DXt} (xs : List D) (f : D → D) (hf : ∀ R : List D → Prop, R xs → fi ρ R Ed) (hl : xs.length ≤ 1000000)
    (hs : ∀ x ∈ xs, ∀ Q' : D → Prop, Q' (f x) → te ((wipeD ρ vs).set i (.dat x)) Q' X0) (q : Q (xs.map f)) : fLc fi vs i tYs te ρ Q Ed := by
  refine hf _ ⟨hl, fun j acc => acc = (xs.take j).map f, rfl, ?_, ?_⟩
  · rintro j x acc hj rfl
    dsimp only [tYs]
    rw [if_pos rfl]
    refine hs x (List.mem_of_getElem? hj) _ ?_
    rw [take_snocD hj, List.map_append]; rfl
  · rintro acc rfl
    rw [List.take_length]; exact q
theorem lcFilter {fi : DI} {vs : List Nat} {i : Nat} {tt : DT} {te : DE} {ρ : List Sl} {Q : List D → Prop} {Ed : DXt} (xs : List D) (p : D → Bool) (f : D → D) (hf : ∀ R : List D → Prop, R xs → fi ρ R Ed) (hl : xs.length ≤ 1000000)
    (ht : ∀ x ∈ xs, ∀ Q' : Bool → Prop, Q' (p x) → tt ((wipeD ρ vs).set i (.dat x)) Q' X0) (hs : ∀ x ∈ xs, p x = true → ∀ Q' : D → Prop, Q' (f x) → te ((wipeD ρ vs).set i (.dat x)) Q' X0) (q : Q ((xs.filter p).map f)) : fLc fi vs i tt te ρ Q Ed := by
  refine hf _ ⟨hl, fun j acc => acc = ((xs.take j).filter p).map f, rfl, ?_, ?_⟩
  · rintro j x acc hj rfl
    refine ht x (List.mem_of_getElem? hj) _ ?_
    dsimp only
    rw [take_snocD hj, List.filter_append]
    cases h : p x with
    | true =>
      rw [if_pos rfl]
      refine hs x (List.mem_of_getElem? hj) h _ ?_
      try dsimp only
      rw [List.map_append, List.filter_cons_of_pos h]; rfl
    | false =>
      rw [if_neg (by decide), List.filter_cons_of_neg (by rw [h]; decide)]
      simp
  · rintro acc rfl
    rw [List.take_length]; exact q
/-! ### enumerate -/
section
variable {X : Cx} {ad : Str → Addr} {E : L2.St → XK} {Ed : DXt} {e : Expr} {p pos tpos : Pos} {n : Nat} {ga : DA}
def enD (xs : List D) : List D := (List.range xs.length).zip xs |>.map fun q => .tup [.int (q.1 : Nat), q.2]
theorem enD_len (xs : List D) : (enD xs).length = xs.length := by unfold enD; rw [List.length_map, List.length_zip, List.length_range, Nat.min_self]
theorem enD_get {xs : List D} {i : Nat} {y : D} (h : (enD xs)[i]? = some y) : ∃ x, xs[i]? = some x ∧ y = .tup [.int (i : Nat), x] := by
  have hl : i < xs.length := by
    have := (List.getElem?_eq_some_iff.mp h).1
    rw [enD_len] at this; exact this
  unfold enD at h
  have z : ((List.range xs.length).zip xs)[i]? = some (i, xs[i]) := List.getElem?_zip_eq_some.mpr ⟨List.getElem?_range hl, List.getElem?_eq_getElem hl⟩
  rw [List.getElem?_map, z] at h
  exact ⟨_, List.getElem?_eq_getElem hl, (Option.some.inj h).symm⟩
theorem ite_ok {K : PySem.W.Frag} {B : Addr → Prop} {H : Hp} {p : Addr} {vs : List V} {xs : List D} (h : Fz B H p (.lst vs)) (da : DxA ad (Fz B H) vs xs) : ItOk ad B H (Ite K p) (enD xs) := fun i H' B' s w k =>
  ⟨fun hi => ⟨vs, .inl (.inl (k _ _ h).2), by rw [da.length, hi, enD_len]; exact Nat.le_refl _⟩, fun y hy => by
    obtain ⟨x, hx, rfl⟩ := enD_get hy
    obtain ⟨v, hv, dv⟩ := da.getD hx
    refine ⟨⟨vs, v, .inl (.inl (k _ _ h).2), hv⟩, fun u H'' ⟨T, z, e, hT, eH, q⟩ => ?_⟩
    subst e eH
    have q := q vs (.inl (.inl (k _ _ h).2))
    rw [hv] at q
    cases Option.some.inj q
    exact ⟨Same.new (Same.refl _) hT, .tup ⟨w.nb hT, upd_same⟩ (.cons (.int _) (.cons ((dv.mono k).mono (w.fz (w.new hT))) .nil))⟩⟩
theorem itet_ok {K : PySem.W.Frag} {B : Addr → Prop} {H : Hp} {p : Addr} {vs : List V} {xs : List D} (h : Fz B H p (.tup vs)) (da : DxA ad (Fz B H) vs xs) : ItOk ad B H (IteT K p) (enD xs) := fun i H' B' s w k =>
  ⟨fun hi => ⟨vs, .inl (.inl (k _ _ h).2), by rw [da.length, hi, enD_len]⟩, fun y hy => by
    obtain ⟨x, hx, rfl⟩ := enD_get hy
    obtain ⟨v, hv, dv⟩ := da.getD hx
    refine ⟨⟨vs, v, .inl (.inl (k _ _ h).2), hv⟩, fun u H'' ⟨T, z, e, hT, eH, q⟩ => ?_⟩
    subst e eH
    have q := q vs (.inl (.inl (k _ _ h).2))
    rw [hv] at q
    cases Option.some.inj q
    exact ⟨Same.new (Same.refl _) hT, .tup ⟨w.nb hT, upd_same⟩ (.cons (.int _) (.cons ((dv.mono k).mono (w.fz (w.new hT))) .nil))⟩⟩
def iEn (g : DA) : DI := fun ρ Q Ed => g ρ (fun as => match as with
  | [.dat (.lst xs)] => Q (enD xs)
  | [.dat (.tup xs)] => Q (enD xs)
  | _ => False) Ed
theorem idEn {elts : List Expr} {kk : Nat} (hg : Gl X "enumerate") (hm : X.mg "enumerate" = none) (ha : AD X ad E Ed [e] n ga) (hs : starEach [e] X.env = [(false, eval e X.env)] := by rfl) : ID X ad E Ed (.Tuple elts kk tpos) (.Call (.Name "enumerate" p) [e] [] pos) (iEn ga) :=
  ⟨weakI (pi_enumA hg hm ha.pa hs) fun σ H R ⟨B, s, ρ, Qd, W, h, k⟩ => ⟨B, s, ρ, _, W, h, fun as vs H1 hd hl f1 da => by
    split at hd
    · cases da with
      | cons a r =>
        cases r
        cases a with
        | lst ea ra => exact ⟨_, _, rfl, .inl ⟨.inl (.inl ea.2), k _ H1 _ hd f1 (ite_ok ea ra)⟩⟩
    · cases da with
      | cons a r =>
        cases r
        cases a with
        | tup ea ra => exact ⟨_, _, rfl, .inr ⟨.inl (.inl ea.2), k _ H1 _ hd f1 (itet_ok ea ra)⟩⟩
    · exact hd.elim⟩⟩
end
end DL

set_option Elab.async false
set_option linter.all false
set_option maxRecDepth 100000
set_option maxHeartbeats 2000000
namespace DL
open PySem PySem.Spec PyProof.Rows L2 BT
/-! ### != by an own __eq__ -/
section
variable {prog : Program} {w : World} {A : Around} {E : Value → Shared → Prop} {s : Shared} {K : PySem.W.Frag} {x C L f : Addr} {h₀ : Heap} {m : Str → Option Value} {ox : Obj} {od : Option Obj} {b tb : Value}
end
/-! ### == and != of the package's own objects -/
/-- what ==, != and isinstance ask of the class at C -/
structure OwEq (K : PySem.W.Frag) (C : Addr) : Prop where
  cl : Cls K C
  ne : PySem.W.findIn K (.ref C) "__ne__" = some (some (.builtin "object.__ne__"))
  nf : ∀ t ∈ kinds, PySem.W.subIn K (.type t) (.ref C) = some false
  ha : PySem.W.findIn K (.ref C) "__class__" = some (some (.builtin "object.__class__"))
  hn : PySem.W.specialIn K (.builtin "object.__class__") "__get__" = some (some (.builtin "getset_descriptor.__get__"))
  ht : PySem.W.takesIn K (.builtin "object.__class__") = some true
  mo : PySem.W.mroIn K C (.type "object") = some true
  me : PySem.W.kitOne K (.ref C) (.ref C) = some true
  no : ∀ t ∈ kinds, PySem.W.kitOne K (.type t) (.ref C) = some false
/-- a value of a built-in kind, or an object of the class -/
def kdC (c : Str) : D → Bool
  | .obj c' _ => decide (c' = c)
  | d => (tyS d).isSome
section
variable {X : Cx} {ad : Str → Addr} {E : L2.St → XK} {Ed : DXt} {a b e : Expr} {fa fb : DE} {pos : Pos} {c : Str} {C : Addr} {dsp : DSp} {n k j : Nat} {ps : List Str}
def rOwnD (K : PySem.W.Frag) (C : Addr) (sp : Sp) (neg : Bool) : R2 := fun x y H Q => ∃ a dx fs t, x = .ref a ∧ H a = some (.ins C dx fs) ∧ TyX K H y t ∧ PySem.W.notFirst K C t = true ∧ sp [x, y] H (fun v H' => ∃ r, v = .bl r ∧ Q (.bl (ng neg r)) H') E0
theorem pass0 : Passes (L2.CX X.prog X.w) X E0 := fun _ _ _ _ _ _ _ ⟨_, _, _, _, _, _, _, _, _, _, _, _, h⟩ => h.elim
def oOwn (neg : Bool) (c : Str) (f : DSp) : D → D → (D → Prop) → Prop := fun x y Q => match x with
  | .obj c' fs => c' = c ∧ kdC c y = true ∧ f [.dat (.obj c' fs), .dat y] (fun d => ∃ b, d = .bl b ∧ Q (.bl (ng neg b))) fun _ _ => False
  | _ => False
/-- isinstance(x, C), C a class of the package's -/
def eIsO (c : Str) (f : DE) : DE := fun ρ Q Ed => f ρ (fun d => kdC c d = true ∧ Q (.bl (tyS d).isNone)) Ed
end
end DL

set_option Elab.async false
set_option linter.all false
set_option maxRecDepth 100000
set_option maxHeartbeats 4000000
namespace DL
open PySem PySem.Spec PySem.W PySem.SeqAt PySem.Calls PyProof.Rows L2 BT
/-! ### sorted, of tuples of whole numbers -/
def tupI (l : List Int) : D := .tup (l.map .int)
def pyI (l : List Int) : PyData := .tuple (l.map .int)
/-- the order in which sorted tells them -/
def SrtT (ls : List (List Int)) : Prop := ls.Pairwise fun a b => ¬ b < a
section
variable {X : Cx}
def rSortedG (K : PySem.W.Frag) : List V → Hp → VK → Prop := fun vs H Q => ∃ (a : Addr) (xs : List V) (ds : List PyData) (G : V → PyData → Prop), vs = [V.ref a] ∧ H a = some (.lst xs) ∧ EachIs G xs ds ∧ (∀ x d, G x d → Dv H x d) ∧ (∀ d ∈ ds, TupD d) ∧ ∀ (ys : List V) (p : Addr), EachIs G ys (sortD ds) → H p = none → Q (.ref p) (upd H p (.lst ys))
end
section
variable {X : Cx} {ad : Str → Addr} {E : L2.St → XK} {Ed : DXt} {e : Expr} {ga : DA} {n : Nat} {p : Pos} {pos : Pos}
def oSrtT : List D → (D → Prop) → Prop
  | [.lst xs], Q => ∃ ls : List (List Int), xs = ls.map tupI ∧ ∀ ls' : List (List Int), ls'.Perm ls → SrtT ls' → Q (.lst (ls'.map tupI))
  | _, _ => False
theorem pyR_ints (l : List Int) : pyR (tupI l) = some (pyI l) := by
  have key : ∀ l : List Int, pyRs (l.map D.int) = some (l.map PyData.int) := by
    intro l
    induction l with
    | nil => rfl
    | cons x l ih =>
      rw [List.map_cons]
      simp only [pyRs, pyR, ih]
      rfl
  unfold tupI pyI
  simp only [pyR, key]
  rfl
end
section
variable {X : Cx} {ad : Str → Addr} {E : L2.St → XK} {Ed : DXt} {pos : Pos}
theorem pdDct0 : PD X ad E Ed (.Dict [] [] pos) (eC (.dct [])) :=
  ⟨weakE pe_dnewK fun σ H Q ⟨B, s, ρ, Qd, W, h, k⟩ => fun p hp => k _ _ _ h (W.wd.new hp) (.dct ⟨W.wd.nb hp, upd_same⟩ .nil)⟩
end
end DL

set_option Elab.async false
set_option linter.all false
set_option maxRecDepth 100000
set_option maxHeartbeats 4000000
namespace DL
open PySem PySem.Spec PyProof.Rows L2 BT
/-! ### the law's own def: from its source on -/
def spLaw (K : PySem.W.Frag) : Sp := fun vs H Q _ => ∃ (a : Addr) (ns : List Int), vs = [.ref a] ∧ SqL K H a (ns.map V.int) ∧ ∀ H', Q (.bl true) H'
theorem law_rep {ad : Str → Addr} {l p : Addr} {H : Hp} {σ : L2.St} {n : Nat} (src : Src l p H) (h1 : σ[1]? = some (some (.ref p))) (hl : σ.length = n + 2) :
    Rep ad ⟨fun b => b = p ∨ b = l, some (l, p), fun b o => False, true⟩ (fun _ => none) H σ (.un :: .src :: List.replicate n .un) := by
  have hB : ∀ b, Bl ⟨fun b => b = p ∨ b = l, some (l, p), fun b o => False, true⟩ (fun _ => none) b ↔ b = p ∨ b = l := fun b => ⟨fun h => h.elim id fun ⟨i, e⟩ => (nomatch e), .inl⟩
  have sl : ∀ (i : Nat) (sl : Sl), (Sl.un :: Sl.src :: List.replicate n Sl.un)[i]? = some sl → sl = .un ∨ (i = 1 ∧ sl = .src) := fun i sl e => by
    match i, e with
    | 0, e => exact .inl (Option.some.inj e).symm
    | 1, e => exact .inr ⟨rfl, (Option.some.inj e).symm⟩
    | i + 2, e =>
      have e : (List.replicate n Sl.un)[i]? = some sl := e
      rw [List.getElem?_replicate] at e
      split at e
      · exact .inl (Option.some.inj e).symm
      · cases e
  refine ⟨⟨fun b h => ?_, fun l' a' e => ?_⟩, fun l' a' e => ?_, fun b o q => q.elim, fun i p e => (nomatch e), fun i j p e => (nomatch e), fun i sl' e => ?_, fun i xs e => ?_, fun i xs e => ?_, ?_⟩
  · rcases (hB b).mp h with rfl | rfl
    · obtain ⟨i, x, c, cl, n, y, _, h1⟩ := src.at_
      exact ⟨_, h1, fun _ e => (nomatch e)⟩
    · obtain ⟨ns, h2⟩ := src.nums
      exact ⟨_, h2, fun _ e => (nomatch e)⟩
  · cases e
    exact ⟨src, .inl (.inl rfl), .inl (.inr rfl)⟩
  · cases e
    exact ⟨.inl rfl, .inr rfl, fun o q => q.elim⟩
  · rcases sl i sl' e with rfl | ⟨rfl, rfl⟩
    · trivial
    · exact ⟨l, p, rfl, h1⟩
  · rcases sl i _ e with e | ⟨_, e⟩ <;> cases e
  · rcases sl i _ e with e | ⟨_, e⟩ <;> cases e
  · rw [hl]; simp
theorem law_go {ad : Str → Addr} {l p : Addr} {H : Hp} {σ : L2.St} {n : Nat} {g : DS} {Q : VK} (src : Src l p H) (h1 : σ[1]? = some (some (.ref p))) (hl : σ.length = n + 2) (k : ∀ H', Q (.bl true) H')
    (sem : g { nx := fun _ => False, rt := fun d => d = .bl true } (.un :: .src :: List.replicate n .un) fun _ _ _ => False) : tsD ad (fun _ => E0) (fun _ _ _ => False) g { nx := fun _ H' => Q .non H', rt := Q } σ H :=
  ⟨_, _, _, { nx := fun _ => False, rt := fun d => d = .bl true }, law_rep src h1 hl, ⟨fun _ _ P σ ρ H cn d v x _ _ _ q => q.elim⟩, ⟨fun _ _ P σ ρ H _ q => q.elim, fun _ _ P σ ρ H _ q => q.elim, fun _ _ P σ ρ H _ q => q.elim, fun _ _ P σ ρ H d v _ dv q => by
    subst q
    cases dv
    exact k H, fun _ _ _ _ _ _ _ _ _ _ _ q => q.elim, fun q => (nomatch q)⟩, sem⟩
end DL

set_option Elab.async false
set_option linter.all false
set_option maxRecDepth 100000
set_option maxHeartbeats 2000000
namespace DL
open PySem PySem.Spec PyProof.Rows L2 BT
/-! ### the head: classes with an own == -/
def owB (K : PySem.W.Frag) (c : Str) : Bool :=
  He.eqO (PySem.W.findIn K (.ref (He.ga K c)) "__ne__") (some (some (.builtin "object.__ne__"))) && (kinds.all (fun t => decide (PySem.W.subIn K (.type t) (.ref (He.ga K c)) = some false)) && (He.eqO (PySem.W.findIn K (.ref (He.ga K c)) "__class__") (some (some (.builtin "object.__class__"))) &&
  (He.eqO (PySem.W.specialIn K (.builtin "object.__class__") "__get__") (some (some (.builtin "getset_descriptor.__get__"))) && (decide (PySem.W.takesIn K (.builtin "object.__class__") = some true) && (decide (PySem.W.mroIn K (He.ga K c) (.type "object") = some true) &&
  (decide (PySem.W.kitOne K (.ref (He.ga K c)) (.ref (He.ga K c)) = some true) && kinds.all (fun t => decide (PySem.W.kitOne K (.type t) (.ref (He.ga K c)) = some false))))))))
def obsZ (fa : List He.Fa) (fn : List He.DefD) (xs os : List Str) (K : PySem.W.Frag) : AlX := (xs.all (errB K) && os.all (owB K), He.obsD fa fn K)
def obsZG (n : Nat) (fa : List He.Fa) (fn : List He.DefD) (xs os : List Str) (g : Addr → Option Obj) : AlX := obsZ fa fn xs os (He.frG g (He.asD g n))
def hookZ (n : Nat) (fa : List He.Fa) (fn : List He.DefD) (xs os : List Str) : PySem.W.Hook where
  α := AlX
  obs := fun s => obsZG n fa fn xs os s.heap.get?
  val := fun _ => (true, He.valD fn)
  says := fun _ h => ∃ K : PySem.W.Frag, K.In h ∧ (xs.all (errB K) && os.all (owB K)) = true ∧ He.SaysD fa fn K
  of := fun _ _ e => ⟨_, He.frG_in, congrArg (fun z : AlX => z.1) e, congrArg (fun z : AlX => z.2) e⟩
  keeps := fun _ _ _ h k => by
    obtain ⟨K, h1, h2, h3⟩ := h
    exact ⟨K, PySem.W.Frag.In.keeps h1 k, h2, h3⟩
theorem obsZG_eq {n : Nat} {fa : List He.Fa} {fn : List He.DefD} {xs os : List Str} {g : Addr → Option Obj} {s : Shared} (h : ∀ a, g a = s.heap.get? a) : obsZG n fa fn xs os g = (hookZ n fa fn xs os).obs s := by
  cases (show g = s.heap.get? from funext h)
  rfl
/-- one class -/
theorem tab_one {K : PySem.W.Frag} {ad : Str → Addr} {c : Str} {fs : List Str} (cl : Cls K (ad c)) (no : ∀ f ∈ fs, NoAttr K (ad c) f) : ClsTab K ad [(c, fs)] := by
  have one : ∀ (c' : Str) (fs' : List Str), List.lookup c' [(c, fs)] = some fs' → c' = c ∧ fs' = fs := fun c' fs' h => by
    rw [List.lookup_cons] at h
    split at h
    · rename_i q
      exact ⟨by simpa using q, (Option.some.inj h).symm⟩
    · simp at h
  exact ⟨fun c' fs' h => by obtain ⟨rfl, rfl⟩ := one c' fs' h; exact cl, fun c' fs' h => by obtain ⟨rfl, rfl⟩ := one c' fs' h; exact no⟩
end DL

set_option Elab.async false
set_option linter.all false
set_option maxRecDepth 100000
set_option maxHeartbeats 0
namespace BT
open PySem PySem.Spec PyProof.Rows L2 DL
/-! ### the head: what stands behind the top -/
def dI : He.DefD := ⟨("BlindError", some "__init__"), "__init__", "BlindError.__init__", defArgs s_BlindError_init, defBody s_BlindError_init, defScope s_BlindError_init, [.non], []⟩
def plainD (x : Str) (st : Stmt) : He.DefD := ⟨(x, none), x, x, defArgs st, defBody st, defScope st, [], []⟩
def dfltD (x : Str) (st : Stmt) (l : List He.Dv) : He.DefD := ⟨(x, none), x, x, defArgs st, defBody st, defScope st, l, []⟩
def methD (c x q : Str) (st : Stmt) : He.DefD := ⟨(c, some x), x, q, defArgs st, defBody st, defScope st, [], []⟩
def fnK : List He.DefD := dI :: [plainD "_law_source" s_law_source, plainD "_law_open" s_law_open, plainD "_law_draw" s_law_draw, plainD "lowest" s_lowest, methD "Book" "__init__" "Book.__init__" s_Book_init, plainD "lowest" s_lowest, plainD "odd" s_odd, plainD "cleared" s_cleared, plainD "sweep" s_sweep, plainD "reduce_rows" s_reduce_rows, plainD "mask_of" s_mask_of, plainD "lot_of" s_lot_of, plainD "picked" s_picked, plainD "span" s_span, plainD "is_number" s_is_number, plainD "is_between" s_is_between, plainD "need_size" s_need_size, plainD "is_lot" s_is_lot, plainD "need_lot" s_need_lot, plainD "need_each_lot" s_need_each_lot] ++ [dfltD "need_lots" s_need_lots [.int 60], plainD "need_book_size" s_need_book_size, methD "Book" "is_check" "Book.is_check" s_Book_is_check, plainD "is_bit" s_is_bit, plainD "_is_item" s_is_item, plainD "need_log" s_need_log, plainD "against_fault" s_against_fault, plainD "_law_lot" s_law_lot, plainD "_law_odd" s_law_odd, plainD "_law_row" s_law_row, plainD "_law_check" s_law_check, plainD "_law_log" s_law_log, plainD "_law_due" s_law_due, plainD "_law_wrong" s_law_wrong, plainD "law" s_law]
def faK : List He.Fa := [.free "int", .free "bool", .free "tuple", .free "list", .free "range", .free "len", .free "isinstance", .free "enumerate", .free "abs", .free "min", .free "repr", .free "sorted", .free "any", .free "all", .free "sum", .int "ALL_PLACES" (-1), .int "MOST_ITEMS" 60, .int "MOST_PLACES" 60, .int "MOST_SIZE" 24, .glo "_law_source"] ++ [.glo "_law_open", .glo "_law_draw", .glo "lowest", .glo "lowest", .glo "odd", .glo "cleared", .glo "sweep", .glo "reduce_rows", .glo "mask_of", .glo "lot_of", .glo "picked", .glo "span", .glo "is_number", .glo "is_between", .glo "need_size", .glo "is_lot", .glo "need_lot", .glo "need_each_lot", .glo "need_lots", .glo "need_book_size"] ++ [.glo "is_bit", .glo "_is_item", .glo "need_log", .glo "against_fault", .glo "_law_lot", .glo "_law_odd", .glo "_law_row", .glo "_law_check", .glo "_law_log", .glo "_law_due", .glo "_law_wrong", .glo "law", .glo "Book", .cls "Book", .noat "Book" "size", .noat "Book" "masks", .noat "Book" "dim", .mkr "Book", .meth "Book" "is_check"]
def xsK : List Str := ["BadSize", "BadLot", "BadLots", "BadLog"]
abbrev R : PySem.W.OpenRow := PySem.W.OpenLaw.row PySem.Challenge.rw_blindtwins_k32_whole_against_fault
def owK : List Str := []
abbrev hkK : PySem.W.Hook := hookZ 5 faK fnK xsK owK
def obK (s : PySem.W.SharedT) : AlX := obsZG 5 faK fnK xsK owK (HandSHeadRun.getT s)
theorem obK_eq (s : PySem.W.SharedT) : obK s = hkK.obs s.abs := obsZG_eq (HandSHeadRun.getT_eq s)
def looseK : List Str := (R.prog.main.scope.names.filter fun p => p.2 == .local && p.1 != ("law" : Str) && p.1 != ("__name__" : Str)).map (·.1)
theorem runK (w : World) : HandSHeadRun.RunEq R (PySem.W.view R.prog [53]) hkK obK 9000 looseK w := by
  intro os
  kernel_rfl
end BT

set_option Elab.async false
set_option linter.all false
set_option maxRecDepth 100000
set_option maxHeartbeats 2000000
namespace DL
open PySem PySem.Spec PyProof.Rows L2 BT
/-! ### repr of flags and numbers too; x in a tuple of whole numbers; three names -/
section
variable {X : Cx} {ad : Str → Addr} {E : L2.St → XK} {Ed : DXt} {e : Expr} {p pos : Pos} {n : Nat} {ga : DA}
def blS (b : Bool) : Str := if b then "True" else "False"
def rReprB : List V → Hp → VK → Prop := fun xs H Q => rRepr xs H Q ∨ (∃ b, xs = [.bl b] ∧ Q (.str (blS b)) H) ∨ (∃ i : Int, xs = [.int i] ∧ i.natAbs.log2 < 1920 ∧ Q (.str (toString i)) H) ∨ ∃ x : Str, xs = [.str x] ∧ (PySem.reprText x).length ≤ sizeLine ∧ Q (.str (PySem.reprText x)) H
theorem call_reprB (gd : X.A.guards = some []) (hu : X.A.units + 64 < cLine) : CallR X (.builtin "repr") rReprB := by
  intro pins s σ H xs us Q I r h
  rcases h with h | ⟨b, rfl, q⟩ | ⟨i, rfl, hz, q⟩ | ⟨x, rfl, hz, q⟩
  · exact call_repr gd hu pins s σ H xs us Q I r h
  · obtain ⟨u, rfl, r1⟩ := vals1 r
    cases (show u = Value.bool b from r1)
    exact PySem.P.repr_of_bool ⟨.str (blS b), H, I.tok _, ⟨_, rfl⟩, q⟩
  · obtain ⟨u, rfl, t, rfl⟩ := vals1 r
    exact PySem.P.repr_of_int hz ⟨.str _, H, I.tok _, ⟨_, rfl⟩, q⟩
  · obtain ⟨u, rfl, t, rfl⟩ := vals1 r
    exact PySem.P.repr_of_str (hsz := hz) ⟨.str _, H, I.tok _, ⟨_, rfl⟩, q⟩
def oReprB : List D → (D → Prop) → Prop
  | [.bl b], Q => Q (.str (blS b))
  | [.int i], Q => i.natAbs.log2 < 1920 ∧ Q (.str (toString i))
  | [.str x], Q => (PySem.reprText x).length ≤ sizeLine ∧ Q (.str (PySem.reprText x))
  | [d], Q => (match d with | .tup _ => True | .lst _ => True | .dct _ => True | _ => False) ∧ ∃ p, pyR d = some p ∧ Sr p ∧ Q (.str p.shown)
  | _, _ => False
/-- i in a tuple of whole numbers -/
def oInI (neg : Bool) : D → D → (D → Prop) → Prop
  | .int i, .tup ys, Q => ∃ ns, intsD ys = some ns ∧ Q (.bl (ng neg (decide (i ∈ ns))))
  | .int i, .lst ys, Q => ∃ ns, intsD ys = some ns ∧ Q (.bl (ng neg (decide (i ∈ ns))))
  | _, _, _ => False
/-- three names -/
def gN3 (i j l : Nat) : DG := fun d ρ Q => match d with
  | .tup [x, y, z] => Q (((ρ.set i (.dat x)).set j (.dat y)).set l (.dat z))
  | _ => False
end
end DL
namespace DL
open PySem PySem.Spec PyProof.Rows L2 BT
section
variable {X : Cx} {ad : Str → Addr} {E : L2.St → XK} {Ed : DXt} {a b c : Expr} {fa fb fc : DE} {pos : Pos}
/-- a chain's value -/
def eCh (o1 o2 : D → D → (D → Prop) → Prop) (fa fb fc : DE) : DE := fun ρ Q Ed => tCh o1 o2 fa fb fc ρ (fun k => Q (.bl k)) Ed
theorem pdChain {op op' : CmpOp} {r r' : R2} {o1 o2 : D → D → (D → Prop) → Prop} (ho : OpR X (compareOp op) r) (ho' : OpR X (compareOp op') r') (h1 : OpD ad r o1) (h2 : OpD ad r' o2) (ha : PD X ad E Ed a fa) (hb : PD X ad E Ed b fb) (hc : PD X ad E Ed c fc)
    (pe : ∀ {ta tb tc : TE}, PE X a ta → PE X b tb → PE X c tc → PE X (.Compare a [op, op'] [b, c] pos) (tChain r r' ta tb tc)) : PD X ad E Ed (.Compare a [op, op'] [b, c] pos) (eCh o1 o2 fa fb fc) :=
  ⟨weakE (pe ha.pe hb.pe hc.pe) fun σ H Q ⟨B, s, ρ, Qd, W, h, k⟩ => ⟨B, s, ρ, _, W, h, fun x v H1 hx f1 dx => ⟨B, s, ρ, _, W.frm f1, hx, fun y u H2 hy f2 dy =>
    h1 B s H2 v u x y _ _ (W.frm (f1.trans f2)).wd ((W.frm f1).wd.dx f2 dx) dy hy fun d v' H3 hd f3 dd => by
      cases d with
      | bl c =>
        cases dd
        cases c with
        | true => exact ⟨true, rfl, iteT ⟨B, s, ρ, _, W.frm (f1.trans (f2.trans f3)), hd, fun z z' H4 hz f4 dz => h2 B s H4 u z' y z _ _ (W.frm (f1.trans (f2.trans (f3.trans f4)))).wd ((W.frm (f1.trans f2)).wd.dx (f3.trans f4) dy) dz hz fun d2 w' H5 hd2 f5 dd2 => by
            cases d2 with
            | bl c => cases dd2; exact k (.bl c) _ H5 hd2 (f1.trans (f2.trans (f3.trans (f4.trans f5)))) (.bl c)
            | _ => exact hd2.elim⟩⟩
        | false => exact ⟨false, rfl, iteF (k (.bl false) _ H3 hd (f1.trans (f2.trans f3)) (.bl false))⟩
      | _ => exact hd.elim⟩⟩⟩
end
end DL
namespace DL
open PySem PySem.Spec PyProof.Rows L2 BT
section
variable {X : Cx} {ad : Str → Addr} {E : L2.St → XK} {Ed : DXt} {e : Expr} {fa : DE} {p pos pos' apos : Pos}
/-- data that lies nowhere -/
def flatD : D → Prop
  | .non => True
  | .bl _ => True
  | .int _ => True
  | .str _ => True
  | _ => False
/-- xs.append(..), what is put reads xs itself -/
def sAppF (i : Nat) (f : DE) : DS := fun De ρ Ed => match ρ[i]? with
  | some (.own xs) => f (ρ.set i (.dat (.lst xs))) (fun d => flatD d ∧ xs.length < 1000000 ∧ De.nx (ρ.set i (.own (xs ++ [d])))) Ed
  | _ => False
end
end DL

set_option Elab.async false
set_option linter.all false
set_option maxRecDepth 100000
set_option maxHeartbeats 4000000
set_option exponentiation.threshold 2000
namespace BT
open PySem PySem.Spec PyProof.Rows L2
/-- the built-in names that the text leaves alone -/
structure Bi (mg : Str → Option Value) : Prop where
  int : mg "int" = none
  bool : mg "bool" = none
  tuple : mg "tuple" = none
  list : mg "list" = none
  range : mg "range" = none
  len : mg "len" = none
  isinstance : mg "isinstance" = none
  enumerate : mg "enumerate" = none
  abs : mg "abs" = none
  min : mg "min" = none
  repr : mg "repr" = none
structure Bi2 (mg : Str → Option Value) : Prop where
  sorted : mg "sorted" = none
  any : mg "any" = none
  all : mg "all" = none
  sum : mg "sum" = none
end BT
namespace DL
open PySem PySem.Spec PyProof.Rows L2 BT
def d_law_draw : DSp := fun as Q _ => ∃ m : Int, as = [.src, .dat (.int m)] ∧ 0 < m ∧ m < 1073741824 ∧ ∀ v : Int, 0 ≤ v → v < m → Q (.int v)
end DL

set_option Elab.async false
set_option linter.all false
set_option maxRecDepth 100000
set_option maxHeartbeats 4000000
set_option exponentiation.threshold 2000
namespace BT
open PySem PySem.Spec PyProof.Rows L2
/-! ### the law's source of draws -/
/-- the seven items of a source -/
def srcL (l : Addr) (i b c cl n w : Int) : List V := [.ref l, .int i, .int b, .int c, .int cl, .int n, .int w]
theorem Src.put {l a : Addr} {H : Hp} (s : Src l a H) {i b c cl n w : Int} (h : 0 ≤ i) : Keeps l a H (upd H a (.lst (srcL l i b c cl n w))) := by
  obtain ⟨ns, h2⟩ := s.nums
  exact ⟨⟨⟨i, b, c, cl, n, w, h, upd_same⟩, ⟨ns, by rw [upd_ne s.ne]; exact h2⟩⟩, fun p o hp e => by rw [upd_ne hp]; exact e⟩
section
variable {P : Program} {w : World} {K : PySem.W.Frag} {mg : Str → Option Value} {base : Heap}
def spSource (K : PySem.W.Frag) : Sp := fun vs H Q _ => ∃ (a : Addr) (ns : List Int), vs = [.ref a] ∧ SqL K H a (ns.map V.int) ∧ ∀ (p l : Addr) (H' : Hp), H p = none → Same H H' → Src l p H' → Q (.ref p) H'
theorem scSource : FnScope ["_law_script"] ["_law_script"] (defScope s_law_source) := ⟨rfl, rfl, rfl, by decide +kernel, rfl, by decide +kernel, by decide +kernel⟩
theorem ok_law_source {f : Addr} {fd : FuncData} (T : Bi mg) (T2 : Bi2 mg) (F : FnP K "_law_source" s_law_source f fd) : FnOk P w K mg base CX0 1 f fd ["_law_script"] (spSource K) := by
  refine F.ok scSource (fun vs H Q E h => ?_) (fun cdv A outer s H vs Q E hr h => ?_)
  · obtain ⟨a, ns, rfl, _⟩ := h
    rfl
  · obtain ⟨a, ns, rfl, hS, k⟩ := h
    refine ⟨_, PSs.nox (pss_one (ps_ret (pe_lst (pa_cons (pe_callTy call_list_of rfl T.list PyProof.Rows.boot_list (pa_cons (pv 0) pa_nil)) (pa_cons pe_int (pa_cons pe_int (pa_cons pe_int (pa_cons (pe_callB (cr_sum rfl) rfl T2.sum (by decide +kernel) (pa_cons (pv 0) pa_nil)) (pa_cons pe_int (pa_cons pe_int pa_nil)))))))))), ?_⟩
    refine ⟨_, rfl, a, _, rfl, .inl hS, fun l hl => ?_⟩
    have hS2 : SqL K (upd H l (.lst (ns.map V.int))) a (ns.map V.int) := by
      have keep : ∀ o, H a = some o → upd H l (.lst (ns.map V.int)) a = some o := fun o ho => by
        rw [upd_ne (fun e => by rw [e, hl] at ho; cases ho)]; exact ho
      rcases hS with h | h
      · left
        rcases h with h | h
        · exact .inl (keep _ h)
        · obtain ⟨o, h⟩ := h
          exact .inr ⟨o, keep _ h⟩
      · exact .inr h
    refine ⟨_, rfl, a, ns, rfl, hS2, (by show 7 ≤ sizeLine; decide), fun p hp => ?_⟩
    have hlp : l ≠ p := fun e => by rw [← e, upd_same] at hp; cases hp
    have hp0 : H p = none := by rw [upd_ne (Ne.symm hlp)] at hp; exact hp
    refine k p l _ hp0 (Same.new (Same.new (Same.refl H) hl) hp) ⟨⟨0, 0, 0, _, 0, 0, by decide, upd_same⟩, ⟨ns, ?_⟩⟩
    rw [upd_ne hlp, upd_same]
/-! ### open -/
def spNext : Sp := fun vs H Q _ => ∃ (l a : Addr), vs = [.ref a] ∧ Src l a H ∧ ∀ H', Keeps l a H H' → Q .non H'
theorem scNext : FnScope ["_law_source_here", "_law_cell"] ["_law_source_here"] (defScope s_law_open) := ⟨rfl, rfl, rfl, by decide +kernel, rfl, by decide +kernel, by decide +kernel⟩
theorem ok_law_open {f : Addr} {fd : FuncData} (T : Bi mg) (F : FnP K "_law_open" s_law_open f fd) : FnOk P w K mg base CX0 1 f fd ["_law_source_here"] spNext := by
  refine F.ok scNext (fun vs H Q E h => ?_) (fun cdv A outer s H vs Q E hr h => ?_)
  · obtain ⟨l, a, rfl, _⟩ := h
    rfl
  · obtain ⟨l, a, rfl, hS, k⟩ := h
    refine ⟨_, PSs.nox (pss_cons (ps_set (i := 1) scNext.nd rfl (Or.inl rfl) (pe_ix ix_list (pv 0) pe_int (fun _ _ => rfl)))
      (pss_cons (ps_asg pe_int (pg_sub (pv 0) pe_int set_list))
      (pss_cons (ps_if (pt_cmpR op_lt (pe_ix ix_list (pv 0) pe_int (fun _ _ => rfl)) (pe_callB call_len_seq (by rfl) T.len PySem.boot_len (pa_cons (pe_ix ix_list (pv 0) pe_int (fun _ _ => rfl)) pa_nil)) (nomark _))
        (pss_cons (ps_set (i := 1) scNext.nd rfl (Or.inl rfl) (pe_ix ix_list (pe_ix ix_list (pv 0) pe_int (fun _ _ => rfl)) (pe_ix ix_list (pv 0) pe_int (fun _ _ => rfl)) (fun _ _ => rfl)))
          (pss_one (ps_if (pt_cmpR op_ge (pe_callB call_abs (by rfl) T.abs PyProof.Rows.boot_abs (pa_cons (pv 1) pa_nil)) (pe_op op_pow pe_int pe_int) (nomark _))
            (pss_cons (ps_asg (pe_callB call_abs (by rfl) T.abs PyProof.Rows.boot_abs (pa_cons (pv 1) pa_nil)) (pg_sub (pv 0) pe_int set_list))
              (pss_one (ps_asg pe_int (pg_sub (pv 0) pe_int set_list)))) pss_nil))) pss_nil)
      (pss_cons (ps_asg (pe_op op_add (pe_ix ix_list (pv 0) pe_int (fun _ _ => rfl)) pe_int) (pg_sub (pv 0) pe_int set_list))
      (pss_one (ps_asg (pe_op op_mod (pe_callTy call_int1 rfl T.int PyProof.Rows.boot_int (pa_cons (pe_callB call_abs (by rfl) T.abs PyProof.Rows.boot_abs (pa_cons (pv 1) pa_nil)) pa_nil)) pe_int) (pg_sub (pv 0) pe_int set_list))))))), ?_⟩
    obtain ⟨i, b, c, cl, n, z, h0, h1⟩ := hS.at_
    obtain ⟨ns, h2⟩ := hS.nums
    have ne := hS.ne
    have fin : ∀ (H1 : Hp) (b' c' y v : Int), H1 a = some (.lst (srcL l i b' c' cl n z)) → (∀ p, p ≠ a → H1 p = H p) → Q .non (upd (upd H1 a (.lst ((srcL l i b' c' cl n z).set 1 (.int (i + 1))))) a (.lst (((srcL l i b' c' cl n z).set 1 (.int (i + 1))).set 6 (.int v)))) := by
      intro H1 b' c' y v e1 e2
      refine k _ ?_
      have q := hS.put (i := i + 1) (b := b') (c := c') (cl := cl) (n := n) (w := v) (by omega)
      have e : upd (upd H1 a (.lst ((srcL l i b' c' cl n z).set 1 (.int (i + 1))))) a (.lst (((srcL l i b' c' cl n z).set 1 (.int (i + 1))).set 6 (.int v))) = upd H a (.lst (srcL l (i + 1) b' c' cl n v)) := by
        rw [upd_upd]
        funext p
        by_cases hp : p = a
        · rw [hp, upd_same, upd_same]; rfl
        · rw [upd_ne hp, upd_ne hp, e2 p hp]
      rw [e]
      exact q
    refine ⟨_, rfl, a, _, 4, .int cl, rfl, rfl, .inl (.inl h1), rfl, _, rfl, a, _, 3, 3, rfl, rfl, h1, rfl, ?_⟩
    have g1 : (upd H a (.lst (srcL l i b 7 cl n z))) a = some (.lst (srcL l i b 7 cl n z)) := upd_same
    have g2 : (upd H a (.lst (srcL l i b 7 cl n z))) l = some (.lst (ns.map V.int)) := by rw [upd_ne ne]; exact h2
    show tSeq _ _ _ _ (upd H a (.lst (srcL l i b 7 cl n z)))
    refine ⟨_, rfl, a, _, 1, .int i, rfl, rfl, .inl (.inl g1), rfl, _, rfl, a, _, 0, .ref l, rfl, rfl, .inl (.inl g1), rfl, l, _, rfl, .inl (.inl (.inl g2)), _, _, rfl, rfl, _, rfl, ?_⟩
    rw [List.length_map]
    by_cases hlt : i < (ns.length : Int)
    · rw [decide_eq_true hlt]
      obtain ⟨j, rfl⟩ := Int.eq_ofNat_of_zero_le h0
      have hj : j < ns.length := by omega
      have hget : ((ns.map V.int))[j]? = some (.int ns[j]) := by rw [List.getElem?_map, List.getElem?_eq_getElem hj]; rfl
      refine iteT ⟨_, rfl, a, _, 0, .ref l, rfl, rfl, .inl (.inl g1), rfl, _, rfl, a, _, 1, .int (j : Nat), rfl, rfl, .inl (.inl g1), rfl, l, _, (j : Nat), _, rfl, rfl, .inl (.inl g2), atI_nat hget, ?_⟩
      refine ⟨_, rfl, _, rfl, _, _, rfl, rfl, ⟨by decide, by decide, by decide⟩, _, _, rfl, rfl, _, rfl, ?_⟩
      refine ite2 (fun _ => ?_) (fun _ => ?_)
      · refine ⟨_, rfl, _, rfl, _, rfl, a, _, 2, 2, rfl, rfl, g1, rfl, ?_⟩
        refine ⟨_, rfl, a, _, 3, 3, rfl, rfl, upd_same, rfl, ?_⟩
        have g3 : (upd (upd (upd H a (.lst (srcL l (j : Nat) b 7 cl n z))) a (.lst ((srcL l (j : Nat) b 7 cl n z).set 2 (.int (if ns[j] < 0 then -ns[j] else ns[j]))))) a (.lst (((srcL l (j : Nat) b 7 cl n z).set 2 (.int (if ns[j] < 0 then -ns[j] else ns[j]))).set 3 (.int 0)))) a = some (.lst (srcL l (j : Nat) (if ns[j] < 0 then -ns[j] else ns[j]) 0 cl n z)) := by rw [upd_same]; rfl
        refine ⟨_, rfl, a, _, 1, .int (j : Nat), rfl, rfl, .inl (.inl g3), rfl, _, _, rfl, rfl, _, rfl, a, _, 1, 1, rfl, rfl, g3, rfl, ?_⟩
        refine ⟨_, rfl, _, rfl, .inl ⟨_, rfl, _, _, rfl, rfl, (by show (0 : Int) < 2147483647; decide), _, rfl, a, _, 6, 6, rfl, rfl, upd_same, rfl, ?_⟩⟩
        exact fin _ _ _ 0 _ g3 (fun p hp => by rw [upd_ne hp, upd_ne hp, upd_ne hp])
      · refine ⟨_, rfl, a, _, 1, .int (j : Nat), rfl, rfl, .inl (.inl g1), rfl, _, _, rfl, rfl, _, rfl, a, _, 1, 1, rfl, rfl, g1, rfl, ?_⟩
        refine ⟨_, rfl, _, rfl, .inl ⟨_, rfl, _, _, rfl, rfl, (by show (0 : Int) < 2147483647; decide), _, rfl, a, _, 6, 6, rfl, rfl, upd_same, rfl, ?_⟩⟩
        exact fin _ _ _ 0 _ g1 (fun p hp => upd_ne hp)
    · rw [decide_eq_false hlt]
      refine iteF ?_
      refine ⟨_, rfl, a, _, 1, .int i, rfl, rfl, .inl (.inl g1), rfl, _, _, rfl, rfl, _, rfl, a, _, 1, 1, rfl, rfl, g1, rfl, ?_⟩
      refine ⟨_, rfl, _, rfl, .inl ⟨_, rfl, _, _, rfl, rfl, (by show (0 : Int) < 2147483647; decide), _, rfl, a, _, 6, 6, rfl, rfl, upd_same, rfl, ?_⟩⟩
      exact fin _ _ _ 0 _ g1 (fun p hp => upd_ne hp)
/-! ### draw -/
def spDraw : Sp := fun vs H Q _ => ∃ (l a : Addr) (m : Int), vs = [.ref a, .int m] ∧ 0 < m ∧ m < 1073741824 ∧ Src l a H ∧ ∀ (v : Int) (H' : Hp), 0 ≤ v → v < m → Keeps l a H H' → Q (.int v) H'
theorem scDraw : FnScope ["_law_source_here", "_law_many", "_law_value", "_law_number"] ["_law_source_here", "_law_many"] (defScope s_law_draw) := ⟨rfl, rfl, rfl, by decide +kernel, rfl, by decide +kernel, by decide +kernel⟩
theorem ok_law_draw {f : Addr} {fd : FuncData} (T : Bi mg) (DN : DefOk P w K mg base CX0 1 "_law_open" ["_law_source_here"] spNext)
    (F : FnP K "_law_draw" s_law_draw f fd) : FnOk P w K mg base CX0 2 f fd ["_law_source_here", "_law_many"] spDraw := by
  refine F.ok scDraw (fun vs H Q E h => ?_) (fun cdv A outer s H vs Q E hr h => ?_)
  · obtain ⟨l, a, m, rfl, _⟩ := h
    rfl
  · obtain ⟨l, a, m, rfl, m0, m1, hS, k⟩ := h
    refine ⟨_, PSs.nox (pss_cons (ps_asg (pe_op op_add (pe_ix ix_list (pv 0) pe_int (fun _ _ => rfl)) pe_int) (pg_sub (pv 0) pe_int set_list))
      (pss_cons (ps_if (PW.pt (pw_and (pt_cmpR op_eq (pe_ix ix_list (pv 0) pe_int (fun _ _ => rfl)) pe_int (nomark _)) (pw_and1 (pt_cmpR op_eq (pe_ix ix_list (pv 0) pe_int (fun _ _ => rfl)) pe_int (nomark _)))))
        (pss_one (ps_expr (pe_d DN hr rfl (pa_cons (pv 0) pa_nil)))) pss_nil)
      (pss_cons (ps_if (pt_cmpR op_gt (pe_ix ix_list (pv 0) pe_int (fun _ _ => rfl)) pe_int (nomark _))
        (pss_cons (ps_set (i := 2) scDraw.nd rfl (Or.inl rfl) (pe_op op_mod (pe_callTy call_int1 rfl T.int PyProof.Rows.boot_int (pa_cons (pe_ix ix_list (pv 0) pe_int (fun _ _ => rfl)) pa_nil)) (pv 1)))
          (pss_cons (ps_asg (pe_op op_fdiv (pe_ix ix_list (pv 0) pe_int (fun _ _ => rfl)) (pv 1)) (pg_sub (pv 0) pe_int set_list))
            (pss_one (ps_ret (pv 2))))) pss_nil)
      (pss_cons (ps_asg (pe_op op_sub (pe_ix ix_list (pv 0) pe_int (fun _ _ => rfl)) pe_int) (pg_sub (pv 0) pe_int set_list))
      (pss_cons (ps_set (i := 3) scDraw.nd rfl (Or.inl rfl) (pe_op op_mod (pe_callTy call_int1 rfl T.int PyProof.Rows.boot_int (pa_cons (pe_op op_mul (pe_op op_add (pe_op op_add (pe_op op_mul (pe_ix ix_list (pv 0) pe_int (fun _ _ => rfl)) pe_int) (pe_op op_mul pe_int (pe_ix ix_list (pv 0) pe_int (fun _ _ => rfl)))) pe_int) pe_int) pa_nil)) pe_int))
      (pss_cons (ps_set (i := 3) scDraw.nd rfl (Or.inl rfl) (pe_op op_mod (pe_callTy call_int1 rfl T.int PyProof.Rows.boot_int (pa_cons (pe_op op_mul (pv 3) (pe_op op_add (pe_op op_fdiv (pv 3) pe_int) pe_int)) pa_nil)) pe_int))
      (pss_cons (ps_set (i := 3) scDraw.nd rfl (Or.inl rfl) (pe_op op_mod (pe_callTy call_int1 rfl T.int PyProof.Rows.boot_int (pa_cons (pe_op op_mul (pv 3) (pe_op op_add (pe_op op_fdiv (pv 3) pe_int) pe_int)) pa_nil)) pe_int))
      (pss_one (ps_ret (pe_op op_mod (pe_callTy call_int1 rfl T.int PyProof.Rows.boot_int (pa_cons (pe_op op_fdiv (pv 3) pe_int) pa_nil)) (pv 1))))))))))), ?_⟩
    have cm : ∀ {u m t : Int}, 0 < m → m < 2 ^ 64 → CMul (u % m) t := fun {u m t} h1 h2 => .inl ⟨by have := Int.emod_nonneg u (Int.ne_of_gt h1); omega, by have := Int.emod_lt_of_pos u h1; omega⟩
    obtain ⟨i, b, c, cl, n, z, h0, h1⟩ := hS.at_
    -- count + 1
    refine ⟨_, rfl, a, _, 5, .int n, rfl, rfl, .inl (.inl h1), rfl, _, _, rfl, rfl, _, rfl, a, _, 5, 5, rfl, rfl, h1, rfl, ?_⟩
    have k1 : Keeps l a H (upd H a (.lst (srcL l i b c cl (n + 1) z))) := hS.put h0
    have g1 : (upd H a (.lst (srcL l i b c cl (n + 1) z))) a = some (.lst (srcL l i b c cl (n + 1) z)) := upd_same
    show tSeq _ _ _ _ (upd H a (.lst (srcL l i b c cl (n + 1) z)))
    generalize upd H a (.lst (srcL l i b c cl (n + 1) z)) = H1 at k1 g1
    refine ⟨_, rfl, a, _, 2, .int b, rfl, rfl, .inl (.inl g1), rfl, rfl, _, rfl, ?_⟩
    refine ite2 (fun _ => ?_) (fun _ => ?_)
    · refine ⟨_, rfl, a, _, 3, .int c, rfl, rfl, .inl (.inl g1), rfl, rfl, _, rfl, ?_⟩
      refine ite2 (fun _ => ?_) (fun _ => ?_)
      · refine ⟨_, rfl, l, a, rfl, k1.src, fun H2 k0 => ?_⟩
        have k2 := k1.trans k0
        clear k0 g1
        obtain ⟨i, b, c, cl, n, z, h0, h1⟩ := k2.src.at_
        refine ⟨_, rfl, a, _, 2, .int b, rfl, rfl, .inl (.inl h1), rfl, _, _, rfl, rfl, _, rfl, ?_⟩
        refine ite2 (fun _ => ?_) (fun _ => ?_)
        · refine ⟨_, rfl, a, _, 2, .int b, rfl, rfl, .inl (.inl h1), rfl, .inl ⟨_, rfl, _, rfl, _, _, rfl, rfl, m0, ?_⟩⟩
          refine ⟨_, rfl, a, _, 2, .int b, rfl, rfl, .inl (.inl h1), rfl, _, rfl, _, _, rfl, rfl, ⟨m0, m1⟩, _, rfl, a, _, 2, 2, rfl, rfl, h1, rfl, ?_⟩
          refine ⟨_, rfl, k (b % m) _ (Int.emod_nonneg _ (Int.ne_of_gt m0)) (Int.emod_lt_of_pos _ m0) (k2.trans ?_)⟩
          exact k2.src.put (i := i) (b := b / m) (c := c) (cl := cl) (n := n) (w := z) h0
        · refine ⟨_, rfl, a, _, 3, .int c, rfl, rfl, .inl (.inl h1), rfl, _, _, rfl, rfl, _, rfl, a, _, 3, 3, rfl, rfl, h1, rfl, ?_⟩
          have k3 : Keeps l a H2 (upd H2 a (.lst (srcL l i b (c - 1) cl n z))) := k2.src.put h0
          have g3 : (upd H2 a (.lst (srcL l i b (c - 1) cl n z))) a = some (.lst (srcL l i b (c - 1) cl n z)) := upd_same
          refine ⟨_, rfl, a, _, 6, .int z, rfl, rfl, .inl (.inl g3), rfl, _, _, rfl, rfl, .inr ⟨by decide, by decide⟩, _, rfl, a, _, 5, .int n, rfl, rfl, .inl (.inl g3), rfl, _, _, rfl, rfl, .inl ⟨by decide, by decide⟩, _, _, rfl, rfl, _, _, rfl, rfl, _, _, rfl, rfl, .inr ⟨by decide, by decide⟩, .inl ⟨_, rfl, _, _, rfl, rfl, (by show (0 : Int) < 2147483647; decide), ?_⟩⟩
          refine ⟨_, rfl, _, rfl, _, _, rfl, rfl, ⟨by decide, by decide⟩, _, _, rfl, rfl, _, _, rfl, rfl, cm (by decide) (by decide), .inl ⟨_, rfl, _, _, rfl, rfl, (by show (0 : Int) < 2147483647; decide), ?_⟩⟩
          refine ⟨_, rfl, _, rfl, _, _, rfl, rfl, ⟨by decide, by decide⟩, _, _, rfl, rfl, _, _, rfl, rfl, cm (by decide) (by decide), .inl ⟨_, rfl, _, _, rfl, rfl, (by show (0 : Int) < 2147483399; decide), ?_⟩⟩
          refine ⟨_, rfl, _, _, rfl, rfl, ⟨by decide, by decide⟩, .inl ⟨_, rfl, _, rfl, _, _, rfl, rfl, m0, ?_⟩⟩
          exact k _ _ (Int.emod_nonneg _ (Int.ne_of_gt m0)) (Int.emod_lt_of_pos _ m0) (k2.trans k3)
      · clear g1
        obtain ⟨i, b, c, cl, n, z, h0, h1⟩ := k1.src.at_
        refine ⟨_, rfl, a, _, 2, .int b, rfl, rfl, .inl (.inl h1), rfl, _, _, rfl, rfl, _, rfl, ?_⟩
        refine ite2 (fun _ => ?_) (fun _ => ?_)
        · refine ⟨_, rfl, a, _, 2, .int b, rfl, rfl, .inl (.inl h1), rfl, .inl ⟨_, rfl, _, rfl, _, _, rfl, rfl, m0, ?_⟩⟩
          refine ⟨_, rfl, a, _, 2, .int b, rfl, rfl, .inl (.inl h1), rfl, _, rfl, _, _, rfl, rfl, ⟨m0, m1⟩, _, rfl, a, _, 2, 2, rfl, rfl, h1, rfl, ?_⟩
          refine ⟨_, rfl, k (b % m) _ (Int.emod_nonneg _ (Int.ne_of_gt m0)) (Int.emod_lt_of_pos _ m0) (k1.trans ?_)⟩
          exact k1.src.put (i := i) (b := b / m) (c := c) (cl := cl) (n := n) (w := z) h0
        · refine ⟨_, rfl, a, _, 3, .int c, rfl, rfl, .inl (.inl h1), rfl, _, _, rfl, rfl, _, rfl, a, _, 3, 3, rfl, rfl, h1, rfl, ?_⟩
          have k3 : Keeps l a H1 (upd H1 a (.lst (srcL l i b (c - 1) cl n z))) := k1.src.put h0
          have g3 : (upd H1 a (.lst (srcL l i b (c - 1) cl n z))) a = some (.lst (srcL l i b (c - 1) cl n z)) := upd_same
          refine ⟨_, rfl, a, _, 6, .int z, rfl, rfl, .inl (.inl g3), rfl, _, _, rfl, rfl, .inr ⟨by decide, by decide⟩, _, rfl, a, _, 5, .int n, rfl, rfl, .inl (.inl g3), rfl, _, _, rfl, rfl, .inl ⟨by decide, by decide⟩, _, _, rfl, rfl, _, _, rfl, rfl, _, _, rfl, rfl, .inr ⟨by decide, by decide⟩, .inl ⟨_, rfl, _, _, rfl, rfl, (by show (0 : Int) < 2147483647; decide), ?_⟩⟩
          refine ⟨_, rfl, _, rfl, _, _, rfl, rfl, ⟨by decide, by decide⟩, _, _, rfl, rfl, _, _, rfl, rfl, cm (by decide) (by decide), .inl ⟨_, rfl, _, _, rfl, rfl, (by show (0 : Int) < 2147483647; decide), ?_⟩⟩
          refine ⟨_, rfl, _, rfl, _, _, rfl, rfl, ⟨by decide, by decide⟩, _, _, rfl, rfl, _, _, rfl, rfl, cm (by decide) (by decide), .inl ⟨_, rfl, _, _, rfl, rfl, (by show (0 : Int) < 2147483399; decide), ?_⟩⟩
          refine ⟨_, rfl, _, _, rfl, rfl, ⟨by decide, by decide⟩, .inl ⟨_, rfl, _, rfl, _, _, rfl, rfl, m0, ?_⟩⟩
          exact k _ _ (Int.emod_nonneg _ (Int.ne_of_gt m0)) (Int.emod_lt_of_pos _ m0) (k1.trans k3)
    · refine iteF ?_
      clear g1
      obtain ⟨i, b, c, cl, n, z, h0, h1⟩ := k1.src.at_
      refine ⟨_, rfl, a, _, 2, .int b, rfl, rfl, .inl (.inl h1), rfl, _, _, rfl, rfl, _, rfl, ?_⟩
      refine ite2 (fun _ => ?_) (fun _ => ?_)
      · refine ⟨_, rfl, a, _, 2, .int b, rfl, rfl, .inl (.inl h1), rfl, .inl ⟨_, rfl, _, rfl, _, _, rfl, rfl, m0, ?_⟩⟩
        refine ⟨_, rfl, a, _, 2, .int b, rfl, rfl, .inl (.inl h1), rfl, _, rfl, _, _, rfl, rfl, ⟨m0, m1⟩, _, rfl, a, _, 2, 2, rfl, rfl, h1, rfl, ?_⟩
        refine ⟨_, rfl, k (b % m) _ (Int.emod_nonneg _ (Int.ne_of_gt m0)) (Int.emod_lt_of_pos _ m0) (k1.trans ?_)⟩
        exact k1.src.put (i := i) (b := b / m) (c := c) (cl := cl) (n := n) (w := z) h0
      · refine ⟨_, rfl, a, _, 3, .int c, rfl, rfl, .inl (.inl h1), rfl, _, _, rfl, rfl, _, rfl, a, _, 3, 3, rfl, rfl, h1, rfl, ?_⟩
        have k3 : Keeps l a H1 (upd H1 a (.lst (srcL l i b (c - 1) cl n z))) := k1.src.put h0
        have g3 : (upd H1 a (.lst (srcL l i b (c - 1) cl n z))) a = some (.lst (srcL l i b (c - 1) cl n z)) := upd_same
        refine ⟨_, rfl, a, _, 6, .int z, rfl, rfl, .inl (.inl g3), rfl, _, _, rfl, rfl, .inr ⟨by decide, by decide⟩, _, rfl, a, _, 5, .int n, rfl, rfl, .inl (.inl g3), rfl, _, _, rfl, rfl, .inl ⟨by decide, by decide⟩, _, _, rfl, rfl, _, _, rfl, rfl, _, _, rfl, rfl, .inr ⟨by decide, by decide⟩, .inl ⟨_, rfl, _, _, rfl, rfl, (by show (0 : Int) < 2147483647; decide), ?_⟩⟩
        refine ⟨_, rfl, _, rfl, _, _, rfl, rfl, ⟨by decide, by decide⟩, _, _, rfl, rfl, _, _, rfl, rfl, cm (by decide) (by decide), .inl ⟨_, rfl, _, _, rfl, rfl, (by show (0 : Int) < 2147483647; decide), ?_⟩⟩
        refine ⟨_, rfl, _, rfl, _, _, rfl, rfl, ⟨by decide, by decide⟩, _, _, rfl, rfl, _, _, rfl, rfl, cm (by decide) (by decide), .inl ⟨_, rfl, _, _, rfl, rfl, (by show (0 : Int) < 2147483399; decide), ?_⟩⟩
        refine ⟨_, rfl, _, _, rfl, rfl, ⟨by decide, by decide⟩, .inl ⟨_, rfl, _, rfl, _, _, rfl, rfl, m0, ?_⟩⟩
        exact k _ _ (Int.emod_nonneg _ (Int.ne_of_gt m0)) (Int.emod_lt_of_pos _ m0) (k1.trans k3)
/-! ### great -/
end
end BT
namespace DL
open PySem PySem.Spec PyProof.Rows L2 BT
section
variable {P : Program} {w : World} {K : PySem.W.Frag} {mg : Str → Option Value} {base : Heap} {ad : Str → Addr} {k : Nat}
theorem DefOk.wide {x : Str} {ps : List Str} {sp : Sp} (D : DefOk P w K mg base CX0 k x ps sp) : DefOk P w K mg base (L2.CX P w) k x ps sp := by
  obtain ⟨f, fd, F, r⟩ := D.ex
  exact ⟨f, fd, FnOk.wide F, r⟩
theorem DefOk.imp {CX : CXT} {x : Str} {ps : List Str} {sp sp' : Sp} (D : DefOk P w K mg base CX k x ps sp) (h : ∀ vs H Q E, sp' vs H Q E → sp vs H Q E) : DefOk P w K mg base CX k x ps sp' := by
  obtain ⟨f, fd, F, r⟩ := D.ex
  exact ⟨f, fd, F.imp h, r⟩
theorem frm_keeps {B : Addr → Prop} {l a : Addr} {H H' : Hp} (h : Keeps l a H H') : Frm (some (l, a)) H H' := ⟨fun b o n e => h.same b o (n l a rfl) e, fun l' a' e => by cases e; exact h.src⟩
theorem cv_law_draw (D : DefOk P w K mg base CX0 k "_law_draw" ["_law_source_here", "_law_many"] spDraw) : DefX P w K mg base ad k "_law_draw" ["_law_source_here", "_law_many"] d_law_draw :=
  DefOk.imp (DefOk.wide D) fun vs H Q E h => by
    obtain ⟨B, s, as, Qd, Xd, W, ar, ⟨m, rfl, m0, m1, q⟩, kk, _⟩ := h
    cases ar with
    | cons a1 r1 => cases r1 with
      | cons a2 r2 =>
        cases r2
        obtain ⟨l, b, e1, e2⟩ := a1
        subst e1 e2
        cases a2
        refine ⟨l, b, m, rfl, m0, m1, (W.sr l b rfl).1, fun v H' v0 v1 hk => kk _ _ H' (q v v0 v1) (frm_keeps (B := B) hk) (.int v)⟩
end
end DL

set_option Elab.async false
set_option linter.all false
set_option maxRecDepth 100000
set_option maxHeartbeats 4000000
set_option exponentiation.threshold 2000
namespace BT
open PySem PySem.Spec PyProof.Rows L2
/-! ### bits, lots -/
theorem take_snoc {α : Type} {l : List α} {i : Nat} {x : α} (h : l[i]? = some x) : l.take (i + 1) = l.take i ++ [x] := by
  rw [List.take_add_one, h]; rfl
theorem bitOr_nat (a b : Nat) : Builtin.bitOr (a : Int) (b : Int) = ((a ||| b : Nat) : Int) := by
  rw [bitOr_and, bitAnd_pp (Int.natCast_nonneg _) (Int.natCast_nonneg _), Int.toNat_natCast, Int.toNat_natCast]
  have := or_and_add a b
  omega
theorem intBits_nat (m : Nat) : Builtin.Int.intBits (m : Int) = bitsN m := by
  unfold Builtin.Int.intBits bitsN
  by_cases h : m = 0
  · subst h; rfl
  · rw [if_neg (by simpa using h), if_neg h]; rfl
theorem bitXor_nat (a b : Nat) : Builtin.bitXor (a : Int) (b : Int) = ((a ^^^ b : Nat) : Int) := by
  rw [bitXor_and, bitAnd_pp (Int.natCast_nonneg _) (Int.natCast_nonneg _), Int.toNat_natCast, Int.toNat_natCast]
  have := xor_and_add a b
  omega
theorem bitAnd_nat (a b : Nat) : Builtin.bitAnd (a : Int) (b : Int) = ((a &&& b : Nat) : Int) := by
  rw [bitAnd_pp (Int.natCast_nonneg _) (Int.natCast_nonneg _), Int.toNat_natCast, Int.toNat_natCast]
theorem shr_nat (a p : Nat) : (a : Int) / 2 ^ ((p : Int).toNat) = ((a >>> p : Nat) : Int) := by
  rw [Int.toNat_natCast, Nat.shiftRight_eq_div_pow, Int.natCast_ediv, Int.natCast_pow]; rfl
end BT
namespace DL
open PySem PySem.Spec PyProof.Rows L2 BT
def natX (l : List Nat) : List D := l.map fun p : Nat => .int (p : Int)
def lotX (l : List Nat) : D := .tup (natX l)
def lotsX (ls : List (List Nat)) : D := .lst (ls.map lotX)
def intsN (l : List Nat) : List Int := l.map fun p : Nat => (p : Int)
theorem lotX_tup (l : List Nat) : lotX l = tupI (intsN l) := by
  unfold lotX natX tupI intsN; rw [List.map_map]; rfl
theorem lotD_py (l : List Nat) : lotD l = pyI (intsN l) := by
  unfold lotD pyI intsN; rw [List.map_map]; rfl
section
variable {ad : Str → Addr} {B : Addr → Prop} {s : SO} {H : Hp} {F : Addr → HO → Prop}
theorem pyR_lot (l : List Nat) : pyR (lotX l) = some (lotD l) := by rw [lotX_tup, lotD_py]; exact pyR_ints _
end
theorem natX_app (a b : List Nat) : natX a ++ natX b = natX (a ++ b) := by unfold natX; rw [List.map_append]
theorem natX_len (l : List Nat) : (natX l).length = l.length := List.length_map ..
theorem natX_get {l : List Nat} {i : Nat} {x : D} (h : (natX l)[i]? = some x) : ∃ p, l[i]? = some p ∧ x = .int (p : Int) := by
  unfold natX at h
  rw [List.getElem?_map] at h
  cases e : l[i]? with
  | none => rw [e] at h; cases h
  | some p => rw [e] at h; exact ⟨p, rfl, (Option.some.inj h).symm⟩
theorem at_nat {α : Type} {l : List α} {i : Nat} : atI l (i : Int) = l[i]? := by
  unfold atI
  by_cases h : i < l.length
  · rw [show ixN l.length (i : Int) = some i by unfold ixN; rw [if_pos (by omega), if_pos (by omega)]; rfl]; rfl
  · rw [show ixN l.length (i : Int) = none by unfold ixN; rw [if_pos (by omega), if_neg (by omega)]]
    rw [List.getElem?_eq_none (by omega)]; rfl
theorem lotN_bits (m : Nat) : (List.range (bitsN m)).filter (fun p => m.testBit p) = lotN m := rfl
theorem and1_bit (m i : Nat) : (m >>> i &&& 1 = 1) ↔ m.testBit i = true := by
  rw [Nat.testBit, Nat.and_comm]
  cases h : (m >>> i) % 2 with
  | zero => simp [Nat.one_and_eq_mod_two, h]
  | succ k =>
    have : (m >>> i) % 2 = 1 := by omega
    simp [Nat.one_and_eq_mod_two, this]
theorem bitsN_small {m : Nat} (h : m < 2 ^ 1000) : bitsN m ≤ 1000 := bitsN_le h
theorem shl1_nat (p : Nat) : (1 : Int) * 2 ^ ((p : Int).toNat) = ((2 ^ p : Nat) : Int) := by rw [Int.toNat_natCast, Int.one_mul, Int.natCast_pow]; rfl
theorem cpow1 {p : Nat} (h : p < 1000) : CPow 1 (p : Int) := ⟨by omega, by omega, by decide⟩
theorem cpowN {a p : Nat} (ha : a < 2 ^ 60) (h : p < 1000) : CPow (a : Int) (p : Int) := ⟨by omega, by omega, by rw [Int.natAbs_natCast]; omega⟩
theorem natX_snoc (l : List Nat) (p : Nat) : natX l ++ [D.int (p : Int)] = natX (l ++ [p]) := natX_app l [p]
theorem take_map {α β : Type} {l : List α} {f : α → β} {i : Nat} {x : α} (h : l[i]? = some x) : (l.take i).map f ++ [f x] = (l.take (i + 1)).map f := by
  rw [take_snoc h, List.map_append]; rfl
theorem lcMapN {fi : DI} {vs : List Nat} {i : Nat} {te : DE} {ρ : List Sl} {Q : List D → Prop} {Ed : DXt} (rs : List Nat) (f : Nat → Nat) (hf : ∀ R : List D → Prop, R (natX rs) → fi ρ R Ed) (hl : rs.length ≤ 1000000)
    (hs : ∀ r ∈ rs, ∀ Q' : D → Prop, Q' (.int (f r : Nat)) → te ((wipeD ρ vs).set i (.dat (.int (r : Int)))) Q' X0) (q : Q (natX (rs.map f))) : fLc fi vs i tYs te ρ Q Ed := by
  refine hf _ ⟨by rw [natX_len]; exact hl, fun j acc => acc = natX ((rs.take j).map f), rfl, ?_, ?_⟩
  · rintro j x acc hj rfl
    obtain ⟨r, hr, rfl⟩ := natX_get hj
    dsimp only [tYs]
    rw [if_pos rfl]
    refine hs r (List.mem_of_getElem? hr) _ ?_
    rw [natX_snoc, take_map (f := f) hr]
  · rintro acc rfl
    rw [natX_len, List.take_length]; exact q
def isNumX : D → Bool
  | .int _ => true
  | _ => false
end DL

set_option Elab.async false
set_option linter.all false
set_option maxRecDepth 100000
set_option maxHeartbeats 2000000
namespace DL
open PySem PySem.Spec PyProof.Rows L2 BT
theorem DxA.eraseIdx {ad : Str → Addr} {F : Addr → HO → Prop} : ∀ {vs : List V} {ds : List D} (i : Nat), DxA ad F vs ds → DxA ad F (vs.eraseIdx i) (ds.eraseIdx i)
  | _, _, _, .nil => .nil
  | _, _, 0, .cons a r => r
  | _, _, i + 1, .cons a r => .cons a (DxA.eraseIdx i r)
section
variable {X : Cx} {ad : Str → Addr} {E : L2.St → XK} {Ed : DXt} {e : Expr} {fa : DE} {p p2 pos pos' pos2 apos apos2 : Pos}
/-- xs.append(ys.pop(..)), both lists one's own -/
def sApPop (i j : Nat) (f : DE) : DS := fun De ρ Ed => i ≠ j ∧ match ρ[i]?, ρ[j]? with
  | some (.own xs), some (.own ys) => f ρ (fun d => match d with
    | .int k => ∃ (m : Nat) (y : D), k = (m : Int) ∧ m < ys.length ∧ ys.length ≤ 1000000 ∧ ys[m]? = some y ∧ xs.length < 1000000 ∧ De.nx ((ρ.set j (.own (ys.eraseIdx m))).set i (.own (xs ++ [y])))
    | _ => False) Ed
  | _, _ => False
end
end DL
namespace DL
open PySem PySem.Spec PyProof.Rows L2 BT
section
variable {X : Cx} {ad : Str → Addr} {E : L2.St → XK} {Ed : DXt} {e : Expr} {fa : DE} {p p2 pos pos2 : Pos}
/-- list(range(..)) -/
def fListRg1 (f : DE) : DF := fun ρ Q Ed => f ρ (fun d => match d with
  | .int n => 0 ≤ n ∧ n ≤ 1000000 ∧ Q (rgD 0 n.toNat)
  | _ => False) Ed
end
end DL

set_option Elab.async false
set_option linter.all false
set_option maxRecDepth 100000
set_option maxHeartbeats 2000000
namespace DL
open PySem PySem.Spec PyProof.Rows L2 BT
/-! ### sources of one's own -/
def unS : Sl → Sl
  | .src => .un
  | x => x
section
variable {X : Cx} {ad : Str → Addr} {E : L2.St → XK} {Ed : DXt} {e : Expr} {fa : DF} {fb : DE} {pos pos' p : Pos} {c : Ct} {P : Nat → Option Addr} {H H1 : Hp} {σ : L2.St} {ρ : List Sl}
/-- the law's cell: any number -/
def eCell (K : PySem.W.Frag) (i : Nat) (f : DE) : DE := fun ρ Q Ed => match ρ[i]? with
  | some (.scr K') => K' = K ∧ f ρ (fun d => match d with
    | .int k => 0 ≤ k ∧ ∀ v : Int, Q (.int v)
    | _ => False) Ed
  | _ => False
/-- a cell of the script -/
def spCellK (K : PySem.W.Frag) : Sp := fun vs H Q _ => ∃ (a : Addr) (ns : List Int) (k : Int), vs = [.ref a, .int k] ∧ 0 ≤ k ∧ SqL K H a (ns.map V.int) ∧ ∀ v : Int, Q (.int v) H
end
/-! ### the law's own def, from its first row on -/
section
variable {ad : Str → Addr}
end
end DL

set_option Elab.async false
set_option linter.all false
set_option maxRecDepth 100000
set_option maxHeartbeats 2000000
set_option exponentiation.threshold 2000
namespace DL
open PySem PySem.Spec PyProof.Rows L2 BT
/-! ### the digits of a mask, counted; sorted by the least place -/
section
variable {X : Cx} {ad : Str → Addr} {E : L2.St → XK} {Ed : DXt} {e a b : Expr} {fa fb : DE} {pos p p1 p2 p3 apos kpos : Pos}
/-- f"{n:b}" -/
def eFmtB (f : DE) : DE := fun ρ Q Ed => f ρ (fun d => match d with
  | .int i => ∃ n k : Nat, i = (n : Int) ∧ n < 2 ^ k ∧ 1 ≤ k ∧ k ≤ 1000 ∧ Q (.str (binText n))
  | _ => False) Ed
theorem pdFmtB {j : Nat} (h : PD X ad E Ed e fa) : PD X ad E Ed (.JoinedStr [.FormattedValue e (-1) (some (.JoinedStr [.Constant (.str (Str.ofString "b")) j p1] p2)) p3] pos) (eFmtB fa) :=
  ⟨weakE (pe_fmtB h.pe) fun σ H Q ⟨B, s, ρ, Qd, W, h, k⟩ => ⟨B, s, ρ, _, W, h, fun d v H1 hd f1 dv => by
    split at hd
    · rename_i i
      obtain ⟨n, m, rfl, h1, h2, h3, hd⟩ := hd
      cases dv
      exact ⟨n, m, rfl, h1, h2, h3, k _ _ H1 hd f1 (.str _)⟩
    · exact hd.elim⟩⟩
/-- text.count(text) -/
def eCnt (f g : DE) : DE := fun ρ Q Ed => f ρ (fun x => match x with
  | .str i => g ρ (fun y => match y with
    | .str j => Q (.int (Txt.count i j))
    | _ => False) Ed
  | _ => False) Ed
theorem pdCnt (ha : PD X ad E Ed a fa) (hb : PD X ad E Ed b fb) (hs : starEach [b] X.env = [(false, eval b X.env)] := by rfl) (hbase : attributeBase a "count" X.env (eval a X.env) = eval a X.env := by rfl) (hline : (apos.endLine == pos.line) = true := by rfl) :
    PD X ad E Ed (.Call (.Attribute a "count" apos) [b] [] pos) (eCnt fa fb) :=
  ⟨weakE (pe_m1 PySem.F.slot_str_count PySem.F.type_str_count mt_count ha.pe hb.pe hs hbase hline) fun σ H Q ⟨B, s, ρ, Qd, W, h, k⟩ => ⟨B, s, ρ, _, W, h, fun d v H1 hd f1 dv => by
    split at hd
    · rename_i i
      cases dv
      refine ⟨⟨_, rfl⟩, B, s, ρ, _, W.frm f1, hd, fun d2 v2 H2 hd2 f2 dv2 => ?_⟩
      split at hd2
      · cases dv2
        exact ⟨_, _, rfl, rfl, k _ _ H2 hd2 (f1.trans f2) (.int _)⟩
      · exact hd2.elim
    · exact hd.elim⟩⟩
/-! ### sorted by the least place -/
def spLowG : Sp := fun vs H Q _ => ∃ m : Nat, vs = [.int (m : Int)] ∧ Q (.int (lowN m : Nat)) H
def natV (l : List Nat) : List V := l.map fun p : Nat => .int (p : Int)
theorem natsD_V {F : Addr → HO → Prop} : ∀ {l : List Nat} {vs : List V}, DxA ad F vs (natX l) → vs = natV l
  | [], _, h => by cases h; rfl
  | p :: l, _, h => by
    cases h with
    | cons a r => cases a; rw [natsD_V r]; rfl
theorem dx_natV {F : Addr → HO → Prop} : ∀ l : List Nat, DxA ad F (natV l) (natX l)
  | [] => .nil
  | p :: l => .cons (.int _) (dx_natV l)
theorem keyOut_low {ms : List Nat} {ys : List V} (h : KeyOut (ms.map fun m => ((lowN m : Nat) : Int)) (natV ms) ys) : ∃ ns : List Nat, ys = natV ns ∧ ns.Perm ms ∧ ns.Pairwise fun a b => lowN a ≤ lowN b := by
  obtain ⟨ps, hp, rfl, hs⟩ := h
  have ez : (ms.map fun m => ((lowN m : Nat) : Int)).zip (natV ms) = ms.map fun m => (((lowN m : Nat) : Int), V.int (m : Int)) := by
    unfold natV
    rw [List.zip_map']
  rw [ez] at hp
  have mem : ∀ q ∈ ps, ∃ m : Nat, q = (((lowN m : Nat) : Int), V.int (m : Int)) := fun q hq => by
    obtain ⟨m, _, e⟩ := List.mem_map.mp (hp.mem_iff.mp hq)
    exact ⟨m, e.symm⟩
  have back : ∀ l : List (Int × V), (∀ q ∈ l, ∃ m : Nat, q = (((lowN m : Nat) : Int), V.int (m : Int))) → ∃ ns : List Nat, l = ns.map fun m => (((lowN m : Nat) : Int), V.int (m : Int)) := fun l => by
    induction l with
    | nil => exact fun _ => ⟨[], rfl⟩
    | cons q l ih =>
      intro h
      obtain ⟨m, rfl⟩ := h q List.mem_cons_self
      obtain ⟨ns, rfl⟩ := ih fun x hx => h x (List.mem_cons_of_mem _ hx)
      exact ⟨m :: ns, rfl⟩
  obtain ⟨ns, rfl⟩ := back ps mem
  refine ⟨ns, by unfold natV; rw [List.map_map]; rfl, ?_, ?_⟩
  · have := hp.map (fun q : Int × V => match q.2 with | .int i => i.toNat | _ => 0)
    rw [List.map_map, List.map_map] at this
    have e : ((fun q : Int × V => match q.2 with | .int i => i.toNat | _ => 0) ∘ fun m : Nat => (((lowN m : Nat) : Int), V.int (m : Int))) = id := by
      funext m; rfl
    rw [e, List.map_id, List.map_id] at this
    exact this
  · exact (List.pairwise_map.mp hs).imp fun h => by
      have h : ((lowN _ : Nat) : Int) ≤ ((lowN _ : Nat) : Int) := h
      omega
/-- sorted(xs, key=lowest) -/
def eSrtK (f : DE) : DE := fun ρ Q Ed => f ρ (fun d => match d with
  | .lst xs => ∃ ms : List Nat, xs = natX ms ∧ ms.length < 64 ∧ ∀ ns : List Nat, ns.Perm ms → ns.Pairwise (fun a b => lowN a ≤ lowN b) → Q (.lst (natX ns))
  | _ => False) Ed
theorem pdSrtK {k j : Nat} {x y : Str} (D0 : DefOk X.prog X.w X.K X.mg X.base CX0 k x [y] spLowG) (hr : Room j X.A) (hg : Gl X "sorted") (hm : X.mg "sorted" = none) (hgx : Gl X x) (h : PD X ad E Ed e fa) (hk : k + 2 ≤ j := by decide) (hdb : (x == ("__debug__" : Str)) = false := by decide)
    (h1 : backTo pos (starEach [e] X.env) = (false, eval e X.env) :: backTo pos (starEach [] X.env) := by rfl) (h2 : (backTo pos (starEach [e] X.env)).any (·.1) = false := by rfl) (h0 : starEach [e] X.env = (false, eval e X.env) :: starEach [] X.env := by rfl)
    (h3 : (backToKw pos (keywordEach [⟨some (Str.ofString "key"), .Name x p2, kpos⟩] X.env)).all (·.1.isSome) = true := by rfl) (h4 : (backToKw pos (keywordEach [⟨some (Str.ofString "key"), .Name x p2, kpos⟩] X.env)).any (·.1.isNone) = false := by rfl)
    (h5 : (backToKw pos (keywordEach [⟨some (Str.ofString "key"), .Name x p2, kpos⟩] X.env)).filterMap (·.1) = [Str.ofString "key"] := by rfl) :
    PD X ad E Ed (.Call (.Name "sorted" p) [e] [⟨some (Str.ofString "key"), .Name x p2, kpos⟩] pos) (eSrtK fa) := by
  obtain ⟨f, fd, F, hmx, hkp, hb⟩ := D0.ex
  refine ⟨weakE (pe_sortedKey D0 hr hg hm hgx h.pe hk hdb h1 h2 h0 h3 h4 h5) fun σ H Q ⟨B, s, ρ, Qd, W, h, kk⟩ => ⟨f, hmx, B, s, ρ, _, W, h, fun d v H1 hd f1 dv => ?_⟩⟩
  split at hd
  · rename_i xs
    obtain ⟨ms, rfl, hl, hd⟩ := hd
    cases dv with
    | lst ea ra =>
      have ev := natsD_V ra
      subst ev
      refine ⟨_, natV ms, ms.map fun m => ((lowN m : Nat) : Int), rfl, rfl, .inl (.inl ea.2), by unfold natV; rw [List.length_map, List.length_map], by unfold natV; rw [List.length_map]; exact hl, fun i x k hx hk => ?_, fun ys q hy hq => ?_⟩
      · unfold natV at hx
        rw [List.getElem?_map] at hx hk
        cases e : ms[i]? with
        | none => rw [e] at hx; cases hx
        | some m =>
          rw [e] at hx hk
          cases Option.some.inj hx
          cases Option.some.inj hk
          exact ⟨m, rfl, rfl, rfl⟩
      · obtain ⟨ns, rfl, hp, hs⟩ := keyOut_low hy
        have W1 := W.frm f1
        exact kk _ _ _ (hd ns hp hs) (f1.trans (W1.wd.new hq)) (.lst ⟨W1.wd.nb hq, upd_same⟩ (dx_natV ns))
  · exact hd.elim
end
end DL

set_option Elab.async false
set_option linter.all false
set_option maxRecDepth 100000
set_option maxHeartbeats 4000000
set_option exponentiation.threshold 2000
namespace DL
open PySem PySem.Spec PyProof.Rows L2 BT
/-! ### the rows that the checks are made of -/
def checkRaw (rows : List Nat) (n : Nat) : List Nat := (List.range n).filterMap fun p => if rows.any (fun r => decide (lowN r = 2 ^ p)) then none else some (2 ^ p ||| ((rows.filter fun r => decide (r &&& 2 ^ p ≠ 0)).map lowN).sum)
def checkF (rows : List Nat) (n : Nat) : List Nat := reduceF (checkRaw rows n)
def spanF (ms : List Nat) : List Nat := ms.foldl (fun sums m => sums ++ sums.map (m ^^^ ·)) [0]
def pickedF (m : Nat) (places : List Nat) : Nat := (places.zipIdx.foldl (fun r x => r ||| ((m >>> x.1 &&& 1) <<< x.2)) 0)
def bitsAtF (m : Nat) (ats : List Nat) : Nat := (ats.zipIdx.foldl (fun r x => r ||| ((pop (m &&& x.1) % 2) <<< x.2)) 0)
theorem zipIdx_snoc (l : List Nat) (x : Nat) : (l ++ [x]).zipIdx = l.zipIdx ++ [(x, l.length)] := by
  rw [List.zipIdx_append]; simp
theorem spanF_snoc (ms : List Nat) (m : Nat) : spanF (ms ++ [m]) = spanF ms ++ (spanF ms).map (m ^^^ ·) := by unfold spanF; rw [List.foldl_append]; rfl
theorem span_len : ∀ (ms acc : List Nat), (ms.foldl (fun sums m => sums ++ sums.map (m ^^^ ·)) acc).length = acc.length * 2 ^ ms.length
  | [], acc => by simp
  | m :: ms, acc => by
    rw [List.foldl_cons, span_len ms, List.length_append, List.length_map, List.length_cons, Nat.pow_succ]
    rw [← Nat.two_mul, Nat.mul_comm 2, Nat.mul_assoc, Nat.mul_comm 2]
theorem spanF_len (ms : List Nat) : (spanF ms).length = 2 ^ ms.length := by
  have := span_len ms [0]
  simpa [spanF] using this
theorem shl_nat (a p : Nat) : (a : Int) * 2 ^ ((p : Int).toNat) = ((a <<< p : Nat) : Int) := by
  rw [Int.toNat_natCast, Nat.shiftLeft_eq, Int.natCast_mul, Int.natCast_pow]; rfl
/-- what a part tells of a wish: a sum (and the mask), or a twin (and the mask) -/
def certF (ms : List Nat) (part : Int) (wish : Nat) : String × Nat :=
  match (sweepF part ms).2.find? (fun r => decide (pop (r &&& wish) % 2 = 1)) with
  | some r => ("twin", r)
  | none => ("sum", (((sweepF part ms).1.filter fun r => decide (pop (r &&& wish) % 2 = 1)).map fun r => lowN (andN r part)).sum)
end DL

set_option Elab.async false
set_option linter.all false
set_option maxRecDepth 100000
set_option maxHeartbeats 2000000
set_option exponentiation.threshold 2000
namespace DL
open PySem PySem.Spec PyProof.Rows L2 BT
/-! ### calls that leave out arguments: the defaults are whole numbers -/
structure DefOkD (P : Program) (w : World) (K : PySem.W.Frag) (mg : Str → Option Value) (base : Heap) (CX : CXT) (k : Nat) (x : Str) (ps : List Str) (dvs : List V) (sp : Sp) : Prop where
  ex : ∃ (f : Addr) (fd : FuncData) (ds : List Value), FnOk P w K mg base CX k f fd ps sp ∧ mg x = some (.ref f) ∧ PySem.W.keepIn K (.ref f) = true ∧ Vals dvs ds ∧ Binds K fd ps ds
abbrev DefXD (P : Program) (w : World) (K : PySem.W.Frag) (mg : Str → Option Value) (base : Heap) (ad : Str → Addr) (k : Nat) (x : Str) (ps : List Str) (ns : List Int) (f : DSp) : Prop := DefOkD P w K mg base (L2.CX P w) k x ps (ns.map V.int) (spD ad f)
def intsS (ns : List Int) : List Sl := ns.map fun n => .dat (.int n)
theorem arInts {ad : Str → Addr} {B : Addr → Prop} {s : SO} {H : Hp} : ∀ ns : List Int, ArA ad B s H (ns.map V.int) (intsS ns)
  | [] => .nil
  | n :: ns => .cons (by exact (Dx.int n : Dx ad (Fz B H) (.int n) (.int n))) (arInts ns)
theorem ArA.app {ad : Str → Addr} {B : Addr → Prop} {s : SO} {H : Hp} {us : List V} {bs : List Sl} (h : ArA ad B s H us bs) : ∀ {vs : List V} {as : List Sl}, ArA ad B s H vs as → ArA ad B s H (vs ++ us) (as ++ bs)
  | _, _, .nil => h
  | _, _, .cons a r => .cons a (ArA.app h r)
section
variable {X : Cx} {ad : Str → Addr} {E : L2.St → XK} {Ed : DXt} {e : Expr} {es : List Expr} {n k j : Nat} {x : Str} {ps : List Str} {dsp : DSp} {ga : DA} {ns : List Int} {p pos : Pos}
def eCallD (f : DSp) (ns : List Int) (g : DA) : DE := fun ρ Q Ed => g ρ (fun as => f (as ++ intsS ns) Q (Ed ρ)) Ed
theorem pdCallD (D : DefXD X.prog X.w X.K X.mg X.base ad k x ps ns dsp) (hr : Room j X.A) (hx : Lets X E) (hg : Gl X x) (ha : AD X ad E Ed (e :: es) n ga) (hk : k ≤ j := by decide) (hdb : (x == ("__debug__" : Str)) = false := by decide)
    (he : starEach (e :: es) X.env = (false, eval e X.env) :: starEach es X.env := by rfl) (hpl : (backTo pos (starEach es X.env)).any (·.1) = false := by rfl) : PD X ad E Ed (.Call (.Name x p) (e :: es) [] pos) (eCallD dsp ns ga) := by
  obtain ⟨f, fd, ds, F, hm, hkp, hd, hb⟩ := D.ex
  exact ⟨weakE (pe_callSD F (hr.mono hk) hg hm hkp hb hd hx ha.pa hdb he hpl) fun σ H Q ⟨B, s, ρ, Qd, W, h, kk⟩ => ⟨B, s, ρ, _, W, h, fun as vs H1 ha hl f1 da => ⟨B, s, as ++ intsS ns, Qd, Ed ρ, (W.frm f1).wd, ArA.app (arInts ns) da, ha, fun d v H' hd f dv => kk d v H' hd (f1.trans f) dv,
    fun cn d v x H' hd f dv hx => W.tie cn d v x H' (f1.trans f) dv hx hd⟩⟩⟩
/-- a text in a tuple of texts -/
def strsD : List D → Option (List Str)
  | [] => some []
  | .str i :: r => (strsD r).map (i :: ·)
  | _ => none
theorem DxA.strsD {F : Addr → HO → Prop} : ∀ {vs : List V} {ds : List D} {ns : List Str}, DxA ad F vs ds → DL.strsD ds = some ns → vs = ns.map V.str
  | _, _, _, .nil, e => by
    simp only [DL.strsD] at e
    cases Option.some.inj e; rfl
  | _, _, _, .cons a r, e => by
    cases a with
    | str i =>
      simp only [DL.strsD] at e
      obtain ⟨ns, e1, e2⟩ := Option.map_eq_some_iff.mp e
      subst e2
      rw [DxA.strsD r e1]; rfl
    | _ => simp [DL.strsD] at e
def oInS (neg : Bool) : D → D → (D → Prop) → Prop
  | .str i, .tup ys, Q => ∃ ns, strsD ys = some ns ∧ Q (.bl (ng neg (decide (i ∈ ns))))
  | _, _, _ => False
end
end DL

set_option Elab.async false
set_option linter.all false
set_option maxRecDepth 100000
set_option maxHeartbeats 4000000
set_option exponentiation.threshold 2000
namespace DL
open PySem PySem.Spec PyProof.Rows L2 BT
/-! ### what the defs over masks promise, by data -/
mutual
/-- no object of a class of the program in it -/
def noO : D → Bool
  | .tup xs => noOs xs
  | .lst xs => noOs xs
  | .dct es => noOk es
  | .obj _ _ => false
  | _ => true
def noOs : List D → Bool
  | [] => true
  | x :: xs => noO x && noOs xs
def noOk : List (Key × D) → Bool
  | [] => true
  | (_, x) :: xs => noO x && noOk xs
end
def lotFrom (n : Int) : Int → List D → Bool
  | _, [] => true
  | l, .int p :: r => decide (l ≤ p ∧ p < n) && lotFrom n (p + 1) r
  | _, _ :: _ => false
def isLotX (n : Int) : D → Bool
  | .tup xs => lotFrom n 0 xs
  | _ => false
def d_mask_of : DSp := fun as Q _ => ∃ l : List Nat, as = [.dat (lotX l)] ∧ (∀ p ∈ l, p < 1000) ∧ Q (.int (maskN l : Nat))
def d_lot_of : DSp := fun as Q _ => ∃ m : Nat, as = [.dat (.int (m : Int))] ∧ m < 2 ^ 1000 ∧ Q (lotX (lotN m))
def d_is_number : DSp := fun as Q _ => ∃ d, as = [.dat d] ∧ noO d = true ∧ Q (.bl (isNumX d))
def d_need_size : DSp := fun as Q _ => ∃ n : Nat, as = [.dat (.int (n : Int))] ∧ n ≤ 60 ∧ Q .non
def d_is_lot : DSp := fun as Q _ => ∃ (d : D) (n : Nat), as = [.dat d, .dat (.int (n : Int))] ∧ noO d = true ∧ n ≤ 60 ∧ Q (.bl (isLotX n d))
def d_need_lot : DSp := fun as Q _ => ∃ (d : D) (n : Nat), as = [.dat d, .dat (.int (n : Int))] ∧ noO d = true ∧ n ≤ 60 ∧ isLotX n d = true ∧ Q .non
def d_lowest : DSp := fun as Q _ => ∃ m : Nat, as = [.dat (.int (m : Int))] ∧ Q (.int (lowN m : Nat))
def d_odd : DSp := fun as Q _ => ∃ m : Nat, as = [.dat (.int (m : Int))] ∧ m < 2 ^ 1000 ∧ Q (.int (pop m % 2 : Nat))
def d_cleared : DSp := fun as Q _ => ∃ (m : Nat) (d : D) (rs : List Nat) (part : Int), as = [.dat (.int (m : Int)), .dat d, .dat (.int part)] ∧ seqD d = some (natX rs) ∧ Q (.int (clearedF part m rs : Nat))
def d_sweep : DSp := fun as Q _ => ∃ (d : D) (ms : List Nat) (part : Int), as = [.dat d, .dat (.int part)] ∧ seqD d = some (natX ms) ∧ ms.length ≤ 1000 ∧ Q (.tup [.lst (natX (sweepF part ms).1), .lst (natX (sweepF part ms).2)])
def d_unseen : DSp := fun as Q _ => ∃ (d : D) (ms : List Nat) (part : Int), as = [.dat d, .dat (.int part)] ∧ seqD d = some (natX ms) ∧ ms.length ≤ 1000 ∧ Q (.lst (natX (sweepF part ms).2))
def d_reduce_rows : DSp := fun as Q _ => ∃ (d : D) (ms : List Nat), as = [.dat d] ∧ seqD d = some (natX ms) ∧ ms.length < 64 ∧ Q (.lst (natX (reduceF ms)))
def d_picked : DSp := fun as Q _ => ∃ (m : Nat) (d : D) (ps : List Nat), as = [.dat (.int (m : Int)), .dat d] ∧ seqD d = some (natX ps) ∧ (∀ p ∈ ps, p < 1000) ∧ ps.length ≤ 1000 ∧ Q (.int (pickedF m ps : Nat))
def d_bits_at : DSp := fun as Q _ => ∃ (m : Nat) (d : D) (ats : List Nat), as = [.dat (.int (m : Int)), .dat d] ∧ seqD d = some (natX ats) ∧ m < 2 ^ 1000 ∧ ats.length ≤ 1000 ∧ Q (.int (bitsAtF m ats : Nat))
def d_certificate : DSp := fun as Q _ => ∃ (d : D) (ms : List Nat) (part : Int) (wish : Nat), as = [.dat d, .dat (.int part), .dat (.int (wish : Int))] ∧ seqD d = some (natX ms) ∧ ms.length ≤ 1000 ∧ wish < 2 ^ 1000 ∧ Q (.tup [.str (Str.ofString (certF ms part wish).1), .int ((certF ms part wish).2 : Nat)])
def d_check_rows : DSp := fun as Q _ => ∃ (d : D) (rs : List Nat) (n : Nat), as = [.dat d, .dat (.int (n : Int))] ∧ seqD d = some (natX rs) ∧ rs.length ≤ 1000 ∧ n ≤ 60 ∧ Q (.lst (natX (checkF rs n)))
def d_span : DSp := fun as Q _ => ∃ (d : D) (ms : List Nat), as = [.dat d] ∧ seqD d = some (natX ms) ∧ ms.length ≤ 12 ∧ Q (.lst (natX (spanF ms)))
/-- a whole number from a to b -/
def btwX (a b : Int) : D → Bool
  | .int i => decide (a ≤ i) && decide (i ≤ b)
  | _ => false
def d_is_between : DSp := fun as Q _ => ∃ (d : D) (a b : Int), as = [.dat d, .dat (.int a), .dat (.int b)] ∧ noO d = true ∧ Q (.bl (btwX a b d))
def d_need_book_size : DSp := fun as Q _ => ∃ n : Nat, as = [.dat (.int (n : Int))] ∧ 1 ≤ n ∧ n ≤ 24 ∧ Q .non
/-! ### books and what a part knows: the promises by data -/
def bookX (n : Nat) (ms : List Nat) : D := .obj "Book" [("size", .int (n : Int)), ("masks", .tup (natX ms)), ("dim", .int (ms.length : Nat))]
/-- the class that has fields, and their names -/
def tab0 : List (Str × List Str) := [("Book", ["size", "masks", "dim"])]
def lotM (m : Nat) : D := lotX (lotN m)
/-- a book's own rows: small, few -/
structure Rows (n : Nat) (ms : List Nat) : Prop where
  nl : n ≤ 60
  ml : ms.length ≤ 60
  lt : ∀ m ∈ ms, m < 2 ^ n
def d_need_each_lot : DSp := fun as Q _ => ∃ (d : D) (ls : List Nat) (n : Nat), as = [.dat d, .dat (.int (n : Int))] ∧ seqD d = some (ls.map lotM) ∧ n ≤ 60 ∧ (∀ l ∈ ls, l < 2 ^ n) ∧ Q .non
def d_need_lots : DSp := fun as Q _ => ∃ (ls : List Nat) (n k : Nat), as = [.dat (.lst (ls.map lotM)), .dat (.int (n : Int)), .dat (.int (k : Int))] ∧ n ≤ 60 ∧ ls.length ≤ k ∧ (∀ l ∈ ls, l < 2 ^ n) ∧ Q .non
def d_see : DSp := fun as Q _ => ∃ (n : Nat) (ms : List Nat) (p : Nat), as = [.dat (bookX n ms), .dat (lotM p)] ∧ Rows n ms ∧ p < 2 ^ n ∧ Q (.int ((sweepF p ms).1.length : Nat))
def d_hide : DSp := fun as Q _ => ∃ (n : Nat) (ms : List Nat) (p : Nat), as = [.dat (bookX n ms), .dat (lotM p)] ∧ Rows n ms ∧ p < 2 ^ n ∧ Q (.int ((sweepF p ms).2.length : Nat))
def d_knows : DSp := fun as Q _ => ∃ (n : Nat) (ms : List Nat) (p w : Nat), as = [.dat (bookX n ms), .dat (lotM p), .dat (lotM w)] ∧ Rows n ms ∧ p < 2 ^ n ∧ w < 2 ^ n ∧ Q (.tup [.str (Str.ofString (certF ms p w).1), lotM (certF ms p w).2])
def d_free_bits : DSp := fun as Q _ => ∃ (n : Nat) (ms ws : List Nat) (p : Nat), as = [.dat (bookX n ms), .dat (.lst (ws.map lotM)), .dat (lotM p)] ∧ Rows n ms ∧ p < 2 ^ n ∧ ws.length ≤ 60 ∧ (∀ w ∈ ws, w < 2 ^ n) ∧ Q (.lst (natX (reduceF ((sweepF p ms).2.map fun r => bitsAtF r ws))))
def d_left : DSp := fun as Q _ => ∃ (n : Nat) (ms ws : List Nat) (p : Nat), as = [.dat (bookX n ms), .dat (.lst (ws.map lotM)), .dat (lotM p)] ∧ Rows n ms ∧ p < 2 ^ n ∧ ws.length ≤ 60 ∧ (∀ w ∈ ws, w < 2 ^ n) ∧ Q (.int ((reduceF ((sweepF p ms).2.map fun r => bitsAtF r ws)).length : Nat))
/-- the first row with the bit 1 -/
def oddF (rs : List Nat) (at_ : Nat) : Option Nat := rs.find? fun r => decide (pop (r &&& at_) % 2 = 1)
def optX : Option Nat → D
  | some r => lotM r
  | none => .non
def isAnsX (n : Nat) : D → Bool
  | .tup [.str s, y] => (decide (s = Str.ofString "sum") || decide (s = Str.ofString "twin")) && isLotX n y
  | _ => false
def d_first_odd : DSp := fun as Q _ => ∃ (d : D) (rs : List Nat) (a n : Nat), as = [.dat d, .dat (.int (a : Int))] ∧ seqD d = some (natX rs) ∧ n ≤ 60 ∧ (∀ r ∈ rs, r < 2 ^ n) ∧ a < 2 ^ 1000 ∧ Q (optX (oddF rs a))
/-- the first place of a mask within a part, as another whole number's kind of fault -/
def firstN (m : Nat) : Option Nat := (lotN m).head?
def sumFaultX (ms : List Nat) (p w c : Nat) : D := match firstN (andN c (Builtin.bitNot (p : Int))) with
  | some x => .tup [.str (Str.ofString "part"), .int (x : Int)]
  | none => match oddF ms (c ^^^ w) with
    | some r => .tup [.str (Str.ofString "check"), lotM r]
    | none => .non
def twinFaultX (n : Nat) (ms : List Nat) (p w c : Nat) : D := match oddF (checkF ms n) c with
  | some r => .tup [.str (Str.ofString "word"), lotM r]
  | none => match firstN (c &&& p) with
    | some x => .tup [.str (Str.ofString "seen"), .int (x : Int)]
    | none => if pop (c &&& w) % 2 = 1 then .non else .tup [.str (Str.ofString "even")]
def d_sum_fault : DSp := fun as Q _ => ∃ (n : Nat) (ms : List Nat) (p w c : Nat), as = [.dat (bookX n ms), .dat (.int (p : Int)), .dat (.int (w : Int)), .dat (.int (c : Int))] ∧ Rows n ms ∧ p < 2 ^ n ∧ w < 2 ^ n ∧ c < 2 ^ n ∧ Q (sumFaultX ms p w c)
def d_Book_checks : DSp := fun as Q _ => ∃ (n : Nat) (ms : List Nat), as = [.dat (bookX n ms)] ∧ Rows n ms ∧ Q (.lst ((checkF ms n).map lotM))
def d_twin_fault : DSp := fun as Q _ => ∃ (n : Nat) (ms : List Nat) (p w c : Nat), as = [.dat (bookX n ms), .dat (.int (p : Int)), .dat (.int (w : Int)), .dat (.int (c : Int))] ∧ Rows n ms ∧ p < 2 ^ n ∧ w < 2 ^ n ∧ c < 2 ^ n ∧ (∀ r ∈ checkF ms n, r < 2 ^ n) ∧ Q (twinFaultX n ms p w c)
def hidF (ms : List Nat) (a b : Nat) : Option Nat := (sweepF a ms).2.find? fun r => decide (r &&& b ≠ 0)
def d_hidden_from_one_alone : DSp := fun as Q _ => ∃ (n : Nat) (ms : List Nat) (a b : Nat), as = [.dat (bookX n ms), .dat (.int (a : Int)), .dat (.int (b : Int))] ∧ Rows n ms ∧ a < 2 ^ n ∧ b < 2 ^ n ∧ Q (optX (hidF ms a b))
def sameX (ms : List Nat) (a b : Nat) : D := match hidF ms a b with
  | some r => .tup [.str (Str.ofString "first"), lotM r]
  | none => match hidF ms b a with
    | some r => .tup [.str (Str.ofString "second"), lotM r]
    | none => .non
def d_same_known : DSp := fun as Q _ => ∃ (n : Nat) (ms : List Nat) (a b : Nat), as = [.dat (bookX n ms), .dat (lotM a), .dat (lotM b)] ∧ Rows n ms ∧ a < 2 ^ n ∧ b < 2 ^ n ∧ Q (sameX ms a b)
/-- of answers of the right form alone -/
def d_is_answer : DSp := fun as Q _ => ∃ (b : Bool) (c n : Nat), as = [.dat (.tup [.str (Str.ofString (if b then "sum" else "twin")), lotM c]), .dat (.int (n : Int))] ∧ n ≤ 60 ∧ c < 2 ^ n ∧ Q (.bl true)
def d_knows_fault : DSp := fun as Q _ => ∃ (b : Bool) (n : Nat) (ms : List Nat) (p w c : Nat), as = [.dat (bookX n ms), .dat (lotM p), .dat (lotM w), .dat (.tup [.str (Str.ofString (if b then "sum" else "twin")), lotM c])] ∧ Rows n ms ∧ p < 2 ^ n ∧ w < 2 ^ n ∧ c < 2 ^ n ∧ (∀ r ∈ checkF ms n, r < 2 ^ n) ∧ Q (if b then sumFaultX ms p w c else twinFaultX n ms p w c)
/-- books of right arguments -/
def d_Book : DSp := fun as Q _ => ∃ (n : Nat) (ls : List Nat), as = [.dat (.int (n : Int)), .dat (.lst (ls.map lotM))] ∧ 1 ≤ n ∧ n ≤ 24 ∧ ls.length ≤ 60 ∧ (∀ l ∈ ls, l < 2 ^ n) ∧ Q (bookX n (reduceF ls))
end DL

set_option Elab.async false
set_option linter.all false
set_option maxRecDepth 100000
set_option maxHeartbeats 4000000
set_option exponentiation.threshold 2000
namespace DL
open PySem PySem.Spec PyProof.Rows L2 BT
def r_lowest : DS := (sRet (e2 (oI fun i j => .int (Builtin.bitAnd i j)) (eV 0) (e1 (oI1 fun i => .int (-i)) (eV 0))))
def r_odd : DS := (sSeq (sSet 1 (eFmtB (eV 0)))
  (sRet (e2 (oI fun i j => .int (Builtin.bitAnd i j)) (eCnt (eV 1) (eC (.str (Str.ofString "1")))) (eC (.int 1)))))
def r_cleared : DS := (sSeq (sFor (iSq (eV 1)) (gN 3) (sIf (tTru (e2 (oI fun i j => .int (Builtin.bitAnd i j)) (eV 0) (eCall d_lowest (aC (e2 (oI fun i j => .int (Builtin.bitAnd i j)) (eV 3) (eV 2)) aN)))) (sAug 0 (oI fun i j => .int (Builtin.bitXor i j)) (eV 3)) sNil))
  (sRet (eV 0)))
def r_sweep : DS := (sSeq (sSet 2 (eF (fLst aN)))
  (sSeq (sSetO 3 (fLst aN))
  (sSeq (sFor (iSq (eV 0)) (gN 4) (sSeq (sSet 5 (eCall d_cleared (aV 4 (aV 2 (aV 1 aN)))))
  (sSeq (sSet 6 (eCall d_lowest (aC (e2 (oI fun i j => .int (Builtin.bitAnd i j)) (eV 5) (eV 1)) aN)))
  (sIf (tTru (eV 6)) (sSet 2 (e2 oAdd (eF (fLc (iSq (eV 2)) [7] 7 tYs (eIf (tTru (e2 (oI fun i j => .int (Builtin.bitAnd i j)) (eV 7) (eV 6))) (e2 (oI fun i j => .int (Builtin.bitXor i j)) (eV 7) (eV 5)) (eV 7)))) (eF (fLst (aV 5 aN))))) (sApp 3 (eV 5))))))
  (sFrz 3 (sRet (eTup (aV 2 (aV 3 aN))))))))
def r_unseen : DS := (sSeq (sAsg (eCall d_sweep (aV 0 (aV 1 aN))) (gN2 2 3))
  (sRet (eV 3)))
def r_reduce_rows : DS := (sSeq (sAsg (eCall d_sweep (aV 0 (aC (eC (.int (-1))) aN))) (gN2 1 2))
  (sRet (eSrtK (eV 1))))
def r_mask_of : DS := (sSeq (sSet 1 (eC (.int 0)))
  (sSeq (sFor (iSq (eV 0)) (gN 2) (sAug 1 (oI fun i j => .int (Builtin.bitOr i j)) (e2 (oIC CPow fun i j => .int (i * 2 ^ j.toNat)) (eC (.int 1)) (eV 2))))
  (sRet (eV 1))))
def r_lot_of : DS := (sRet (e1 oTuple (eF (fLc (iRg1 (aC (e1 (oI1 fun i => .int (Builtin.Int.intBits i : Nat)) (eV 0)) aN)) [1] 1 (tTru (e2 (oI fun i j => .int (Builtin.bitAnd i j)) (e2 (oIC (fun _ j => 0 ≤ j) fun i j => .int (i / 2 ^ j.toNat)) (eV 0) (eV 1)) (eC (.int 1)))) (eV 1)))))
def r_picked : DS := (sSeq (sSet 2 (eC (.int 0)))
  (sSeq (sFor (iEn (aV 1 aN)) (gN2 3 4) (sAug 2 (oI fun i j => .int (Builtin.bitOr i j)) (e2 (oIC CPow fun i j => .int (i * 2 ^ j.toNat)) (e2 (oI fun i j => .int (Builtin.bitAnd i j)) (e2 (oIC (fun _ j => 0 ≤ j) fun i j => .int (i / 2 ^ j.toNat)) (eV 0) (eV 4)) (eC (.int 1))) (eV 3))))
  (sRet (eV 2))))
def r_bits_at : DS := (sSeq (sSet 2 (eC (.int 0)))
  (sSeq (sFor (iEn (aV 1 aN)) (gN2 3 4) (sAug 2 (oI fun i j => .int (Builtin.bitOr i j)) (e2 (oIC CPow fun i j => .int (i * 2 ^ j.toNat)) (eCall d_odd (aC (e2 (oI fun i j => .int (Builtin.bitAnd i j)) (eV 0) (eV 4)) aN)) (eV 3))))
  (sRet (eV 2))))
def r_certificate : DS := (sSeq (sAsg (eCall d_sweep (aV 0 (aV 1 aN))) (gN2 3 4))
  (sSeq (sFor (iSq (eV 4)) (gN 5) (sIf (tTru (eCall d_odd (aC (e2 (oI fun i j => .int (Builtin.bitAnd i j)) (eV 5) (eV 2)) aN))) (sRet (eTup (aC (eC (.str (Str.ofString "twin"))) (aV 5 aN)))) sNil))
  (sRet (eTup (aC (eC (.str (Str.ofString "sum"))) (aC (eB oSum (aC (eF (fLc (iSq (eV 3)) [5] 5 (tTru (eCall d_odd (aC (e2 (oI fun i j => .int (Builtin.bitAnd i j)) (eV 5) (eV 2)) aN))) (eCall d_lowest (aC (e2 (oI fun i j => .int (Builtin.bitAnd i j)) (eV 5) (eV 1)) aN)))) aN)) aN))))))
def r_check_rows : DS := (sSeq (sSetO 2 (fLst aN))
  (sSeq (sFor (iRg1 (aV 1 aN)) (gN 3) (sSeq (sSet 4 (e2 (oIC CPow fun i j => .int (i * 2 ^ j.toNat)) (eC (.int 1)) (eV 3)))
  (sIf (tN (tTru (eB oAny (aC (eF (fLc (iSq (eV 0)) [5] 5 tYs (e2 (oEq false) (eCall d_lowest (aV 5 aN)) (eV 4)))) aN)))) (sApp 2 (e2 (oI fun i j => .int (Builtin.bitOr i j)) (eV 4) (eB oSum (aC (eF (fLc (iSq (eV 0)) [5] 5 (tTru (e2 (oI fun i j => .int (Builtin.bitAnd i j)) (eV 5) (eV 4))) (eCall d_lowest (aV 5 aN)))) aN)))) sNil)))
  (sFrz 2 (sRet (eCall d_reduce_rows (aV 2 aN))))))
def r_span : DS := (sSeq (sSet 1 (eF (fLst (aC (eC (.int 0)) aN))))
  (sSeq (sFor (iSq (eV 0)) (gN 2) (sSet 1 (e2 oAdd (eV 1) (eF (fLc (iSq (eV 1)) [3] 3 tYs (e2 (oI fun i j => .int (Builtin.bitXor i j)) (eV 2) (eV 3)))))))
  (sRet (eV 1))))
def r_is_number : DS := (sRet (eAn (eIs "int" (eV 0)) (eNot (eIs "bool" (eV 0)))))
def r_is_between : DS := (sRet (eAn (eCall d_is_number (aV 0 aN)) (eCh oLe oLe (eV 1) (eV 0) (eV 2))))
def r_need_size : DS := (sIf (tN (tTru (eCall d_is_between (aV 0 (aC (eC (.int 0)) (aC (eC (.int 60)) aN)))))) (sRaise "BadSize" (eV 0)) sNil)
def r_is_lot : DS := (sSeq (sExp (eCall d_need_size (aV 1 aN)))
  (sSeq (sIf (tN (tTru (eIs "tuple" (eV 0)))) (sRet (eC (.bl false))) sNil)
  (sSeq (sSet 2 (eC (.int 0)))
  (sSeq (sFor (iSq (eV 0)) (gN 3) (sSeq (sIf (tOo (tN (tTru (eCall d_is_number (aV 3 aN)))) (tN (tCh oLe oLt (eV 2) (eV 3) (eV 1)))) (sRet (eC (.bl false))) sNil)
  (sSet 2 (e2 oAdd (eV 3) (eC (.int 1))))))
  (sRet (eC (.bl true)))))))
def r_need_lot : DS := (sIf (tN (tTru (eCall d_is_lot (aV 0 (aV 1 aN))))) (sRaise "BadLot" (eV 0)) sNil)
def r_need_each_lot : DS := (sFor (iEn (aV 0 aN)) (gN2 2 3) (sIf (tN (tTru (eCall d_is_lot (aV 3 (aV 1 aN))))) (sRaise "BadLots" (eV 2)) sNil))
def r_need_lots : DS := (sSeq (sIf (tOo (tN (tTru (eIs "list" (eV 0)))) (t2 oGt (eB oLen (aV 0 aN)) (eV 2))) (sRaise "BadLots" (e1 (oI1 fun i => .int (-i)) (eC (.int 1)))) sNil)
  (sExp (eCall d_need_each_lot (aV 0 (aV 1 aN)))))
def r_need_book_size : DS := (sIf (tN (tTru (eCall d_is_between (aV 0 (aC (eC (.int 1)) (aC (eC (.int 24)) aN)))))) (sRaise "BadSize" (eV 0)) sNil)
def r_see : DS := (sSeq (sExp (eCall d_need_lot (aV 1 (aC (eFld tab0 "size" (eV 0)) aN))))
  (sSeq (sAsg (eCall d_sweep (aC (eFld tab0 "masks" (eV 0)) (aC (eCall d_mask_of (aV 1 aN)) aN))) (gN2 2 3))
  (sRet (eB oLen (aV 2 aN)))))
def r_hide : DS := (sRet (e2 (oI fun i j => .int (i - j)) (eFld tab0 "dim" (eV 0)) (eCall d_see (aV 0 (aV 1 aN)))))
def r_knows : DS := (sSeq (sExp (eCall d_need_lot (aV 1 (aC (eFld tab0 "size" (eV 0)) aN))))
  (sSeq (sExp (eCall d_need_lot (aV 2 (aC (eFld tab0 "size" (eV 0)) aN))))
  (sSeq (sAsg (eCall d_certificate (aC (eFld tab0 "masks" (eV 0)) (aC (eCall d_mask_of (aV 1 aN)) (aC (eCall d_mask_of (aV 2 aN)) aN)))) (gN2 3 4))
  (sRet (eTup (aV 3 (aC (eCall d_lot_of (aV 4 aN)) aN)))))))
def r_free_bits : DS := (sSeq (sSet 3 (eF (fLc (iSq (eV 1)) [4] 4 tYs (eCall d_mask_of (aV 4 aN)))))
  (sRet (eCall d_reduce_rows (aC (eF (fLc (iSq (eCall d_unseen (aC (eFld tab0 "masks" (eV 0)) (aC (eCall d_mask_of (aV 2 aN)) aN)))) [5] 5 tYs (eCall d_bits_at (aV 5 (aV 3 aN))))) aN))))
def r_left : DS := (sSeq (sExp (eCallD d_need_lots [60] (aV 1 (aC (eFld tab0 "size" (eV 0)) aN))))
  (sSeq (sExp (eCall d_need_lot (aV 2 (aC (eFld tab0 "size" (eV 0)) aN))))
  (sRet (eB oLen (aC (eCall d_free_bits (aV 0 (aV 1 (aV 2 aN)))) aN)))))
def r_first_odd : DS := (sSeq (sFor (iSq (eV 0)) (gN 2) (sIf (tTru (eCall d_odd (aC (e2 (oI fun i j => .int (Builtin.bitAnd i j)) (eV 2) (eV 1)) aN))) (sRet (eCall d_lot_of (aV 2 aN))) sNil))
  (sRet (eC .non)))
def r_sum_fault : DS := (sSeq (sSet 4 (eCall d_lot_of (aC (e2 (oI fun i j => .int (Builtin.bitAnd i j)) (eV 3) (e1 (oI1 fun i => .int (Builtin.bitNot i)) (eV 1))) aN)))
  (sSeq (sIf (tTru (eV 4)) (sRet (eTup (aC (eC (.str (Str.ofString "part"))) (aC (e2 oIx (eV 4) (eC (.int 0))) aN)))) sNil)
  (sSeq (sSet 5 (eCall d_first_odd (aC (eFld tab0 "masks" (eV 0)) (aC (e2 (oI fun i j => .int (Builtin.bitXor i j)) (eV 3) (eV 2)) aN))))
  (sSeq (sIf (t2 (oIsN true) (eV 5) (eC .non)) (sRet (eTup (aC (eC (.str (Str.ofString "check"))) (aV 5 aN)))) sNil)
  (sRet (eC .non))))))
def r_Book_checks : DS := (sRet (eF (fLc (iSq (eCall d_check_rows (aC (eFld tab0 "masks" (eV 0)) (aC (eFld tab0 "size" (eV 0)) aN)))) [1] 1 tYs (eCall d_lot_of (aV 1 aN)))))
def r_twin_fault : DS := (sSeq (sSet 4 (eCall d_first_odd (aC (eF (fLc (iSq (eMeth "Book" "checks" d_Book_checks (eV 0) aN)) [6] 6 tYs (eCall d_mask_of (aV 6 aN)))) (aV 3 aN))))
  (sSeq (sIf (t2 (oIsN true) (eV 4) (eC .non)) (sRet (eTup (aC (eC (.str (Str.ofString "word"))) (aV 4 aN)))) sNil)
  (sSeq (sSet 5 (eCall d_lot_of (aC (e2 (oI fun i j => .int (Builtin.bitAnd i j)) (eV 3) (eV 1)) aN)))
  (sSeq (sIf (tTru (eV 5)) (sRet (eTup (aC (eC (.str (Str.ofString "seen"))) (aC (e2 oIx (eV 5) (eC (.int 0))) aN)))) sNil)
  (sSeq (sIf (tN (tTru (eCall d_odd (aC (e2 (oI fun i j => .int (Builtin.bitAnd i j)) (eV 3) (eV 2)) aN)))) (sRet (eTup (aC (eC (.str (Str.ofString "even"))) aN))) sNil)
  (sRet (eC .non)))))))
def r_is_answer : DS := (sSeq (sIf (tOo (tN (tTru (eIs "tuple" (eV 0)))) (t2 (oEq true) (eB oLen (aV 0 aN)) (eC (.int 2)))) (sRet (eC (.bl false))) sNil)
  (sRet (eAn (e2 (oInS false) (e2 oIx (eV 0) (eC (.int 0))) (eTup (aC (eC (.str (Str.ofString "sum"))) (aC (eC (.str (Str.ofString "twin"))) aN)))) (eCall d_is_lot (aC (e2 oIx (eV 0) (eC (.int 1))) (aV 1 aN))))))
def r_knows_fault : DS := (sSeq (sExp (eCall d_need_lot (aV 1 (aC (eFld tab0 "size" (eV 0)) aN))))
  (sSeq (sExp (eCall d_need_lot (aV 2 (aC (eFld tab0 "size" (eV 0)) aN))))
  (sSeq (sIf (tN (tTru (eCall d_is_answer (aV 3 (aC (eFld tab0 "size" (eV 0)) aN))))) (sRet (eTup (aC (eC (.str (Str.ofString "form"))) aN))) sNil)
  (sSeq (sAsg (eV 3) (gN2 4 5))
  (sSeq (sIf (t2 (oEq false) (eV 4) (eC (.str (Str.ofString "sum")))) (sRet (eCall d_sum_fault (aV 0 (aC (eCall d_mask_of (aV 1 aN)) (aC (eCall d_mask_of (aV 2 aN)) (aC (eCall d_mask_of (aV 5 aN)) aN)))))) sNil)
  (sRet (eCall d_twin_fault (aV 0 (aC (eCall d_mask_of (aV 1 aN)) (aC (eCall d_mask_of (aV 2 aN)) (aC (eCall d_mask_of (aV 5 aN)) aN)))))))))))
end DL

set_option Elab.async false
set_option linter.all false
set_option maxRecDepth 100000
set_option maxHeartbeats 4000000
set_option exponentiation.threshold 2000
namespace DL
open PySem PySem.Spec PyProof.Rows L2 BT
def r_hidden_from_one_alone : DS := (sSeq (sFor (iSq (eCall d_unseen (aC (eFld tab0 "masks" (eV 0)) (aV 1 aN)))) (gN 3) (sIf (tTru (e2 (oI fun i j => .int (Builtin.bitAnd i j)) (eV 3) (eV 2))) (sRet (eCall d_lot_of (aV 3 aN))) sNil))
  (sRet (eC .non)))
def r_same_known : DS := (sSeq (sExp (eCall d_need_lot (aV 1 (aC (eFld tab0 "size" (eV 0)) aN))))
  (sSeq (sExp (eCall d_need_lot (aV 2 (aC (eFld tab0 "size" (eV 0)) aN))))
  (sSeq (sSet 3 (eCall d_hidden_from_one_alone (aV 0 (aC (eCall d_mask_of (aV 1 aN)) (aC (eCall d_mask_of (aV 2 aN)) aN)))))
  (sSeq (sIf (t2 (oIsN true) (eV 3) (eC .non)) (sRet (eTup (aC (eC (.str (Str.ofString "first"))) (aV 3 aN)))) sNil)
  (sSeq (sSet 3 (eCall d_hidden_from_one_alone (aV 0 (aC (eCall d_mask_of (aV 2 aN)) (aC (eCall d_mask_of (aV 1 aN)) aN)))))
  (sSeq (sIf (t2 (oIsN true) (eV 3) (eC .non)) (sRet (eTup (aC (eC (.str (Str.ofString "second"))) (aV 3 aN)))) sNil)
  (sRet (eC .non))))))))
end DL

set_option Elab.async false
set_option linter.all false
set_option maxRecDepth 100000
set_option maxHeartbeats 2000000
set_option exponentiation.threshold 2000
namespace DL
open PySem PySem.Spec PyProof.Rows L2 BT
/-- more built-in names -/
structure Bi4 (mg : Str → Option Value) : Prop where
  reversed : mg "reversed" = none
  set : mg "set" = none
  max : mg "max" = none
section
variable {X : Cx} {ad : Str → Addr} {E : L2.St → XK} {Ed : DXt} {tg e : Expr} {fa : DE} {p pos : Pos}
/-! ### reversed -/
def iRev (f : DE) : DI := fun ρ Q Ed => f ρ (fun d => match d with
  | .lst xs => Q xs.reverse
  | _ => False) Ed
end
end DL

set_option Elab.async false
set_option linter.all false
set_option maxRecDepth 100000
set_option maxHeartbeats 2000000
set_option exponentiation.threshold 2000
namespace DL
open PySem PySem.Spec PyProof.Rows L2 BT
/-! ### how many different numbers: len(set(xs)) -/
def tManyS (K : PySem.W.Frag) (t : TE) : TE := fun σ H Q => t σ H fun x G => ∃ (l : Addr) (zs : List Int), x = V.ref l ∧ SqL K G l (zs.map V.int) ∧ zs.length ≤ 4000 ∧ Q (.int (firstMet (fun i => zs.getD i 0) zs.length).length) G
section
variable {X : Cx} {ad : Str → Addr} {E : L2.St → XK} {Ed : DXt} {e : Expr} {fa : DE} {p1 p2 q1 q2 : Pos}
/-- how many different ones -/
def eManyS (f : DE) : DE := fun ρ Q Ed => f ρ (fun d => match d with
  | .lst xs => ∃ zs : List Int, intsD xs = some zs ∧ zs.length ≤ 4000 ∧ ∀ us : List Int, us.Nodup → (∀ x, x ∈ us ↔ x ∈ zs) → Q (.int us.length)
  | _ => False) Ed
end
end DL

set_option Elab.async false
set_option linter.all false
set_option maxRecDepth 100000
set_option maxHeartbeats 2000000
set_option exponentiation.threshold 2000
namespace DL
open PySem PySem.Spec PyProof.Rows L2 BT
section
variable {X : Cx} {ad : Str → Addr} {E : L2.St → XK} {Ed : DXt} {e : Expr} {fa : DE} {pos pos' : Pos}
/-! ### a list that is being written is lent to a call that answers with a plain value -/
def bareD : D → Bool
  | .int _ => true
  | .bl _ => true
  | .non => true
  | .str _ => true
  | _ => false
def sSetL (k i : Nat) (f : DE) : DS := fun De ρ Ed => match ρ[k]? with
  | some (.own xs) => f (ρ.set k (.dat (.lst xs))) (fun d => bareD d = true ∧ De.nx (ρ.set i (.dat d))) Ed
  | _ => False
end
end DL

set_option Elab.async false
set_option linter.all false
set_option maxRecDepth 100000
set_option maxHeartbeats 4000000
set_option exponentiation.threshold 2000
namespace DL
open PySem PySem.Spec PyProof.Rows L2 BT
/-! ### promises: what the laws with a source of seven items share -/
/-- == of books: of the same size, with the same rows -/
inductive BookIs (n : Nat) (ms : List Nat) : D → Bool → Prop
  | no {y : D} {t : String} (h : tyS y = some t) : BookIs n ms y false
  | yes (m : Nat) (ks : List Nat) : BookIs n ms (bookX m ks) (decide (n = m ∧ ms = ks))
def d_Book_eq : DSp := fun as Q _ => ∃ (n : Nat) (ms : List Nat) (y : D) (r : Bool), as = [.dat (bookX n ms), .dat y] ∧ BookIs n ms y r ∧ Q (.bl r)
def d_Book_turned : DSp := fun as Q _ => ∃ (n : Nat) (ms : List Nat), as = [.dat (bookX n ms)] ∧ Rows n ms ∧ 1 ≤ n ∧ n ≤ 24 ∧ (checkF ms n).length ≤ 60 ∧ (∀ c ∈ checkF ms n, c < 2 ^ n) ∧ Q (bookX n (reduceF (checkF ms n)))
def d_law_lot : DSp := fun as Q _ => ∃ m : Nat, as = [.dat (.int (m : Int))] ∧ m < 2 ^ 1000 ∧ Q (lotM m)
def d_law_integer : DSp := fun as Q _ => ∃ d, as = [.dat d] ∧ (tyS d).isSome = true ∧ Q (.bl (isNumX d))
def d_law_flag : DSp := fun as Q _ => ∃ b c : Bool, as = [.dat (.bl b), .dat (.bl c)] ∧ Q (.bl (decide (b = c)))
def d_law_same : DSp := fun as Q _ => ∃ d : D, as = [.dat d, .dat d] ∧ ((∃ x, d = .str x ∧ (PySem.reprText x).length ≤ sizeLine) ∨ ((match d with | .tup _ => True | .lst _ => True | .dct _ => True | _ => False) ∧ ∃ p, pyR d = some p ∧ Sr p)) ∧ Q (.bl true)
def copiedF (row one other : Nat) : Nat := if one = other then (row ||| 2 ^ other) ^^^ 2 ^ other else ((row ||| 2 ^ other) ^^^ 2 ^ other) ||| ((row >>> one &&& 1) <<< other)
def d_law_copied : DSp := fun as Q _ => ∃ row one other : Nat, as = [.dat (.int (row : Int)), .dat (.int (one : Int)), .dat (.int (other : Int))] ∧ one < 1000 ∧ other < 1000 ∧ Q (.int (copiedF row one other : Nat))
def rolledF (row turn size : Nat) : Nat := (row <<< turn ||| (row <<< turn) >>> size) &&& (2 ^ size - 1)
def d_law_rolled : DSp := fun as Q _ => ∃ row turn size : Nat, as = [.dat (.int (row : Int)), .dat (.int (turn : Int)), .dat (.int (size : Int))] ∧ row < 2 ^ 60 ∧ turn < 1000 ∧ size < 1000 ∧ Q (.int (rolledF row turn size : Nat))
def d_law_rows : DSp := fun as Q _ => ∃ n : Nat, as = [.src, .dat (.int (n : Int))] ∧ 1 ≤ n ∧ n ≤ 24 ∧ ∀ rs : List Nat, rs.length ≤ 2 * n + 4 → (∀ r ∈ rs, r < 2 ^ n) → Q (.lst (natX rs))
end DL

set_option Elab.async false
set_option linter.all false
set_option maxRecDepth 100000
set_option maxHeartbeats 4000000
set_option exponentiation.threshold 2000
namespace DL
open PySem PySem.Spec PyProof.Rows L2 BT
def r_Book_eq : DS := (sRet (eAn (eIsO "Book" (eV 1)) (eAn (e2 (oEq false) (eFld tab0 "size" (eV 0)) (eFld tab0 "size" (eV 1))) (e2 (oEq false) (eFld tab0 "masks" (eV 0)) (eFld tab0 "masks" (eV 1))))))
def r_law_lot : DS := (sSeq (sSetO 1 (fLst aN))
  (sSeq (sFor (iRg1 (aC (e1 (oI1 fun i => .int (Builtin.Int.intBits i : Nat)) (eV 0)) aN)) (gN 2) (sIf (t2 (oEq false) (e2 (oI fun i j => .int (Builtin.bitAnd i j)) (e2 (oIC (fun _ j => 0 ≤ j) fun i j => .int (i / 2 ^ j.toNat)) (eV 0) (eV 2)) (eC (.int 1))) (eC (.int 1))) (sApp 1 (eV 2)) sNil))
  (sFrz 1 (sRet (e1 oTuple (eV 1))))))
def r_law_integer : DS := (sRet (eAn (eIs "int" (eV 0)) (eNot (eIs "bool" (eV 0)))))
def r_law_flag : DS := (sRet (eAn (eIs "bool" (eV 0)) (e2 (oEq false) (eV 0) (eV 1))))
def r_law_same : DS := (sRet (e2 (oEq false) (eB oReprB (aV 0 aN)) (eB oReprB (aV 1 aN))))
def r_law_copied : DS := (sSeq (sSet 3 (e2 (oI fun i j => .int (Builtin.bitXor i j)) (e2 (oI fun i j => .int (Builtin.bitOr i j)) (eV 0) (e2 (oIC CPow fun i j => .int (i * 2 ^ j.toNat)) (eC (.int 1)) (eV 2))) (e2 (oIC CPow fun i j => .int (i * 2 ^ j.toNat)) (eC (.int 1)) (eV 2))))
  (sSeq (sIf (t2 (oEq false) (eV 1) (eV 2)) (sRet (eV 3)) sNil)
  (sRet (e2 (oI fun i j => .int (Builtin.bitOr i j)) (eV 3) (e2 (oIC CPow fun i j => .int (i * 2 ^ j.toNat)) (e2 (oI fun i j => .int (Builtin.bitAnd i j)) (e2 (oIC (fun _ j => 0 ≤ j) fun i j => .int (i / 2 ^ j.toNat)) (eV 0) (eV 1)) (eC (.int 1))) (eV 2))))))
def r_law_rolled : DS := (sSeq (sSet 0 (e2 (oIC CPow fun i j => .int (i * 2 ^ j.toNat)) (eV 0) (eV 1)))
  (sRet (e2 (oI fun i j => .int (Builtin.bitAnd i j)) (e2 (oI fun i j => .int (Builtin.bitOr i j)) (eV 0) (e2 (oIC (fun _ j => 0 ≤ j) fun i j => .int (i / 2 ^ j.toNat)) (eV 0) (eV 2))) (e2 (oI fun i j => .int (i - j)) (e2 (oIC CPow fun i j => .int (i * 2 ^ j.toNat)) (eC (.int 1)) (eV 2)) (eC (.int 1))))))
def r_law_rows : DS := (sSeq (sSet 2 (eCall d_law_draw (aV 0 (aC (eC (.int 6)) aN))))
  (sSeq (sSet 3 (eCall d_law_draw (aV 0 (aC (e2 oAdd (eV 1) (eC (.int 1))) aN))))
  (sSeq (sSetO 4 (fLst aN))
  (sSeq (sIf (t2 oLt (eV 2) (eC (.int 2))) (sFor (iRg1 (aC (e2 oAdd (eV 3) (eV 2)) aN)) (gN 5) (sApp 4 (eCall d_law_draw (aV 0 (aC (e2 (oIC CPow fun i j => .int (i * 2 ^ j.toNat)) (eC (.int 1)) (eV 1)) aN))))) (sSeq (sSet 6 (eCall d_law_draw (aV 0 (aV 1 aN))))
  (sFor (iRg1 (aV 3 aN)) (gN 5) (sSeq (sSet 7 (e2 (oI fun i j => .int (Builtin.bitOr i j)) (e2 (oIC CPow fun i j => .int (i * 2 ^ j.toNat)) (eC (.int 1)) (eV 5)) (e2 (oIC CPow fun i j => .int (i * 2 ^ j.toNat)) (eCall d_law_draw (aV 0 (aC (e2 (oIC CPow fun i j => .int (i * 2 ^ j.toNat)) (eC (.int 1)) (e2 (oI fun i j => .int (i - j)) (eV 1) (eV 3))) aN))) (eV 3))))
  (sApp 4 (eCall d_law_rolled (aV 7 (aV 6 (aV 1 aN)))))))))
  (sSeq (sIf (t2 (oEq false) (eV 2) (eC (.int 3))) (sSeq (sSet 8 (eCall d_law_draw (aV 0 (aV 1 aN))))
  (sSeq (sSet 9 (eCall d_law_draw (aV 0 (aV 1 aN))))
  (sFrz 4 (sSetO 4 (fLc (iSq (eV 4)) [7] 7 tYs (eCall d_law_copied (aV 7 (aV 8 (aV 9 aN))))))))) sNil)
  (sSeq (sIf (t2 (oEq false) (eV 2) (eC (.int 4))) (sSeq (sSet 10 (e2 (oI fun i j => .int (i - j)) (e2 (oIC CPow fun i j => .int (i * 2 ^ j.toNat)) (eC (.int 1)) (eCall d_law_draw (aV 0 (aC (e2 oAdd (eV 1) (eC (.int 1))) aN)))) (eC (.int 1))))
  (sFrz 4 (sSetO 4 (fCat (eF (fLc (iSq (eV 4)) [7] 7 tYs (e2 (oI fun i j => .int (Builtin.bitAnd i j)) (eV 7) (eV 10)))) (eF (fLc (iSq (eV 4)) [7] 7 tYs (e2 (oI fun i j => .int (Builtin.bitXor i j)) (eV 7) (e2 (oI fun i j => .int (Builtin.bitAnd i j)) (eV 7) (eV 10))))))))) sNil)
  (sSeq (sIf (tAn (tOo (t2 (oEq false) (eV 2) (eC (.int 1))) (t2 (oEq false) (eV 2) (eC (.int 5)))) (t2 oGt (eLenO 4) (eC (.int 0)))) (sSeq (sSet 8 (eCall d_law_draw (aV 0 (aC (eLenO 4) aN))))
  (sSeq (sSet 9 (eCall d_law_draw (aV 0 (aC (eLenO 4) aN))))
  (sFrz 4 (sSetO 4 (fCat (e2 oAdd (eF (fLst (aC (eIxO 4 (eV 8)) aN))) (eV 4)) (eF (fLst (aC (e2 (oI fun i j => .int (Builtin.bitXor i j)) (eIxO 4 (eV 8)) (eIxO 4 (eV 9))) aN)))))))) sNil)
  (sFrz 4 (sRet (eV 4))))))))))
def r_Book_turned : DS := (sRet (eCall d_Book (aC (eFld tab0 "size" (eV 0)) (aC (eMeth "Book" "checks" d_Book_checks (eV 0) aN) aN))))
end DL

set_option Elab.async false
set_option linter.all false
set_option maxRecDepth 100000
set_option maxHeartbeats 4000000
set_option exponentiation.threshold 2000
namespace DL
open PySem PySem.Spec PyProof.Rows L2 BT
/-! ### sums of rows -/
theorem nodup_len : ∀ (n : Nat) (l : List Nat), l.Nodup → (∀ k ∈ l, k < n) → l.length ≤ n
  | 0, [], _, _ => Nat.le_refl _
  | 0, k :: l, _, h => absurd (h k (List.mem_cons_self ..)) (Nat.not_lt_zero _)
  | n + 1, l, hd, h => by
    have h1 := nodup_len n (l.erase n) (hd.erase n) fun k hk => by
      have h2 := h k (List.mem_of_mem_erase hk)
      have h3 : k ≠ n := fun e => by
        subst e
        exact hd.not_mem_erase hk
      omega
    have h4 : l.length ≤ (l.erase n).length + 1 := by
      rw [List.length_erase]
      split <;> omega
    omega
/-- all sums of the rows -/
def closeF (rs : List Nat) : List Nat := rs.foldl (fun ws r => if r ∈ ws then ws else ws ++ ws.map (· ^^^ r)) [0]
def leadsF (ws : List Nat) : Nat := ws.foldl (fun a w => a ||| lowN w) 0
def redF (ws : List Nat) : List Nat := (List.range (Builtin.Int.intBits (leadsF ws))).flatMap fun p => ws.filter fun w => decide (w &&& leadsF ws = 2 ^ p)
theorem closeF_snoc (rs : List Nat) (r : Nat) : closeF (rs ++ [r]) = if r ∈ closeF rs then closeF rs else closeF rs ++ (closeF rs).map (· ^^^ r) := by
  unfold closeF; rw [List.foldl_append]; rfl
theorem closeF_lt {n : Nat} {rs : List Nat} (h : ∀ r ∈ rs, r < 2 ^ n) : ∀ w ∈ closeF rs, w < 2 ^ n := by
  have key : ∀ (rs ws : List Nat), (∀ r ∈ rs, r < 2 ^ n) → (∀ w ∈ ws, w < 2 ^ n) → ∀ w ∈ rs.foldl (fun ws r => if r ∈ ws then ws else ws ++ ws.map (· ^^^ r)) ws, w < 2 ^ n := by
    intro rs
    induction rs with
    | nil => intro ws _ h; exact h
    | cons r rs ih =>
      intro ws hr hw
      rw [List.foldl_cons]
      refine ih _ (fun z hz => hr z (List.mem_cons_of_mem _ hz)) ?_
      split
      · exact hw
      · intro z hz
        rcases List.mem_append.mp hz with hz | hz
        · exact hw z hz
        · obtain ⟨y, hy, rfl⟩ := List.mem_map.mp hz
          exact Nat.xor_lt_two_pow (hw y hy) (hr r (List.mem_cons_self ..))
  exact key rs [0] h fun w hw => by rw [List.mem_singleton.mp hw]; exact Nat.two_pow_pos _
theorem closeF_nodup (rs : List Nat) : (closeF rs).Nodup ∧ 0 ∈ closeF rs ∧ ∀ a b, a ∈ closeF rs → b ∈ closeF rs → a ^^^ b ∈ closeF rs := by
  have key : ∀ (rs ws : List Nat), (ws.Nodup ∧ 0 ∈ ws ∧ ∀ a b, a ∈ ws → b ∈ ws → a ^^^ b ∈ ws) → let f := rs.foldl (fun ws r => if r ∈ ws then ws else ws ++ ws.map (· ^^^ r)) ws
      f.Nodup ∧ 0 ∈ f ∧ ∀ a b, a ∈ f → b ∈ f → a ^^^ b ∈ f := by
    intro rs
    induction rs with
    | nil => intro ws h; exact h
    | cons r rs ih =>
      intro ws ⟨h1, h2, h3⟩
      rw [List.foldl_cons]
      refine ih _ ?_
      split
      · exact ⟨h1, h2, h3⟩
      · rename_i hr
        have xx : ∀ a b : Nat, a ^^^ b ^^^ b = a := fun a b => by rw [Nat.xor_assoc, Nat.xor_self, Nat.xor_zero]
        refine ⟨List.nodup_append.mpr ⟨h1, ?_, fun a ha b hb e => ?_⟩, List.mem_append_left _ h2, fun a b ha hb => ?_⟩
        · rw [List.nodup_iff_pairwise_ne, List.pairwise_map]
          exact (List.nodup_iff_pairwise_ne.mp h1).imp fun hab e => hab (by
            have z := congrArg (fun t => t ^^^ r) e
            rwa [xx, xx] at z)
        · obtain ⟨y, hy, rfl⟩ := List.mem_map.mp hb
          subst e
          refine hr ?_
          have z := h3 _ _ ha hy
          rw [Nat.xor_comm, ← Nat.xor_assoc, Nat.xor_self, Nat.zero_xor] at z
          exact z
        · rcases List.mem_append.mp ha with ha | ha <;> rcases List.mem_append.mp hb with hb | hb
          · exact List.mem_append_left _ (h3 a b ha hb)
          · obtain ⟨y, hy, rfl⟩ := List.mem_map.mp hb
            exact List.mem_append_right _ (List.mem_map.mpr ⟨a ^^^ y, h3 _ _ ha hy, by rw [Nat.xor_assoc]⟩)
          · obtain ⟨y, hy, rfl⟩ := List.mem_map.mp ha
            exact List.mem_append_right _ (List.mem_map.mpr ⟨y ^^^ b, h3 _ _ hy hb, by rw [Nat.xor_assoc, Nat.xor_assoc, Nat.xor_comm b r]⟩)
          · obtain ⟨y, hy, rfl⟩ := List.mem_map.mp ha
            obtain ⟨z, hz, rfl⟩ := List.mem_map.mp hb
            refine List.mem_append_left _ ?_
            have e : y ^^^ r ^^^ (z ^^^ r) = y ^^^ z := by rw [Nat.xor_comm z r, ← Nat.xor_assoc, xx]
            rw [e]
            exact h3 _ _ hy hz
  exact key rs [0] ⟨by simp, by simp, fun a b ha hb => by rw [List.mem_singleton.mp ha, List.mem_singleton.mp hb]; simp⟩
def flatN (ws : List Nat) (L p : Nat) : List Nat := (List.range p).flatMap fun k => ws.filter fun w => decide (w &&& L = 2 ^ k)
theorem closeF_min {S : Nat → Prop} (h0 : S 0) (hx : ∀ a b, S a → S b → S (a ^^^ b)) : ∀ (rs ws : List Nat), (∀ r ∈ rs, S r) → (∀ w ∈ ws, S w) → ∀ w ∈ rs.foldl (fun ws r => if r ∈ ws then ws else ws ++ ws.map (· ^^^ r)) ws, S w := by
  intro rs
  induction rs with
  | nil => intro ws _ hw; exact hw
  | cons r rs ih =>
    intro ws hr hw
    refine ih _ (fun x h => hr x (List.mem_cons_of_mem _ h)) ?_
    intro w hm
    dsimp only at hm
    split at hm
    · exact hw w hm
    · rcases List.mem_append.mp hm with h | h
      · exact hw w h
      · obtain ⟨z, hz, rfl⟩ := List.mem_map.mp h
        exact hx _ _ (hw z hz) (hr r (List.mem_cons_self ..))
theorem closeF_mono : ∀ (rs ws : List Nat), ∀ w ∈ ws, w ∈ rs.foldl (fun ws r => if r ∈ ws then ws else ws ++ ws.map (· ^^^ r)) ws := by
  intro rs
  induction rs with
  | nil => intro ws w h; exact h
  | cons r rs ih =>
    intro ws w h
    refine ih _ w ?_
    dsimp only
    split
    · exact h
    · exact List.mem_append_left _ h
theorem closeF_mem {rs : List Nat} : ∀ r ∈ rs, r ∈ closeF rs := by
  have key : ∀ (rs ws : List Nat), 0 ∈ ws → ∀ r ∈ rs, r ∈ rs.foldl (fun ws r => if r ∈ ws then ws else ws ++ ws.map (· ^^^ r)) ws := by
    intro rs
    induction rs with
    | nil => intro ws _ r h; cases h
    | cons a rs ih =>
      intro ws h0 r h
      rcases List.mem_cons.mp h with rfl | h
      · refine closeF_mono rs _ r ?_
        dsimp only
        split
        · assumption
        · exact List.mem_append_right _ (List.mem_map.mpr ⟨0, h0, Nat.zero_xor _⟩)
      · refine ih _ ?_ r h
        dsimp only
        split
        · exact h0
        · exact List.mem_append_left _ h0
  exact key rs [0] (List.mem_singleton.mpr rfl)
theorem closeF_into {rs ts : List Nat} (h : ∀ t ∈ ts, t ∈ closeF rs) : ∀ w ∈ closeF ts, w ∈ closeF rs :=
  closeF_min (S := fun w => w ∈ closeF rs) (closeF_nodup rs).2.1 (closeF_nodup rs).2.2 ts [0] h fun w hw => by
    rw [List.mem_singleton.mp hw]; exact (closeF_nodup rs).2.1
theorem closeF_same {rs ts : List Nat} (h1 : ∀ t ∈ ts, t ∈ closeF rs) (h2 : ∀ r ∈ rs, r ∈ closeF ts) (w : Nat) : w ∈ closeF ts ↔ w ∈ closeF rs := ⟨closeF_into h1 w, closeF_into h2 w⟩
theorem leadsF_low : ∀ (ws : List Nat) (a k : Nat), (a.testBit k = true ∨ ∃ w ∈ ws, (lowN w).testBit k = true) ↔ (ws.foldl (fun a w => a ||| lowN w) a).testBit k = true := by
  intro ws
  induction ws with
  | nil => intro a k; exact ⟨fun h => h.elim id (fun ⟨_, h, _⟩ => by cases h), fun h => .inl h⟩
  | cons w ws ih =>
    intro a k
    rw [List.foldl_cons, ← ih, Nat.testBit_or, Bool.or_eq_true]
    constructor
    · rintro (h | ⟨x, hx, h⟩)
      · exact .inl (.inl h)
      · rcases List.mem_cons.mp hx with rfl | hx
        · exact .inl (.inr h)
        · exact .inr ⟨x, hx, h⟩
    · rintro ((h | h) | ⟨x, hx, h⟩)
      · exact .inl h
      · exact .inr ⟨w, List.mem_cons_self .., h⟩
      · exact .inr ⟨x, List.mem_cons_of_mem _ hx, h⟩
/-- a word is told by its bits at the leads -/
theorem word_at_leads {ws : List Nat} (hx : ∀ a b, a ∈ ws → b ∈ ws → a ^^^ b ∈ ws) {a b : Nat} (ha : a ∈ ws) (hb : b ∈ ws) (e : a &&& leadsF ws = b &&& leadsF ws) : a = b := by
  refine Classical.byContradiction fun q => ?_
  have hc := hx a b ha hb
  have hne : a ^^^ b ≠ 0 := fun h => q (by
    have h2 : (a ^^^ b) ^^^ b = b := by rw [h, Nat.zero_xor]
    rwa [Nat.xor_assoc, Nat.xor_self, Nat.xor_zero] at h2)
  obtain ⟨k, e1, t, _⟩ := low_spec _ hne
  have hL : (leadsF ws).testBit k = true := (leadsF_low ws 0 k).mp (.inr ⟨_, hc, by rw [e1, Nat.testBit_two_pow_self]⟩)
  have e2 := congrArg (fun z => z.testBit k) e
  simp only [Nat.testBit_and, hL, Bool.and_true] at e2
  rw [Nat.testBit_xor, e2] at t
  simp at t
theorem nodup_alike {α : Type} {l : List α} (nd : l.Nodup) (h : ∀ a ∈ l, ∀ b ∈ l, a = b) : l.length ≤ 1 := by
  match l, nd, h with
  | [], _, _ => exact Nat.zero_le _
  | [_], _, _ => exact Nat.le_refl _
  | a :: b :: r, nd, h =>
    have := h a (by simp) b (by simp)
    subst this
    exact absurd (List.mem_cons_self ..) (List.nodup_cons.mp nd).1
end DL

set_option Elab.async false
set_option linter.all false
set_option maxRecDepth 100000
set_option maxHeartbeats 4000000
set_option exponentiation.threshold 2000
namespace DL
open PySem PySem.Spec PyProof.Rows L2 BT
/-! ### the sums of rows and of their reduction -/
theorem snoc_ind {α : Type} {P : List α → Prop} (h0 : P []) (hs : ∀ l x, P l → P (l ++ [x])) : ∀ l, P l := by
  have key : ∀ l : List α, P l.reverse := by
    intro l
    induction l with
    | nil => exact h0
    | cons x l ih => rw [List.reverse_cons]; exact hs _ _ ih
  intro l
  have := key l.reverse
  rwa [List.reverse_reverse] at this
theorem xx (a b : Nat) : a ^^^ b ^^^ b = a := by rw [Nat.xor_assoc, Nat.xor_self, Nat.xor_zero]
theorem close_zero (rs : List Nat) : 0 ∈ closeF rs := (closeF_nodup rs).2.1
theorem close_xor {rs : List Nat} {a b : Nat} (ha : a ∈ closeF rs) (hb : b ∈ closeF rs) : a ^^^ b ∈ closeF rs := (closeF_nodup rs).2.2 a b ha hb
theorem close_ind {rs : List Nat} {S : Nat → Prop} (h0 : S 0) (hx : ∀ a b, S a → S b → S (a ^^^ b)) (h : ∀ r ∈ rs, S r) : ∀ w ∈ closeF rs, S w :=
  closeF_min h0 hx rs [0] h fun w hw => by rw [List.mem_singleton.mp hw]; exact h0
theorem close_app {rs : List Nat} (ts : List Nat) : ∀ w ∈ closeF rs, w ∈ closeF (rs ++ ts) := closeF_into fun t ht => closeF_mem _ (List.mem_append_left _ ht)
/-- the program's span -/
theorem span_mem (ms : List Nat) : ∀ w, w ∈ spanF ms ↔ w ∈ closeF ms := by
  refine snoc_ind (P := fun ms => ∀ w, w ∈ spanF ms ↔ w ∈ closeF ms) (fun w => Iff.rfl) (fun ms m ih w => ?_) ms
  rw [spanF_snoc, List.mem_append]
  constructor
  · rintro (h | h)
    · exact close_app _ _ ((ih w).mp h)
    · obtain ⟨z, hz, rfl⟩ := List.mem_map.mp h
      exact close_xor (closeF_mem _ (List.mem_append_right _ (List.mem_singleton.mpr rfl))) (close_app _ _ ((ih z).mp hz))
  · rw [closeF_snoc]
    intro h
    split at h
    · exact .inl ((ih w).mpr h)
    · rcases List.mem_append.mp h with h | h
      · exact .inl ((ih w).mpr h)
      · obtain ⟨z, hz, rfl⟩ := List.mem_map.mp h
        exact .inr (List.mem_map.mpr ⟨z, (ih z).mpr hz, Nat.xor_comm _ _⟩)
theorem cleared_span (part : Int) (rows : List Nat) (m : Nat) : m ^^^ clearedF part m rows ∈ closeF rows := by
  refine snoc_ind (P := fun rows => m ^^^ clearedF part m rows ∈ closeF rows) ?_ (fun rows r ih => ?_) rows
  · show m ^^^ m ∈ closeF []
    rw [Nat.xor_self]; exact close_zero _
  · rw [clearedF_snoc]
    unfold clearStep
    split
    · rw [← Nat.xor_assoc]
      exact close_xor (close_app _ _ ih) (closeF_mem _ (List.mem_append_right _ (List.mem_singleton.mpr rfl)))
    · exact close_app _ _ ih
theorem sweep_close (ms : List Nat) : ∀ w, w ∈ closeF (sweepF (-1) ms).1 ↔ w ∈ closeF ms := by
  refine snoc_ind (P := fun ms => ∀ w, w ∈ closeF (sweepF (-1) ms).1 ↔ w ∈ closeF ms) (fun w => Iff.rfl) (fun ms m ih => ?_) ms
  rw [sweepF_snoc]
  have hc := cleared_span (-1) (sweepF (-1) ms).1 m
  have hc2 := (ih _).mp hc
  unfold sweepStep
  generalize hr : clearedF (-1) m (sweepF (-1) ms).1 = rest at hc hc2
  have memM : m ∈ closeF (ms ++ [m]) := closeF_mem _ (List.mem_append_right _ (List.mem_singleton.mpr rfl))
  have memR : rest ∈ closeF (ms ++ [m]) := by
    have := close_xor memM (close_app [m] _ hc2)
    rwa [← Nat.xor_assoc, Nat.xor_self, Nat.zero_xor] at this
  have old : ∀ r ∈ (sweepF (-1) ms).1, r ∈ closeF (ms ++ [m]) := fun r h => close_app _ _ ((ih r).mp (closeF_mem _ h))
  split
  · intro w
    dsimp only
    refine closeF_same ?_ ?_ w
    · intro t ht
      rcases List.mem_append.mp ht with h | h
      · obtain ⟨r, h1, rfl⟩ := List.mem_map.mp h
        split
        · exact close_xor (old r h1) memR
        · exact old r h1
      · rw [List.mem_singleton.mp h]; exact memR
    · have hrest : rest ∈ closeF ((sweepF (-1) ms).1.map (fun row => if row &&& lowN (andN rest (-1)) ≠ 0 then row ^^^ rest else row) ++ [rest]) := closeF_mem _ (List.mem_append_right _ (List.mem_singleton.mpr rfl))
      have back : ∀ r ∈ (sweepF (-1) ms).1, r ∈ closeF ((sweepF (-1) ms).1.map (fun row => if row &&& lowN (andN rest (-1)) ≠ 0 then row ^^^ rest else row) ++ [rest]) := fun r h => by
        have q := closeF_mem (rs := (sweepF (-1) ms).1.map (fun row => if row &&& lowN (andN rest (-1)) ≠ 0 then row ^^^ rest else row) ++ [rest]) _ (List.mem_append_left _ (List.mem_map.mpr ⟨r, h, rfl⟩))
        try dsimp only at q
        split at q
        · have z := close_xor q hrest
          rwa [xx] at z
        · exact q
      have all : ∀ w ∈ closeF (sweepF (-1) ms).1, w ∈ closeF ((sweepF (-1) ms).1.map (fun row => if row &&& lowN (andN rest (-1)) ≠ 0 then row ^^^ rest else row) ++ [rest]) := closeF_into back
      intro t ht
      rcases List.mem_append.mp ht with h | h
      · exact all _ ((ih t).mpr (closeF_mem _ h))
      · rw [List.mem_singleton.mp h]
        have z := close_xor (all _ hc) hrest
        rwa [xx] at z
  · rename_i c
    have r0 : rest = 0 := by
      rw [andN_neg1] at c
      exact Classical.byContradiction fun q => c (low_ne q)
    rw [r0, Nat.xor_zero] at hc2
    intro w
    dsimp only
    exact (ih w).trans (closeF_same (rs := ms ++ [m]) (ts := ms) (fun t ht => close_app _ _ (closeF_mem _ ht)) (fun r hr => by
      rcases List.mem_append.mp hr with h | h
      · exact closeF_mem _ h
      · rw [List.mem_singleton.mp h]; exact hc2) w)
theorem perm_close {a b : List Nat} (p : a.Perm b) (w : Nat) : w ∈ closeF a ↔ w ∈ closeF b := closeF_same (fun t ht => closeF_mem _ (p.mem_iff.mp ht)) (fun r hr => closeF_mem _ (p.mem_iff.mpr hr)) w
theorem reduce_close (ms : List Nat) (w : Nat) : w ∈ closeF (reduceF ms) ↔ w ∈ closeF ms := (perm_close (sortLow_perm _) w).trans (sweep_close ms w)
/-! ### rows whose lowest places stand alone -/
def keyN (r : Nat) : Nat := Nat.log2 (lowN r)
theorem key_of {r k : Nat} (h : lowN r = 2 ^ k) : keyN r = k := by unfold keyN; rw [h, Nat.log2_two_pow]
structure AS (ms : List Nat) : Prop where
  nd : ms.Nodup
  low : ∀ r ∈ ms, lowN r = 2 ^ keyN r
  one : ∀ r ∈ ms, ∀ s ∈ ms, (s.testBit (keyN r) = true ↔ s = r)
theorem alone_as {ms : List Nat} (A : Alone (-1) ms) : AS ms := by
  obtain ⟨ks, hl, h⟩ := A
  have get : ∀ {i : Nat} (hi : i < ms.length), lowN ms[i] = 2 ^ keyN ms[i] ∧ ∀ (j : Nat) (s : Nat), ms[j]? = some s → (s.testBit (keyN ms[i]) = true ↔ j = i) := fun {i} hi => by
    obtain ⟨a, b⟩ := h i _ ks[i] (List.getElem?_eq_getElem hi) (List.getElem?_eq_getElem (by omega))
    rw [andN_neg1] at a
    rw [key_of a]
    exact ⟨a, b⟩
  refine ⟨?_, ?_, ?_⟩
  · refine List.nodup_iff_pairwise_ne.mpr (List.pairwise_iff_getElem.mpr fun i j hi hj hij e => ?_)
    have q := (get hi).2 j _ (List.getElem?_eq_getElem hj)
    rw [← e] at q
    have := q.mp (((get hi).2 i _ (List.getElem?_eq_getElem hi)).mpr rfl)
    omega
  · intro r hr
    obtain ⟨i, hi, rfl⟩ := List.getElem_of_mem hr
    exact (get hi).1
  · intro r hr s hs
    obtain ⟨i, hi, rfl⟩ := List.getElem_of_mem hr
    obtain ⟨j, hj, rfl⟩ := List.getElem_of_mem hs
    have q := (get hi).2
    constructor
    · intro z
      have := (q j _ (List.getElem?_eq_getElem hj)).mp z
      subst this; rfl
    · intro e
      rw [e]
      exact (q i _ (List.getElem?_eq_getElem hi)).mpr rfl
theorem AS.init {ms : List Nat} {m : Nat} (h : AS (ms ++ [m])) : AS ms := ⟨(List.nodup_append.mp h.nd).1, fun r hr => h.low r (List.mem_append_left _ hr), fun r hr s hs => h.one r (List.mem_append_left _ hr) s (List.mem_append_left _ hs)⟩
theorem AS.last {ms : List Nat} {m : Nat} (h : AS (ms ++ [m])) : m.testBit (keyN m) = true ∧ ∀ z ∈ closeF ms, z.testBit (keyN m) = false := by
  have hm : m ∈ ms ++ [m] := List.mem_append_right _ (List.mem_singleton.mpr rfl)
  refine ⟨(h.one m hm m hm).mpr rfl, close_ind (S := fun z => z.testBit (keyN m) = false) (Nat.zero_testBit _) (fun a b ha hb => by rw [Nat.testBit_xor, ha, hb]; rfl) fun r hr => ?_⟩
  cases q : r.testBit (keyN m) with
  | false => rfl
  | true =>
    have e := (h.one m hm r (List.mem_append_left _ hr)).mp q
    exact absurd e ((List.nodup_append.mp h.nd).2.2 r hr m (List.mem_singleton.mpr rfl))
/-- a sum of rows and one more: with the last row or without -/
theorem close_snoc {ms : List Nat} {m w : Nat} (h : w ∈ closeF (ms ++ [m])) : w ∈ closeF ms ∨ ∃ z ∈ closeF ms, w = m ^^^ z := by
  rw [← span_mem, spanF_snoc] at h
  rcases List.mem_append.mp h with h | h
  · exact .inl ((span_mem ms w).mp h)
  · obtain ⟨z, hz, rfl⟩ := List.mem_map.mp h
    exact .inr ⟨z, (span_mem ms z).mp hz, rfl⟩
theorem low_uniq {m k : Nat} (h : m.testBit k = true) (hb : ∀ j, j < k → m.testBit j = false) : lowN m = 2 ^ k := by
  have ne : m ≠ 0 := fun e => by rw [e, Nat.zero_testBit] at h; cases h
  obtain ⟨i, e, t, b⟩ := low_spec m ne
  rcases Nat.lt_trichotomy i k with q | q | q
  · rw [hb i q] at t; cases t
  · rw [e, q]
  · rw [b k q] at h; cases h
theorem low_xor {a b i j : Nat} (ha : lowN a = 2 ^ i) (hb : lowN b = 2 ^ j) (hij : i < j) : lowN (a ^^^ b) = 2 ^ i := by
  have na : a ≠ 0 := fun e => by rw [e] at ha; have := Nat.two_pow_pos i; rw [← ha] at this; exact absurd this (by decide)
  have nb : b ≠ 0 := fun e => by rw [e] at hb; have := Nat.two_pow_pos j; rw [← hb] at this; exact absurd this (by decide)
  obtain ⟨i', ea, ta, ba⟩ := low_spec a na
  obtain ⟨j', eb, tb, bb⟩ := low_spec b nb
  cases two_pow_inj (ha.symm.trans ea)
  cases two_pow_inj (hb.symm.trans eb)
  refine low_uniq (by rw [Nat.testBit_xor, ta, bb i hij]; rfl) fun l hl => by rw [Nat.testBit_xor, ba l hl, bb l (by omega)]; rfl
theorem as_low {ms : List Nat} : AS ms → ∀ w ∈ closeF ms, w ≠ 0 → ∃ r ∈ ms, lowN w = lowN r := by
  refine snoc_ind (P := fun ms => AS ms → ∀ w ∈ closeF ms, w ≠ 0 → ∃ r ∈ ms, lowN w = lowN r) ?_ (fun ms m ih A w hw hb => ?_) ms
  · intro _ w hw h
    have : closeF [] = [0] := rfl
    rw [this] at hw
    exact absurd (List.mem_singleton.mp hw) h
  · have hm : m ∈ ms ++ [m] := List.mem_append_right _ (List.mem_singleton.mpr rfl)
    rcases close_snoc hw with h | ⟨z, hz, rfl⟩
    · obtain ⟨r, hr, e⟩ := ih A.init w h hb
      exact ⟨r, List.mem_append_left _ hr, e⟩
    · by_cases z0 : z = 0
      · subst z0
        exact ⟨m, hm, by rw [Nat.xor_zero]⟩
      · obtain ⟨r, hr, e⟩ := ih A.init z hz z0
        have hr' : r ∈ ms ++ [m] := List.mem_append_left _ hr
        have l1 := A.low m hm
        have l2 := A.low r hr'
        have ne : keyN m ≠ keyN r := fun q => by
          have a := A.last.2 r (closeF_mem _ hr)
          rw [q] at a
          rw [(A.one r hr' r hr').mpr rfl] at a; cases a
        rcases Nat.lt_or_ge (keyN m) (keyN r) with q | q
        · exact ⟨m, hm, by rw [low_xor l1 (e.trans l2) q, l1]⟩
        · refine ⟨r, hr', ?_⟩
          rw [Nat.xor_comm, low_xor (e.trans l2) l1 (by omega), l2]
theorem span_nodup {ms : List Nat} : AS ms → (spanF ms).Nodup := by
  refine snoc_ind (P := fun ms => AS ms → (spanF ms).Nodup) (fun _ => by show ([0] : List Nat).Nodup; simp) (fun ms m ih A => ?_) ms
  rw [spanF_snoc]
  refine List.nodup_append.mpr ⟨ih A.init, ?_, fun a ha b hb e => ?_⟩
  · rw [List.nodup_iff_pairwise_ne, List.pairwise_map]
    refine (List.nodup_iff_pairwise_ne.mp (ih A.init)).imp fun hab e => hab ?_
    have z := congrArg (fun t => m ^^^ t) e
    try dsimp only at z
    rwa [← Nat.xor_assoc, Nat.xor_self, Nat.zero_xor, ← Nat.xor_assoc, Nat.xor_self, Nat.zero_xor] at z
  · obtain ⟨z, hz, rfl⟩ := List.mem_map.mp hb
    have q := A.last.2 a ((span_mem ms a).mp ha)
    rw [e, Nat.testBit_xor, A.last.1, A.last.2 z ((span_mem ms z).mp hz)] at q
    cases q
theorem span_perm {ms : List Nat} (A : AS ms) : (spanF ms).Perm (closeF ms) := (List.perm_ext_iff_of_nodup (span_nodup A) (closeF_nodup ms).1).mpr (span_mem ms)
theorem reduce_alone (rs : List Nat) : AS (reduceF rs) := by
  have A := alone_as (sweep_alone (-1) rs)
  have p := sortLow_perm (sweepF (-1) rs).1
  exact ⟨p.symm.nodup A.nd, fun r hr => A.low r (p.mem_iff.mp hr), fun r hr s hs => A.one r (p.mem_iff.mp hr) s (p.mem_iff.mp hs)⟩
/-! ### the law's reduced rows are the book's -/
theorem lead_bits (rs : List Nat) (k : Nat) : (leadsF (closeF rs)).testBit k = true ↔ ∃ r ∈ reduceF rs, k = keyN r := by
  have A := reduce_alone rs
  rw [show leadsF (closeF rs) = (closeF rs).foldl (fun a w => a ||| lowN w) 0 from rfl, ← leadsF_low]
  constructor
  · rintro (h | ⟨w, hw, h⟩)
    · rw [Nat.zero_testBit] at h; cases h
    · have ne : w ≠ 0 := fun e => by rw [e] at h; rw [show lowN 0 = 0 from rfl, Nat.zero_testBit] at h; cases h
      obtain ⟨r, hr, e⟩ := as_low A w ((reduce_close rs w).mpr hw) ne
      rw [e, A.low r hr, Nat.testBit_two_pow] at h
      exact ⟨r, hr, (of_decide_eq_true h).symm⟩
  · rintro ⟨r, hr, rfl⟩
    exact .inr ⟨r, (reduce_close rs r).mp (closeF_mem _ hr), by rw [A.low r hr, Nat.testBit_two_pow]; simp⟩
theorem row_leads (rs : List Nat) : ∀ r ∈ reduceF rs, r &&& leadsF (closeF rs) = 2 ^ keyN r := by
  intro r hr
  have A := reduce_alone rs
  apply Nat.eq_of_testBit_eq
  intro j
  rw [Nat.testBit_and, Nat.testBit_two_pow]
  cases h : (leadsF (closeF rs)).testBit j with
  | false =>
    rw [Bool.and_false, eq_comm, decide_eq_false]
    intro e
    rw [(lead_bits rs j).mpr ⟨r, hr, e.symm⟩] at h
    cases h
  | true =>
    obtain ⟨s, hs, rfl⟩ := (lead_bits rs j).mp h
    rw [Bool.and_true]
    cases q : r.testBit (keyN s) with
    | true =>
      have e := (A.one s hs r hr).mp q
      rw [e, decide_eq_true rfl]
    | false =>
      rw [eq_comm, decide_eq_false]
      intro e
      have q2 := (A.one r hr r hr).mpr rfl
      rw [e, q] at q2
      cases q2
theorem sel_row (rs : List Nat) {w p : Nat} (hw : w ∈ closeF rs) (e : w &&& leadsF (closeF rs) = 2 ^ p) : w ∈ reduceF rs ∧ keyN w = p := by
  have t : (w &&& leadsF (closeF rs)).testBit p = true := by rw [e, Nat.testBit_two_pow]; simp
  rw [Nat.testBit_and, Bool.and_eq_true] at t
  obtain ⟨r, hr, rfl⟩ := (lead_bits rs p).mp t.2
  have q := word_at_leads (fun a b => close_xor) hw ((reduce_close rs r).mp (closeF_mem _ hr)) (e.trans (row_leads rs r hr).symm)
  subst q
  exact ⟨hr, rfl⟩
/-- as many words as the rows tell -/
theorem close_len (rs : List Nat) : (closeF rs).length = 2 ^ (reduceF rs).length := by
  have A := reduce_alone rs
  have p : (closeF (reduceF rs)).Perm (closeF rs) := (List.perm_ext_iff_of_nodup (closeF_nodup _).1 (closeF_nodup _).1).mpr (reduce_close rs)
  rw [← p.length_eq, ← (span_perm A).length_eq, spanF_len]
/-- the rows tell the sums, and the sums the rows -/
theorem reduce_same {rs ts : List Nat} : reduceF rs = reduceF ts ↔ ∀ w, w ∈ closeF rs ↔ w ∈ closeF ts := by
  constructor
  · intro e w
    rw [← reduce_close rs, e, reduce_close]
  · intro h
    have key : ∀ a b : List Nat, (∀ w, w ∈ closeF a ↔ w ∈ closeF b) → ∀ r ∈ reduceF a, r ∈ reduceF b := by
      intro a b h r hr
      have hw : r ∈ closeF b := (h r).mp ((reduce_close a r).mp (closeF_mem _ hr))
      have e := row_leads a r hr
      have hL : leadsF (closeF a) = leadsF (closeF b) := by
        apply Nat.eq_of_testBit_eq
        intro j
        have q : (leadsF (closeF a)).testBit j = true ↔ (leadsF (closeF b)).testBit j = true := by
          rw [show leadsF (closeF a) = (closeF a).foldl (fun a w => a ||| lowN w) 0 from rfl, show leadsF (closeF b) = (closeF b).foldl (fun a w => a ||| lowN w) 0 from rfl, ← leadsF_low, ← leadsF_low]
          constructor
          · rintro (h1 | ⟨w, hw, h1⟩)
            · exact .inl h1
            · exact .inr ⟨w, (h w).mp hw, h1⟩
          · rintro (h1 | ⟨w, hw, h1⟩)
            · exact .inl h1
            · exact .inr ⟨w, (h w).mpr hw, h1⟩
        exact Bool.eq_iff_iff.mpr q
      rw [hL] at e
      exact (sel_row b hw e).1
    have A := reduce_alone rs
    refine sorted_one lowN ((List.perm_ext_iff_of_nodup A.nd (reduce_alone ts).nd).mpr fun w => ⟨key rs ts h w, key ts rs (fun w => (h w).symm) w⟩) (sortLow_sorted _) (sortLow_sorted _) fun x hx y hy e => ?_
    have B := reduce_alone ts
    have kx := B.low x hx
    have ky := B.low y hy
    have : keyN x = keyN y := two_pow_inj (kx.symm.trans (e.trans ky))
    exact ((B.one x hx y hy).mp (by rw [this]; exact (B.one y hy y hy).mpr rfl)).symm
end DL

set_option Elab.async false
set_option linter.all false
set_option maxRecDepth 100000
set_option maxHeartbeats 4000000
set_option exponentiation.threshold 2000
namespace DL
open PySem PySem.Spec PyProof.Rows L2 BT
/-! ### what the helpers of the laws promise -/
def dx_law_is_integer : DSp := fun as Q _ => ∃ d, as = [.dat d] ∧ (tyS d).isSome = true ∧ Q (.bl (isNumX d))
def dx_law_odd : DSp := fun as Q _ => ∃ m : Nat, as = [.dat (.int (m : Int))] ∧ m < 2 ^ 32 ∧ Q (.bl (decide (pop m % 2 = 1)))
def dx_law_lot : DSp := fun as Q _ => ∃ m : Nat, as = [.dat (.int (m : Int))] ∧ m < 2 ^ 24 ∧ Q (lotM m)
def dx_law_mask : DSp := fun as Q _ => ∃ (d : D) (l : List Nat), as = [.dat d] ∧ seqD d = some (natX l) ∧ l.Nodup ∧ (∀ p ∈ l, p < 1000) ∧ l.length ≤ 1000 ∧ Q (.int (maskN l : Nat))
def dx_law_is_lot : DSp := fun as Q _ => ∃ (d : D) (n : Nat), as = [.dat d, .dat (.int (n : Int))] ∧ noO d = true ∧ Q (.bl (isLotX n d))
def dx_law_closure : DSp := fun as Q _ => ∃ rs : List Nat, as = [.dat (.lst (natX rs))] ∧ (∀ r ∈ rs, r < 2 ^ 16) ∧ Q (.lst (natX (closeF rs)))
def chkL (rs : List Nat) (n : Nat) : List Nat := (List.range (2 ^ n)).filter fun l => !(rs.any fun r => decide (pop (r &&& l) % 2 = 1))
def dx_law_checks : DSp := fun as Q _ => ∃ (rs : List Nat) (n : Nat), as = [.dat (.lst (natX rs)), .dat (.int (n : Int))] ∧ n ≤ 10 ∧ rs.length ≤ 1000 ∧ (∀ r ∈ rs, r < 2 ^ 32) ∧ Q (.lst (natX (chkL rs n)))
def dx_law_turned : DSp := fun as Q _ => ∃ (rs : List Nat) (n : Nat), as = [.dat (.lst (natX rs)), .dat (.int (n : Int))] ∧ n ≤ 10 ∧ rs.length ≤ 1000 ∧ (∀ r ∈ rs, r < 2 ^ 32) ∧ ∀ ts : List Nat, ts.length ≤ n → (∀ t ∈ ts, t < 2 ^ n) → Q (.lst (natX ts))
def dx_law_shaped : DSp := fun as Q _ => ∃ row kind k n a b : Nat, as = [.dat (.int (row : Int)), .dat (.int (kind : Int)), .dat (.int (k : Int)), .dat (.int (n : Int)), .dat (.int (a : Int)), .dat (.int (b : Int))] ∧ row < 2 ^ n ∧ n ≤ 10 ∧ k < 100 ∧ a < n ∧ b < n ∧ ∀ v : Nat, v < 2 ^ n → Q (.int (v : Int))
def dx_law_rows : DSp := fun as Q _ => ∃ n : Nat, as = [.src, .dat (.int (n : Int))] ∧ 1 ≤ n ∧ n ≤ 10 ∧ ∀ rs : List Nat, rs.length ≤ n + 4 → (∀ r ∈ rs, r < 2 ^ n) → Q (.lst (natX rs))
def dx_law_wish : DSp := fun as Q _ => ∃ (n : Nat) (cs : List Nat), as = [.src, .dat (.int (n : Int)), .dat (.lst (natX cs))] ∧ 1 ≤ n ∧ n ≤ 20 ∧ 0 < cs.length ∧ cs.length ≤ 10000 ∧ (∀ c ∈ cs, c < 2 ^ n) ∧ ∀ w : Nat, w < 2 ^ n → Q (.int (w : Int))
/-- a right answer: a sum (true) or a twin -/
def rightP (rs : List Nat) (part wish : Nat) (b : Bool) (c : Nat) : Prop := if b = true then c &&& part = c ∧ ∀ r ∈ rs, pop (r &&& (c ^^^ wish)) % 2 = 0 else c ∈ closeF rs ∧ c &&& part = 0 ∧ pop (c &&& wish) % 2 = 1
def kindS (b : Bool) : Str := Str.ofString (if b = true then "sum" else "twin")
def dx_law_right : DSp := fun as Q _ => ∃ (b : Bool) (c n : Nat) (rs : List Nat) (part wish : Nat), as = [.dat (.tup [.str (kindS b), lotM c]), .dat (.int (n : Int)), .dat (.lst (natX rs)), .dat (.lst (natX (closeF rs))), .dat (.int (part : Int)), .dat (.int (wish : Int))] ∧ n ≤ 24 ∧ c < 2 ^ n ∧ wish < 2 ^ n ∧ rs.length ≤ 1000 ∧ rightP rs part wish b c ∧ Q (.bl true)
def dx_law_order : DSp := fun as Q _ => ∃ n : Nat, as = [.src, .dat (.int (n : Int))] ∧ n ≤ 1000 ∧ ∀ o : List Nat, o.Perm (List.range n) → Q (.lst (natX o))
end DL

set_option Elab.async false
set_option linter.all false
set_option maxRecDepth 100000
set_option maxHeartbeats 2000000
set_option exponentiation.threshold 2000
namespace DL
open PySem PySem.Spec PyProof.Rows L2 BT
/-! ### the defs over masks: what they promise is so -/
theorem cnt_list (c : Nat) : ∀ l : List Nat, PyProof.Rows.cnt c l = ((l.count c : Nat) : Int)
  | [] => rfl
  | n :: r => by
    rw [PyProof.Rows.cnt_cons, cnt_list c r, List.count_cons]
    by_cases h : n = c <;> simp [h] <;> omega
theorem count_bin (m : Nat) : (Txt.count (binText m) (Str.ofString "1") : Int) = ((pop m : Nat) : Int) := by
  have e : Str.ofString "1" = ⟨#[49]⟩ := rfl
  rw [e, count_cnt, cnt_list]
  congr 1
  show ((Nat.toDigits 2 m).map Char.toNat).count 49 = pop m
  rw [← count_digits m]
  induction Nat.toDigits 2 m with
  | nil => rfl
  | cons c l ih =>
    rw [List.map_cons, List.count_cons, List.count_cons, ih]
    have e2 : (c.toNat == 49) = (c == '1') := by
      by_cases h : c = '1'
      · subst h; rfl
      · have h2 : c.toNat ≠ 49 := fun q => h (by
          apply Char.ext
          apply UInt32.toNat_inj.mp
          exact q)
        rw [beq_eq_false_iff_ne.mpr h, beq_eq_false_iff_ne.mpr h2]
    rw [e2]
theorem dec_ne0 (n : Nat) : ((n : Int) != 0) = decide (n ≠ 0) := by
  by_cases h : n = 0
  · subst h; rfl
  · rw [decide_eq_true h, bne_iff_ne]; omega
theorem sweep_len (part : Int) : ∀ (ms : List Nat) (st : List Nat × List Nat), (ms.foldl (sweepStep part) st).1.length + (ms.foldl (sweepStep part) st).2.length = st.1.length + st.2.length + ms.length
  | [], st => rfl
  | m :: ms, st => by
    rw [List.foldl_cons, sweep_len part ms]
    unfold sweepStep
    split
    · simp only [List.length_append, List.length_map, List.length_cons, List.length_nil]; omega
    · simp only [List.length_append, List.length_cons, List.length_nil]; omega
theorem sweepF_len (part : Int) (ms : List Nat) : (sweepF part ms).1.length + (sweepF part ms).2.length = ms.length := by
  have := sweep_len part ms ([], [])
  simp only [List.length_nil, Nat.zero_add] at this
  exact this
theorem low_uniqR {ms ns : List Nat} (hp : ns.Perm (sweepF (-1) ms).1) (hs : ns.Pairwise fun a b => lowN a ≤ lowN b) : ns = reduceF ms :=
  sorted_one lowN (hp.trans (sortLow_perm _).symm) hs (sortLow_sorted _) fun x hx y hy => alone_inj (sweep_alone (-1) ms) x ((sortLow_perm _).mem_iff.mp hx) y ((sortLow_perm _).mem_iff.mp hy)
theorem sem_lowest : ∀ as Qd Xd, d_lowest as Qd Xd → as.length = ["mask"].length ∧ r_lowest { nx := fun _ => Qd .non, rt := Qd } (as ++ List.replicate (["mask"].length - as.length) .un) (fun _ => Xd) := by
  rintro as Qd Xd ⟨m, rfl, q⟩
  refine ⟨rfl, ?_⟩
  unfold r_lowest
  (try dsimp only [gN, gN2, sNil, sSeq, sExp, sRet, sIf, sPass, sCont, sBrk, sSet, sSetO, sApp, sAppF, sApPop, flatD, sFrz, sAug, sRaise, sAsg, sPut, eV, eC, e1, e2, t2, tBl, tTru, tN, tAn, tOo, tCh, eNot, eAn, eOo, eIf, eTup, eLst, eF, eFld, eIs, eIxO, eLenO, eSl, eRev, eB, eCall, eCallG, eMeth, aN, aC, aV, oNo, oPt, eIsO, oSrtI, oSrtT, oLt, oLe, oReprB, oInI, gN3, eCh, oGt, oGe, oI, oIC, oI1, oAdd, oMul, oEq, oIsN, oIx, oLen, oList, oTuple, oAbs, oMin2, oInt1, fLst, fListRg1, fList, fRep, fCat, tYs, tru, isS, dats, seqD, seqO, tyS, List.set, List.getElem?_cons_zero, List.getElem?_cons_succ, List.append_eq, List.nil_append, List.cons_append, Option.map_some, Option.bind_some, ng, wipeD, List.length_cons, List.length_nil, Nat.reduceAdd, Nat.reduceSub, List.replicate_succ, List.replicate_zero]; try simp only [decide_eq_true_eq, Bool.not_eq_true', decide_eq_false_iff_not, Bool.false_eq_true, if_false, if_true, reduceIte, String.reduceBEq, Bool.true_or, Bool.false_or, Bool.or_false, Bool.and_false, Bool.false_and, Bool.and_true, Bool.true_and, Bool.not_true, Bool.not_false, ne_eq, not_true_eq_false, reduceCtorEq, Bool.true_eq_false, decide_true, decide_false])
  rw [bitAnd_low]
  exact q
theorem sem_odd : ∀ as Qd Xd, d_odd as Qd Xd → as.length = ["mask"].length ∧ r_odd { nx := fun _ => Qd .non, rt := Qd } (as ++ List.replicate (["mask", "digits"].length - as.length) .un) (fun _ => Xd) := by
  rintro as Qd Xd ⟨m, rfl, hm, q⟩
  refine ⟨rfl, ?_⟩
  unfold r_odd eFmtB eCnt
  (try dsimp only [gN, gN2, sNil, sSeq, sExp, sRet, sIf, sPass, sCont, sBrk, sSet, sSetO, sApp, sAppF, sApPop, flatD, sFrz, sAug, sRaise, sAsg, sPut, eV, eC, e1, e2, t2, tBl, tTru, tN, tAn, tOo, tCh, eNot, eAn, eOo, eIf, eTup, eLst, eF, eFld, eIs, eIxO, eLenO, eSl, eRev, eB, eCall, eCallG, eMeth, aN, aC, aV, oNo, oPt, eIsO, oSrtI, oSrtT, oLt, oLe, oReprB, oInI, gN3, eCh, oGt, oGe, oI, oIC, oI1, oAdd, oMul, oEq, oIsN, oIx, oLen, oList, oTuple, oAbs, oMin2, oInt1, fLst, fListRg1, fList, fRep, fCat, tYs, tru, isS, dats, seqD, seqO, tyS, List.set, List.getElem?_cons_zero, List.getElem?_cons_succ, List.append_eq, List.nil_append, List.cons_append, Option.map_some, Option.bind_some, ng, wipeD, List.length_cons, List.length_nil, Nat.reduceAdd, Nat.reduceSub, List.replicate_succ, List.replicate_zero]; try simp only [decide_eq_true_eq, Bool.not_eq_true', decide_eq_false_iff_not, Bool.false_eq_true, if_false, if_true, reduceIte, String.reduceBEq, Bool.true_or, Bool.false_or, Bool.or_false, Bool.and_false, Bool.false_and, Bool.and_true, Bool.true_and, Bool.not_true, Bool.not_false, ne_eq, not_true_eq_false, reduceCtorEq, Bool.true_eq_false, decide_true, decide_false])
  refine ⟨m, 1000, rfl, hm, by decide, by decide, ?_⟩
  (try dsimp only [gN, gN2, sNil, sSeq, sExp, sRet, sIf, sPass, sCont, sBrk, sSet, sSetO, sApp, sAppF, sApPop, flatD, sFrz, sAug, sRaise, sAsg, sPut, eV, eC, e1, e2, t2, tBl, tTru, tN, tAn, tOo, tCh, eNot, eAn, eOo, eIf, eTup, eLst, eF, eFld, eIs, eIxO, eLenO, eSl, eRev, eB, eCall, eCallG, eMeth, aN, aC, aV, oNo, oPt, eIsO, oSrtI, oSrtT, oLt, oLe, oReprB, oInI, gN3, eCh, oGt, oGe, oI, oIC, oI1, oAdd, oMul, oEq, oIsN, oIx, oLen, oList, oTuple, oAbs, oMin2, oInt1, fLst, fListRg1, fList, fRep, fCat, tYs, tru, isS, dats, seqD, seqO, tyS, List.set, List.getElem?_cons_zero, List.getElem?_cons_succ, List.append_eq, List.nil_append, List.cons_append, Option.map_some, Option.bind_some, ng, wipeD, List.length_cons, List.length_nil, Nat.reduceAdd, Nat.reduceSub, List.replicate_succ, List.replicate_zero]; try simp only [decide_eq_true_eq, Bool.not_eq_true', decide_eq_false_iff_not, Bool.false_eq_true, if_false, if_true, reduceIte, String.reduceBEq, Bool.true_or, Bool.false_or, Bool.or_false, Bool.and_false, Bool.false_and, Bool.and_true, Bool.true_and, Bool.not_true, Bool.not_false, ne_eq, not_true_eq_false, reduceCtorEq, Bool.true_eq_false, decide_true, decide_false])
  rw [count_bin, show (1 : Int) = ((1 : Nat) : Int) from rfl, bitAnd_nat, Nat.and_one_is_mod]
  exact q
theorem sem_cleared : ∀ as Qd Xd, d_cleared as Qd Xd → as.length = ["mask", "rows", "part"].length ∧ r_cleared { nx := fun _ => Qd .non, rt := Qd } (as ++ List.replicate (["mask", "rows", "part", "row"].length - as.length) .un) (fun _ => Xd) := by
  rintro as Qd Xd ⟨m, d, rs, part, rfl, hd, q⟩
  refine ⟨rfl, ?_⟩
  unfold r_cleared
  (try dsimp only [gN, gN2, sNil, sSeq, sExp, sRet, sIf, sPass, sCont, sBrk, sSet, sSetO, sApp, sAppF, sApPop, flatD, sFrz, sAug, sRaise, sAsg, sPut, eV, eC, e1, e2, t2, tBl, tTru, tN, tAn, tOo, tCh, eNot, eAn, eOo, eIf, eTup, eLst, eF, eFld, eIs, eIxO, eLenO, eSl, eRev, eB, eCall, eCallG, eMeth, aN, aC, aV, oNo, oPt, eIsO, oSrtI, oSrtT, oLt, oLe, oReprB, oInI, gN3, eCh, oGt, oGe, oI, oIC, oI1, oAdd, oMul, oEq, oIsN, oIx, oLen, oList, oTuple, oAbs, oMin2, oInt1, fLst, fListRg1, fList, fRep, fCat, tYs, tru, isS, dats, seqD, seqO, tyS, List.set, List.getElem?_cons_zero, List.getElem?_cons_succ, List.append_eq, List.nil_append, List.cons_append, Option.map_some, Option.bind_some, ng, wipeD, List.length_cons, List.length_nil, Nat.reduceAdd, Nat.reduceSub, List.replicate_succ, List.replicate_zero, sFor, iRg1, iRg2, iSq, iEn, fLc]; try simp only [decide_eq_true_eq, Bool.not_eq_true', decide_eq_false_iff_not, Bool.false_eq_true, if_false, if_true, reduceIte, String.reduceBEq, Bool.true_or, Bool.false_or, Bool.or_false, Bool.and_false, Bool.false_and, Bool.and_true, Bool.true_and, Bool.not_true, Bool.not_false, ne_eq, not_true_eq_false, reduceCtorEq, Bool.true_eq_false, decide_true, decide_false])
  unfold seqD at hd
  rw [hd]
  refine ⟨fun i ρ => ∃ z, ρ = [.dat (.int (clearedF part m (rs.take i) : Nat)), .dat d, .dat (.int part), z], ⟨_, rfl⟩, ?_, ?_⟩
  · rintro i x ρ hx ⟨z, rfl⟩
    obtain ⟨r, hr, rfl⟩ := natX_get hx
    (try dsimp only [gN, gN2, sNil, sSeq, sExp, sRet, sIf, sPass, sCont, sBrk, sSet, sSetO, sApp, sAppF, sApPop, flatD, sFrz, sAug, sRaise, sAsg, sPut, eV, eC, e1, e2, t2, tBl, tTru, tN, tAn, tOo, tCh, eNot, eAn, eOo, eIf, eTup, eLst, eF, eFld, eIs, eIxO, eLenO, eSl, eRev, eB, eCall, eCallG, eMeth, aN, aC, aV, oNo, oPt, eIsO, oSrtI, oSrtT, oLt, oLe, oReprB, oInI, gN3, eCh, oGt, oGe, oI, oIC, oI1, oAdd, oMul, oEq, oIsN, oIx, oLen, oList, oTuple, oAbs, oMin2, oInt1, fLst, fListRg1, fList, fRep, fCat, tYs, tru, isS, dats, seqD, seqO, tyS, List.set, List.getElem?_cons_zero, List.getElem?_cons_succ, List.append_eq, List.nil_append, List.cons_append, Option.map_some, Option.bind_some, ng, wipeD, List.length_cons, List.length_nil, Nat.reduceAdd, Nat.reduceSub, List.replicate_succ, List.replicate_zero]; try simp only [decide_eq_true_eq, Bool.not_eq_true', decide_eq_false_iff_not, Bool.false_eq_true, if_false, if_true, reduceIte, String.reduceBEq, Bool.true_or, Bool.false_or, Bool.or_false, Bool.and_false, Bool.false_and, Bool.and_true, Bool.true_and, Bool.not_true, Bool.not_false, ne_eq, not_true_eq_false, reduceCtorEq, Bool.true_eq_false, decide_true, decide_false])
    rw [bitAnd_andN]
    (try dsimp only [gN, gN2, sNil, sSeq, sExp, sRet, sIf, sPass, sCont, sBrk, sSet, sSetO, sApp, sAppF, sApPop, flatD, sFrz, sAug, sRaise, sAsg, sPut, eV, eC, e1, e2, t2, tBl, tTru, tN, tAn, tOo, tCh, eNot, eAn, eOo, eIf, eTup, eLst, eF, eFld, eIs, eIxO, eLenO, eSl, eRev, eB, eCall, eCallG, eMeth, aN, aC, aV, oNo, oPt, eIsO, oSrtI, oSrtT, oLt, oLe, oReprB, oInI, gN3, eCh, oGt, oGe, oI, oIC, oI1, oAdd, oMul, oEq, oIsN, oIx, oLen, oList, oTuple, oAbs, oMin2, oInt1, fLst, fListRg1, fList, fRep, fCat, tYs, tru, isS, dats, seqD, seqO, tyS, List.set, List.getElem?_cons_zero, List.getElem?_cons_succ, List.append_eq, List.nil_append, List.cons_append, Option.map_some, Option.bind_some, ng, wipeD, List.length_cons, List.length_nil, Nat.reduceAdd, Nat.reduceSub, List.replicate_succ, List.replicate_zero]; try simp only [decide_eq_true_eq, Bool.not_eq_true', decide_eq_false_iff_not, Bool.false_eq_true, if_false, if_true, reduceIte, String.reduceBEq, Bool.true_or, Bool.false_or, Bool.or_false, Bool.and_false, Bool.false_and, Bool.and_true, Bool.true_and, Bool.not_true, Bool.not_false, ne_eq, not_true_eq_false, reduceCtorEq, Bool.true_eq_false, decide_true, decide_false])
    refine ⟨_, rfl, ?_⟩
    (try dsimp only [gN, gN2, sNil, sSeq, sExp, sRet, sIf, sPass, sCont, sBrk, sSet, sSetO, sApp, sAppF, sApPop, flatD, sFrz, sAug, sRaise, sAsg, sPut, eV, eC, e1, e2, t2, tBl, tTru, tN, tAn, tOo, tCh, eNot, eAn, eOo, eIf, eTup, eLst, eF, eFld, eIs, eIxO, eLenO, eSl, eRev, eB, eCall, eCallG, eMeth, aN, aC, aV, oNo, oPt, eIsO, oSrtI, oSrtT, oLt, oLe, oReprB, oInI, gN3, eCh, oGt, oGe, oI, oIC, oI1, oAdd, oMul, oEq, oIsN, oIx, oLen, oList, oTuple, oAbs, oMin2, oInt1, fLst, fListRg1, fList, fRep, fCat, tYs, tru, isS, dats, seqD, seqO, tyS, List.set, List.getElem?_cons_zero, List.getElem?_cons_succ, List.append_eq, List.nil_append, List.cons_append, Option.map_some, Option.bind_some, ng, wipeD, List.length_cons, List.length_nil, Nat.reduceAdd, Nat.reduceSub, List.replicate_succ, List.replicate_zero]; try simp only [decide_eq_true_eq, Bool.not_eq_true', decide_eq_false_iff_not, Bool.false_eq_true, if_false, if_true, reduceIte, String.reduceBEq, Bool.true_or, Bool.false_or, Bool.or_false, Bool.and_false, Bool.false_and, Bool.and_true, Bool.true_and, Bool.not_true, Bool.not_false, ne_eq, not_true_eq_false, reduceCtorEq, Bool.true_eq_false, decide_true, decide_false])
    rw [bitAnd_nat]
    rw [take_snoc hr, clearedF_snoc]
    unfold clearStep
    generalize hc : clearedF part m (rs.take i) = c at *
    by_cases hz : c &&& lowN (andN r part) = 0
    · rw [if_neg (by rw [hz]; decide), if_neg (fun h => h hz)]; exact ⟨_, rfl⟩
    · rw [if_pos (by rw [dec_ne0]; exact decide_eq_true hz), if_pos hz, bitXor_nat]; exact ⟨_, rfl⟩
  · rintro ρ ⟨z, rfl⟩
    (try dsimp only [gN, gN2, sNil, sSeq, sExp, sRet, sIf, sPass, sCont, sBrk, sSet, sSetO, sApp, sAppF, sApPop, flatD, sFrz, sAug, sRaise, sAsg, sPut, eV, eC, e1, e2, t2, tBl, tTru, tN, tAn, tOo, tCh, eNot, eAn, eOo, eIf, eTup, eLst, eF, eFld, eIs, eIxO, eLenO, eSl, eRev, eB, eCall, eCallG, eMeth, aN, aC, aV, oNo, oPt, eIsO, oSrtI, oSrtT, oLt, oLe, oReprB, oInI, gN3, eCh, oGt, oGe, oI, oIC, oI1, oAdd, oMul, oEq, oIsN, oIx, oLen, oList, oTuple, oAbs, oMin2, oInt1, fLst, fListRg1, fList, fRep, fCat, tYs, tru, isS, dats, seqD, seqO, tyS, List.set, List.getElem?_cons_zero, List.getElem?_cons_succ, List.append_eq, List.nil_append, List.cons_append, Option.map_some, Option.bind_some, ng, wipeD, List.length_cons, List.length_nil, Nat.reduceAdd, Nat.reduceSub, List.replicate_succ, List.replicate_zero]; try simp only [decide_eq_true_eq, Bool.not_eq_true', decide_eq_false_iff_not, Bool.false_eq_true, if_false, if_true, reduceIte, String.reduceBEq, Bool.true_or, Bool.false_or, Bool.or_false, Bool.and_false, Bool.false_and, Bool.and_true, Bool.true_and, Bool.not_true, Bool.not_false, ne_eq, not_true_eq_false, reduceCtorEq, Bool.true_eq_false, decide_true, decide_false])
    rw [natX_len, List.take_length]
    exact q
/-- a sequence that a name holds -/
theorem iSqV {i : Nat} {ρ : List Sl} {d : D} {xs : List D} {R : List D → Prop} {Ed : DXt} (h : ρ[i]? = some (.dat d)) (hs : seqD d = some xs) (q : R xs) : iSq (eV i) ρ R Ed := by
  unfold iSq eV
  rw [h]
  show match seqD d with | some xs => R xs | none => False
  rw [hs]
  exact q
theorem sem_sweep : ∀ as Qd Xd, d_sweep as Qd Xd → as.length = ["masks", "part"].length ∧ r_sweep { nx := fun _ => Qd .non, rt := Qd } (as ++ List.replicate (["masks", "part", "seen", "hidden", "mask", "rest", "low", "row"].length - as.length) .un) (fun _ => Xd) := by
  rintro as Qd Xd ⟨d, ms, part, rfl, hd, hl, q⟩
  refine ⟨rfl, ?_⟩
  unfold r_sweep
  (try dsimp only [gN, gN2, sNil, sSeq, sExp, sRet, sIf, sPass, sCont, sBrk, sSet, sSetO, sApp, sAppF, sApPop, flatD, sFrz, sAug, sRaise, sAsg, sPut, eV, eC, e1, e2, t2, tBl, tTru, tN, tAn, tOo, tCh, eNot, eAn, eOo, eIf, eTup, eLst, eF, eFld, eIs, eIxO, eLenO, eSl, eRev, eB, eCall, eCallG, eMeth, aN, aC, aV, oNo, oPt, eIsO, oSrtI, oSrtT, oLt, oLe, oReprB, oInI, gN3, eCh, oGt, oGe, oI, oIC, oI1, oAdd, oMul, oEq, oIsN, oIx, oLen, oList, oTuple, oAbs, oMin2, oInt1, fLst, fListRg1, fList, fRep, fCat, tYs, tru, isS, dats, seqD, seqO, tyS, List.set, List.getElem?_cons_zero, List.getElem?_cons_succ, List.append_eq, List.nil_append, List.cons_append, Option.map_some, Option.bind_some, ng, wipeD, List.length_cons, List.length_nil, Nat.reduceAdd, Nat.reduceSub, List.replicate_succ, List.replicate_zero]; try simp only [decide_eq_true_eq, Bool.not_eq_true', decide_eq_false_iff_not, Bool.false_eq_true, if_false, if_true, reduceIte, String.reduceBEq, Bool.true_or, Bool.false_or, Bool.or_false, Bool.and_false, Bool.false_and, Bool.and_true, Bool.true_and, Bool.not_true, Bool.not_false, ne_eq, not_true_eq_false, reduceCtorEq, Bool.true_eq_false, decide_true, decide_false])
  unfold sFor
  (try dsimp only [gN, gN2, sNil, sSeq, sExp, sRet, sIf, sPass, sCont, sBrk, sSet, sSetO, sApp, sAppF, sApPop, flatD, sFrz, sAug, sRaise, sAsg, sPut, eV, eC, e1, e2, t2, tBl, tTru, tN, tAn, tOo, tCh, eNot, eAn, eOo, eIf, eTup, eLst, eF, eFld, eIs, eIxO, eLenO, eSl, eRev, eB, eCall, eCallG, eMeth, aN, aC, aV, oNo, oPt, eIsO, oSrtI, oSrtT, oLt, oLe, oReprB, oInI, gN3, eCh, oGt, oGe, oI, oIC, oI1, oAdd, oMul, oEq, oIsN, oIx, oLen, oList, oTuple, oAbs, oMin2, oInt1, fLst, fListRg1, fList, fRep, fCat, tYs, tru, isS, dats, seqD, seqO, tyS, List.set, List.getElem?_cons_zero, List.getElem?_cons_succ, List.append_eq, List.nil_append, List.cons_append, Option.map_some, Option.bind_some, ng, wipeD, List.length_cons, List.length_nil, Nat.reduceAdd, Nat.reduceSub, List.replicate_succ, List.replicate_zero]; try simp only [decide_eq_true_eq, Bool.not_eq_true', decide_eq_false_iff_not, Bool.false_eq_true, if_false, if_true, reduceIte, String.reduceBEq, Bool.true_or, Bool.false_or, Bool.or_false, Bool.and_false, Bool.false_and, Bool.and_true, Bool.true_and, Bool.not_true, Bool.not_false, ne_eq, not_true_eq_false, reduceCtorEq, Bool.true_eq_false, decide_true, decide_false])
  refine iSqV rfl hd ?_
  refine ⟨fun i ρ => ∃ a b c e, ρ = [.dat d, .dat (.int part), .dat (.lst (natX (sweepF part (ms.take i)).1)), .own (natX (sweepF part (ms.take i)).2), a, b, c, e], ⟨_, _, _, _, rfl⟩, ?_, ?_⟩
  · rintro i x ρ hx ⟨a, b, c, e, rfl⟩
    obtain ⟨m, hm, rfl⟩ := natX_get hx
    have hlen := sweepF_len part (ms.take i)
    rw [List.length_take] at hlen
    (try dsimp only [gN, gN2, sNil, sSeq, sExp, sRet, sIf, sPass, sCont, sBrk, sSet, sSetO, sApp, sAppF, sApPop, flatD, sFrz, sAug, sRaise, sAsg, sPut, eV, eC, e1, e2, t2, tBl, tTru, tN, tAn, tOo, tCh, eNot, eAn, eOo, eIf, eTup, eLst, eF, eFld, eIs, eIxO, eLenO, eSl, eRev, eB, eCall, eCallG, eMeth, aN, aC, aV, oNo, oPt, eIsO, oSrtI, oSrtT, oLt, oLe, oReprB, oInI, gN3, eCh, oGt, oGe, oI, oIC, oI1, oAdd, oMul, oEq, oIsN, oIx, oLen, oList, oTuple, oAbs, oMin2, oInt1, fLst, fListRg1, fList, fRep, fCat, tYs, tru, isS, dats, seqD, seqO, tyS, List.set, List.getElem?_cons_zero, List.getElem?_cons_succ, List.append_eq, List.nil_append, List.cons_append, Option.map_some, Option.bind_some, ng, wipeD, List.length_cons, List.length_nil, Nat.reduceAdd, Nat.reduceSub, List.replicate_succ, List.replicate_zero]; try simp only [decide_eq_true_eq, Bool.not_eq_true', decide_eq_false_iff_not, Bool.false_eq_true, if_false, if_true, reduceIte, String.reduceBEq, Bool.true_or, Bool.false_or, Bool.or_false, Bool.and_false, Bool.false_and, Bool.and_true, Bool.true_and, Bool.not_true, Bool.not_false, ne_eq, not_true_eq_false, reduceCtorEq, Bool.true_eq_false, decide_true, decide_false])
    rw [take_snoc hm, sweepF_snoc]
    generalize sweepF part (ms.take i) = st at *
    refine ⟨m, _, st.1, part, rfl, rfl, ?_⟩
    (try dsimp only [gN, gN2, sNil, sSeq, sExp, sRet, sIf, sPass, sCont, sBrk, sSet, sSetO, sApp, sAppF, sApPop, flatD, sFrz, sAug, sRaise, sAsg, sPut, eV, eC, e1, e2, t2, tBl, tTru, tN, tAn, tOo, tCh, eNot, eAn, eOo, eIf, eTup, eLst, eF, eFld, eIs, eIxO, eLenO, eSl, eRev, eB, eCall, eCallG, eMeth, aN, aC, aV, oNo, oPt, eIsO, oSrtI, oSrtT, oLt, oLe, oReprB, oInI, gN3, eCh, oGt, oGe, oI, oIC, oI1, oAdd, oMul, oEq, oIsN, oIx, oLen, oList, oTuple, oAbs, oMin2, oInt1, fLst, fListRg1, fList, fRep, fCat, tYs, tru, isS, dats, seqD, seqO, tyS, List.set, List.getElem?_cons_zero, List.getElem?_cons_succ, List.append_eq, List.nil_append, List.cons_append, Option.map_some, Option.bind_some, ng, wipeD, List.length_cons, List.length_nil, Nat.reduceAdd, Nat.reduceSub, List.replicate_succ, List.replicate_zero]; try simp only [decide_eq_true_eq, Bool.not_eq_true', decide_eq_false_iff_not, Bool.false_eq_true, if_false, if_true, reduceIte, String.reduceBEq, Bool.true_or, Bool.false_or, Bool.or_false, Bool.and_false, Bool.false_and, Bool.and_true, Bool.true_and, Bool.not_true, Bool.not_false, ne_eq, not_true_eq_false, reduceCtorEq, Bool.true_eq_false, decide_true, decide_false])
    rw [bitAnd_andN]
    refine ⟨_, rfl, ?_⟩
    (try dsimp only [gN, gN2, sNil, sSeq, sExp, sRet, sIf, sPass, sCont, sBrk, sSet, sSetO, sApp, sAppF, sApPop, flatD, sFrz, sAug, sRaise, sAsg, sPut, eV, eC, e1, e2, t2, tBl, tTru, tN, tAn, tOo, tCh, eNot, eAn, eOo, eIf, eTup, eLst, eF, eFld, eIs, eIxO, eLenO, eSl, eRev, eB, eCall, eCallG, eMeth, aN, aC, aV, oNo, oPt, eIsO, oSrtI, oSrtT, oLt, oLe, oReprB, oInI, gN3, eCh, oGt, oGe, oI, oIC, oI1, oAdd, oMul, oEq, oIsN, oIx, oLen, oList, oTuple, oAbs, oMin2, oInt1, fLst, fListRg1, fList, fRep, fCat, tYs, tru, isS, dats, seqD, seqO, tyS, List.set, List.getElem?_cons_zero, List.getElem?_cons_succ, List.append_eq, List.nil_append, List.cons_append, Option.map_some, Option.bind_some, ng, wipeD, List.length_cons, List.length_nil, Nat.reduceAdd, Nat.reduceSub, List.replicate_succ, List.replicate_zero]; try simp only [decide_eq_true_eq, Bool.not_eq_true', decide_eq_false_iff_not, Bool.false_eq_true, if_false, if_true, reduceIte, String.reduceBEq, Bool.true_or, Bool.false_or, Bool.or_false, Bool.and_false, Bool.false_and, Bool.and_true, Bool.true_and, Bool.not_true, Bool.not_false, ne_eq, not_true_eq_false, reduceCtorEq, Bool.true_eq_false, decide_true, decide_false])
    generalize hrest : clearedF part m st.1 = rest
    generalize hlow : lowN (andN rest part) = low
    by_cases hz : low = 0
    · have e : sweepStep part st m = (st.1, st.2 ++ [rest]) := by
        unfold sweepStep
        rw [hrest, hlow, if_neg (fun h => h hz)]
      rw [if_neg (by rw [hz]; decide)]
      refine ⟨by rw [natX_len]; omega, ?_⟩
      rw [e, natX_snoc]
      exact ⟨_, _, _, _, rfl⟩
    · have e : sweepStep part st m = (st.1.map (fun row => if row &&& low ≠ 0 then row ^^^ rest else row) ++ [rest], st.2) := by
        unfold sweepStep
        rw [hrest, hlow, if_pos hz]
      rw [if_pos (by rw [dec_ne0]; exact decide_eq_true hz)]
      refine lcMapN st.1 (fun row => if row &&& low ≠ 0 then row ^^^ rest else row) (fun R r => iSqV rfl rfl r) (by omega) (fun row hr Q' q' => ?_) ?_
      · (try dsimp only [gN, gN2, sNil, sSeq, sExp, sRet, sIf, sPass, sCont, sBrk, sSet, sSetO, sApp, sAppF, sApPop, flatD, sFrz, sAug, sRaise, sAsg, sPut, eV, eC, e1, e2, t2, tBl, tTru, tN, tAn, tOo, tCh, eNot, eAn, eOo, eIf, eTup, eLst, eF, eFld, eIs, eIxO, eLenO, eSl, eRev, eB, eCall, eCallG, eMeth, aN, aC, aV, oNo, oPt, eIsO, oSrtI, oSrtT, oLt, oLe, oReprB, oInI, gN3, eCh, oGt, oGe, oI, oIC, oI1, oAdd, oMul, oEq, oIsN, oIx, oLen, oList, oTuple, oAbs, oMin2, oInt1, fLst, fListRg1, fList, fRep, fCat, tYs, tru, isS, dats, seqD, seqO, tyS, List.set, List.getElem?_cons_zero, List.getElem?_cons_succ, List.append_eq, List.nil_append, List.cons_append, Option.map_some, Option.bind_some, ng, wipeD, List.length_cons, List.length_nil, Nat.reduceAdd, Nat.reduceSub, List.replicate_succ, List.replicate_zero]; try simp only [decide_eq_true_eq, Bool.not_eq_true', decide_eq_false_iff_not, Bool.false_eq_true, if_false, if_true, reduceIte, String.reduceBEq, Bool.true_or, Bool.false_or, Bool.or_false, Bool.and_false, Bool.false_and, Bool.and_true, Bool.true_and, Bool.not_true, Bool.not_false, ne_eq, not_true_eq_false, reduceCtorEq, Bool.true_eq_false, decide_true, decide_false])
        rw [bitAnd_nat]
        by_cases hq : row &&& low = 0
        · rw [if_neg (by rw [hq]; decide)]
          rw [if_neg (fun h => h hq)] at q'
          exact q'
        · rw [if_pos (by rw [dec_ne0]; exact decide_eq_true hq), bitXor_nat]
          rw [if_pos hq] at q'
          exact q'
      · (try dsimp only [gN, gN2, sNil, sSeq, sExp, sRet, sIf, sPass, sCont, sBrk, sSet, sSetO, sApp, sAppF, sApPop, flatD, sFrz, sAug, sRaise, sAsg, sPut, eV, eC, e1, e2, t2, tBl, tTru, tN, tAn, tOo, tCh, eNot, eAn, eOo, eIf, eTup, eLst, eF, eFld, eIs, eIxO, eLenO, eSl, eRev, eB, eCall, eCallG, eMeth, aN, aC, aV, oNo, oPt, eIsO, oSrtI, oSrtT, oLt, oLe, oReprB, oInI, gN3, eCh, oGt, oGe, oI, oIC, oI1, oAdd, oMul, oEq, oIsN, oIx, oLen, oList, oTuple, oAbs, oMin2, oInt1, fLst, fListRg1, fList, fRep, fCat, tYs, tru, isS, dats, seqD, seqO, tyS, List.set, List.getElem?_cons_zero, List.getElem?_cons_succ, List.append_eq, List.nil_append, List.cons_append, Option.map_some, Option.bind_some, ng, wipeD, List.length_cons, List.length_nil, Nat.reduceAdd, Nat.reduceSub, List.replicate_succ, List.replicate_zero]; try simp only [decide_eq_true_eq, Bool.not_eq_true', decide_eq_false_iff_not, Bool.false_eq_true, if_false, if_true, reduceIte, String.reduceBEq, Bool.true_or, Bool.false_or, Bool.or_false, Bool.and_false, Bool.false_and, Bool.and_true, Bool.true_and, Bool.not_true, Bool.not_false, ne_eq, not_true_eq_false, reduceCtorEq, Bool.true_eq_false, decide_true, decide_false])
        refine ⟨by rw [natX_len, List.length_map]; omega, ?_⟩
        rw [e, natX_snoc]
        exact ⟨_, _, _, _, rfl⟩
  · rintro ρ ⟨a, b, c, e, rfl⟩
    (try dsimp only [gN, gN2, sNil, sSeq, sExp, sRet, sIf, sPass, sCont, sBrk, sSet, sSetO, sApp, sAppF, sApPop, flatD, sFrz, sAug, sRaise, sAsg, sPut, eV, eC, e1, e2, t2, tBl, tTru, tN, tAn, tOo, tCh, eNot, eAn, eOo, eIf, eTup, eLst, eF, eFld, eIs, eIxO, eLenO, eSl, eRev, eB, eCall, eCallG, eMeth, aN, aC, aV, oNo, oPt, eIsO, oSrtI, oSrtT, oLt, oLe, oReprB, oInI, gN3, eCh, oGt, oGe, oI, oIC, oI1, oAdd, oMul, oEq, oIsN, oIx, oLen, oList, oTuple, oAbs, oMin2, oInt1, fLst, fListRg1, fList, fRep, fCat, tYs, tru, isS, dats, seqD, seqO, tyS, List.set, List.getElem?_cons_zero, List.getElem?_cons_succ, List.append_eq, List.nil_append, List.cons_append, Option.map_some, Option.bind_some, ng, wipeD, List.length_cons, List.length_nil, Nat.reduceAdd, Nat.reduceSub, List.replicate_succ, List.replicate_zero]; try simp only [decide_eq_true_eq, Bool.not_eq_true', decide_eq_false_iff_not, Bool.false_eq_true, if_false, if_true, reduceIte, String.reduceBEq, Bool.true_or, Bool.false_or, Bool.or_false, Bool.and_false, Bool.false_and, Bool.and_true, Bool.true_and, Bool.not_true, Bool.not_false, ne_eq, not_true_eq_false, reduceCtorEq, Bool.true_eq_false, decide_true, decide_false])
    rw [natX_len, List.take_length]
    exact q
theorem sem_reduce_rows : ∀ as Qd Xd, d_reduce_rows as Qd Xd → as.length = ["masks"].length ∧ r_reduce_rows { nx := fun _ => Qd .non, rt := Qd } (as ++ List.replicate (["masks", "seen", "_"].length - as.length) .un) (fun _ => Xd) := by
  rintro as Qd Xd ⟨d, ms, rfl, hd, hl, q⟩
  refine ⟨rfl, ?_⟩
  unfold r_reduce_rows
  (try dsimp only [gN, gN2, sNil, sSeq, sExp, sRet, sIf, sPass, sCont, sBrk, sSet, sSetO, sApp, sAppF, sApPop, flatD, sFrz, sAug, sRaise, sAsg, sPut, eV, eC, e1, e2, t2, tBl, tTru, tN, tAn, tOo, tCh, eNot, eAn, eOo, eIf, eTup, eLst, eF, eFld, eIs, eIxO, eLenO, eSl, eRev, eB, eCall, eCallG, eMeth, aN, aC, aV, oNo, oPt, eIsO, oSrtI, oSrtT, oLt, oLe, oReprB, oInI, gN3, eCh, oGt, oGe, oI, oIC, oI1, oAdd, oMul, oEq, oIsN, oIx, oLen, oList, oTuple, oAbs, oMin2, oInt1, fLst, fListRg1, fList, fRep, fCat, tYs, tru, isS, dats, seqD, seqO, tyS, List.set, List.getElem?_cons_zero, List.getElem?_cons_succ, List.append_eq, List.nil_append, List.cons_append, Option.map_some, Option.bind_some, ng, wipeD, List.length_cons, List.length_nil, Nat.reduceAdd, Nat.reduceSub, List.replicate_succ, List.replicate_zero]; try simp only [decide_eq_true_eq, Bool.not_eq_true', decide_eq_false_iff_not, Bool.false_eq_true, if_false, if_true, reduceIte, String.reduceBEq, Bool.true_or, Bool.false_or, Bool.or_false, Bool.and_false, Bool.false_and, Bool.and_true, Bool.true_and, Bool.not_true, Bool.not_false, ne_eq, not_true_eq_false, reduceCtorEq, Bool.true_eq_false, decide_true, decide_false])
  refine ⟨d, ms, -1, rfl, hd, by omega, ?_⟩
  unfold eSrtK
  (try dsimp only [gN, gN2, sNil, sSeq, sExp, sRet, sIf, sPass, sCont, sBrk, sSet, sSetO, sApp, sAppF, sApPop, flatD, sFrz, sAug, sRaise, sAsg, sPut, eV, eC, e1, e2, t2, tBl, tTru, tN, tAn, tOo, tCh, eNot, eAn, eOo, eIf, eTup, eLst, eF, eFld, eIs, eIxO, eLenO, eSl, eRev, eB, eCall, eCallG, eMeth, aN, aC, aV, oNo, oPt, eIsO, oSrtI, oSrtT, oLt, oLe, oReprB, oInI, gN3, eCh, oGt, oGe, oI, oIC, oI1, oAdd, oMul, oEq, oIsN, oIx, oLen, oList, oTuple, oAbs, oMin2, oInt1, fLst, fListRg1, fList, fRep, fCat, tYs, tru, isS, dats, seqD, seqO, tyS, List.set, List.getElem?_cons_zero, List.getElem?_cons_succ, List.append_eq, List.nil_append, List.cons_append, Option.map_some, Option.bind_some, ng, wipeD, List.length_cons, List.length_nil, Nat.reduceAdd, Nat.reduceSub, List.replicate_succ, List.replicate_zero]; try simp only [decide_eq_true_eq, Bool.not_eq_true', decide_eq_false_iff_not, Bool.false_eq_true, if_false, if_true, reduceIte, String.reduceBEq, Bool.true_or, Bool.false_or, Bool.or_false, Bool.and_false, Bool.false_and, Bool.and_true, Bool.true_and, Bool.not_true, Bool.not_false, ne_eq, not_true_eq_false, reduceCtorEq, Bool.true_eq_false, decide_true, decide_false])
  refine ⟨_, rfl, ?_, fun ns hp hs => ?_⟩
  · have := sweepF_len (-1) ms
    omega
  · rw [low_uniqR hp hs]
    exact q
end DL

set_option Elab.async false
set_option linter.all false
set_option maxRecDepth 100000
set_option maxHeartbeats 4000000
set_option exponentiation.threshold 2000
namespace DL
open PySem PySem.Spec PyProof.Rows L2 BT
/-! ### lots -/
theorem noOs_get : ∀ {xs : List D} {i : Nat} {x : D}, noOs xs = true → xs[i]? = some x → noO x = true
  | [], _, _, _, h => by simp at h
  | y :: ys, 0, x, h, e => by
    simp only [noOs, Bool.and_eq_true] at h
    have e : y = x := Option.some.inj e
    rw [← e]; exact h.1
  | y :: ys, i + 1, x, h, e => by
    simp only [noOs, Bool.and_eq_true] at h
    exact noOs_get (i := i) h.2 e
theorem noO_nats : ∀ l : List Nat, noOs (natX l) = true
  | [] => rfl
  | _ :: l => noO_nats l
theorem noO_lot (l : List Nat) : noO (lotX l) = true := noO_nats l
theorem sem_mask_of : ∀ as Qd Xd, d_mask_of as Qd Xd → as.length = ["lot"].length ∧ r_mask_of { nx := fun _ => Qd .non, rt := Qd } (as ++ List.replicate (["lot", "mask", "place"].length - as.length) .un) (fun _ => Xd) := by
  rintro as Qd Xd ⟨l, rfl, hl, q⟩
  refine ⟨rfl, ?_⟩
  unfold r_mask_of lotX
  (try dsimp only [gN, gN2, sNil, sSeq, sExp, sRet, sIf, sPass, sCont, sBrk, sSet, sSetO, sApp, sAppF, sApPop, flatD, sFrz, sAug, sRaise, sAsg, sPut, eV, eC, e1, e2, t2, tBl, tTru, tN, tAn, tOo, tCh, eNot, eAn, eOo, eIf, eTup, eLst, eF, eFld, eIs, eIxO, eLenO, eSl, eRev, eB, eCall, eCallG, eMeth, aN, aC, aV, oNo, oPt, eIsO, oSrtI, oSrtT, oLt, oLe, oReprB, oInI, gN3, eCh, oGt, oGe, oI, oIC, oI1, oAdd, oMul, oEq, oIsN, oIx, oLen, oList, oTuple, oAbs, oMin2, oInt1, fLst, fListRg1, fList, fRep, fCat, tYs, tru, isS, dats, seqD, seqO, tyS, List.set, List.getElem?_cons_zero, List.getElem?_cons_succ, List.append_eq, List.nil_append, List.cons_append, Option.map_some, Option.bind_some, ng, wipeD, List.length_cons, List.length_nil, Nat.reduceAdd, Nat.reduceSub, List.replicate_succ, List.replicate_zero, sFor, iRg1, iRg2, iSq, iEn, fLc]; try simp only [decide_eq_true_eq, Bool.not_eq_true', decide_eq_false_iff_not, Bool.false_eq_true, if_false, if_true, reduceIte, String.reduceBEq, Bool.true_or, Bool.false_or, Bool.or_false, Bool.and_false, Bool.false_and, Bool.and_true, Bool.true_and, Bool.not_true, Bool.not_false, ne_eq, not_true_eq_false, reduceCtorEq, Bool.true_eq_false, decide_true, decide_false])
  refine ⟨fun i ρ => ∃ z, ρ = [.dat (.tup (natX l)), .dat (.int (maskN (l.take i) : Nat)), z], ⟨_, rfl⟩, ?_, ?_⟩
  · rintro i x ρ hx ⟨z, rfl⟩
    obtain ⟨p, hp, rfl⟩ := natX_get hx
    (try dsimp only [gN, gN2, sNil, sSeq, sExp, sRet, sIf, sPass, sCont, sBrk, sSet, sSetO, sApp, sAppF, sApPop, flatD, sFrz, sAug, sRaise, sAsg, sPut, eV, eC, e1, e2, t2, tBl, tTru, tN, tAn, tOo, tCh, eNot, eAn, eOo, eIf, eTup, eLst, eF, eFld, eIs, eIxO, eLenO, eSl, eRev, eB, eCall, eCallG, eMeth, aN, aC, aV, oNo, oPt, eIsO, oSrtI, oSrtT, oLt, oLe, oReprB, oInI, gN3, eCh, oGt, oGe, oI, oIC, oI1, oAdd, oMul, oEq, oIsN, oIx, oLen, oList, oTuple, oAbs, oMin2, oInt1, fLst, fListRg1, fList, fRep, fCat, tYs, tru, isS, dats, seqD, seqO, tyS, List.set, List.getElem?_cons_zero, List.getElem?_cons_succ, List.append_eq, List.nil_append, List.cons_append, Option.map_some, Option.bind_some, ng, wipeD, List.length_cons, List.length_nil, Nat.reduceAdd, Nat.reduceSub, List.replicate_succ, List.replicate_zero]; try simp only [decide_eq_true_eq, Bool.not_eq_true', decide_eq_false_iff_not, Bool.false_eq_true, if_false, if_true, reduceIte, String.reduceBEq, Bool.true_or, Bool.false_or, Bool.or_false, Bool.and_false, Bool.false_and, Bool.and_true, Bool.true_and, Bool.not_true, Bool.not_false, ne_eq, not_true_eq_false, reduceCtorEq, Bool.true_eq_false, decide_true, decide_false])
    have := hl p (List.mem_of_getElem? hp)
    refine ⟨cpow1 this, .dat (.int (p : Int)), ?_⟩
    rw [shl1_nat, bitOr_nat, ← maskN_snoc, ← take_snoc hp]
  · rintro ρ ⟨z, rfl⟩
    (try dsimp only [gN, gN2, sNil, sSeq, sExp, sRet, sIf, sPass, sCont, sBrk, sSet, sSetO, sApp, sAppF, sApPop, flatD, sFrz, sAug, sRaise, sAsg, sPut, eV, eC, e1, e2, t2, tBl, tTru, tN, tAn, tOo, tCh, eNot, eAn, eOo, eIf, eTup, eLst, eF, eFld, eIs, eIxO, eLenO, eSl, eRev, eB, eCall, eCallG, eMeth, aN, aC, aV, oNo, oPt, eIsO, oSrtI, oSrtT, oLt, oLe, oReprB, oInI, gN3, eCh, oGt, oGe, oI, oIC, oI1, oAdd, oMul, oEq, oIsN, oIx, oLen, oList, oTuple, oAbs, oMin2, oInt1, fLst, fListRg1, fList, fRep, fCat, tYs, tru, isS, dats, seqD, seqO, tyS, List.set, List.getElem?_cons_zero, List.getElem?_cons_succ, List.append_eq, List.nil_append, List.cons_append, Option.map_some, Option.bind_some, ng, wipeD, List.length_cons, List.length_nil, Nat.reduceAdd, Nat.reduceSub, List.replicate_succ, List.replicate_zero]; try simp only [decide_eq_true_eq, Bool.not_eq_true', decide_eq_false_iff_not, Bool.false_eq_true, if_false, if_true, reduceIte, String.reduceBEq, Bool.true_or, Bool.false_or, Bool.or_false, Bool.and_false, Bool.false_and, Bool.and_true, Bool.true_and, Bool.not_true, Bool.not_false, ne_eq, not_true_eq_false, reduceCtorEq, Bool.true_eq_false, decide_true, decide_false])
    rw [natX_len, List.take_length]
    exact q
theorem rg_nat (n : Nat) : rgD 0 n = natX (List.range n) := by
  unfold rgD natX
  refine List.map_congr_left fun i _ => ?_
  rw [Int.zero_add]
theorem bit_shr (m p : Nat) : Builtin.bitAnd ((m : Int) / 2 ^ ((p : Int).toNat)) 1 = ((m >>> p &&& 1 : Nat) : Int) := by
  rw [shr_nat, show (1 : Int) = ((1 : Nat) : Int) from rfl, bitAnd_nat]
theorem natX_filt (f : Nat → Bool) (l : List Nat) : (natX l).filter (fun x => match x with | .int i => f i.toNat | _ => false) = natX (l.filter f) := by
  unfold natX
  rw [List.filter_map]; rfl
/-- [x for x in numbers if ..] -/
theorem lcFiltN {fi : DI} {vs : List Nat} {i : Nat} {tt : DT} {te : DE} {ρ : List Sl} {Q : List D → Prop} {Ed : DXt} (rs : List Nat) (p : Nat → Bool) (hf : ∀ R : List D → Prop, R (natX rs) → fi ρ R Ed) (hl : rs.length ≤ 1000000)
    (ht : ∀ r ∈ rs, ∀ Q' : Bool → Prop, Q' (p r) → tt ((wipeD ρ vs).set i (.dat (.int (r : Int)))) Q' X0) (hs : ∀ r ∈ rs, p r = true → ∀ Q' : D → Prop, Q' (.int (r : Int)) → te ((wipeD ρ vs).set i (.dat (.int (r : Int)))) Q' X0) (q : Q (natX (rs.filter p))) : fLc fi vs i tt te ρ Q Ed := by
  refine lcFilter (natX rs) (fun x => match x with | .int i => p i.toNat | _ => false) (fun x => x) hf (by rw [natX_len]; exact hl) (fun x hx Q' q => ?_) (fun x hx e Q' q => ?_) (by rw [natX_filt, List.map_id']; exact q)
  · obtain ⟨r, hr, rfl⟩ := List.mem_map.mp hx
    exact ht r hr Q' q
  · obtain ⟨r, hr, rfl⟩ := List.mem_map.mp hx
    exact hs r hr e Q' q
theorem sem_lot_of : ∀ as Qd Xd, d_lot_of as Qd Xd → as.length = ["mask"].length ∧ r_lot_of { nx := fun _ => Qd .non, rt := Qd } (as ++ List.replicate (["mask", "place"].length - as.length) .un) (fun _ => Xd) := by
  rintro as Qd Xd ⟨m, rfl, hm, q⟩
  refine ⟨rfl, ?_⟩
  unfold r_lot_of
  have hb := bitsN_small hm
  (try dsimp only [gN, gN2, sNil, sSeq, sExp, sRet, sIf, sPass, sCont, sBrk, sSet, sSetO, sApp, sAppF, sApPop, flatD, sFrz, sAug, sRaise, sAsg, sPut, eV, eC, e1, e2, t2, tBl, tTru, tN, tAn, tOo, tCh, eNot, eAn, eOo, eIf, eTup, eLst, eF, eFld, eIs, eIxO, eLenO, eSl, eRev, eB, eCall, eCallG, eMeth, aN, aC, aV, oNo, oPt, eIsO, oSrtI, oSrtT, oLt, oLe, oReprB, oInI, gN3, eCh, oGt, oGe, oI, oIC, oI1, oAdd, oMul, oEq, oIsN, oIx, oLen, oList, oTuple, oAbs, oMin2, oInt1, fLst, fListRg1, fList, fRep, fCat, tYs, tru, isS, dats, seqD, seqO, tyS, List.set, List.getElem?_cons_zero, List.getElem?_cons_succ, List.append_eq, List.nil_append, List.cons_append, Option.map_some, Option.bind_some, ng, wipeD, List.length_cons, List.length_nil, Nat.reduceAdd, Nat.reduceSub, List.replicate_succ, List.replicate_zero]; try simp only [decide_eq_true_eq, Bool.not_eq_true', decide_eq_false_iff_not, Bool.false_eq_true, if_false, if_true, reduceIte, String.reduceBEq, Bool.true_or, Bool.false_or, Bool.or_false, Bool.and_false, Bool.false_and, Bool.and_true, Bool.true_and, Bool.not_true, Bool.not_false, ne_eq, not_true_eq_false, reduceCtorEq, Bool.true_eq_false, decide_true, decide_false])
  refine lcFiltN (List.range (bitsN m)) (fun p => m.testBit p) (fun R h => ?_) (by rw [List.length_range]; omega) (fun r hr Q' q => ?_) (fun r hr e Q' q => ?_) ?_
  · (try dsimp only [gN, gN2, sNil, sSeq, sExp, sRet, sIf, sPass, sCont, sBrk, sSet, sSetO, sApp, sAppF, sApPop, flatD, sFrz, sAug, sRaise, sAsg, sPut, eV, eC, e1, e2, t2, tBl, tTru, tN, tAn, tOo, tCh, eNot, eAn, eOo, eIf, eTup, eLst, eF, eFld, eIs, eIxO, eLenO, eSl, eRev, eB, eCall, eCallG, eMeth, aN, aC, aV, oNo, oPt, eIsO, oSrtI, oSrtT, oLt, oLe, oReprB, oInI, gN3, eCh, oGt, oGe, oI, oIC, oI1, oAdd, oMul, oEq, oIsN, oIx, oLen, oList, oTuple, oAbs, oMin2, oInt1, fLst, fListRg1, fList, fRep, fCat, tYs, tru, isS, dats, seqD, seqO, tyS, List.set, List.getElem?_cons_zero, List.getElem?_cons_succ, List.append_eq, List.nil_append, List.cons_append, Option.map_some, Option.bind_some, ng, wipeD, List.length_cons, List.length_nil, Nat.reduceAdd, Nat.reduceSub, List.replicate_succ, List.replicate_zero]; try simp only [decide_eq_true_eq, Bool.not_eq_true', decide_eq_false_iff_not, Bool.false_eq_true, if_false, if_true, reduceIte, String.reduceBEq, Bool.true_or, Bool.false_or, Bool.or_false, Bool.and_false, Bool.false_and, Bool.and_true, Bool.true_and, Bool.not_true, Bool.not_false, ne_eq, not_true_eq_false, reduceCtorEq, Bool.true_eq_false, decide_true, decide_false])
    refine ⟨by rw [intBits_nat]; omega, by rw [intBits_nat]; omega, ?_⟩
    rw [intBits_nat, Int.toNat_natCast, rg_nat]; exact h
  · (try dsimp only [gN, gN2, sNil, sSeq, sExp, sRet, sIf, sPass, sCont, sBrk, sSet, sSetO, sApp, sAppF, sApPop, flatD, sFrz, sAug, sRaise, sAsg, sPut, eV, eC, e1, e2, t2, tBl, tTru, tN, tAn, tOo, tCh, eNot, eAn, eOo, eIf, eTup, eLst, eF, eFld, eIs, eIxO, eLenO, eSl, eRev, eB, eCall, eCallG, eMeth, aN, aC, aV, oNo, oPt, eIsO, oSrtI, oSrtT, oLt, oLe, oReprB, oInI, gN3, eCh, oGt, oGe, oI, oIC, oI1, oAdd, oMul, oEq, oIsN, oIx, oLen, oList, oTuple, oAbs, oMin2, oInt1, fLst, fListRg1, fList, fRep, fCat, tYs, tru, isS, dats, seqD, seqO, tyS, List.set, List.getElem?_cons_zero, List.getElem?_cons_succ, List.append_eq, List.nil_append, List.cons_append, Option.map_some, Option.bind_some, ng, wipeD, List.length_cons, List.length_nil, Nat.reduceAdd, Nat.reduceSub, List.replicate_succ, List.replicate_zero]; try simp only [decide_eq_true_eq, Bool.not_eq_true', decide_eq_false_iff_not, Bool.false_eq_true, if_false, if_true, reduceIte, String.reduceBEq, Bool.true_or, Bool.false_or, Bool.or_false, Bool.and_false, Bool.false_and, Bool.and_true, Bool.true_and, Bool.not_true, Bool.not_false, ne_eq, not_true_eq_false, reduceCtorEq, Bool.true_eq_false, decide_true, decide_false])
    refine ⟨by omega, ?_⟩
    rw [bit_shr]
    have e := and1_bit m r
    cases h : m.testBit r with
    | true => rw [e.mpr h]; rw [h] at q; exact q
    | false =>
      have e0 : m >>> r &&& 1 = 0 := by
        have h1 : ¬ (m >>> r &&& 1 = 1) := fun q => by rw [e.mp q] at h; cases h
        have h2 : m >>> r &&& 1 ≤ 1 := Nat.and_le_right
        omega
      rw [e0]; rw [h] at q; exact q
  · (try dsimp only [gN, gN2, sNil, sSeq, sExp, sRet, sIf, sPass, sCont, sBrk, sSet, sSetO, sApp, sAppF, sApPop, flatD, sFrz, sAug, sRaise, sAsg, sPut, eV, eC, e1, e2, t2, tBl, tTru, tN, tAn, tOo, tCh, eNot, eAn, eOo, eIf, eTup, eLst, eF, eFld, eIs, eIxO, eLenO, eSl, eRev, eB, eCall, eCallG, eMeth, aN, aC, aV, oNo, oPt, eIsO, oSrtI, oSrtT, oLt, oLe, oReprB, oInI, gN3, eCh, oGt, oGe, oI, oIC, oI1, oAdd, oMul, oEq, oIsN, oIx, oLen, oList, oTuple, oAbs, oMin2, oInt1, fLst, fListRg1, fList, fRep, fCat, tYs, tru, isS, dats, seqD, seqO, tyS, List.set, List.getElem?_cons_zero, List.getElem?_cons_succ, List.append_eq, List.nil_append, List.cons_append, Option.map_some, Option.bind_some, ng, wipeD, List.length_cons, List.length_nil, Nat.reduceAdd, Nat.reduceSub, List.replicate_succ, List.replicate_zero]; try simp only [decide_eq_true_eq, Bool.not_eq_true', decide_eq_false_iff_not, Bool.false_eq_true, if_false, if_true, reduceIte, String.reduceBEq, Bool.true_or, Bool.false_or, Bool.or_false, Bool.and_false, Bool.false_and, Bool.and_true, Bool.true_and, Bool.not_true, Bool.not_false, ne_eq, not_true_eq_false, reduceCtorEq, Bool.true_eq_false, decide_true, decide_false])
    exact q
  · exact q
theorem sem_is_number : ∀ as Qd Xd, d_is_number as Qd Xd → as.length = ["value"].length ∧ r_is_number { nx := fun _ => Qd .non, rt := Qd } (as ++ List.replicate (["value"].length - as.length) .un) (fun _ => Xd) := by
  rintro as Qd Xd ⟨d, rfl, ht, q⟩
  refine ⟨rfl, ?_⟩
  cases d <;> first | exact q | cases ht
theorem sem_is_between : ∀ as Qd Xd, d_is_between as Qd Xd → as.length = ["value", "least", "most"].length ∧ r_is_between { nx := fun _ => Qd .non, rt := Qd } (as ++ List.replicate (["value", "least", "most"].length - as.length) .un) (fun _ => Xd) := by
  rintro as Qd Xd ⟨d, a, b, rfl, ht, q⟩
  refine ⟨rfl, ?_⟩
  unfold r_is_between
  (try dsimp only [gN, gN2, sNil, sSeq, sExp, sRet, sIf, sPass, sCont, sBrk, sSet, sSetO, sApp, sAppF, sApPop, flatD, sFrz, sAug, sRaise, sAsg, sPut, eV, eC, e1, e2, t2, tBl, tTru, tN, tAn, tOo, tCh, eNot, eAn, eOo, eIf, eTup, eLst, eF, eFld, eIs, eIxO, eLenO, eSl, eRev, eB, eCall, eCallG, eMeth, aN, aC, aV, oNo, oPt, eIsO, oSrtI, oSrtT, oLt, oLe, oReprB, oInI, gN3, eCh, oGt, oGe, oI, oIC, oI1, oAdd, oMul, oEq, oIsN, oIx, oLen, oList, oTuple, oAbs, oMin2, oInt1, fLst, fListRg1, fList, fRep, fCat, tYs, tru, isS, dats, seqD, seqO, tyS, List.set, List.getElem?_cons_zero, List.getElem?_cons_succ, List.append_eq, List.nil_append, List.cons_append, Option.map_some, Option.bind_some, ng, wipeD, List.length_cons, List.length_nil, Nat.reduceAdd, Nat.reduceSub, List.replicate_succ, List.replicate_zero]; try simp only [decide_eq_true_eq, Bool.not_eq_true', decide_eq_false_iff_not, Bool.false_eq_true, if_false, if_true, reduceIte, String.reduceBEq, Bool.true_or, Bool.false_or, Bool.or_false, Bool.and_false, Bool.false_and, Bool.and_true, Bool.true_and, Bool.not_true, Bool.not_false, ne_eq, not_true_eq_false, reduceCtorEq, Bool.true_eq_false, decide_true, decide_false])
  refine ⟨d, rfl, ht, ?_⟩
  cases d with
  | int i =>
    unfold isNumX
    (try dsimp only [gN, gN2, sNil, sSeq, sExp, sRet, sIf, sPass, sCont, sBrk, sSet, sSetO, sApp, sAppF, sApPop, flatD, sFrz, sAug, sRaise, sAsg, sPut, eV, eC, e1, e2, t2, tBl, tTru, tN, tAn, tOo, tCh, eNot, eAn, eOo, eIf, eTup, eLst, eF, eFld, eIs, eIxO, eLenO, eSl, eRev, eB, eCall, eCallG, eMeth, aN, aC, aV, oNo, oPt, eIsO, oSrtI, oSrtT, oLt, oLe, oReprB, oInI, gN3, eCh, oGt, oGe, oI, oIC, oI1, oAdd, oMul, oEq, oIsN, oIx, oLen, oList, oTuple, oAbs, oMin2, oInt1, fLst, fListRg1, fList, fRep, fCat, tYs, tru, isS, dats, seqD, seqO, tyS, List.set, List.getElem?_cons_zero, List.getElem?_cons_succ, List.append_eq, List.nil_append, List.cons_append, Option.map_some, Option.bind_some, ng, wipeD, List.length_cons, List.length_nil, Nat.reduceAdd, Nat.reduceSub, List.replicate_succ, List.replicate_zero]; try simp only [decide_eq_true_eq, Bool.not_eq_true', decide_eq_false_iff_not, Bool.false_eq_true, if_false, if_true, reduceIte, String.reduceBEq, Bool.true_or, Bool.false_or, Bool.or_false, Bool.and_false, Bool.false_and, Bool.and_true, Bool.true_and, Bool.not_true, Bool.not_false, ne_eq, not_true_eq_false, reduceCtorEq, Bool.true_eq_false, decide_true, decide_false])
    have q : Qd (.bl (decide (a ≤ i) && decide (i ≤ b))) := q
    by_cases h : a ≤ i
    · rw [decide_eq_true h] at q ⊢
      exact q
    · rw [decide_eq_false h] at q ⊢
      exact q
  | _ => exact q
theorem btw_yes {a b i : Int} (h1 : a ≤ i) (h2 : i ≤ b) : btwX a b (.int i) = true := by
  show (decide (a ≤ i) && decide (i ≤ b)) = true
  rw [decide_eq_true h1, decide_eq_true h2]; rfl
theorem sem_need_size : ∀ as Qd Xd, d_need_size as Qd Xd → as.length = ["size"].length ∧ r_need_size { nx := fun _ => Qd .non, rt := Qd } (as ++ List.replicate (["size"].length - as.length) .un) (fun _ => Xd) := by
  rintro as Qd Xd ⟨n, rfl, hn, q⟩
  refine ⟨rfl, ?_⟩
  unfold r_need_size
  (try dsimp only [gN, gN2, sNil, sSeq, sExp, sRet, sIf, sPass, sCont, sBrk, sSet, sSetO, sApp, sAppF, sApPop, flatD, sFrz, sAug, sRaise, sAsg, sPut, eV, eC, e1, e2, t2, tBl, tTru, tN, tAn, tOo, tCh, eNot, eAn, eOo, eIf, eTup, eLst, eF, eFld, eIs, eIxO, eLenO, eSl, eRev, eB, eCall, eCallG, eMeth, aN, aC, aV, oNo, oPt, eIsO, oSrtI, oSrtT, oLt, oLe, oReprB, oInI, gN3, eCh, oGt, oGe, oI, oIC, oI1, oAdd, oMul, oEq, oIsN, oIx, oLen, oList, oTuple, oAbs, oMin2, oInt1, fLst, fListRg1, fList, fRep, fCat, tYs, tru, isS, dats, seqD, seqO, tyS, List.set, List.getElem?_cons_zero, List.getElem?_cons_succ, List.append_eq, List.nil_append, List.cons_append, Option.map_some, Option.bind_some, ng, wipeD, List.length_cons, List.length_nil, Nat.reduceAdd, Nat.reduceSub, List.replicate_succ, List.replicate_zero]; try simp only [decide_eq_true_eq, Bool.not_eq_true', decide_eq_false_iff_not, Bool.false_eq_true, if_false, if_true, reduceIte, String.reduceBEq, Bool.true_or, Bool.false_or, Bool.or_false, Bool.and_false, Bool.false_and, Bool.and_true, Bool.true_and, Bool.not_true, Bool.not_false, ne_eq, not_true_eq_false, reduceCtorEq, Bool.true_eq_false, decide_true, decide_false])
  refine ⟨_, 0, 60, rfl, rfl, ?_⟩
  rw [btw_yes (by omega) (by omega)]
  (try dsimp only [gN, gN2, sNil, sSeq, sExp, sRet, sIf, sPass, sCont, sBrk, sSet, sSetO, sApp, sAppF, sApPop, flatD, sFrz, sAug, sRaise, sAsg, sPut, eV, eC, e1, e2, t2, tBl, tTru, tN, tAn, tOo, tCh, eNot, eAn, eOo, eIf, eTup, eLst, eF, eFld, eIs, eIxO, eLenO, eSl, eRev, eB, eCall, eCallG, eMeth, aN, aC, aV, oNo, oPt, eIsO, oSrtI, oSrtT, oLt, oLe, oReprB, oInI, gN3, eCh, oGt, oGe, oI, oIC, oI1, oAdd, oMul, oEq, oIsN, oIx, oLen, oList, oTuple, oAbs, oMin2, oInt1, fLst, fListRg1, fList, fRep, fCat, tYs, tru, isS, dats, seqD, seqO, tyS, List.set, List.getElem?_cons_zero, List.getElem?_cons_succ, List.append_eq, List.nil_append, List.cons_append, Option.map_some, Option.bind_some, ng, wipeD, List.length_cons, List.length_nil, Nat.reduceAdd, Nat.reduceSub, List.replicate_succ, List.replicate_zero]; try simp only [decide_eq_true_eq, Bool.not_eq_true', decide_eq_false_iff_not, Bool.false_eq_true, if_false, if_true, reduceIte, String.reduceBEq, Bool.true_or, Bool.false_or, Bool.or_false, Bool.and_false, Bool.false_and, Bool.and_true, Bool.true_and, Bool.not_true, Bool.not_false, ne_eq, not_true_eq_false, reduceCtorEq, Bool.true_eq_false, decide_true, decide_false])
  exact q
theorem lotFrom_int (n l p : Int) (r : List D) : lotFrom n l (.int p :: r) = (decide (l ≤ p ∧ p < n) && lotFrom n (p + 1) r) := rfl
theorem lot_drop {n : Int} {xs : List D} {i : Nat} {x : D} {l : Int} (h : xs[i]? = some x) : lotFrom n l (xs.drop i) = lotFrom n l (x :: xs.drop (i + 1)) := by
  have hl := (List.getElem?_eq_some_iff.mp h).1
  rw [List.drop_eq_getElem_cons hl, (List.getElem?_eq_some_iff.mp h).2]
theorem sem_is_lot : ∀ as Qd Xd, d_is_lot as Qd Xd → as.length = ["value", "size"].length ∧ r_is_lot { nx := fun _ => Qd .non, rt := Qd } (as ++ List.replicate (["value", "size", "least", "place"].length - as.length) .un) (fun _ => Xd) := by
  rintro as Qd Xd ⟨d, n, rfl, ht, hn, q⟩
  refine ⟨rfl, ?_⟩
  unfold r_is_lot
  (try dsimp only [gN, gN2, sNil, sSeq, sExp, sRet, sIf, sPass, sCont, sBrk, sSet, sSetO, sApp, sAppF, sApPop, flatD, sFrz, sAug, sRaise, sAsg, sPut, eV, eC, e1, e2, t2, tBl, tTru, tN, tAn, tOo, tCh, eNot, eAn, eOo, eIf, eTup, eLst, eF, eFld, eIs, eIxO, eLenO, eSl, eRev, eB, eCall, eCallG, eMeth, aN, aC, aV, oNo, oPt, eIsO, oSrtI, oSrtT, oLt, oLe, oReprB, oInI, gN3, eCh, oGt, oGe, oI, oIC, oI1, oAdd, oMul, oEq, oIsN, oIx, oLen, oList, oTuple, oAbs, oMin2, oInt1, fLst, fListRg1, fList, fRep, fCat, tYs, tru, isS, dats, seqD, seqO, tyS, List.set, List.getElem?_cons_zero, List.getElem?_cons_succ, List.append_eq, List.nil_append, List.cons_append, Option.map_some, Option.bind_some, ng, wipeD, List.length_cons, List.length_nil, Nat.reduceAdd, Nat.reduceSub, List.replicate_succ, List.replicate_zero]; try simp only [decide_eq_true_eq, Bool.not_eq_true', decide_eq_false_iff_not, Bool.false_eq_true, if_false, if_true, reduceIte, String.reduceBEq, Bool.true_or, Bool.false_or, Bool.or_false, Bool.and_false, Bool.false_and, Bool.and_true, Bool.true_and, Bool.not_true, Bool.not_false, ne_eq, not_true_eq_false, reduceCtorEq, Bool.true_eq_false, decide_true, decide_false])
  refine ⟨n, rfl, hn, ?_⟩
  (try dsimp only [gN, gN2, sNil, sSeq, sExp, sRet, sIf, sPass, sCont, sBrk, sSet, sSetO, sApp, sAppF, sApPop, flatD, sFrz, sAug, sRaise, sAsg, sPut, eV, eC, e1, e2, t2, tBl, tTru, tN, tAn, tOo, tCh, eNot, eAn, eOo, eIf, eTup, eLst, eF, eFld, eIs, eIxO, eLenO, eSl, eRev, eB, eCall, eCallG, eMeth, aN, aC, aV, oNo, oPt, eIsO, oSrtI, oSrtT, oLt, oLe, oReprB, oInI, gN3, eCh, oGt, oGe, oI, oIC, oI1, oAdd, oMul, oEq, oIsN, oIx, oLen, oList, oTuple, oAbs, oMin2, oInt1, fLst, fListRg1, fList, fRep, fCat, tYs, tru, isS, dats, seqD, seqO, tyS, List.set, List.getElem?_cons_zero, List.getElem?_cons_succ, List.append_eq, List.nil_append, List.cons_append, Option.map_some, Option.bind_some, ng, wipeD, List.length_cons, List.length_nil, Nat.reduceAdd, Nat.reduceSub, List.replicate_succ, List.replicate_zero]; try simp only [decide_eq_true_eq, Bool.not_eq_true', decide_eq_false_iff_not, Bool.false_eq_true, if_false, if_true, reduceIte, String.reduceBEq, Bool.true_or, Bool.false_or, Bool.or_false, Bool.and_false, Bool.false_and, Bool.and_true, Bool.true_and, Bool.not_true, Bool.not_false, ne_eq, not_true_eq_false, reduceCtorEq, Bool.true_eq_false, decide_true, decide_false])
  cases d with
  | tup xs =>
    (try dsimp only [gN, gN2, sNil, sSeq, sExp, sRet, sIf, sPass, sCont, sBrk, sSet, sSetO, sApp, sAppF, sApPop, flatD, sFrz, sAug, sRaise, sAsg, sPut, eV, eC, e1, e2, t2, tBl, tTru, tN, tAn, tOo, tCh, eNot, eAn, eOo, eIf, eTup, eLst, eF, eFld, eIs, eIxO, eLenO, eSl, eRev, eB, eCall, eCallG, eMeth, aN, aC, aV, oNo, oPt, eIsO, oSrtI, oSrtT, oLt, oLe, oReprB, oInI, gN3, eCh, oGt, oGe, oI, oIC, oI1, oAdd, oMul, oEq, oIsN, oIx, oLen, oList, oTuple, oAbs, oMin2, oInt1, fLst, fListRg1, fList, fRep, fCat, tYs, tru, isS, dats, seqD, seqO, tyS, List.set, List.getElem?_cons_zero, List.getElem?_cons_succ, List.append_eq, List.nil_append, List.cons_append, Option.map_some, Option.bind_some, ng, wipeD, List.length_cons, List.length_nil, Nat.reduceAdd, Nat.reduceSub, List.replicate_succ, List.replicate_zero, sFor, iRg1, iRg2, iSq, iEn, fLc]; try simp only [decide_eq_true_eq, Bool.not_eq_true', decide_eq_false_iff_not, Bool.false_eq_true, if_false, if_true, reduceIte, String.reduceBEq, Bool.true_or, Bool.false_or, Bool.or_false, Bool.and_false, Bool.false_and, Bool.and_true, Bool.true_and, Bool.not_true, Bool.not_false, ne_eq, not_true_eq_false, reduceCtorEq, Bool.true_eq_false, decide_true, decide_false])
    refine ⟨fun i ρ => ∃ l z, ρ = [.dat (.tup xs), .dat (.int (n : Int)), .dat (.int l), z] ∧ lotFrom n l (xs.drop i) = lotFrom n 0 xs, ⟨0, _, rfl, rfl⟩, ?_, ?_⟩
    · rintro i x ρ hx ⟨l, z, rfl, e⟩
      rw [lot_drop hx] at e
      have hox : noO x = true := noOs_get (by simpa only [noO] using ht) hx
      (try dsimp only [gN, gN2, sNil, sSeq, sExp, sRet, sIf, sPass, sCont, sBrk, sSet, sSetO, sApp, sAppF, sApPop, flatD, sFrz, sAug, sRaise, sAsg, sPut, eV, eC, e1, e2, t2, tBl, tTru, tN, tAn, tOo, tCh, eNot, eAn, eOo, eIf, eTup, eLst, eF, eFld, eIs, eIxO, eLenO, eSl, eRev, eB, eCall, eCallG, eMeth, aN, aC, aV, oNo, oPt, eIsO, oSrtI, oSrtT, oLt, oLe, oReprB, oInI, gN3, eCh, oGt, oGe, oI, oIC, oI1, oAdd, oMul, oEq, oIsN, oIx, oLen, oList, oTuple, oAbs, oMin2, oInt1, fLst, fListRg1, fList, fRep, fCat, tYs, tru, isS, dats, seqD, seqO, tyS, List.set, List.getElem?_cons_zero, List.getElem?_cons_succ, List.append_eq, List.nil_append, List.cons_append, Option.map_some, Option.bind_some, ng, wipeD, List.length_cons, List.length_nil, Nat.reduceAdd, Nat.reduceSub, List.replicate_succ, List.replicate_zero]; try simp only [decide_eq_true_eq, Bool.not_eq_true', decide_eq_false_iff_not, Bool.false_eq_true, if_false, if_true, reduceIte, String.reduceBEq, Bool.true_or, Bool.false_or, Bool.or_false, Bool.and_false, Bool.false_and, Bool.and_true, Bool.true_and, Bool.not_true, Bool.not_false, ne_eq, not_true_eq_false, reduceCtorEq, Bool.true_eq_false, decide_true, decide_false])
      refine ⟨x, rfl, hox, ?_⟩
      have q : Qd (.bl (lotFrom n 0 xs)) := q
      cases x with
      | int p =>
        unfold isNumX
        rw [lotFrom_int] at e
        (try dsimp only [gN, gN2, sNil, sSeq, sExp, sRet, sIf, sPass, sCont, sBrk, sSet, sSetO, sApp, sAppF, sApPop, flatD, sFrz, sAug, sRaise, sAsg, sPut, eV, eC, e1, e2, t2, tBl, tTru, tN, tAn, tOo, tCh, eNot, eAn, eOo, eIf, eTup, eLst, eF, eFld, eIs, eIxO, eLenO, eSl, eRev, eB, eCall, eCallG, eMeth, aN, aC, aV, oNo, oPt, eIsO, oSrtI, oSrtT, oLt, oLe, oReprB, oInI, gN3, eCh, oGt, oGe, oI, oIC, oI1, oAdd, oMul, oEq, oIsN, oIx, oLen, oList, oTuple, oAbs, oMin2, oInt1, fLst, fListRg1, fList, fRep, fCat, tYs, tru, isS, dats, seqD, seqO, tyS, List.set, List.getElem?_cons_zero, List.getElem?_cons_succ, List.append_eq, List.nil_append, List.cons_append, Option.map_some, Option.bind_some, ng, wipeD, List.length_cons, List.length_nil, Nat.reduceAdd, Nat.reduceSub, List.replicate_succ, List.replicate_zero]; try simp only [decide_eq_true_eq, Bool.not_eq_true', decide_eq_false_iff_not, Bool.false_eq_true, if_false, if_true, reduceIte, String.reduceBEq, Bool.true_or, Bool.false_or, Bool.or_false, Bool.and_false, Bool.false_and, Bool.and_true, Bool.true_and, Bool.not_true, Bool.not_false, ne_eq, not_true_eq_false, reduceCtorEq, Bool.true_eq_false, decide_true, decide_false])
        by_cases h1 : l ≤ p
        · rw [decide_eq_true h1]
          (try dsimp only [gN, gN2, sNil, sSeq, sExp, sRet, sIf, sPass, sCont, sBrk, sSet, sSetO, sApp, sAppF, sApPop, flatD, sFrz, sAug, sRaise, sAsg, sPut, eV, eC, e1, e2, t2, tBl, tTru, tN, tAn, tOo, tCh, eNot, eAn, eOo, eIf, eTup, eLst, eF, eFld, eIs, eIxO, eLenO, eSl, eRev, eB, eCall, eCallG, eMeth, aN, aC, aV, oNo, oPt, eIsO, oSrtI, oSrtT, oLt, oLe, oReprB, oInI, gN3, eCh, oGt, oGe, oI, oIC, oI1, oAdd, oMul, oEq, oIsN, oIx, oLen, oList, oTuple, oAbs, oMin2, oInt1, fLst, fListRg1, fList, fRep, fCat, tYs, tru, isS, dats, seqD, seqO, tyS, List.set, List.getElem?_cons_zero, List.getElem?_cons_succ, List.append_eq, List.nil_append, List.cons_append, Option.map_some, Option.bind_some, ng, wipeD, List.length_cons, List.length_nil, Nat.reduceAdd, Nat.reduceSub, List.replicate_succ, List.replicate_zero]; try simp only [decide_eq_true_eq, Bool.not_eq_true', decide_eq_false_iff_not, Bool.false_eq_true, if_false, if_true, reduceIte, String.reduceBEq, Bool.true_or, Bool.false_or, Bool.or_false, Bool.and_false, Bool.false_and, Bool.and_true, Bool.true_and, Bool.not_true, Bool.not_false, ne_eq, not_true_eq_false, reduceCtorEq, Bool.true_eq_false, decide_true, decide_false])
          by_cases h2 : p < (n : Int)
          · rw [if_neg (fun z => z h2)]
            rw [decide_eq_true ⟨h1, h2⟩, Bool.true_and] at e
            exact ⟨_, _, rfl, e⟩
          · rw [if_pos h2]
            rw [decide_eq_false (fun z => h2 z.2), Bool.false_and] at e
            rw [← e] at q; exact q
        · rw [decide_eq_false h1]
          (try dsimp only [gN, gN2, sNil, sSeq, sExp, sRet, sIf, sPass, sCont, sBrk, sSet, sSetO, sApp, sAppF, sApPop, flatD, sFrz, sAug, sRaise, sAsg, sPut, eV, eC, e1, e2, t2, tBl, tTru, tN, tAn, tOo, tCh, eNot, eAn, eOo, eIf, eTup, eLst, eF, eFld, eIs, eIxO, eLenO, eSl, eRev, eB, eCall, eCallG, eMeth, aN, aC, aV, oNo, oPt, eIsO, oSrtI, oSrtT, oLt, oLe, oReprB, oInI, gN3, eCh, oGt, oGe, oI, oIC, oI1, oAdd, oMul, oEq, oIsN, oIx, oLen, oList, oTuple, oAbs, oMin2, oInt1, fLst, fListRg1, fList, fRep, fCat, tYs, tru, isS, dats, seqD, seqO, tyS, List.set, List.getElem?_cons_zero, List.getElem?_cons_succ, List.append_eq, List.nil_append, List.cons_append, Option.map_some, Option.bind_some, ng, wipeD, List.length_cons, List.length_nil, Nat.reduceAdd, Nat.reduceSub, List.replicate_succ, List.replicate_zero]; try simp only [decide_eq_true_eq, Bool.not_eq_true', decide_eq_false_iff_not, Bool.false_eq_true, if_false, if_true, reduceIte, String.reduceBEq, Bool.true_or, Bool.false_or, Bool.or_false, Bool.and_false, Bool.false_and, Bool.and_true, Bool.true_and, Bool.not_true, Bool.not_false, ne_eq, not_true_eq_false, reduceCtorEq, Bool.true_eq_false, decide_true, decide_false])
          rw [decide_eq_false (fun z => h1 z.1), Bool.false_and] at e
          rw [e]; exact q
      | _ =>
        have e : false = lotFrom n 0 xs := e
        unfold isNumX
        (try dsimp only [gN, gN2, sNil, sSeq, sExp, sRet, sIf, sPass, sCont, sBrk, sSet, sSetO, sApp, sAppF, sApPop, flatD, sFrz, sAug, sRaise, sAsg, sPut, eV, eC, e1, e2, t2, tBl, tTru, tN, tAn, tOo, tCh, eNot, eAn, eOo, eIf, eTup, eLst, eF, eFld, eIs, eIxO, eLenO, eSl, eRev, eB, eCall, eCallG, eMeth, aN, aC, aV, oNo, oPt, eIsO, oSrtI, oSrtT, oLt, oLe, oReprB, oInI, gN3, eCh, oGt, oGe, oI, oIC, oI1, oAdd, oMul, oEq, oIsN, oIx, oLen, oList, oTuple, oAbs, oMin2, oInt1, fLst, fListRg1, fList, fRep, fCat, tYs, tru, isS, dats, seqD, seqO, tyS, List.set, List.getElem?_cons_zero, List.getElem?_cons_succ, List.append_eq, List.nil_append, List.cons_append, Option.map_some, Option.bind_some, ng, wipeD, List.length_cons, List.length_nil, Nat.reduceAdd, Nat.reduceSub, List.replicate_succ, List.replicate_zero]; try simp only [decide_eq_true_eq, Bool.not_eq_true', decide_eq_false_iff_not, Bool.false_eq_true, if_false, if_true, reduceIte, String.reduceBEq, Bool.true_or, Bool.false_or, Bool.or_false, Bool.and_false, Bool.false_and, Bool.and_true, Bool.true_and, Bool.not_true, Bool.not_false, ne_eq, not_true_eq_false, reduceCtorEq, Bool.true_eq_false, decide_true, decide_false])
        rw [← e] at q; exact q
    · rintro ρ ⟨l, z, rfl, e⟩
      rw [List.drop_length] at e
      have e : true = lotFrom n 0 xs := e
      have q : Qd (.bl (lotFrom n 0 xs)) := q
      (try dsimp only [gN, gN2, sNil, sSeq, sExp, sRet, sIf, sPass, sCont, sBrk, sSet, sSetO, sApp, sAppF, sApPop, flatD, sFrz, sAug, sRaise, sAsg, sPut, eV, eC, e1, e2, t2, tBl, tTru, tN, tAn, tOo, tCh, eNot, eAn, eOo, eIf, eTup, eLst, eF, eFld, eIs, eIxO, eLenO, eSl, eRev, eB, eCall, eCallG, eMeth, aN, aC, aV, oNo, oPt, eIsO, oSrtI, oSrtT, oLt, oLe, oReprB, oInI, gN3, eCh, oGt, oGe, oI, oIC, oI1, oAdd, oMul, oEq, oIsN, oIx, oLen, oList, oTuple, oAbs, oMin2, oInt1, fLst, fListRg1, fList, fRep, fCat, tYs, tru, isS, dats, seqD, seqO, tyS, List.set, List.getElem?_cons_zero, List.getElem?_cons_succ, List.append_eq, List.nil_append, List.cons_append, Option.map_some, Option.bind_some, ng, wipeD, List.length_cons, List.length_nil, Nat.reduceAdd, Nat.reduceSub, List.replicate_succ, List.replicate_zero]; try simp only [decide_eq_true_eq, Bool.not_eq_true', decide_eq_false_iff_not, Bool.false_eq_true, if_false, if_true, reduceIte, String.reduceBEq, Bool.true_or, Bool.false_or, Bool.or_false, Bool.and_false, Bool.false_and, Bool.and_true, Bool.true_and, Bool.not_true, Bool.not_false, ne_eq, not_true_eq_false, reduceCtorEq, Bool.true_eq_false, decide_true, decide_false])
      rw [← e] at q
      exact q
  | obj => simp [noO] at ht
  | _ => exact q
theorem sem_need_lot : ∀ as Qd Xd, d_need_lot as Qd Xd → as.length = ["value", "size"].length ∧ r_need_lot { nx := fun _ => Qd .non, rt := Qd } (as ++ List.replicate (["value", "size"].length - as.length) .un) (fun _ => Xd) := by
  rintro as Qd Xd ⟨d, n, rfl, ht, hn, hd, q⟩
  refine ⟨rfl, ?_⟩
  unfold r_need_lot
  (try dsimp only [gN, gN2, sNil, sSeq, sExp, sRet, sIf, sPass, sCont, sBrk, sSet, sSetO, sApp, sAppF, sApPop, flatD, sFrz, sAug, sRaise, sAsg, sPut, eV, eC, e1, e2, t2, tBl, tTru, tN, tAn, tOo, tCh, eNot, eAn, eOo, eIf, eTup, eLst, eF, eFld, eIs, eIxO, eLenO, eSl, eRev, eB, eCall, eCallG, eMeth, aN, aC, aV, oNo, oPt, eIsO, oSrtI, oSrtT, oLt, oLe, oReprB, oInI, gN3, eCh, oGt, oGe, oI, oIC, oI1, oAdd, oMul, oEq, oIsN, oIx, oLen, oList, oTuple, oAbs, oMin2, oInt1, fLst, fListRg1, fList, fRep, fCat, tYs, tru, isS, dats, seqD, seqO, tyS, List.set, List.getElem?_cons_zero, List.getElem?_cons_succ, List.append_eq, List.nil_append, List.cons_append, Option.map_some, Option.bind_some, ng, wipeD, List.length_cons, List.length_nil, Nat.reduceAdd, Nat.reduceSub, List.replicate_succ, List.replicate_zero]; try simp only [decide_eq_true_eq, Bool.not_eq_true', decide_eq_false_iff_not, Bool.false_eq_true, if_false, if_true, reduceIte, String.reduceBEq, Bool.true_or, Bool.false_or, Bool.or_false, Bool.and_false, Bool.false_and, Bool.and_true, Bool.true_and, Bool.not_true, Bool.not_false, ne_eq, not_true_eq_false, reduceCtorEq, Bool.true_eq_false, decide_true, decide_false])
  refine ⟨d, n, rfl, ht, hn, ?_⟩
  rw [hd]
  (try dsimp only [gN, gN2, sNil, sSeq, sExp, sRet, sIf, sPass, sCont, sBrk, sSet, sSetO, sApp, sAppF, sApPop, flatD, sFrz, sAug, sRaise, sAsg, sPut, eV, eC, e1, e2, t2, tBl, tTru, tN, tAn, tOo, tCh, eNot, eAn, eOo, eIf, eTup, eLst, eF, eFld, eIs, eIxO, eLenO, eSl, eRev, eB, eCall, eCallG, eMeth, aN, aC, aV, oNo, oPt, eIsO, oSrtI, oSrtT, oLt, oLe, oReprB, oInI, gN3, eCh, oGt, oGe, oI, oIC, oI1, oAdd, oMul, oEq, oIsN, oIx, oLen, oList, oTuple, oAbs, oMin2, oInt1, fLst, fListRg1, fList, fRep, fCat, tYs, tru, isS, dats, seqD, seqO, tyS, List.set, List.getElem?_cons_zero, List.getElem?_cons_succ, List.append_eq, List.nil_append, List.cons_append, Option.map_some, Option.bind_some, ng, wipeD, List.length_cons, List.length_nil, Nat.reduceAdd, Nat.reduceSub, List.replicate_succ, List.replicate_zero]; try simp only [decide_eq_true_eq, Bool.not_eq_true', decide_eq_false_iff_not, Bool.false_eq_true, if_false, if_true, reduceIte, String.reduceBEq, Bool.true_or, Bool.false_or, Bool.or_false, Bool.and_false, Bool.false_and, Bool.and_true, Bool.true_and, Bool.not_true, Bool.not_false, ne_eq, not_true_eq_false, reduceCtorEq, Bool.true_eq_false, decide_true, decide_false])
  exact q
theorem lotFrom_nat {n : Nat} : ∀ {L : List Nat} {l : Nat}, L.Pairwise (· < ·) → (∀ p ∈ L, l ≤ p ∧ p < n) → lotFrom n l (natX L) = true
  | [], _, _, _ => rfl
  | p :: L, l, ha, hb => by
    have h1 := hb p List.mem_cons_self
    have h2 := List.pairwise_cons.mp ha
    show (decide ((l : Int) ≤ (p : Int) ∧ (p : Int) < (n : Int)) && lotFrom n ((p : Int) + 1) (natX L)) = true
    rw [decide_eq_true (by omega), Bool.true_and]
    have := lotFrom_nat (n := n) (L := L) (l := p + 1) h2.2 fun q hq => ⟨h2.1 q hq, (hb q (List.mem_cons_of_mem _ hq)).2⟩
    exact this
theorem lot_is {n m : Nat} (h : m < 2 ^ n) : isLotX n (lotX (lotN m)) = true := lotFrom_nat (l := 0) (lotN_asc m) fun p hp => ⟨Nat.zero_le _, lotN_lt h p hp⟩
theorem lotFrom_inv {n : Nat} : ∀ {xs : List D} {l : Nat}, lotFrom n l xs = true → ∃ L : List Nat, xs = natX L ∧ L.Pairwise (· < ·) ∧ ∀ p ∈ L, l ≤ p ∧ p < n
  | [], _, _ => ⟨[], rfl, List.Pairwise.nil, fun _ h => nomatch h⟩
  | .int p :: xs, l, h => by
    have h : (decide ((l : Int) ≤ p ∧ p < (n : Int)) && lotFrom n (p + 1) xs) = true := h
    rw [Bool.and_eq_true] at h
    have h1 := of_decide_eq_true h.1
    obtain ⟨q, rfl⟩ := Int.eq_ofNat_of_zero_le (show 0 ≤ p by omega)
    obtain ⟨L, rfl, ha, hb⟩ := lotFrom_inv (n := n) (xs := xs) (l := q + 1) h.2
    refine ⟨q :: L, rfl, List.pairwise_cons.mpr ⟨fun r hr => (hb r hr).1, ha⟩, fun r hr => ?_⟩
    rcases List.mem_cons.mp hr with rfl | hr
    · omega
    · have := hb r hr; omega
  | .non :: _, _, h => by cases h
  | .bl _ :: _, _, h => by cases h
  | .str _ :: _, _, h => by cases h
  | .tup _ :: _, _, h => by cases h
  | .lst _ :: _, _, h => by cases h
  | .dct _ :: _, _, h => by cases h
  | .obj _ _ :: _, _, h => by cases h
theorem is_lot_inv {n : Nat} {d : D} (h : isLotX n d = true) : ∃ m, m < 2 ^ n ∧ d = lotX (lotN m) := by
  cases d with
  | tup xs =>
    obtain ⟨L, rfl, ha, hb⟩ := lotFrom_inv (l := 0) h
    exact ⟨maskN L, maskN_lt fun p hp => (hb p hp).2, by rw [lotN_maskN ha]; rfl⟩
  | _ => cases h
theorem lotN_small {m n : Nat} (h : m < 2 ^ n) (hn : n ≤ 1000) : ∀ p ∈ lotN m, p < 1000 := fun p hp => Nat.lt_of_lt_of_le (lotN_lt h p hp) hn
end DL

set_option Elab.async false
set_option linter.all false
set_option maxRecDepth 100000
set_option maxHeartbeats 4000000
set_option exponentiation.threshold 2000
namespace DL
open PySem PySem.Spec PyProof.Rows L2 BT
/-- numbers of a sequence that a name holds, with their indexes -/
theorem iEnV {i : Nat} {ρ : List Sl} {d : D} {xs : List D} {R : List D → Prop} {Ed : DXt} (h : ρ[i]? = some (.dat d)) (hs : seqD d = some xs) (q : R (enD xs)) : iEn (aV i aN) ρ R Ed := by
  unfold iEn aV aN
  rw [h]
  cases d <;> first | (cases hs; exact q) | cases hs
/-- [flag of x for x in numbers] -/
theorem lcBl {fi : DI} {vs : List Nat} {i : Nat} {te : DE} {ρ : List Sl} {Q : List D → Prop} {Ed : DXt} (rs : List Nat) (p : Nat → Bool) (hf : ∀ R : List D → Prop, R (natX rs) → fi ρ R Ed) (hl : rs.length ≤ 1000000)
    (hs : ∀ r ∈ rs, ∀ Q' : D → Prop, Q' (.bl (p r)) → te ((wipeD ρ vs).set i (.dat (.int (r : Int)))) Q' X0) (q : Q ((rs.map p).map D.bl)) : fLc fi vs i tYs te ρ Q Ed := by
  refine lcMap (natX rs) (fun x => match x with | .int i => .bl (p i.toNat) | y => y) hf (by rw [natX_len]; exact hl) (fun x hx Q' q => ?_) (by
    unfold natX
    rw [List.map_map]
    rw [List.map_map] at q
    exact q)
  obtain ⟨r, hr, rfl⟩ := List.mem_map.mp hx
  exact hs r hr Q' q
theorem intsD_nat (l : List Nat) : intsD (natX l) = some (l.map fun p : Nat => (p : Int)) := by
  have := ints_of (l.map fun p : Nat => (p : Int))
  rw [List.map_map] at this
  exact this
theorem any_bl {l : List Bool} {R : D → Prop} (q : R (.bl (l.any id))) : oAny [.lst (l.map D.bl)] R := by
  unfold oAny
  dsimp only
  rw [bools_of]
  exact q
theorem sem_span : ∀ as Qd Xd, d_span as Qd Xd → as.length = ["masks"].length ∧ r_span { nx := fun _ => Qd .non, rt := Qd } (as ++ List.replicate (["masks", "sums", "mask", "other"].length - as.length) .un) (fun _ => Xd) := by
  rintro as Qd Xd ⟨d, ms, rfl, hd, hl, q⟩
  refine ⟨rfl, ?_⟩
  unfold r_span
  (try dsimp only [gN, gN2, sNil, sSeq, sExp, sRet, sIf, sPass, sCont, sBrk, sSet, sSetO, sApp, sAppF, sApPop, flatD, sFrz, sAug, sRaise, sAsg, sPut, eV, eC, e1, e2, t2, tBl, tTru, tN, tAn, tOo, tCh, eNot, eAn, eOo, eIf, eTup, eLst, eF, eFld, eIs, eIxO, eLenO, eSl, eRev, eB, eCall, eCallG, eMeth, aN, aC, aV, oNo, oPt, eIsO, oSrtI, oSrtT, oLt, oLe, oReprB, oInI, gN3, eCh, oGt, oGe, oI, oIC, oI1, oAdd, oMul, oEq, oIsN, oIx, oLen, oList, oTuple, oAbs, oMin2, oInt1, fLst, fListRg1, fList, fRep, fCat, tYs, tru, isS, dats, seqD, seqO, tyS, List.set, List.getElem?_cons_zero, List.getElem?_cons_succ, List.append_eq, List.nil_append, List.cons_append, Option.map_some, Option.bind_some, ng, wipeD, List.length_cons, List.length_nil, Nat.reduceAdd, Nat.reduceSub, List.replicate_succ, List.replicate_zero]; try simp only [decide_eq_true_eq, Bool.not_eq_true', decide_eq_false_iff_not, Bool.false_eq_true, if_false, if_true, reduceIte, String.reduceBEq, Bool.true_or, Bool.false_or, Bool.or_false, Bool.and_false, Bool.false_and, Bool.and_true, Bool.true_and, Bool.not_true, Bool.not_false, ne_eq, not_true_eq_false, reduceCtorEq, Bool.true_eq_false, decide_true, decide_false])
  unfold sFor
  (try dsimp only [gN, gN2, sNil, sSeq, sExp, sRet, sIf, sPass, sCont, sBrk, sSet, sSetO, sApp, sAppF, sApPop, flatD, sFrz, sAug, sRaise, sAsg, sPut, eV, eC, e1, e2, t2, tBl, tTru, tN, tAn, tOo, tCh, eNot, eAn, eOo, eIf, eTup, eLst, eF, eFld, eIs, eIxO, eLenO, eSl, eRev, eB, eCall, eCallG, eMeth, aN, aC, aV, oNo, oPt, eIsO, oSrtI, oSrtT, oLt, oLe, oReprB, oInI, gN3, eCh, oGt, oGe, oI, oIC, oI1, oAdd, oMul, oEq, oIsN, oIx, oLen, oList, oTuple, oAbs, oMin2, oInt1, fLst, fListRg1, fList, fRep, fCat, tYs, tru, isS, dats, seqD, seqO, tyS, List.set, List.getElem?_cons_zero, List.getElem?_cons_succ, List.append_eq, List.nil_append, List.cons_append, Option.map_some, Option.bind_some, ng, wipeD, List.length_cons, List.length_nil, Nat.reduceAdd, Nat.reduceSub, List.replicate_succ, List.replicate_zero]; try simp only [decide_eq_true_eq, Bool.not_eq_true', decide_eq_false_iff_not, Bool.false_eq_true, if_false, if_true, reduceIte, String.reduceBEq, Bool.true_or, Bool.false_or, Bool.or_false, Bool.and_false, Bool.false_and, Bool.and_true, Bool.true_and, Bool.not_true, Bool.not_false, ne_eq, not_true_eq_false, reduceCtorEq, Bool.true_eq_false, decide_true, decide_false])
  refine iSqV rfl hd ?_
  refine ⟨fun i ρ => ∃ a b, ρ = [.dat d, .dat (.lst (natX (spanF (ms.take i)))), a, b], ⟨_, _, rfl⟩, ?_, ?_⟩
  · rintro i x ρ hx ⟨a, b, rfl⟩
    obtain ⟨m, hm, rfl⟩ := natX_get hx
    (try dsimp only [gN, gN2, sNil, sSeq, sExp, sRet, sIf, sPass, sCont, sBrk, sSet, sSetO, sApp, sAppF, sApPop, flatD, sFrz, sAug, sRaise, sAsg, sPut, eV, eC, e1, e2, t2, tBl, tTru, tN, tAn, tOo, tCh, eNot, eAn, eOo, eIf, eTup, eLst, eF, eFld, eIs, eIxO, eLenO, eSl, eRev, eB, eCall, eCallG, eMeth, aN, aC, aV, oNo, oPt, eIsO, oSrtI, oSrtT, oLt, oLe, oReprB, oInI, gN3, eCh, oGt, oGe, oI, oIC, oI1, oAdd, oMul, oEq, oIsN, oIx, oLen, oList, oTuple, oAbs, oMin2, oInt1, fLst, fListRg1, fList, fRep, fCat, tYs, tru, isS, dats, seqD, seqO, tyS, List.set, List.getElem?_cons_zero, List.getElem?_cons_succ, List.append_eq, List.nil_append, List.cons_append, Option.map_some, Option.bind_some, ng, wipeD, List.length_cons, List.length_nil, Nat.reduceAdd, Nat.reduceSub, List.replicate_succ, List.replicate_zero]; try simp only [decide_eq_true_eq, Bool.not_eq_true', decide_eq_false_iff_not, Bool.false_eq_true, if_false, if_true, reduceIte, String.reduceBEq, Bool.true_or, Bool.false_or, Bool.or_false, Bool.and_false, Bool.false_and, Bool.and_true, Bool.true_and, Bool.not_true, Bool.not_false, ne_eq, not_true_eq_false, reduceCtorEq, Bool.true_eq_false, decide_true, decide_false])
    rw [take_snoc hm, spanF_snoc]
    have hlen := spanF_len (ms.take i)
    have hz : 2 ^ (ms.take i).length ≤ 2 ^ 12 := Nat.pow_le_pow_right (by decide) (by rw [List.length_take]; omega)
    generalize spanF (ms.take i) = st at *
    refine lcMapN st (fun o => m ^^^ o) (fun R r => iSqV rfl rfl r) (by omega) (fun o ho Q' q' => ?_) ?_
    · (try dsimp only [gN, gN2, sNil, sSeq, sExp, sRet, sIf, sPass, sCont, sBrk, sSet, sSetO, sApp, sAppF, sApPop, flatD, sFrz, sAug, sRaise, sAsg, sPut, eV, eC, e1, e2, t2, tBl, tTru, tN, tAn, tOo, tCh, eNot, eAn, eOo, eIf, eTup, eLst, eF, eFld, eIs, eIxO, eLenO, eSl, eRev, eB, eCall, eCallG, eMeth, aN, aC, aV, oNo, oPt, eIsO, oSrtI, oSrtT, oLt, oLe, oReprB, oInI, gN3, eCh, oGt, oGe, oI, oIC, oI1, oAdd, oMul, oEq, oIsN, oIx, oLen, oList, oTuple, oAbs, oMin2, oInt1, fLst, fListRg1, fList, fRep, fCat, tYs, tru, isS, dats, seqD, seqO, tyS, List.set, List.getElem?_cons_zero, List.getElem?_cons_succ, List.append_eq, List.nil_append, List.cons_append, Option.map_some, Option.bind_some, ng, wipeD, List.length_cons, List.length_nil, Nat.reduceAdd, Nat.reduceSub, List.replicate_succ, List.replicate_zero]; try simp only [decide_eq_true_eq, Bool.not_eq_true', decide_eq_false_iff_not, Bool.false_eq_true, if_false, if_true, reduceIte, String.reduceBEq, Bool.true_or, Bool.false_or, Bool.or_false, Bool.and_false, Bool.false_and, Bool.and_true, Bool.true_and, Bool.not_true, Bool.not_false, ne_eq, not_true_eq_false, reduceCtorEq, Bool.true_eq_false, decide_true, decide_false])
      rw [bitXor_nat]
      exact q'
    · (try dsimp only [gN, gN2, sNil, sSeq, sExp, sRet, sIf, sPass, sCont, sBrk, sSet, sSetO, sApp, sAppF, sApPop, flatD, sFrz, sAug, sRaise, sAsg, sPut, eV, eC, e1, e2, t2, tBl, tTru, tN, tAn, tOo, tCh, eNot, eAn, eOo, eIf, eTup, eLst, eF, eFld, eIs, eIxO, eLenO, eSl, eRev, eB, eCall, eCallG, eMeth, aN, aC, aV, oNo, oPt, eIsO, oSrtI, oSrtT, oLt, oLe, oReprB, oInI, gN3, eCh, oGt, oGe, oI, oIC, oI1, oAdd, oMul, oEq, oIsN, oIx, oLen, oList, oTuple, oAbs, oMin2, oInt1, fLst, fListRg1, fList, fRep, fCat, tYs, tru, isS, dats, seqD, seqO, tyS, List.set, List.getElem?_cons_zero, List.getElem?_cons_succ, List.append_eq, List.nil_append, List.cons_append, Option.map_some, Option.bind_some, ng, wipeD, List.length_cons, List.length_nil, Nat.reduceAdd, Nat.reduceSub, List.replicate_succ, List.replicate_zero]; try simp only [decide_eq_true_eq, Bool.not_eq_true', decide_eq_false_iff_not, Bool.false_eq_true, if_false, if_true, reduceIte, String.reduceBEq, Bool.true_or, Bool.false_or, Bool.or_false, Bool.and_false, Bool.false_and, Bool.and_true, Bool.true_and, Bool.not_true, Bool.not_false, ne_eq, not_true_eq_false, reduceCtorEq, Bool.true_eq_false, decide_true, decide_false])
      rw [natX_len, natX_len, List.length_map, natX_app]
      exact ⟨by omega, _, _, rfl⟩
  · rintro ρ ⟨a, b, rfl⟩
    (try dsimp only [gN, gN2, sNil, sSeq, sExp, sRet, sIf, sPass, sCont, sBrk, sSet, sSetO, sApp, sAppF, sApPop, flatD, sFrz, sAug, sRaise, sAsg, sPut, eV, eC, e1, e2, t2, tBl, tTru, tN, tAn, tOo, tCh, eNot, eAn, eOo, eIf, eTup, eLst, eF, eFld, eIs, eIxO, eLenO, eSl, eRev, eB, eCall, eCallG, eMeth, aN, aC, aV, oNo, oPt, eIsO, oSrtI, oSrtT, oLt, oLe, oReprB, oInI, gN3, eCh, oGt, oGe, oI, oIC, oI1, oAdd, oMul, oEq, oIsN, oIx, oLen, oList, oTuple, oAbs, oMin2, oInt1, fLst, fListRg1, fList, fRep, fCat, tYs, tru, isS, dats, seqD, seqO, tyS, List.set, List.getElem?_cons_zero, List.getElem?_cons_succ, List.append_eq, List.nil_append, List.cons_append, Option.map_some, Option.bind_some, ng, wipeD, List.length_cons, List.length_nil, Nat.reduceAdd, Nat.reduceSub, List.replicate_succ, List.replicate_zero]; try simp only [decide_eq_true_eq, Bool.not_eq_true', decide_eq_false_iff_not, Bool.false_eq_true, if_false, if_true, reduceIte, String.reduceBEq, Bool.true_or, Bool.false_or, Bool.or_false, Bool.and_false, Bool.false_and, Bool.and_true, Bool.true_and, Bool.not_true, Bool.not_false, ne_eq, not_true_eq_false, reduceCtorEq, Bool.true_eq_false, decide_true, decide_false])
    rw [natX_len, List.take_length]
    exact q
theorem sem_picked : ∀ as Qd Xd, d_picked as Qd Xd → as.length = ["mask", "places"].length ∧ r_picked { nx := fun _ => Qd .non, rt := Qd } (as ++ List.replicate (["mask", "places", "result", "number", "place"].length - as.length) .un) (fun _ => Xd) := by
  rintro as Qd Xd ⟨m, d, ps, rfl, hd, hb, hl, q⟩
  refine ⟨rfl, ?_⟩
  unfold r_picked
  (try dsimp only [gN, gN2, sNil, sSeq, sExp, sRet, sIf, sPass, sCont, sBrk, sSet, sSetO, sApp, sAppF, sApPop, flatD, sFrz, sAug, sRaise, sAsg, sPut, eV, eC, e1, e2, t2, tBl, tTru, tN, tAn, tOo, tCh, eNot, eAn, eOo, eIf, eTup, eLst, eF, eFld, eIs, eIxO, eLenO, eSl, eRev, eB, eCall, eCallG, eMeth, aN, aC, aV, oNo, oPt, eIsO, oSrtI, oSrtT, oLt, oLe, oReprB, oInI, gN3, eCh, oGt, oGe, oI, oIC, oI1, oAdd, oMul, oEq, oIsN, oIx, oLen, oList, oTuple, oAbs, oMin2, oInt1, fLst, fListRg1, fList, fRep, fCat, tYs, tru, isS, dats, seqD, seqO, tyS, List.set, List.getElem?_cons_zero, List.getElem?_cons_succ, List.append_eq, List.nil_append, List.cons_append, Option.map_some, Option.bind_some, ng, wipeD, List.length_cons, List.length_nil, Nat.reduceAdd, Nat.reduceSub, List.replicate_succ, List.replicate_zero]; try simp only [decide_eq_true_eq, Bool.not_eq_true', decide_eq_false_iff_not, Bool.false_eq_true, if_false, if_true, reduceIte, String.reduceBEq, Bool.true_or, Bool.false_or, Bool.or_false, Bool.and_false, Bool.false_and, Bool.and_true, Bool.true_and, Bool.not_true, Bool.not_false, ne_eq, not_true_eq_false, reduceCtorEq, Bool.true_eq_false, decide_true, decide_false])
  unfold sFor
  (try dsimp only [gN, gN2, sNil, sSeq, sExp, sRet, sIf, sPass, sCont, sBrk, sSet, sSetO, sApp, sAppF, sApPop, flatD, sFrz, sAug, sRaise, sAsg, sPut, eV, eC, e1, e2, t2, tBl, tTru, tN, tAn, tOo, tCh, eNot, eAn, eOo, eIf, eTup, eLst, eF, eFld, eIs, eIxO, eLenO, eSl, eRev, eB, eCall, eCallG, eMeth, aN, aC, aV, oNo, oPt, eIsO, oSrtI, oSrtT, oLt, oLe, oReprB, oInI, gN3, eCh, oGt, oGe, oI, oIC, oI1, oAdd, oMul, oEq, oIsN, oIx, oLen, oList, oTuple, oAbs, oMin2, oInt1, fLst, fListRg1, fList, fRep, fCat, tYs, tru, isS, dats, seqD, seqO, tyS, List.set, List.getElem?_cons_zero, List.getElem?_cons_succ, List.append_eq, List.nil_append, List.cons_append, Option.map_some, Option.bind_some, ng, wipeD, List.length_cons, List.length_nil, Nat.reduceAdd, Nat.reduceSub, List.replicate_succ, List.replicate_zero]; try simp only [decide_eq_true_eq, Bool.not_eq_true', decide_eq_false_iff_not, Bool.false_eq_true, if_false, if_true, reduceIte, String.reduceBEq, Bool.true_or, Bool.false_or, Bool.or_false, Bool.and_false, Bool.false_and, Bool.and_true, Bool.true_and, Bool.not_true, Bool.not_false, ne_eq, not_true_eq_false, reduceCtorEq, Bool.true_eq_false, decide_true, decide_false])
  refine iEnV rfl hd ?_
  refine ⟨fun i ρ => ∃ a b, ρ = [.dat (.int (m : Int)), .dat d, .dat (.int (pickedF m (ps.take i) : Nat)), a, b], ⟨_, _, rfl⟩, ?_, ?_⟩
  · rintro i x ρ hx ⟨a, b, rfl⟩
    obtain ⟨y, hy, rfl⟩ := enD_get hx
    obtain ⟨p, hp, rfl⟩ := natX_get hy
    have hi : i < ps.length := (List.getElem?_eq_some_iff.mp hp).1
    have e2 : pickedF m (ps.take (i + 1)) = pickedF m (ps.take i) ||| ((m >>> p &&& 1) <<< i) := by
      rw [take_snoc hp]
      unfold pickedF
      rw [zipIdx_snoc, List.foldl_append, List.length_take, Nat.min_eq_left (Nat.le_of_lt hi)]
      rfl
    (try dsimp only [gN, gN2, sNil, sSeq, sExp, sRet, sIf, sPass, sCont, sBrk, sSet, sSetO, sApp, sAppF, sApPop, flatD, sFrz, sAug, sRaise, sAsg, sPut, eV, eC, e1, e2, t2, tBl, tTru, tN, tAn, tOo, tCh, eNot, eAn, eOo, eIf, eTup, eLst, eF, eFld, eIs, eIxO, eLenO, eSl, eRev, eB, eCall, eCallG, eMeth, aN, aC, aV, oNo, oPt, eIsO, oSrtI, oSrtT, oLt, oLe, oReprB, oInI, gN3, eCh, oGt, oGe, oI, oIC, oI1, oAdd, oMul, oEq, oIsN, oIx, oLen, oList, oTuple, oAbs, oMin2, oInt1, fLst, fListRg1, fList, fRep, fCat, tYs, tru, isS, dats, seqD, seqO, tyS, List.set, List.getElem?_cons_zero, List.getElem?_cons_succ, List.append_eq, List.nil_append, List.cons_append, Option.map_some, Option.bind_some, ng, wipeD, List.length_cons, List.length_nil, Nat.reduceAdd, Nat.reduceSub, List.replicate_succ, List.replicate_zero]; try simp only [decide_eq_true_eq, Bool.not_eq_true', decide_eq_false_iff_not, Bool.false_eq_true, if_false, if_true, reduceIte, String.reduceBEq, Bool.true_or, Bool.false_or, Bool.or_false, Bool.and_false, Bool.false_and, Bool.and_true, Bool.true_and, Bool.not_true, Bool.not_false, ne_eq, not_true_eq_false, reduceCtorEq, Bool.true_eq_false, decide_true, decide_false])
    rw [e2, bit_shr, shl_nat, bitOr_nat]
    exact ⟨by omega, cpowN (Nat.lt_of_le_of_lt Nat.and_le_right (by decide)) (by omega), _, _, rfl⟩
  · rintro ρ ⟨a, b, rfl⟩
    (try dsimp only [gN, gN2, sNil, sSeq, sExp, sRet, sIf, sPass, sCont, sBrk, sSet, sSetO, sApp, sAppF, sApPop, flatD, sFrz, sAug, sRaise, sAsg, sPut, eV, eC, e1, e2, t2, tBl, tTru, tN, tAn, tOo, tCh, eNot, eAn, eOo, eIf, eTup, eLst, eF, eFld, eIs, eIxO, eLenO, eSl, eRev, eB, eCall, eCallG, eMeth, aN, aC, aV, oNo, oPt, eIsO, oSrtI, oSrtT, oLt, oLe, oReprB, oInI, gN3, eCh, oGt, oGe, oI, oIC, oI1, oAdd, oMul, oEq, oIsN, oIx, oLen, oList, oTuple, oAbs, oMin2, oInt1, fLst, fListRg1, fList, fRep, fCat, tYs, tru, isS, dats, seqD, seqO, tyS, List.set, List.getElem?_cons_zero, List.getElem?_cons_succ, List.append_eq, List.nil_append, List.cons_append, Option.map_some, Option.bind_some, ng, wipeD, List.length_cons, List.length_nil, Nat.reduceAdd, Nat.reduceSub, List.replicate_succ, List.replicate_zero]; try simp only [decide_eq_true_eq, Bool.not_eq_true', decide_eq_false_iff_not, Bool.false_eq_true, if_false, if_true, reduceIte, String.reduceBEq, Bool.true_or, Bool.false_or, Bool.or_false, Bool.and_false, Bool.false_and, Bool.and_true, Bool.true_and, Bool.not_true, Bool.not_false, ne_eq, not_true_eq_false, reduceCtorEq, Bool.true_eq_false, decide_true, decide_false])
    rw [enD_len, natX_len, List.take_length]
    exact q
end DL

set_option Elab.async false
set_option linter.all false
set_option maxRecDepth 100000
set_option maxHeartbeats 4000000
set_option exponentiation.threshold 2000
namespace DL
open PySem PySem.Spec PyProof.Rows L2 BT
/-! ### bounds -/
theorem xor_lt {a b n : Nat} (ha : a < 2 ^ n) (hb : b < 2 ^ n) : a ^^^ b < 2 ^ n := Nat.xor_lt_two_pow ha hb
theorem cleared_lt {part : Int} {n : Nat} : ∀ (rows : List Nat) (m : Nat), (∀ r ∈ rows, r < 2 ^ n) → m < 2 ^ n → clearedF part m rows < 2 ^ n
  | [], m, _, hm => hm
  | r :: rows, m, h, hm => by
    unfold clearedF
    rw [List.foldl_cons]
    refine cleared_lt rows _ (fun z hz => h z (List.mem_cons_of_mem _ hz)) ?_
    unfold clearStep
    split
    · exact xor_lt hm (h r (List.mem_cons_self ..))
    · exact hm
theorem sweep_lt {part : Int} {n : Nat} {ms : List Nat} (h : ∀ m ∈ ms, m < 2 ^ n) : (∀ r ∈ (sweepF part ms).1, r < 2 ^ n) ∧ ∀ r ∈ (sweepF part ms).2, r < 2 ^ n := by
  have key : ∀ (ms : List Nat) (st : List Nat × List Nat), (∀ m ∈ ms, m < 2 ^ n) → ((∀ r ∈ st.1, r < 2 ^ n) ∧ ∀ r ∈ st.2, r < 2 ^ n) → (∀ r ∈ (ms.foldl (sweepStep part) st).1, r < 2 ^ n) ∧ ∀ r ∈ (ms.foldl (sweepStep part) st).2, r < 2 ^ n := by
    intro ms
    induction ms with
    | nil => intro st _ h; exact h
    | cons m ms ih =>
      intro st hm h
      rw [List.foldl_cons]
      refine ih _ (fun z hz => hm z (List.mem_cons_of_mem _ hz)) ?_
      have hc := cleared_lt (part := part) st.1 m h.1 (hm m (List.mem_cons_self ..))
      unfold sweepStep
      split
      · refine ⟨fun r hr => ?_, h.2⟩
        rcases List.mem_append.mp hr with hr | hr
        · obtain ⟨z, hz, rfl⟩ := List.mem_map.mp hr
          split
          · exact xor_lt (h.1 z hz) hc
          · exact h.1 z hz
        · rw [List.mem_singleton.mp hr]; exact hc
      · refine ⟨h.1, fun r hr => ?_⟩
        rcases List.mem_append.mp hr with hr | hr
        · exact h.2 r hr
        · rw [List.mem_singleton.mp hr]; exact hc
  exact key ms ([], []) h ⟨fun r hr => (nomatch hr), fun r hr => (nomatch hr)⟩
theorem lotM_get {ls : List Nat} {i : Nat} {x : D} (h : (ls.map lotM)[i]? = some x) : ∃ l, ls[i]? = some l ∧ x = lotM l := by
  rw [List.getElem?_map] at h
  obtain ⟨l, h1, h2⟩ := Option.map_eq_some_iff.mp h
  exact ⟨l, h1, h2.symm⟩
theorem lot_ok {n m : Nat} (h : m < 2 ^ n) : isLotX n (lotM m) = true := lot_is h
theorem noO_lotM (m : Nat) : noO (lotM m) = true := noO_lot _
theorem lotM_sm {n m : Nat} (h : m < 2 ^ n) (hn : n ≤ 60) : ∀ p ∈ lotN m, p < 1000 := lotN_small h (by omega)
/-- [mask_of(x) for x in lots] -/
theorem lcLotM {fi : DI} {vs : List Nat} {i : Nat} {te : DE} {ρ : List Sl} {Q : List D → Prop} {Ed : DXt} (ls : List Nat) (hf : ∀ R : List D → Prop, R (ls.map lotM) → fi ρ R Ed) (hl : ls.length ≤ 1000000)
    (hs : ∀ l ∈ ls, ∀ Q' : D → Prop, Q' (.int (l : Nat)) → te ((wipeD ρ vs).set i (.dat (lotM l))) Q' X0) (q : Q (natX ls)) : fLc fi vs i tYs te ρ Q Ed := by
  refine hf _ ⟨by rw [List.length_map]; exact hl, fun j acc => acc = natX (ls.take j), rfl, ?_, ?_⟩
  · rintro j x acc hj rfl
    obtain ⟨l, hl, rfl⟩ := lotM_get hj
    dsimp only [tYs]
    rw [if_pos rfl]
    refine hs l (List.mem_of_getElem? hl) _ ?_
    rw [natX_snoc, take_snoc hl]
  · rintro acc rfl
    rw [List.length_map, List.take_length]; exact q
/-! ### need_each_lot, need_lots -/
theorem sem_need_each_lot : ∀ as Qd Xd, d_need_each_lot as Qd Xd → as.length = ["values", "size"].length ∧ r_need_each_lot { nx := fun _ => Qd .non, rt := Qd } (as ++ List.replicate (["values", "size", "index", "value"].length - as.length) .un) (fun _ => Xd) := by
  rintro as Qd Xd ⟨d, ls, n, rfl, hd, hn, hb, q⟩
  refine ⟨rfl, ?_⟩
  unfold r_need_each_lot
  unfold sFor
  (try dsimp only [gN, gN2, sNil, sSeq, sExp, sRet, sIf, sPass, sCont, sBrk, sSet, sSetO, sApp, sAppF, sApPop, flatD, sFrz, sAug, sRaise, sAsg, sPut, eV, eC, e1, e2, t2, tBl, tTru, tN, tAn, tOo, tCh, eNot, eAn, eOo, eIf, eTup, eLst, eF, eFld, eIs, eIxO, eLenO, eSl, eRev, eB, eCall, eCallG, eMeth, aN, aC, aV, oNo, oPt, eIsO, oSrtI, oSrtT, oLt, oLe, oReprB, oInI, gN3, eCh, oGt, oGe, oI, oIC, oI1, oAdd, oMul, oEq, oIsN, oIx, oLen, oList, oTuple, oAbs, oMin2, oInt1, fLst, fListRg1, fList, fRep, fCat, tYs, tru, isS, dats, seqD, seqO, tyS, List.set, List.getElem?_cons_zero, List.getElem?_cons_succ, List.append_eq, List.nil_append, List.cons_append, Option.map_some, Option.bind_some, ng, wipeD, List.length_cons, List.length_nil, Nat.reduceAdd, Nat.reduceSub, List.replicate_succ, List.replicate_zero]; try simp only [decide_eq_true_eq, Bool.not_eq_true', decide_eq_false_iff_not, Bool.false_eq_true, if_false, if_true, reduceIte, String.reduceBEq, Bool.true_or, Bool.false_or, Bool.or_false, Bool.and_false, Bool.false_and, Bool.and_true, Bool.true_and, Bool.not_true, Bool.not_false, ne_eq, not_true_eq_false, reduceCtorEq, Bool.true_eq_false, decide_true, decide_false])
  refine iEnV rfl hd ?_
  refine ⟨fun i ρ => ∃ a b, ρ = [.dat d, .dat (.int (n : Int)), a, b], ⟨_, _, rfl⟩, ?_, ?_⟩
  · rintro i x ρ hx ⟨a, b, rfl⟩
    obtain ⟨y, hy, rfl⟩ := enD_get hx
    obtain ⟨l, hl, rfl⟩ := lotM_get hy
    (try dsimp only [gN, gN2, sNil, sSeq, sExp, sRet, sIf, sPass, sCont, sBrk, sSet, sSetO, sApp, sAppF, sApPop, flatD, sFrz, sAug, sRaise, sAsg, sPut, eV, eC, e1, e2, t2, tBl, tTru, tN, tAn, tOo, tCh, eNot, eAn, eOo, eIf, eTup, eLst, eF, eFld, eIs, eIxO, eLenO, eSl, eRev, eB, eCall, eCallG, eMeth, aN, aC, aV, oNo, oPt, eIsO, oSrtI, oSrtT, oLt, oLe, oReprB, oInI, gN3, eCh, oGt, oGe, oI, oIC, oI1, oAdd, oMul, oEq, oIsN, oIx, oLen, oList, oTuple, oAbs, oMin2, oInt1, fLst, fListRg1, fList, fRep, fCat, tYs, tru, isS, dats, seqD, seqO, tyS, List.set, List.getElem?_cons_zero, List.getElem?_cons_succ, List.append_eq, List.nil_append, List.cons_append, Option.map_some, Option.bind_some, ng, wipeD, List.length_cons, List.length_nil, Nat.reduceAdd, Nat.reduceSub, List.replicate_succ, List.replicate_zero]; try simp only [decide_eq_true_eq, Bool.not_eq_true', decide_eq_false_iff_not, Bool.false_eq_true, if_false, if_true, reduceIte, String.reduceBEq, Bool.true_or, Bool.false_or, Bool.or_false, Bool.and_false, Bool.false_and, Bool.and_true, Bool.true_and, Bool.not_true, Bool.not_false, ne_eq, not_true_eq_false, reduceCtorEq, Bool.true_eq_false, decide_true, decide_false])
    refine ⟨_, n, rfl, noO_lotM l, hn, ?_⟩
    rw [lot_ok (hb l (List.mem_of_getElem? hl))]
    (try dsimp only [gN, gN2, sNil, sSeq, sExp, sRet, sIf, sPass, sCont, sBrk, sSet, sSetO, sApp, sAppF, sApPop, flatD, sFrz, sAug, sRaise, sAsg, sPut, eV, eC, e1, e2, t2, tBl, tTru, tN, tAn, tOo, tCh, eNot, eAn, eOo, eIf, eTup, eLst, eF, eFld, eIs, eIxO, eLenO, eSl, eRev, eB, eCall, eCallG, eMeth, aN, aC, aV, oNo, oPt, eIsO, oSrtI, oSrtT, oLt, oLe, oReprB, oInI, gN3, eCh, oGt, oGe, oI, oIC, oI1, oAdd, oMul, oEq, oIsN, oIx, oLen, oList, oTuple, oAbs, oMin2, oInt1, fLst, fListRg1, fList, fRep, fCat, tYs, tru, isS, dats, seqD, seqO, tyS, List.set, List.getElem?_cons_zero, List.getElem?_cons_succ, List.append_eq, List.nil_append, List.cons_append, Option.map_some, Option.bind_some, ng, wipeD, List.length_cons, List.length_nil, Nat.reduceAdd, Nat.reduceSub, List.replicate_succ, List.replicate_zero]; try simp only [decide_eq_true_eq, Bool.not_eq_true', decide_eq_false_iff_not, Bool.false_eq_true, if_false, if_true, reduceIte, String.reduceBEq, Bool.true_or, Bool.false_or, Bool.or_false, Bool.and_false, Bool.false_and, Bool.and_true, Bool.true_and, Bool.not_true, Bool.not_false, ne_eq, not_true_eq_false, reduceCtorEq, Bool.true_eq_false, decide_true, decide_false])
    exact ⟨_, _, rfl⟩
  · rintro ρ ⟨a, b, rfl⟩
    (try dsimp only [gN, gN2, sNil, sSeq, sExp, sRet, sIf, sPass, sCont, sBrk, sSet, sSetO, sApp, sAppF, sApPop, flatD, sFrz, sAug, sRaise, sAsg, sPut, eV, eC, e1, e2, t2, tBl, tTru, tN, tAn, tOo, tCh, eNot, eAn, eOo, eIf, eTup, eLst, eF, eFld, eIs, eIxO, eLenO, eSl, eRev, eB, eCall, eCallG, eMeth, aN, aC, aV, oNo, oPt, eIsO, oSrtI, oSrtT, oLt, oLe, oReprB, oInI, gN3, eCh, oGt, oGe, oI, oIC, oI1, oAdd, oMul, oEq, oIsN, oIx, oLen, oList, oTuple, oAbs, oMin2, oInt1, fLst, fListRg1, fList, fRep, fCat, tYs, tru, isS, dats, seqD, seqO, tyS, List.set, List.getElem?_cons_zero, List.getElem?_cons_succ, List.append_eq, List.nil_append, List.cons_append, Option.map_some, Option.bind_some, ng, wipeD, List.length_cons, List.length_nil, Nat.reduceAdd, Nat.reduceSub, List.replicate_succ, List.replicate_zero]; try simp only [decide_eq_true_eq, Bool.not_eq_true', decide_eq_false_iff_not, Bool.false_eq_true, if_false, if_true, reduceIte, String.reduceBEq, Bool.true_or, Bool.false_or, Bool.or_false, Bool.and_false, Bool.false_and, Bool.and_true, Bool.true_and, Bool.not_true, Bool.not_false, ne_eq, not_true_eq_false, reduceCtorEq, Bool.true_eq_false, decide_true, decide_false])
    exact q
theorem sem_need_lots : ∀ as Qd Xd, d_need_lots as Qd Xd → as.length = ["value", "size", "most"].length ∧ r_need_lots { nx := fun _ => Qd .non, rt := Qd } (as ++ List.replicate (["value", "size", "most"].length - as.length) .un) (fun _ => Xd) := by
  rintro as Qd Xd ⟨ls, n, k, rfl, hn, hk, hb, q⟩
  refine ⟨rfl, ?_⟩
  unfold r_need_lots
  (try dsimp only [gN, gN2, sNil, sSeq, sExp, sRet, sIf, sPass, sCont, sBrk, sSet, sSetO, sApp, sAppF, sApPop, flatD, sFrz, sAug, sRaise, sAsg, sPut, eV, eC, e1, e2, t2, tBl, tTru, tN, tAn, tOo, tCh, eNot, eAn, eOo, eIf, eTup, eLst, eF, eFld, eIs, eIxO, eLenO, eSl, eRev, eB, eCall, eCallG, eMeth, aN, aC, aV, oNo, oPt, eIsO, oSrtI, oSrtT, oLt, oLe, oReprB, oInI, gN3, eCh, oGt, oGe, oI, oIC, oI1, oAdd, oMul, oEq, oIsN, oIx, oLen, oList, oTuple, oAbs, oMin2, oInt1, fLst, fListRg1, fList, fRep, fCat, tYs, tru, isS, dats, seqD, seqO, tyS, List.set, List.getElem?_cons_zero, List.getElem?_cons_succ, List.append_eq, List.nil_append, List.cons_append, Option.map_some, Option.bind_some, ng, wipeD, List.length_cons, List.length_nil, Nat.reduceAdd, Nat.reduceSub, List.replicate_succ, List.replicate_zero]; try simp only [decide_eq_true_eq, Bool.not_eq_true', decide_eq_false_iff_not, Bool.false_eq_true, if_false, if_true, reduceIte, String.reduceBEq, Bool.true_or, Bool.false_or, Bool.or_false, Bool.and_false, Bool.false_and, Bool.and_true, Bool.true_and, Bool.not_true, Bool.not_false, ne_eq, not_true_eq_false, reduceCtorEq, Bool.true_eq_false, decide_true, decide_false])
  rw [if_neg (by rw [List.length_map]; omega)]
  exact ⟨_, ls, n, rfl, rfl, hn, hb, q⟩
theorem sem_need_book_size : ∀ as Qd Xd, d_need_book_size as Qd Xd → as.length = ["size"].length ∧ r_need_book_size { nx := fun _ => Qd .non, rt := Qd } (as ++ List.replicate (["size"].length - as.length) .un) (fun _ => Xd) := by
  rintro as Qd Xd ⟨n, rfl, h1, h2, q⟩
  refine ⟨rfl, ?_⟩
  unfold r_need_book_size
  (try dsimp only [gN, gN2, sNil, sSeq, sExp, sRet, sIf, sPass, sCont, sBrk, sSet, sSetO, sApp, sAppF, sApPop, flatD, sFrz, sAug, sRaise, sAsg, sPut, eV, eC, e1, e2, t2, tBl, tTru, tN, tAn, tOo, tCh, eNot, eAn, eOo, eIf, eTup, eLst, eF, eFld, eIs, eIxO, eLenO, eSl, eRev, eB, eCall, eCallG, eMeth, aN, aC, aV, oNo, oPt, eIsO, oSrtI, oSrtT, oLt, oLe, oReprB, oInI, gN3, eCh, oGt, oGe, oI, oIC, oI1, oAdd, oMul, oEq, oIsN, oIx, oLen, oList, oTuple, oAbs, oMin2, oInt1, fLst, fListRg1, fList, fRep, fCat, tYs, tru, isS, dats, seqD, seqO, tyS, List.set, List.getElem?_cons_zero, List.getElem?_cons_succ, List.append_eq, List.nil_append, List.cons_append, Option.map_some, Option.bind_some, ng, wipeD, List.length_cons, List.length_nil, Nat.reduceAdd, Nat.reduceSub, List.replicate_succ, List.replicate_zero]; try simp only [decide_eq_true_eq, Bool.not_eq_true', decide_eq_false_iff_not, Bool.false_eq_true, if_false, if_true, reduceIte, String.reduceBEq, Bool.true_or, Bool.false_or, Bool.or_false, Bool.and_false, Bool.false_and, Bool.and_true, Bool.true_and, Bool.not_true, Bool.not_false, ne_eq, not_true_eq_false, reduceCtorEq, Bool.true_eq_false, decide_true, decide_false])
  refine ⟨_, 1, 24, rfl, rfl, ?_⟩
  rw [btw_yes (by omega) (by omega)]
  (try dsimp only [gN, gN2, sNil, sSeq, sExp, sRet, sIf, sPass, sCont, sBrk, sSet, sSetO, sApp, sAppF, sApPop, flatD, sFrz, sAug, sRaise, sAsg, sPut, eV, eC, e1, e2, t2, tBl, tTru, tN, tAn, tOo, tCh, eNot, eAn, eOo, eIf, eTup, eLst, eF, eFld, eIs, eIxO, eLenO, eSl, eRev, eB, eCall, eCallG, eMeth, aN, aC, aV, oNo, oPt, eIsO, oSrtI, oSrtT, oLt, oLe, oReprB, oInI, gN3, eCh, oGt, oGe, oI, oIC, oI1, oAdd, oMul, oEq, oIsN, oIx, oLen, oList, oTuple, oAbs, oMin2, oInt1, fLst, fListRg1, fList, fRep, fCat, tYs, tru, isS, dats, seqD, seqO, tyS, List.set, List.getElem?_cons_zero, List.getElem?_cons_succ, List.append_eq, List.nil_append, List.cons_append, Option.map_some, Option.bind_some, ng, wipeD, List.length_cons, List.length_nil, Nat.reduceAdd, Nat.reduceSub, List.replicate_succ, List.replicate_zero]; try simp only [decide_eq_true_eq, Bool.not_eq_true', decide_eq_false_iff_not, Bool.false_eq_true, if_false, if_true, reduceIte, String.reduceBEq, Bool.true_or, Bool.false_or, Bool.or_false, Bool.and_false, Bool.false_and, Bool.and_true, Bool.true_and, Bool.not_true, Bool.not_false, ne_eq, not_true_eq_false, reduceCtorEq, Bool.true_eq_false, decide_true, decide_false])
  exact q
/-! ### see, hide, knows -/
end DL

set_option Elab.async false
set_option linter.all false
set_option maxRecDepth 100000
set_option maxHeartbeats 4000000
set_option exponentiation.threshold 2000
namespace DL
open PySem PySem.Spec PyProof.Rows L2 BT
/-- [f(x) for x in numbers], any f -/
theorem lcMapX {fi : DI} {vs : List Nat} {i : Nat} {te : DE} {ρ : List Sl} {Q : List D → Prop} {Ed : DXt} (rs : List Nat) (f : Nat → D) (hf : ∀ R : List D → Prop, R (natX rs) → fi ρ R Ed) (hl : rs.length ≤ 1000000)
    (hs : ∀ r ∈ rs, ∀ Q' : D → Prop, Q' (f r) → te ((wipeD ρ vs).set i (.dat (.int (r : Int)))) Q' X0) (q : Q (rs.map f)) : fLc fi vs i tYs te ρ Q Ed := by
  refine lcMap (natX rs) (fun x => match x with | .int i => f i.toNat | y => y) hf (by rw [natX_len]; exact hl) (fun x hx Q' q => ?_) (by
    unfold natX
    rw [List.map_map]
    exact q)
  obtain ⟨r, hr, rfl⟩ := List.mem_map.mp hx
  exact hs r hr Q' q
end DL

set_option Elab.async false
set_option linter.all false
set_option maxRecDepth 100000
set_option maxHeartbeats 4000000
set_option exponentiation.threshold 2000
namespace DL
open PySem PySem.Spec PyProof.Rows L2 BT
end DL

set_option Elab.async false
set_option linter.all false
set_option maxRecDepth 100000
set_option maxHeartbeats 4000000
set_option exponentiation.threshold 2000
namespace DL
open PySem PySem.Spec PyProof.Rows L2 BT
/-! ### sums and parities of rows -/
theorem pow_leM {n k : Nat} (h : n ≤ k) : 2 ^ n ≤ 2 ^ k := Nat.pow_le_pow_right (by decide) h
theorem pop_xor_add : ∀ (k a b : Nat), a < 2 ^ k → b < 2 ^ k → (pop (a ^^^ b) + 2 * pop (a &&& b)) = pop a + pop b
  | 0, a, b, ha, hb => by
    have : a = 0 := by omega
    have : b = 0 := by omega
    subst a b; rfl
  | k + 1, a, b, ha, hb => by
    rw [pop_step (a ^^^ b), pop_step (a &&& b), pop_step a, pop_step b]
    have ih := pop_xor_add k (a / 2) (b / 2) (by omega) (by omega)
    have e1 : (a ^^^ b) / 2 = a / 2 ^^^ b / 2 := by
      have := Nat.xor_div_two_pow (a := a) (b := b) (n := 1)
      simpa using this
    have e2 : (a &&& b) / 2 = a / 2 &&& b / 2 := by
      have := Nat.and_div_two_pow (a := a) (b := b) (n := 1)
      simpa using this
    have e3 : (a ^^^ b) % 2 = (a % 2 + b % 2) % 2 := by
      have h : (a ^^^ b) % 2 = a % 2 ^^^ b % 2 := by
        have := Nat.xor_mod_two_pow (a := a) (b := b) (n := 1)
        simpa using this
      rw [h]
      rcases Nat.mod_two_eq_zero_or_one a with h1 | h1 <;> rcases Nat.mod_two_eq_zero_or_one b with h2 | h2 <;> rw [h1, h2] <;> rfl
    have e4 : (a &&& b) % 2 = (a % 2) * (b % 2) := by
      have h : (a &&& b) % 2 = a % 2 &&& b % 2 := by
        have := Nat.and_mod_two_pow (a := a) (b := b) (n := 1)
        simpa using this
      rw [h]
      rcases Nat.mod_two_eq_zero_or_one a with h1 | h1 <;> rcases Nat.mod_two_eq_zero_or_one b with h2 | h2 <;> rw [h1, h2] <;> rfl
    rw [e1, e2, e3, e4]
    rcases Nat.mod_two_eq_zero_or_one a with h1 | h1 <;> rcases Nat.mod_two_eq_zero_or_one b with h2 | h2 <;> rw [h1, h2] <;> omega
theorem pop_xor2 (a b : Nat) : pop (a ^^^ b) % 2 = (pop a + pop b) % 2 := by
  have h1 : a < 2 ^ (a + b + 1) := Nat.lt_of_lt_of_le Nat.lt_two_pow_self (pow_leM (by omega))
  have h2 : b < 2 ^ (a + b + 1) := Nat.lt_of_lt_of_le Nat.lt_two_pow_self (pow_leM (by omega))
  have := pop_xor_add _ a b h1 h2
  omega
def par (m : Nat) : Bool := decide (pop m % 2 = 1)
theorem par_zero : par 0 = false := rfl
theorem par_xor (a b : Nat) : par (a ^^^ b) = (par a ^^ par b) := by
  unfold par
  have := pop_xor2 a b
  by_cases h1 : pop a % 2 = 1 <;> by_cases h2 : pop b % 2 = 1
  · rw [decide_eq_true h1, decide_eq_true h2, decide_eq_false (by omega)]; rfl
  · rw [decide_eq_true h1, decide_eq_false h2, decide_eq_true (by omega)]; rfl
  · rw [decide_eq_false h1, decide_eq_true h2, decide_eq_true (by omega)]; rfl
  · rw [decide_eq_false h1, decide_eq_false h2, decide_eq_false (by omega)]; rfl
theorem par_andx (x a b : Nat) : par (x &&& (a ^^^ b)) = (par (x &&& a) ^^ par (x &&& b)) := by rw [Nat.and_xor_distrib_left, par_xor]
theorem par_xand (x a b : Nat) : par ((a ^^^ b) &&& x) = (par (a &&& x) ^^ par (b &&& x)) := by rw [Nat.and_xor_distrib_right, par_xor]
theorem pop_pow (k : Nat) : pop (2 ^ k) = 1 := by
  unfold pop
  have e : lotN (2 ^ k) = [k] := by
    have : maskN [k] = 2 ^ k := by show 0 ||| 2 ^ k = 2 ^ k; exact Nat.zero_or _
    rw [← this]
    exact lotN_maskN (List.pairwise_singleton ..)
  rw [e]; rfl
theorem and_pow (m k : Nat) : m &&& 2 ^ k = if m.testBit k = true then 2 ^ k else 0 := by
  refine Nat.eq_of_testBit_eq fun i => ?_
  rw [Nat.testBit_and, Nat.testBit_two_pow]
  by_cases h : k = i
  · subst h
    cases q : m.testBit k <;> simp
  · rw [decide_eq_false h, Bool.and_false]
    split
    · rw [Nat.testBit_two_pow, decide_eq_false h]
    · rw [Nat.zero_testBit]
theorem par_pow (m k : Nat) : par (m &&& 2 ^ k) = m.testBit k := by
  rw [and_pow]
  cases m.testBit k with
  | true => rw [if_pos rfl]; unfold par; rw [pop_pow]; rfl
  | false => rfl
theorem par_true {m : Nat} : par m = true ↔ pop m % 2 = 1 := decide_eq_true_iff
theorem par_false {m : Nat} : par m = false ↔ pop m % 2 = 0 := by
  unfold par
  rw [decide_eq_false_iff_not]
  omega
theorem close_even {rs : List Nat} {w : Nat} (h : ∀ r ∈ rs, par (r &&& w) = false) : ∀ z ∈ closeF rs, par (z &&& w) = false :=
  close_ind (S := fun z => par (z &&& w) = false) (by rw [Nat.zero_and]; rfl) (fun a b ha hb => by rw [par_xand, ha, hb]; rfl) h
theorem close_zeroAnd {rs : List Nat} {p : Nat} (h : ∀ r ∈ rs, r &&& p = 0) : ∀ z ∈ closeF rs, z &&& p = 0 :=
  close_ind (S := fun z => z &&& p = 0) (Nat.zero_and _) (fun a b ha hb => by rw [Nat.and_xor_distrib_right, ha, hb]; rfl) h
/-! ### what a sweep tells -/
theorem sweep_hid (p : Int) (ms : List Nat) : ∀ h ∈ (sweepF p ms).2, andN h p = 0 := by
  refine snoc_ind (P := fun ms => ∀ h ∈ (sweepF p ms).2, andN h p = 0) (fun h hh => (nomatch hh)) (fun ms m ih h hh => ?_) ms
  rw [sweepF_snoc] at hh
  unfold sweepStep at hh
  split at hh
  · exact ih h hh
  · rename_i c
    rcases List.mem_append.mp hh with hh | hh
    · exact ih h hh
    · rw [List.mem_singleton.mp hh]
      exact Classical.byContradiction fun q => c (low_ne q)
theorem sweep_span (p : Int) (ms : List Nat) : ∀ w, w ∈ closeF ((sweepF p ms).1 ++ (sweepF p ms).2) ↔ w ∈ closeF ms := by
  refine snoc_ind (P := fun ms => ∀ w, w ∈ closeF ((sweepF p ms).1 ++ (sweepF p ms).2) ↔ w ∈ closeF ms) (fun w => Iff.rfl) (fun ms m ih => ?_) ms
  rw [sweepF_snoc]
  have hc := cleared_span p (sweepF p ms).1 m
  unfold sweepStep
  generalize hr : clearedF p m (sweepF p ms).1 = rest at hc
  generalize hS : (sweepF p ms).1 = S at *
  generalize hH : (sweepF p ms).2 = Hd at *
  have memM : m ∈ closeF (ms ++ [m]) := closeF_mem _ (List.mem_append_right _ (List.mem_singleton.mpr rfl))
  have old : ∀ r, r ∈ closeF (S ++ Hd) → r ∈ closeF (ms ++ [m]) := fun r h => close_app _ _ ((ih r).mp h)
  have memR : rest ∈ closeF (ms ++ [m]) := by
    have := close_xor memM (old _ (close_app Hd _ hc))
    rwa [← Nat.xor_assoc, Nat.xor_self, Nat.zero_xor] at this
  have oldS : ∀ r ∈ S, r ∈ closeF (ms ++ [m]) := fun r h => old r (closeF_mem _ (List.mem_append_left _ h))
  have oldH : ∀ r ∈ Hd, r ∈ closeF (ms ++ [m]) := fun r h => old r (closeF_mem _ (List.mem_append_right _ h))
  have fin : ∀ N : List Nat, (∀ t ∈ N, t ∈ closeF (ms ++ [m])) → (∀ r ∈ S, r ∈ closeF N) → (∀ r ∈ Hd, r ∈ closeF N) → rest ∈ closeF N → ∀ w, w ∈ closeF N ↔ w ∈ closeF (ms ++ [m]) := fun N h1 h2 h3 h4 w => by
    have all : ∀ w ∈ closeF (S ++ Hd), w ∈ closeF N := closeF_into fun t ht => (List.mem_append.mp ht).elim (h2 t) (h3 t)
    have allS : ∀ w ∈ closeF S, w ∈ closeF N := closeF_into h2
    refine closeF_same h1 (fun r hr => ?_) w
    rcases List.mem_append.mp hr with h | h
    · exact all _ ((ih r).mpr (closeF_mem _ h))
    · rw [List.mem_singleton.mp h]
      have z := close_xor (allS _ hc) h4
      rwa [xx] at z
  split
  · dsimp only
    refine fin _ (fun t ht => ?_) (fun r h => ?_) (fun r h => closeF_mem _ (List.mem_append_right _ h)) (closeF_mem _ (List.mem_append_left _ (List.mem_append_right _ (List.mem_singleton.mpr rfl))))
    · rcases List.mem_append.mp ht with ht | ht
      · rcases List.mem_append.mp ht with h | h
        · obtain ⟨r, h1, rfl⟩ := List.mem_map.mp h
          split
          · exact close_xor (oldS r h1) memR
          · exact oldS r h1
        · rw [List.mem_singleton.mp h]; exact memR
      · exact oldH t ht
    · have hrest : rest ∈ closeF (S.map (fun row => if row &&& lowN (andN rest p) ≠ 0 then row ^^^ rest else row) ++ [rest] ++ Hd) := closeF_mem _ (List.mem_append_left _ (List.mem_append_right _ (List.mem_singleton.mpr rfl)))
      have q := closeF_mem (rs := S.map (fun row => if row &&& lowN (andN rest p) ≠ 0 then row ^^^ rest else row) ++ [rest] ++ Hd) _ (List.mem_append_left _ (List.mem_append_left _ (List.mem_map.mpr ⟨r, h, rfl⟩)))
      try dsimp only at q
      split at q
      · have z := close_xor q hrest
        rwa [xx] at z
      · exact q
  · dsimp only
    refine fin _ (fun t ht => ?_) (fun r h => closeF_mem _ (List.mem_append_left _ h)) (fun r h => closeF_mem _ (List.mem_append_right _ (List.mem_append_left _ h))) (closeF_mem _ (List.mem_append_right _ (List.mem_append_right _ (List.mem_singleton.mpr rfl))))
    rcases List.mem_append.mp ht with h | h
    · exact oldS t h
    · rcases List.mem_append.mp h with h | h
      · exact oldH t h
      · rw [List.mem_singleton.mp h]; exact memR
/-- the first place of a row in the part -/
def keyP (p r : Nat) : Nat := Nat.log2 (lowN (r &&& p))
structure ASP (p : Nat) (ms : List Nat) : Prop where
  nd : ms.Nodup
  low : ∀ r ∈ ms, lowN (r &&& p) = 2 ^ keyP p r
  bit : ∀ r ∈ ms, p.testBit (keyP p r) = true
  one : ∀ r ∈ ms, ∀ s ∈ ms, (s.testBit (keyP p r) = true ↔ s = r)
theorem asp_of {p : Nat} {ms : List Nat} (A : Alone (p : Int) ms) : ASP p ms := by
  obtain ⟨ks, hl, h⟩ := A
  have get : ∀ {i : Nat} (hi : i < ms.length), lowN (ms[i] &&& p) = 2 ^ keyP p ms[i] ∧ ∀ (j : Nat) (s : Nat), ms[j]? = some s → (s.testBit (keyP p ms[i]) = true ↔ j = i) := fun {i} hi => by
    obtain ⟨a, b⟩ := h i _ ks[i] (List.getElem?_eq_getElem hi) (List.getElem?_eq_getElem (by omega))
    rw [andN_nat] at a
    have e : keyP p ms[i] = ks[i] := by unfold keyP; rw [a, Nat.log2_two_pow]
    rw [e]
    exact ⟨a, b⟩
  refine ⟨?_, ?_, ?_, ?_⟩
  · refine List.nodup_iff_pairwise_ne.mpr (List.pairwise_iff_getElem.mpr fun i j hi hj hij e => ?_)
    have q := (get hi).2 j _ (List.getElem?_eq_getElem hj)
    rw [← e] at q
    have := q.mp (((get hi).2 i _ (List.getElem?_eq_getElem hi)).mpr rfl)
    omega
  · intro r hr
    obtain ⟨i, hi, rfl⟩ := List.getElem_of_mem hr
    exact (get hi).1
  · intro r hr
    obtain ⟨i, hi, rfl⟩ := List.getElem_of_mem hr
    have q := (get hi).1
    have ne : ms[i] &&& p ≠ 0 := fun e => by
      rw [e, lowN_zero] at q
      have := Nat.two_pow_pos (keyP p ms[i])
      omega
    obtain ⟨k, e1, t, _⟩ := low_spec _ ne
    rw [two_pow_inj (q.symm.trans e1)]
    rw [Nat.testBit_and, Bool.and_eq_true] at t
    exact t.2
  · intro r hr s hs
    obtain ⟨i, hi, rfl⟩ := List.getElem_of_mem hr
    obtain ⟨j, hj, rfl⟩ := List.getElem_of_mem hs
    have q := (get hi).2
    constructor
    · intro z
      have := (q j _ (List.getElem?_eq_getElem hj)).mp z
      subst this; rfl
    · intro e
      rw [e]
      exact (q i _ (List.getElem?_eq_getElem hi)).mpr rfl
theorem ASP.init {p : Nat} {ms : List Nat} {m : Nat} (h : ASP p (ms ++ [m])) : ASP p ms := ⟨(List.nodup_append.mp h.nd).1, fun r hr => h.low r (List.mem_append_left _ hr), fun r hr => h.bit r (List.mem_append_left _ hr), fun r hr s hs => h.one r (List.mem_append_left _ hr) s (List.mem_append_left _ hs)⟩
theorem ASP.last {p : Nat} {ms : List Nat} {m : Nat} (h : ASP p (ms ++ [m])) : m.testBit (keyP p m) = true ∧ ∀ z ∈ closeF ms, z.testBit (keyP p m) = false := by
  have hm : m ∈ ms ++ [m] := List.mem_append_right _ (List.mem_singleton.mpr rfl)
  refine ⟨(h.one m hm m hm).mpr rfl, close_ind (S := fun z => z.testBit (keyP p m) = false) (Nat.zero_testBit _) (fun a b ha hb => by rw [Nat.testBit_xor, ha, hb]; rfl) fun r hr => ?_⟩
  cases q : r.testBit (keyP p m) with
  | false => rfl
  | true =>
    have e := (h.one m hm r (List.mem_append_left _ hr)).mp q
    exact absurd e ((List.nodup_append.mp h.nd).2.2 r hr m (List.mem_singleton.mpr rfl))
theorem asp_zero {p : Nat} {ms : List Nat} : ASP p ms → ∀ w ∈ closeF ms, (∀ r ∈ ms, w.testBit (keyP p r) = false) → w = 0 := by
  refine snoc_ind (P := fun ms => ASP p ms → ∀ w ∈ closeF ms, (∀ r ∈ ms, w.testBit (keyP p r) = false) → w = 0) ?_ (fun ms m ih A w hw hb => ?_) ms
  · intro _ w hw _
    have : closeF [] = [0] := rfl
    rw [this] at hw
    exact List.mem_singleton.mp hw
  · rcases close_snoc hw with h | ⟨z, hz, rfl⟩
    · exact ih A.init w h fun r hr => hb r (List.mem_append_left _ hr)
    · have q := hb m (List.mem_append_right _ (List.mem_singleton.mpr rfl))
      rw [Nat.testBit_xor, A.last.1, A.last.2 z hz] at q
      cases q
theorem close_split {a : List Nat} : ∀ (b : List Nat) (w : Nat), w ∈ closeF (a ++ b) → ∃ x ∈ closeF a, ∃ y ∈ closeF b, w = x ^^^ y := by
  refine snoc_ind (P := fun b => ∀ w, w ∈ closeF (a ++ b) → ∃ x ∈ closeF a, ∃ y ∈ closeF b, w = x ^^^ y) (fun w h => ?_) (fun b m ih w h => ?_)
  · rw [List.append_nil] at h
    exact ⟨w, h, 0, close_zero _, by rw [Nat.xor_zero]⟩
  · rw [← List.append_assoc] at h
    rcases close_snoc h with h | ⟨z, hz, rfl⟩
    · obtain ⟨x, hx, y, hy, e⟩ := ih w h
      exact ⟨x, hx, y, close_app _ _ hy, e⟩
    · obtain ⟨x, hx, y, hy, e⟩ := ih z hz
      refine ⟨x, hx, m ^^^ y, close_xor (closeF_mem _ (List.mem_append_right _ (List.mem_singleton.mpr rfl))) (close_app _ _ hy), ?_⟩
      rw [e, ← Nat.xor_assoc, ← Nat.xor_assoc, Nat.xor_comm m x]
theorem hid_zero {p : Nat} {ms : List Nat} {h : Nat} (hh : h ∈ (sweepF (p : Int) ms).2) : h &&& p = 0 := by
  have := sweep_hid p ms h hh
  rwa [andN_nat] at this
theorem hid_mem (p : Nat) (ms : List Nat) (w : Nat) : w ∈ closeF (sweepF (p : Int) ms).2 ↔ w ∈ closeF ms ∧ w &&& p = 0 := by
  constructor
  · intro h
    refine ⟨closeF_into (fun t ht => (sweep_span p ms t).mp (closeF_mem _ (List.mem_append_right _ ht))) w h, close_zeroAnd (fun r hr => hid_zero hr) w h⟩
  · rintro ⟨h, hz⟩
    obtain ⟨x, hx, y, hy, e⟩ := close_split _ w ((sweep_span p ms w).mpr h)
    have yz := close_zeroAnd (fun r hr => hid_zero hr) y hy
    have A := asp_of (sweep_alone (p : Int) ms)
    have x0 : x = 0 := asp_zero A x hx fun r hr => by
      have xz : x &&& p = 0 := by
        rw [e, Nat.and_xor_distrib_right, yz, Nat.xor_zero] at hz
        exact hz
      have q := congrArg (fun z => z.testBit (keyP p r)) xz
      simp only [Nat.testBit_and, A.bit r hr, Bool.and_true, Nat.zero_testBit] at q
      exact q
    rw [e, x0, Nat.zero_xor]
    exact hy
/-! ### how many -/
theorem close_same_len {a b : List Nat} (h : ∀ w, w ∈ closeF a ↔ w ∈ closeF b) : (closeF a).length = (closeF b).length := ((List.perm_ext_iff_of_nodup (closeF_nodup a).1 (closeF_nodup b).1).mpr h).length_eq
theorem close_app_len {a : List Nat} : ∀ b : List Nat, (closeF (a ++ b)).length ≤ (closeF a).length * 2 ^ b.length := by
  refine snoc_ind (P := fun b => (closeF (a ++ b)).length ≤ (closeF a).length * 2 ^ b.length) (by simp) (fun b m ih => ?_)
  rw [← List.append_assoc, closeF_snoc, List.length_append, List.length_singleton, Nat.pow_succ]
  have e : (closeF a).length * (2 ^ b.length * 2) = (closeF a).length * 2 ^ b.length + (closeF a).length * 2 ^ b.length := by
    rw [← Nat.mul_assoc]; omega
  rw [e]
  split
  · omega
  · rw [List.length_append, List.length_map]; omega
theorem close_le (b : List Nat) : (closeF b).length ≤ 2 ^ b.length := by
  have := close_app_len (a := []) b
  have e : (closeF []).length = 1 := rfl
  rw [e, Nat.one_mul, List.nil_append] at this
  exact this
/-- free rows -/
def Ind (l : List Nat) : Prop := (closeF l).length = 2 ^ l.length
theorem ind_reduce (rs : List Nat) : Ind (reduceF rs) := by
  unfold Ind
  rw [close_same_len (reduce_close rs), close_len]
theorem Ind.right {a b : List Nat} (h : Ind (a ++ b)) : Ind b := by
  unfold Ind at *
  have p : (closeF (a ++ b)).length = (closeF (b ++ a)).length := close_same_len (perm_close List.perm_append_comm)
  have h1 := close_app_len (a := b) a
  have h2 := close_le b
  rw [← p, h, List.length_append, Nat.pow_add, Nat.mul_comm] at h1
  exact Nat.le_antisymm h2 (Nat.le_of_mul_le_mul_right h1 (Nat.two_pow_pos _))
theorem sweep_ind {p : Int} {ms : List Nat} (h : Ind ms) : Ind ((sweepF p ms).1 ++ (sweepF p ms).2) := by
  unfold Ind at *
  rw [close_same_len (sweep_span p ms), h, List.length_append, sweepF_len]
theorem hid_ind {p : Int} {ms : List Nat} (h : Ind ms) : Ind (sweepF p ms).2 := (sweep_ind h).right
/-- what is hidden from a part -/
def hdF (ms : List Nat) (p : Nat) : Nat := (sweepF (p : Int) ms).2.length
theorem hd_pow {p : Nat} {ms : List Nat} (h : Ind ms) : (closeF (sweepF (p : Int) ms).2).length = 2 ^ hdF ms p := hid_ind h
theorem pow2_inj {a b : Nat} (h : 2 ^ a = 2 ^ b) : a = b := two_pow_inj h
theorem hd_eq {p q : Nat} {ms ns : List Nat} (h1 : Ind ms) (h2 : Ind ns) (h : ∀ w, (w ∈ closeF ms ∧ w &&& p = 0) ↔ (w ∈ closeF ns ∧ w &&& q = 0)) : hdF ms p = hdF ns q := by
  refine pow2_inj ?_
  rw [← hd_pow h1, ← hd_pow h2]
  exact close_same_len fun w => by rw [hid_mem, hid_mem]; exact h w
theorem and_or_pow {w p x : Nat} : w &&& (p ||| 2 ^ x) = 0 ↔ w &&& p = 0 ∧ w.testBit x = false := by
  rw [Nat.and_or_distrib_left, and_pow]
  constructor
  · intro h
    have h1 : w &&& p = 0 := by
      refine Nat.eq_of_testBit_eq fun i => ?_
      have q := congrArg (fun z => z.testBit i) h
      simp only [Nat.testBit_or, Nat.zero_testBit, Bool.or_eq_false_iff] at q
      rw [q.1, Nat.zero_testBit]
    refine ⟨h1, ?_⟩
    cases q : w.testBit x with
    | false => rfl
    | true =>
      rw [h1, q, if_pos rfl, Nat.zero_or] at h
      have := Nat.two_pow_pos x
      omega
  · rintro ⟨h1, h2⟩
    rw [h1, h2]; simp
theorem hd_sum {p x : Nat} {ms : List Nat} (h : Ind ms) (hs : ∀ w ∈ closeF ms, w &&& p = 0 → w.testBit x = false) : hdF ms (p ||| 2 ^ x) = hdF ms p :=
  hd_eq h h fun w => by
    rw [and_or_pow]
    exact ⟨fun q => ⟨q.1, q.2.1⟩, fun q => ⟨q.1, q.2, hs w q.1 q.2⟩⟩
theorem hd_twin {p x t : Nat} {ms : List Nat} (h : Ind ms) (ht : t ∈ closeF ms) (hp : t &&& p = 0) (hx : t.testBit x = true) : hdF ms p = hdF ms (p ||| 2 ^ x) + 1 := by
  refine pow2_inj ?_
  rw [← hd_pow h, Nat.pow_succ, ← hd_pow h]
  generalize hS : (sweepF ((p ||| 2 ^ x : Nat) : Int) ms).2 = S
  have memS : ∀ w, w ∈ closeF S ↔ w ∈ closeF ms ∧ w &&& p = 0 ∧ w.testBit x = false := fun w => by rw [← hS, hid_mem, and_or_pow]
  have tn : t ∉ closeF S := fun q => by
    have := ((memS t).mp q).2.2
    rw [hx] at this; cases this
  have e := closeF_snoc S t
  rw [if_neg tn] at e
  have el : (closeF (S ++ [t])).length = (closeF S).length * 2 := by rw [e, List.length_append, List.length_map]; omega
  rw [← el]
  refine close_same_len fun w => ?_
  rw [hid_mem]
  constructor
  · rintro ⟨h1, h2⟩
    cases q : w.testBit x with
    | false => exact close_app _ _ ((memS w).mpr ⟨h1, h2, q⟩)
    | true =>
      have z : w ^^^ t ∈ closeF (S ++ [t]) := close_app _ _ ((memS _).mpr ⟨close_xor h1 ht, by rw [Nat.and_xor_distrib_right, h2, hp]; rfl, by rw [Nat.testBit_xor, q, hx]; rfl⟩)
      have z2 := close_xor z (closeF_mem (rs := S ++ [t]) t (List.mem_append_right _ (List.mem_singleton.mpr rfl)))
      rwa [xx] at z2
  · intro hw
    refine close_ind (S := fun w => w ∈ closeF ms ∧ w &&& p = 0) ⟨close_zero _, Nat.zero_and _⟩ (fun a b ha hb => ⟨close_xor ha.1 hb.1, by rw [Nat.and_xor_distrib_right, ha.2, hb.2]; rfl⟩) (fun r hr => ?_) w hw
    rcases List.mem_append.mp hr with hr | hr
    · have := (memS r).mp (closeF_mem _ hr)
      exact ⟨this.1, this.2.1⟩
    · rw [List.mem_singleton.mp hr]; exact ⟨ht, hp⟩
/-! ### the two answers -/
/-! ### ranks -/
def rkF (l : List Nat) : Nat := (reduceF l).length
theorem rk_pow (l : List Nat) : (closeF l).length = 2 ^ rkF l := close_len l
theorem close_map {l : List Nat} {f : Nat → Nat} (hf : ∀ a b, f (a ^^^ b) = f a ^^^ f b) (w : Nat) : w ∈ closeF (l.map f) ↔ ∃ z ∈ closeF l, f z = w := by
  have f0 : f 0 = 0 := by have := hf 0 0; rwa [Nat.xor_self, Nat.xor_self] at this
  constructor
  · refine close_ind (S := fun w => ∃ z ∈ closeF l, f z = w) ⟨0, close_zero _, f0⟩ (fun a b ha hb => ?_) (fun r hr => ?_) w
    · obtain ⟨x, hx, rfl⟩ := ha
      obtain ⟨y, hy, rfl⟩ := hb
      exact ⟨_, close_xor hx hy, hf x y⟩
    · obtain ⟨x, hx, rfl⟩ := List.mem_map.mp hr
      exact ⟨x, closeF_mem _ hx, rfl⟩
  · rintro ⟨z, hz, rfl⟩
    refine close_ind (S := fun z => f z ∈ closeF (l.map f)) (by rw [f0]; exact close_zero _) (fun a b ha hb => by rw [hf]; exact close_xor ha hb) (fun r hr => closeF_mem _ (List.mem_map.mpr ⟨r, hr, rfl⟩)) z hz
theorem filt_or {f g h : Nat → Bool} (e : ∀ s, h s = (f s || g s)) (d : ∀ s, f s = true → g s = false) : ∀ S : List Nat, (S.filter h).length = (S.filter f).length + (S.filter g).length
  | [] => rfl
  | s :: S => by
    have ih := filt_or e d S
    rw [List.filter_cons, List.filter_cons, List.filter_cons, e s]
    cases q : f s with
    | true => rw [d s q]; simp only [Bool.true_or, if_true, List.length_cons, Bool.false_eq_true, if_false]; omega
    | false =>
      cases q2 : g s with
      | true => simp only [Bool.or_true, if_true, List.length_cons, Bool.false_eq_true, if_false]; omega
      | false => simp only [Bool.or_false, Bool.false_eq_true, if_false]; exact ih
theorem count_fib (S : List Nat) (f : Nat → Nat) (k : Nat) : ∀ I : List Nat, I.Nodup → (∀ i ∈ I, (S.filter fun s => decide (f s = i)).length = k) → (S.filter fun s => decide (f s ∈ I)).length = I.length * k
  | [], _, _ => by
    rw [List.length_nil, Nat.zero_mul, List.length_eq_zero_iff, List.filter_eq_nil_iff]
    intro a _; simp
  | i :: I, nd, h => by
    obtain ⟨n1, n2⟩ := List.nodup_cons.mp nd
    rw [filt_or (f := fun s => decide (f s = i)) (g := fun s => decide (f s ∈ I)) (fun s => by simp) (fun s hs => decide_eq_false fun q => n1 (by rw [← of_decide_eq_true hs]; exact q)) S, h i List.mem_cons_self, count_fib S f k I n2 fun j hj => h j (List.mem_cons_of_mem _ hj), List.length_cons, Nat.succ_mul]
    omega
theorem rank_nul {l : List Nat} {f : Nat → Nat} (hf : ∀ a b, f (a ^^^ b) = f a ^^^ f b) : (closeF l).length = (closeF (l.map f)).length * ((closeF l).filter fun w => decide (f w = 0)).length := by
  have key := count_fib (closeF l) f ((closeF l).filter fun w => decide (f w = 0)).length (closeF (l.map f)) (closeF_nodup _).1 (fun i hi => by
    obtain ⟨z, hz, rfl⟩ := (close_map hf i).mp hi
    have p : ((closeF l).filter fun s => decide (f s = f z)).Perm (((closeF l).filter fun w => decide (f w = 0)).map (· ^^^ z)) := by
      refine (List.perm_ext_iff_of_nodup ((closeF_nodup l).1.sublist (List.filter_sublist ..)) ?_).mpr fun w => ?_
      · rw [List.nodup_iff_pairwise_ne, List.pairwise_map]
        exact (List.nodup_iff_pairwise_ne.mp ((closeF_nodup l).1.sublist (List.filter_sublist ..))).imp fun hab e => hab (by
          have q := congrArg (fun t => t ^^^ z) e
          rwa [xx, xx] at q)
      · rw [List.mem_filter, List.mem_map]
        constructor
        · rintro ⟨h1, h2⟩
          refine ⟨w ^^^ z, List.mem_filter.mpr ⟨close_xor h1 hz, decide_eq_true ?_⟩, xx w z⟩
          rw [hf, of_decide_eq_true h2, Nat.xor_self]
        · rintro ⟨y, hy, rfl⟩
          obtain ⟨h1, h2⟩ := List.mem_filter.mp hy
          refine ⟨close_xor h1 hz, decide_eq_true ?_⟩
          rw [hf, of_decide_eq_true h2, Nat.zero_xor]
    rw [p.length_eq, List.length_map])
  rw [← key]
  congr 1
  exact (List.filter_eq_self.mpr fun a ha => decide_eq_true ((close_map hf (f a)).mpr ⟨a, ha, rfl⟩)).symm
end DL

set_option Elab.async false
set_option linter.all false
set_option maxRecDepth 100000
set_option maxHeartbeats 4000000
set_option exponentiation.threshold 2000
namespace DL
open PySem PySem.Spec PyProof.Rows L2 BT
def rx_law_is_integer : DS := (sRet (eAn (eIs "int" (eV 0)) (eNot (eIs "bool" (eV 0)))))
def rx_law_odd : DS := (sSeq (sSet 0 (e2 (oI fun i j => .int (Builtin.bitXor i j)) (eV 0) (e2 (oIC (fun _ j => 0 ≤ j) fun i j => .int (i / 2 ^ j.toNat)) (eV 0) (eC (.int 16)))))
  (sSeq (sSet 0 (e2 (oI fun i j => .int (Builtin.bitXor i j)) (eV 0) (e2 (oIC (fun _ j => 0 ≤ j) fun i j => .int (i / 2 ^ j.toNat)) (eV 0) (eC (.int 8)))))
  (sSeq (sSet 0 (e2 (oI fun i j => .int (Builtin.bitXor i j)) (eV 0) (e2 (oIC (fun _ j => 0 ≤ j) fun i j => .int (i / 2 ^ j.toNat)) (eV 0) (eC (.int 4)))))
  (sSeq (sSet 0 (e2 (oI fun i j => .int (Builtin.bitXor i j)) (eV 0) (e2 (oIC (fun _ j => 0 ≤ j) fun i j => .int (i / 2 ^ j.toNat)) (eV 0) (eC (.int 2)))))
  (sSeq (sSet 0 (e2 (oI fun i j => .int (Builtin.bitXor i j)) (eV 0) (e2 (oIC (fun _ j => 0 ≤ j) fun i j => .int (i / 2 ^ j.toNat)) (eV 0) (eC (.int 1)))))
  (sRet (e2 (oEq false) (e2 (oI fun i j => .int (Builtin.bitAnd i j)) (eV 0) (eC (.int 1))) (eC (.int 1)))))))))
def rx_law_lot : DS := (sRet (e1 oTuple (eF (fLc (iRg1 (aC (eC (.int 24)) aN)) [1] 1 (t2 (oEq false) (e2 (oI fun i j => .int (Builtin.bitAnd i j)) (e2 (oIC (fun _ j => 0 ≤ j) fun i j => .int (i / 2 ^ j.toNat)) (eV 0) (eV 1)) (eC (.int 1))) (eC (.int 1))) (eV 1)))))
def rx_law_mask : DS := (sRet (eB oSum (aC (eF (fLc (iSq (eV 0)) [1] 1 tYs (e2 (oIC CPow fun i j => .int (i * 2 ^ j.toNat)) (eC (.int 1)) (eV 1)))) aN)))
def rx_law_is_lot : DS := (sSeq (sIf (tN (tTru (eIs "tuple" (eV 0)))) (sRet (eC (.bl false))) sNil)
  (sSeq (sSet 2 (eC (.int 0)))
  (sSeq (sFor (iSq (eV 0)) (gN 3) (sSeq (sIf (tOo (tN (tTru (eCall dx_law_is_integer (aV 3 aN)))) (tOo (t2 oLt (eV 3) (eV 2)) (t2 oGe (eV 3) (eV 1)))) (sRet (eC (.bl false))) sNil)
  (sSet 2 (e2 oAdd (eV 3) (eC (.int 1))))))
  (sRet (eC (.bl true))))))
def rx_law_closure : DS := (sSeq (sSet 1 (eF (fLst (aC (eC (.int 0)) aN))))
  (sSeq (sFor (iSq (eV 0)) (gN 2) (sIf (t2 (oInI true) (eV 2) (eV 1)) (sSet 1 (e2 oAdd (eV 1) (eF (fLc (iSq (eV 1)) [3] 3 tYs (e2 (oI fun i j => .int (Builtin.bitXor i j)) (eV 3) (eV 2)))))) sNil))
  (sRet (eV 1))))
def rx_law_checks : DS := (sRet (eF (fLc (iRg1 (aC (e2 (oIC CPow fun i j => .int (i * 2 ^ j.toNat)) (eC (.int 1)) (eV 1)) aN)) [2] 2 (tN (tTru (eB oAny (aC (eF (fLc (iSq (eV 0)) [3] 3 tYs (eCall dx_law_odd (aC (e2 (oI fun i j => .int (Builtin.bitAnd i j)) (eV 3) (eV 2)) aN)))) aN)))) (eV 2))))
def rx_law_turned : DS := (sSeq (sSetO 2 (fLst aN))
  (sSeq (sSet 3 (eF (fLst (aC (eC (.int 0)) aN))))
  (sSeq (sFor (iSq (eCall dx_law_checks (aV 0 (aV 1 aN)))) (gN 4) (sIf (t2 (oInI true) (eV 4) (eV 3)) (sSeq (sApp 2 (eV 4))
  (sSet 3 (e2 oAdd (eV 3) (eF (fLc (iSq (eV 3)) [5] 5 tYs (e2 (oI fun i j => .int (Builtin.bitXor i j)) (eV 5) (eV 4))))))) sNil))
  (sFrz 2 (sRet (eV 2))))))
def rx_law_shaped : DS := (sSeq (sIf (t2 (oEq false) (eV 1) (eC (.int 1))) (sRet (e2 (oI fun i j => .int (Builtin.bitXor i j)) (e2 (oIC CPow fun i j => .int (i * 2 ^ j.toNat)) (eC (.int 1)) (eV 4)) (e2 (oIC CPow fun i j => .int (i * 2 ^ j.toNat)) (eC (.int 1)) (e2 (oIC (fun _ j => 0 < j) fun i j => .int (i % j)) (eB oInt1 (aC (e2 oAdd (eV 0) (e2 oMul (eV 2) (eV 5))) aN)) (eV 3))))) sNil)
  (sSeq (sIf (t2 (oEq false) (eV 1) (eC (.int 2))) (sRet (e2 (oI fun i j => .int (Builtin.bitAnd i j)) (eV 0) (e2 oIx (eF (fLst (aC (e2 (oI fun i j => .int (i - j)) (e2 (oIC CPow fun i j => .int (i * 2 ^ j.toNat)) (eC (.int 1)) (e2 oAdd (eC (.int 1)) (eV 4))) (eC (.int 1))) (aC (e2 (oI fun i j => .int (Builtin.bitXor i j)) (e2 (oI fun i j => .int (i - j)) (e2 (oIC CPow fun i j => .int (i * 2 ^ j.toNat)) (eC (.int 1)) (eV 3)) (eC (.int 1))) (e2 (oI fun i j => .int (i - j)) (e2 (oIC CPow fun i j => .int (i * 2 ^ j.toNat)) (eC (.int 1)) (e2 oAdd (eC (.int 1)) (eV 4))) (eC (.int 1)))) aN)))) (e2 (oIC (fun _ j => 0 < j) fun i j => .int (i % j)) (eB oInt1 (aV 2 aN)) (eC (.int 2)))))) sNil)
  (sSeq (sIf (t2 (oEq false) (eV 1) (eC (.int 3))) (sRet (e2 (oI fun i j => .int (Builtin.bitAnd i j)) (eV 0) (e1 (oI1 fun i => .int (Builtin.bitNot i)) (e2 (oIC CPow fun i j => .int (i * 2 ^ j.toNat)) (eC (.int 1)) (eV 4))))) sNil)
  (sSeq (sIf (t2 (oEq false) (eV 1) (eC (.int 4))) (sRet (e2 (oI fun i j => .int (Builtin.bitOr i j)) (e2 (oI fun i j => .int (Builtin.bitAnd i j)) (eV 0) (e1 (oI1 fun i => .int (Builtin.bitNot i)) (e2 (oIC CPow fun i j => .int (i * 2 ^ j.toNat)) (eC (.int 1)) (eV 4)))) (e2 (oIC CPow fun i j => .int (i * 2 ^ j.toNat)) (e2 (oI fun i j => .int (Builtin.bitAnd i j)) (e2 (oIC (fun _ j => 0 ≤ j) fun i j => .int (i / 2 ^ j.toNat)) (eV 0) (eV 5)) (eC (.int 1))) (eV 4)))) sNil)
  (sSeq (sIf (tAn (t2 (oEq false) (eV 1) (eC (.int 5))) (tTru (eCall dx_law_odd (aV 0 aN)))) (sRet (e2 (oI fun i j => .int (Builtin.bitXor i j)) (eV 0) (e2 (oIC CPow fun i j => .int (i * 2 ^ j.toNat)) (eC (.int 1)) (eV 4)))) sNil)
  (sRet (eV 0)))))))
def rx_law_rows : DS := (sSeq (sSet 2 (eCall d_law_draw (aV 0 (aC (eC (.int 8)) aN))))
  (sSeq (sSet 3 (eCall d_law_draw (aV 0 (aC (e2 oAdd (eV 1) (eC (.int 2))) aN))))
  (sSeq (sSet 4 (eCall d_law_draw (aV 0 (aV 1 aN))))
  (sSeq (sSet 5 (eCall d_law_draw (aV 0 (aV 1 aN))))
  (sSeq (sSetO 6 (fLst aN))
  (sSeq (sFor (iRg1 (aV 3 aN)) (gN 7) (sApp 6 (eCall dx_law_shaped (aC (eCall d_law_draw (aV 0 (aC (e2 (oIC CPow fun i j => .int (i * 2 ^ j.toNat)) (eC (.int 1)) (eV 1)) aN))) (aV 2 (aV 7 (aV 1 (aV 4 (aV 5 aN)))))))))
  (sSeq (sIf (t2 (oEq false) (eV 2) (eC (.int 6))) (sFrz 6 (sSet 6 (eCall dx_law_turned (aV 6 (aV 1 aN))))) sNil)
  (sSeq (sFrz 6 (sIf (tAn (t2 (oEq false) (eV 2) (eC (.int 7))) (tTru (eV 6))) (sFrz 6 (sSetO 6 (fCat (eV 6) (eF (fLst (aC (e2 (oI fun i j => .int (Builtin.bitXor i j)) (eIxO 6 (eC (.int 0))) (eIxO 6 (e1 (oI1 fun i => .int (-i)) (eC (.int 1))))) (aC (eIxO 6 (eC (.int 0))) (aC (e2 (oI fun i j => .int (Builtin.bitXor i j)) (eIxO 6 (e2 (oIC CDiv fun i j => .int (i / j)) (eLenO 6) (eC (.int 2)))) (eIxO 6 (eC (.int 0)))) aN)))))))) sNil))
  (sFrz 6 (sRet (eV 6)))))))))))
def rx_law_wish : DS := (sSeq (sSet 3 (eCall d_law_draw (aV 0 (aC (eC (.int 6)) aN))))
  (sSeq (sSet 4 (eCall d_law_draw (aV 0 (aC (e2 (oIC CPow fun i j => .int (i * 2 ^ j.toNat)) (eC (.int 1)) (eV 1)) aN))))
  (sSeq (sIf (t2 (oEq false) (eV 3) (eC (.int 0))) (sRet (eC (.int 0))) sNil)
  (sSeq (sIf (t2 oLt (eV 3) (eC (.int 3))) (sRet (e2 (oIC CPow fun i j => .int (i * 2 ^ j.toNat)) (eC (.int 1)) (eCall d_law_draw (aV 0 (aV 1 aN))))) sNil)
  (sSeq (sIf (t2 (oEq false) (eV 3) (eC (.int 3))) (sRet (e2 oIx (eV 2) (eCall d_law_draw (aV 0 (aC (eB oLen (aV 2 aN)) aN))))) sNil)
  (sRet (eV 4)))))))
def rx_law_right : DS := (sSeq (sIf (tOo (tN (tTru (eIs "tuple" (eV 0)))) (tOo (t2 (oEq true) (eB oLen (aV 0 aN)) (eC (.int 2))) (tN (tTru (eIs "str" (e2 oIx (eV 0) (eC (.int 0)))))))) (sRet (eC (.bl false))) sNil)
  (sSeq (sIf (tN (tTru (eCall dx_law_is_lot (aC (e2 oIx (eV 0) (eC (.int 1))) (aV 1 aN))))) (sRet (eC (.bl false))) sNil)
  (sSeq (sSet 6 (eCall dx_law_mask (aC (e2 oIx (eV 0) (eC (.int 1))) aN)))
  (sSeq (sIf (t2 (oEq false) (e2 oIx (eV 0) (eC (.int 0))) (eC (.str (Str.ofString "sum")))) (sRet (eAn (e2 (oEq false) (e2 (oI fun i j => .int (Builtin.bitAnd i j)) (eV 6) (eV 4)) (eV 6)) (eNot (eB oAny (aC (eF (fLc (iSq (eV 2)) [7] 7 tYs (eCall dx_law_odd (aC (e2 (oI fun i j => .int (Builtin.bitAnd i j)) (eV 7) (e2 (oI fun i j => .int (Builtin.bitXor i j)) (eV 6) (eV 5))) aN)))) aN))))) sNil)
  (sRet (eAn (e2 (oEq false) (e2 oIx (eV 0) (eC (.int 0))) (eC (.str (Str.ofString "twin")))) (eAn (e2 (oInI false) (eV 6) (eV 3)) (eAn (e2 (oEq false) (e2 (oI fun i j => .int (Builtin.bitAnd i j)) (eV 6) (eV 4)) (eC (.int 0))) (eCall dx_law_odd (aC (e2 (oI fun i j => .int (Builtin.bitAnd i j)) (eV 6) (eV 5)) aN))))))))))
def rx_law_order : DS := (sSeq (sSetO 2 (fListRg1 (eV 1)))
  (sSeq (sSetO 3 (fLst aN))
  (sSeq (sFor (iRg1 (aV 1 aN)) (gN 4) (sApPop 3 2 (eCall d_law_draw (aV 0 (aC (eLenO 2) aN)))))
  (sFrz 3 (sRet (eV 3))))))
end DL

set_option Elab.async false
set_option linter.all false
set_option maxRecDepth 100000
set_option maxHeartbeats 4000000
set_option exponentiation.threshold 2000
namespace DL
open PySem PySem.Spec PyProof.Rows L2 BT
/-! ### helpers of the laws -/
theorem pop_shl (h : Nat) : ∀ k, pop (h <<< k) = pop h
  | 0 => rfl
  | k + 1 => by
    rw [Nat.shiftLeft_succ, pop_step, Nat.mul_mod_right, Nat.mul_div_cancel_left _ (by decide), Nat.zero_add]
    exact pop_shl h k
theorem fold_step (k x : Nat) : pop ((x ^^^ x >>> k) % 2 ^ k) % 2 = pop (x % 2 ^ (2 * k)) % 2 := by
  have e : x % 2 ^ (2 * k) = (x % 2 ^ k) ^^^ ((x >>> k) % 2 ^ k) <<< k := Nat.eq_of_testBit_eq fun i => by
    rw [Nat.testBit_xor, Nat.testBit_mod_two_pow, Nat.testBit_mod_two_pow, Nat.testBit_shiftLeft, Nat.testBit_mod_two_pow, Nat.testBit_shiftRight]
    by_cases h1 : i < k
    · rw [decide_eq_true h1, decide_eq_true (by omega : i < 2 * k), decide_eq_false (by omega : ¬ i ≥ k)]; simp
    · rw [decide_eq_false h1, decide_eq_true (by omega : i ≥ k)]
      by_cases h2 : i < 2 * k
      · rw [decide_eq_true h2, decide_eq_true (by omega : i - k < k), show k + (i - k) = i by omega]; simp
      · rw [decide_eq_false h2, decide_eq_false (by omega : ¬ i - k < k)]; simp
  have e2 : (x ^^^ x >>> k) % 2 ^ k = (x % 2 ^ k) ^^^ ((x >>> k) % 2 ^ k) := Nat.xor_mod_two_pow
  rw [e, e2, pop_xor2, pop_xor2, pop_shl]
/-- folded in halves, a mask keeps the parity of its ones -/
theorem odd_fold {m x1 x2 x3 x4 x5 : Nat} (h : m < 2 ^ 32) (h1 : x1 = m ^^^ m >>> 16) (h2 : x2 = x1 ^^^ x1 >>> 8) (h3 : x3 = x2 ^^^ x2 >>> 4) (h4 : x4 = x3 ^^^ x3 >>> 2) (h5 : x5 = x4 ^^^ x4 >>> 1) : x5 % 2 = pop m % 2 := by
  have a1 := fold_step 16 m
  have a2 := fold_step 8 x1
  have a3 := fold_step 4 x2
  have a4 := fold_step 2 x3
  have a5 := fold_step 1 x4
  rw [← h1, show m % 2 ^ (2 * 16) = m from Nat.mod_eq_of_lt h] at a1
  rw [← h2] at a2
  rw [← h3] at a3
  rw [← h4] at a4
  rw [← h5] at a5
  have e : pop (x5 % 2 ^ 1) % 2 = x5 % 2 := by
    rw [Nat.pow_one]
    rcases Nat.mod_two_eq_zero_or_one x5 with h | h <;> rw [h] <;> rfl
  rw [← e, a5]
  exact a4.trans (a3.trans (a2.trans a1))
theorem semx_law_odd : ∀ as Qd Xd, dx_law_odd as Qd Xd → as.length = ["_law_mask_here"].length ∧ rx_law_odd { nx := fun _ => Qd .non, rt := Qd } (as ++ List.replicate (["_law_mask_here"].length - as.length) .un) (fun _ => Xd) := by
  rintro as Qd Xd ⟨m, rfl, hm, q⟩
  refine ⟨rfl, ?_⟩
  unfold rx_law_odd
  (try dsimp only [gN, gN2, sNil, sSeq, sExp, sRet, sIf, sPass, sCont, sBrk, sSet, sSetO, sApp, sAppF, sApPop, flatD, sFrz, sAug, sRaise, sAsg, sPut, eV, eC, e1, e2, t2, tBl, tTru, tN, tAn, tOo, tCh, eNot, eAn, eOo, eIf, eTup, eLst, eF, eFld, eIs, eIxO, eLenO, eSl, eRev, eB, eCall, eCallG, eMeth, aN, aC, aV, oNo, oPt, eIsO, oSrtI, oSrtT, oLt, oLe, oReprB, oInI, gN3, eCh, oGt, oGe, oI, oIC, oI1, oAdd, oMul, oEq, oIsN, oIx, oLen, oList, oTuple, oAbs, oMin2, oInt1, fLst, fListRg1, fList, fRep, fCat, tYs, tru, isS, dats, seqD, seqO, tyS, List.set, List.getElem?_cons_zero, List.getElem?_cons_succ, List.append_eq, List.nil_append, List.cons_append, Option.map_some, Option.bind_some, ng, wipeD, List.length_cons, List.length_nil, Nat.reduceAdd, Nat.reduceSub, List.replicate_succ, List.replicate_zero]; try simp only [decide_eq_true_eq, Bool.not_eq_true', decide_eq_false_iff_not, Bool.false_eq_true, if_false, if_true, reduceIte, String.reduceBEq, Bool.true_or, Bool.false_or, Bool.or_false, Bool.and_false, Bool.false_and, Bool.and_true, Bool.true_and, Bool.not_true, Bool.not_false, ne_eq, not_true_eq_false, reduceCtorEq, Bool.true_eq_false, decide_true, decide_false])
  have e : ∀ k m : Nat, Builtin.bitXor (m : Int) ((m : Int) / 2 ^ ((k : Int).toNat)) = ((m ^^^ m >>> k : Nat) : Int) := fun k m => by rw [shr_nat, bitXor_nat]
  have e16 : ∀ m : Nat, Builtin.bitXor (m : Int) ((m : Int) / 2 ^ ((16 : Int).toNat)) = ((m ^^^ m >>> 16 : Nat) : Int) := e 16
  have e8 : ∀ m : Nat, Builtin.bitXor (m : Int) ((m : Int) / 2 ^ ((8 : Int).toNat)) = ((m ^^^ m >>> 8 : Nat) : Int) := e 8
  have e4 : ∀ m : Nat, Builtin.bitXor (m : Int) ((m : Int) / 2 ^ ((4 : Int).toNat)) = ((m ^^^ m >>> 4 : Nat) : Int) := e 4
  have e2 : ∀ m : Nat, Builtin.bitXor (m : Int) ((m : Int) / 2 ^ ((2 : Int).toNat)) = ((m ^^^ m >>> 2 : Nat) : Int) := e 2
  have e1 : ∀ m : Nat, Builtin.bitXor (m : Int) ((m : Int) / 2 ^ ((1 : Int).toNat)) = ((m ^^^ m >>> 1 : Nat) : Int) := e 1
  refine ⟨by decide, by decide, by decide, by decide, by decide, ?_⟩
  rw [e16]
  generalize h1 : m ^^^ m >>> 16 = x1
  rw [e8]
  generalize h2 : x1 ^^^ x1 >>> 8 = x2
  rw [e4]
  generalize h3 : x2 ^^^ x2 >>> 4 = x3
  rw [e2]
  generalize h4 : x3 ^^^ x3 >>> 2 = x4
  rw [e1]
  generalize h5 : x4 ^^^ x4 >>> 1 = x5
  have z := odd_fold hm h1.symm h2.symm h3.symm h4.symm h5.symm
  rw [show Builtin.bitAnd (x5 : Int) 1 = ((x5 % 2 : Nat) : Int) from by rw [show (1 : Int) = ((1 : Nat) : Int) from rfl, bitAnd_nat, Nat.and_one_is_mod], z]
  rw [show decide (((pop m % 2 : Nat) : Int) = 1) = decide (pop m % 2 = 1) from decide_eq_decide.mpr ⟨fun h => by omega, fun h => by omega⟩]
  exact q
theorem bit_dec (m r : Nat) : decide (((m >>> r &&& 1 : Nat) : Int) = 1) = m.testBit r := by
  have e := and1_bit m r
  cases h : m.testBit r with
  | true => rw [e.mpr h]; rfl
  | false =>
    refine decide_eq_false fun q => ?_
    rw [e.mp (by omega)] at h
    cases h
end DL

set_option Elab.async false
set_option linter.all false
set_option maxRecDepth 100000
set_option maxHeartbeats 4000000
set_option exponentiation.threshold 2000
namespace DL
open PySem PySem.Spec PyProof.Rows L2 BT
end DL

set_option Elab.async false
set_option linter.all false
set_option maxRecDepth 100000
set_option maxHeartbeats 4000000
set_option exponentiation.threshold 2000
namespace DL
open PySem PySem.Spec PyProof.Rows L2 BT
/-! ### more for the laws -/
theorem ifT {c : Prop} {i : Decidable c} {a b : Prop} (h : c) (q : a) : @ite Prop c i a b := by rw [if_pos h]; exact q
theorem ifF {c : Prop} {i : Decidable c} {a b : Prop} (h : ¬ c) (q : b) : @ite Prop c i a b := by rw [if_neg h]; exact q
theorem rows_ok {n : Nat} {rs : List Nat} (hn : n ≤ 60) (hl : rs.length ≤ 60) (hb : ∀ r ∈ rs, r < 2 ^ n) : Rows n (reduceF rs) := by
  refine ⟨hn, ?_, fun m hm => (sweep_lt (part := -1) hb).1 m ((sortLow_perm _).mem_iff.mp hm)⟩
  have h1 := (sortLow_perm (sweepF (-1) rs).1).length_eq
  have h2 := sweepF_len (-1) rs
  unfold reduceF
  omega
/-- into a loop -/
theorem sForI {fi : DI} {tg : DG} {gb : DS} {De : DEnds} {ρ : List Sl} {Ed : DXt} (xs : List D) (hf : ∀ R : List D → Prop, R xs → fi ρ R Ed) (Iv : Nat → List Sl → Prop) (h0 : Iv 0 ρ)
    (hs : ∀ i x ρ', xs[i]? = some x → Iv i ρ' → tg x ρ' fun ρ2 => gb { nx := Iv (i + 1), ct := Iv (i + 1), bk := De.nx, rt := De.rt, ro := De.ro, fr := De.fr } ρ2 Ed) (he : ∀ ρ', Iv xs.length ρ' → De.nx ρ') : sFor fi tg gb De ρ Ed := hf _ ⟨Iv, h0, hs, he⟩
/-- for i in range(..) -/
theorem sForR {fi : DI} {tg : DG} {gb : DS} {De : DEnds} {ρ : List Sl} {Ed : DXt} (n : Nat) (hf : ∀ R : List D → Prop, R (natX (List.range n)) → fi ρ R Ed) (Iv : Nat → List Sl → Prop) (h0 : Iv 0 ρ)
    (hs : ∀ i ρ', i < n → Iv i ρ' → tg (.int (i : Nat)) ρ' fun ρ2 => gb { nx := Iv (i + 1), ct := Iv (i + 1), bk := De.nx, rt := De.rt, ro := De.ro, fr := De.fr } ρ2 Ed) (he : ∀ ρ', Iv n ρ' → De.nx ρ') : sFor fi tg gb De ρ Ed :=
  sForI _ hf Iv h0 (fun i x ρ' hx iv => by
    obtain ⟨p, hp, rfl⟩ := natX_get hx
    have hi : i < n := by
      have := (List.getElem?_eq_some_iff.mp hp).1
      rw [List.length_range] at this; exact this
    rw [List.getElem?_range hi] at hp
    cases Option.some.inj hp
    exact hs i ρ' hi iv) (fun ρ' iv => he ρ' (by rw [natX_len, List.length_range] at iv; exact iv))
theorem pi_lo (n : Nat) : -(2 ^ 62) ≤ ((2 ^ n : Nat) : Int) := Int.le_trans (by decide) (Int.natCast_nonneg _)
theorem pi_hi {n : Nat} (h : n ≤ 20) : ((2 ^ n : Nat) : Int) < 2 ^ 62 := Int.ofNat_lt.mpr (Nat.lt_of_le_of_lt (Nat.pow_le_pow_right (by decide) h) (by decide : 2 ^ 20 < 2 ^ 62))
end DL

set_option Elab.async false
set_option linter.all false
set_option maxRecDepth 100000
set_option maxHeartbeats 4000000
set_option exponentiation.threshold 2000
namespace DL
open PySem PySem.Spec PyProof.Rows L2 BT
/-! ### bits at wishes -/
theorem bits_snoc (m : Nat) (ws : List Nat) (w : Nat) : bitsAtF m (ws ++ [w]) = bitsAtF m ws ||| ((pop (m &&& w) % 2) <<< ws.length) := by
  unfold bitsAtF
  rw [zipIdx_snoc, List.foldl_append]; rfl
theorem shl_bit (b : Bool) (n k : Nat) : (((if b = true then 1 else 0) <<< n : Nat)).testBit k = (b && decide (k = n)) := by
  cases b with
  | false => simp
  | true =>
    rw [if_pos rfl, Nat.one_shiftLeft, Nat.testBit_two_pow, Bool.true_and]
    exact decide_eq_decide.mpr ⟨Eq.symm, Eq.symm⟩
theorem par_if (m : Nat) : pop m % 2 = if par m = true then 1 else 0 := by
  cases h : par m with
  | true => rw [par_true.mp h]; rfl
  | false => rw [par_false.mp h]; rfl
theorem bits_bit (m : Nat) : ∀ (ws : List Nat) (k : Nat), (bitsAtF m ws).testBit k = (decide (k < ws.length) && par (m &&& ws.getD k 0)) := by
  refine snoc_ind (P := fun ws => ∀ k, (bitsAtF m ws).testBit k = (decide (k < ws.length) && par (m &&& ws.getD k 0))) (fun k => ?_) (fun ws w ih k => ?_)
  · rw [show bitsAtF m [] = 0 from rfl, Nat.zero_testBit]; rfl
  · rw [bits_snoc, Nat.testBit_or, ih, par_if, shl_bit, List.length_append, List.length_singleton]
    rcases Nat.lt_trichotomy k ws.length with h | h | h
    · rw [decide_eq_true h, decide_eq_true (by omega : k < ws.length + 1), decide_eq_false (by omega : ¬ k = ws.length), Bool.and_false, Bool.or_false, Bool.true_and, Bool.true_and, List.getD_eq_getElem?_getD, List.getD_eq_getElem?_getD, List.getElem?_append_left h]
    · subst h
      rw [decide_eq_false (Nat.lt_irrefl _), decide_eq_true (Nat.lt_succ_self _), decide_eq_true rfl, List.getD_eq_getElem?_getD, List.getD_eq_getElem?_getD, List.getElem?_append_right (Nat.le_refl _), Nat.sub_self]
      simp
    · rw [decide_eq_false (by omega : ¬ k < ws.length), decide_eq_false (by omega : ¬ k < ws.length + 1), decide_eq_false (by omega : ¬ k = ws.length)]
      simp
theorem bits_xor (ws : List Nat) (a b : Nat) : bitsAtF (a ^^^ b) ws = bitsAtF a ws ^^^ bitsAtF b ws := Nat.eq_of_testBit_eq fun k => by
  rw [Nat.testBit_xor, bits_bit, bits_bit, bits_bit, par_xand]
  cases decide (k < ws.length) <;> simp
theorem bits_zero {ws : List Nat} {m : Nat} : bitsAtF m ws = 0 ↔ ∀ w ∈ ws, par (m &&& w) = false := by
  constructor
  · intro h w hw
    obtain ⟨k, hk, e⟩ := List.getElem_of_mem hw
    have q := congrArg (fun z => z.testBit k) h
    simp only [bits_bit, Nat.zero_testBit] at q
    rw [decide_eq_true hk, Bool.true_and, List.getD_eq_getElem?_getD, List.getElem?_eq_getElem hk, e] at q
    exact q
  · intro h
    refine Nat.eq_of_testBit_eq fun k => ?_
    rw [bits_bit, Nat.zero_testBit]
    by_cases hk : k < ws.length
    · rw [decide_eq_true hk, Bool.true_and, List.getD_eq_getElem?_getD, List.getElem?_eq_getElem hk]
      exact h _ (List.getElem_mem _)
    · rw [decide_eq_false hk]; rfl
/-! ### what a part lacks -/
def lfF (ms ws : List Nat) (p : Nat) : Nat := rkF ((sweepF (p : Int) ms).2.map fun r => bitsAtF r ws)
theorem and_zero_bits {a b : Nat} : a &&& b = 0 ↔ ∀ i, b.testBit i = true → a.testBit i = false := by
  constructor
  · intro h i hi
    have q := congrArg (fun z => z.testBit i) h
    simp only [Nat.testBit_and, hi, Bool.and_true, Nat.zero_testBit] at q
    exact q
  · intro h
    refine Nat.eq_of_testBit_eq fun i => ?_
    rw [Nat.testBit_and, Nat.zero_testBit]
    cases q : b.testBit i with
    | false => rw [Bool.and_false]
    | true => rw [h i q]; rfl
theorem nodup_sub_len {a b : List Nat} (ha : a.Nodup) (h : ∀ x ∈ a, x ∈ b) : a.length ≤ b.length := by
  induction a generalizing b with
  | nil => exact Nat.zero_le _
  | cons x a ih =>
    obtain ⟨h1, h2⟩ := List.nodup_cons.mp ha
    have hx := h x List.mem_cons_self
    have := ih (b := b.erase x) h2 fun y hy => (List.mem_erase_of_ne (fun e => h1 (by rw [← e]; exact hy))).mpr (h y (List.mem_cons_of_mem _ hy))
    rw [List.length_erase_of_mem hx] at this
    have := List.length_pos_of_mem hx
    rw [List.length_cons]; omega
/-- nothing is hidden from all places -/
theorem hd_full {ms : List Nat} {n p : Nat} (h : Ind ms) (hb : ∀ m ∈ ms, m < 2 ^ n) (hp : ∀ i, i < n → p.testBit i = true) : hdF ms p = 0 := by
  refine pow2_inj ?_
  rw [← hd_pow h]
  have : ∀ w ∈ closeF (sweepF (p : Int) ms).2, w = 0 := fun w hw => by
    rw [hid_mem] at hw
    refine Nat.eq_of_testBit_eq fun i => ?_
    rw [Nat.zero_testBit]
    by_cases hi : i < n
    · exact and_zero_bits.mp hw.2 i (hp i hi)
    · exact Nat.testBit_lt_two_pow (Nat.lt_of_lt_of_le (closeF_lt hb w hw.1) (Nat.pow_le_pow_right (by decide) (by omega)))
  have h1 := nodup_alike (closeF_nodup (sweepF (p : Int) ms).2).1 fun a ha b hb => (this a ha).trans (this b hb).symm
  have h2 := List.length_pos_of_mem (close_zero (sweepF (p : Int) ms).2)
  show _ = 1
  omega
theorem hd_none {ms : List Nat} : hdF ms 0 = ms.length := by
  have A := asp_of (sweep_alone ((0 : Nat) : Int) ms)
  have : (sweepF ((0 : Nat) : Int) ms).1 = [] := by
    cases q : (sweepF ((0 : Nat) : Int) ms).1 with
    | nil => rfl
    | cons r rs =>
      rw [q] at A
      have := A.bit r List.mem_cons_self
      rw [Nat.zero_testBit] at this
      cases this
  have h := sweepF_len ((0 : Nat) : Int) ms
  rw [this] at h
  unfold hdF
  simpa using h
/-! ### a right answer and what is hidden -/
theorem right_sum {rs : List Nat} {p w c : Nat} (h : rightP rs p w true c) : ∀ z ∈ closeF rs, z &&& p = 0 → par (z &&& w) = false := by
  unfold rightP at h
  rw [if_pos rfl] at h
  intro z hz hp
  have e := close_even (w := c ^^^ w) (fun r hr => par_false.mpr (h.2 r hr)) z hz
  rw [par_andx] at e
  have z0 : z &&& c = 0 := and_zero_bits.mpr fun i hi => by
    rw [← h.1, Nat.testBit_and, Bool.and_eq_true] at hi
    exact and_zero_bits.mp hp i hi.2
  rw [z0, par_zero, Bool.false_xor] at e
  exact e
theorem right_twin {rs : List Nat} {p w c : Nat} (h : rightP rs p w false c) : c ∈ closeF rs ∧ c &&& p = 0 ∧ par (c &&& w) = true := by
  unfold rightP at h
  rw [if_neg (by decide)] at h
  exact ⟨h.1, h.2.1, par_true.mpr h.2.2⟩
theorem hd_right {rs : List Nat} {p x c : Nat} {b : Bool} (h : rightP rs p (2 ^ x) b c) : hdF (reduceF rs) p = hdF (reduceF rs) (p ||| 2 ^ x) + if b = true then 0 else 1 := by
  cases b with
  | true =>
    rw [if_pos rfl, Nat.add_zero]
    refine (hd_sum (ind_reduce rs) fun w hw hz => ?_).symm
    have := right_sum h w ((reduce_close rs w).mp hw) hz
    rwa [par_pow] at this
  | false =>
    rw [if_neg (by decide)]
    obtain ⟨d1, d2, d3⟩ := right_twin h
    rw [par_pow] at d3
    exact hd_twin (ind_reduce rs) ((reduce_close rs c).mpr d1) d2 d3
/-! ### the reduced checks -/
theorem as_sum {ms : List Nat} (A : AS ms) : ∀ l : List Nat, l.Nodup → (∀ r ∈ l, r ∈ ms) → ∀ i, ((l.map lowN).sum).testBit i = true ↔ ∃ r ∈ l, i = keyN r := by
  refine snoc_ind (P := fun l => l.Nodup → (∀ r ∈ l, r ∈ ms) → ∀ i, ((l.map lowN).sum).testBit i = true ↔ ∃ r ∈ l, i = keyN r) (fun _ _ i => by simp) (fun l m ih nd h i => ?_)
  obtain ⟨n1, _, n2⟩ := List.nodup_append.mp nd
  have hm := h m (List.mem_append_right _ (List.mem_singleton.mpr rfl))
  have ih := ih n1 fun r hr => h r (List.mem_append_left _ hr)
  have z : (l.map lowN).sum &&& 2 ^ keyN m = 0 := and_pow_zero.mpr (by
    cases q : ((l.map lowN).sum).testBit (keyN m) with
    | false => rfl
    | true =>
      obtain ⟨r, hr, e2⟩ := (ih _).mp q
      have hr2 := h r (List.mem_append_left _ hr)
      have t := (A.one r hr2 r hr2).mpr rfl
      rw [← e2] at t
      have := (A.one m hm r hr2).mp t
      exact absurd this (n2 r hr m (List.mem_singleton.mpr rfl)))
  have eo := or_and_add (l.map lowN).sum (2 ^ keyN m)
  rw [z] at eo
  have e : ((l ++ [m]).map lowN).sum = (l.map lowN).sum ||| 2 ^ keyN m := by
    rw [List.map_append, List.sum_append]
    simp only [List.map_cons, List.map_nil, List.sum_cons, List.sum_nil, A.low m hm]
    omega
  rw [e, Nat.testBit_or, Bool.or_eq_true, ih, Nat.testBit_two_pow, decide_eq_true_eq]
  constructor
  · rintro (⟨r, hr, e⟩ | e)
    · exact ⟨r, List.mem_append_left _ hr, e⟩
    · exact ⟨m, List.mem_append_right _ (List.mem_singleton.mpr rfl), e.symm⟩
  · rintro ⟨r, hr, e⟩
    rcases List.mem_append.mp hr with hr | hr
    · exact .inl ⟨r, hr, e⟩
    · rw [List.mem_singleton.mp hr] at e; exact .inr e.symm
theorem par_pow1 (k : Nat) : par (2 ^ k) = true := by unfold par; rw [pop_pow]; rfl
theorem chk_raw {ms : List Nat} (A : AS ms) {n : Nat} (hb : ∀ m ∈ ms, m < 2 ^ n) : ∀ c ∈ checkRaw ms n, c < 2 ^ n ∧ ∀ m ∈ ms, par (m &&& c) = false := by
  intro c hc
  unfold checkRaw at hc
  obtain ⟨p, hp, e⟩ := List.mem_filterMap.mp hc
  have hp := List.mem_range.mp hp
  split at e
  · cases e
  rename_i hno
  have e := (Option.some.inj e).symm
  have hno : ∀ r ∈ ms, keyN r ≠ p := fun r hr q => hno (List.any_eq_true.mpr ⟨r, hr, decide_eq_true (by rw [A.low r hr, q])⟩)
  have hS := as_sum A (ms.filter fun r => decide (r &&& 2 ^ p ≠ 0)) (A.nd.sublist (List.filter_sublist ..)) fun r hr => (List.mem_filter.mp hr).1
  generalize ((ms.filter fun r => decide (r &&& 2 ^ p ≠ 0)).map lowN).sum = S at e hS
  have memF : ∀ r, r ∈ (ms.filter fun r => decide (r &&& 2 ^ p ≠ 0)) ↔ r ∈ ms ∧ r.testBit p = true := fun r => by
    rw [List.mem_filter, decide_eq_true_iff, and_pow_ne]
  have self : ∀ r ∈ ms, r.testBit (keyN r) = true := fun r hr => (A.one r hr r hr).mpr rfl
  refine ⟨?_, fun m hm => ?_⟩
  · refine Nat.lt_pow_two_of_testBit _ fun i hi => ?_
    rw [e, Nat.testBit_or, Nat.testBit_two_pow, decide_eq_false (by omega : ¬ p = i), Bool.false_or]
    cases q : S.testBit i with
    | false => rfl
    | true =>
      obtain ⟨r, hr, e2⟩ := (hS i).mp q
      have h1 := self r ((memF r).mp hr).1
      rw [← e2, Nat.testBit_lt_two_pow (Nat.lt_of_lt_of_le (hb r ((memF r).mp hr).1) (Nat.pow_le_pow_right (by decide) hi))] at h1
      cases h1
  · have em : m &&& c = if m.testBit p = true then 2 ^ p ^^^ 2 ^ keyN m else 0 := Nat.eq_of_testBit_eq fun i => by
      rw [e, Nat.testBit_and, Nat.testBit_or, Nat.testBit_two_pow]
      by_cases hip : p = i
      · subst hip
        rw [decide_eq_true rfl, Bool.true_or, Bool.and_true]
        cases q : m.testBit p with
        | false => simp
        | true =>
          rw [if_pos rfl, Nat.testBit_xor, Nat.testBit_two_pow_self, Nat.testBit_two_pow, decide_eq_false (hno m hm)]; rfl
      · rw [decide_eq_false hip, Bool.false_or]
        cases q : m.testBit p with
        | true =>
          rw [if_pos rfl, Nat.testBit_xor, Nat.testBit_two_pow, decide_eq_false hip, Bool.false_xor, Nat.testBit_two_pow]
          by_cases hk : keyN m = i
          · subst hk
            rw [decide_eq_true rfl, self m hm, (hS _).mpr ⟨m, (memF m).mpr ⟨hm, q⟩, rfl⟩]; rfl
          · rw [decide_eq_false hk]
            cases z : S.testBit i with
            | false => rw [Bool.and_false]
            | true =>
              obtain ⟨r, hr, e2⟩ := (hS i).mp z
              cases z2 : m.testBit i with
              | false => rfl
              | true =>
                rw [e2] at z2
                have := (A.one r ((memF r).mp hr).1 m hm).mp z2
                rw [this] at hk
                exact absurd e2.symm hk
        | false =>
          rw [if_neg (by decide), Nat.zero_testBit]
          cases z : S.testBit i with
          | false => rw [Bool.and_false]
          | true =>
            obtain ⟨r, hr, e2⟩ := (hS i).mp z
            cases z2 : m.testBit i with
            | false => rfl
            | true =>
              rw [e2] at z2
              have := (A.one r ((memF r).mp hr).1 m hm).mp z2
              have q2 := ((memF r).mp hr).2
              rw [← this, q] at q2; cases q2
    rw [em]
    split
    · rw [par_xor, par_pow1, par_pow1]; rfl
    · rfl
theorem chk_ok {rs : List Nat} {n : Nat} (hb : ∀ r ∈ rs, r < 2 ^ n) : ∀ c ∈ checkF (reduceF rs) n, c < 2 ^ n ∧ ∀ w ∈ closeF rs, par (w &&& c) = false := by
  intro c hc
  have hm : ∀ m ∈ reduceF rs, m < 2 ^ n := fun m hm => closeF_lt hb m ((reduce_close rs m).mp (closeF_mem _ hm))
  have R := chk_raw (reduce_alone rs) hm
  unfold checkF at hc
  have hc := (reduce_close _ c).mp (closeF_mem _ hc)
  refine ⟨closeF_lt (fun r hr => (R r hr).1) c hc, fun w hw => ?_⟩
  refine close_even (w := c) (rs := reduceF rs) (fun m hm => ?_) w ((reduce_close rs w).mpr hw)
  rw [Nat.and_comm]
  exact close_even (w := m) (fun r hr => by rw [Nat.and_comm]; exact (R r hr).2 m hm) c hc
end DL

set_option Elab.async false
set_option linter.all false
set_option maxRecDepth 100000
set_option maxHeartbeats 4000000
set_option exponentiation.threshold 2000
namespace DL
open PySem PySem.Spec PyProof.Rows L2 BT
/-! ### the lots within a part, the checks within it, turning -/
theorem see_add (ms : List Nat) (p : Nat) : (sweepF (p : Int) ms).1.length + hdF ms p = ms.length := by
  have := sweepF_len (p : Int) ms
  unfold hdF
  omega
theorem unit_span : ∀ (l : List Nat), l.Nodup → ∀ w : Nat, (∀ i, w.testBit i = true → i ∈ l) → w ∈ closeF (l.map fun i => 2 ^ i) := by
  refine snoc_ind (P := fun l => l.Nodup → ∀ w : Nat, (∀ i, w.testBit i = true → i ∈ l) → w ∈ closeF (l.map fun i => 2 ^ i)) (fun _ w h => ?_) (fun l x ih nd w h => ?_)
  · have : w = 0 := Nat.eq_of_testBit_eq fun i => by
      rw [Nat.zero_testBit]
      cases q : w.testBit i with
      | false => rfl
      | true => exact absurd (h i q) (by simp)
    rw [this]; exact close_zero _
  · obtain ⟨n1, _, n3⟩ := List.nodup_append.mp nd
    have up : ∀ z ∈ closeF (l.map fun i => 2 ^ i), z ∈ closeF ((l ++ [x]).map fun i => 2 ^ i) := closeF_into fun t ht => closeF_mem _ (by
      rw [List.map_append]; exact List.mem_append_left _ ht)
    cases q : w.testBit x with
    | false => exact up _ (ih n1 w fun i hi => (List.mem_append.mp (h i hi)).elim id fun e => by
        rw [List.mem_singleton.mp e, q] at hi; cases hi)
    | true =>
      have h1 : w ^^^ 2 ^ x ∈ closeF ((l ++ [x]).map fun i => 2 ^ i) := up _ (ih n1 _ fun i hi => by
        rw [Nat.testBit_xor, Nat.testBit_two_pow] at hi
        by_cases e : x = i
        · subst e; rw [q, decide_eq_true rfl] at hi; cases hi
        · rw [decide_eq_false e, Bool.xor_false] at hi
          exact (List.mem_append.mp (h i hi)).elim id fun e2 => absurd (List.mem_singleton.mp e2).symm e)
      have h2 : 2 ^ x ∈ closeF ((l ++ [x]).map fun i => 2 ^ i) := closeF_mem _ (List.mem_map.mpr ⟨x, by simp, rfl⟩)
      have := close_xor h1 h2
      rwa [xx] at this
theorem unit_in {l : List Nat} : ∀ w ∈ closeF (l.map fun i => 2 ^ i), ∀ i, w.testBit i = true → i ∈ l := fun w hw => by
  refine close_ind (S := fun w => ∀ i, w.testBit i = true → i ∈ l) (fun i hi => by rw [Nat.zero_testBit] at hi; cases hi) (fun a b ha hb i hi => ?_) (fun r hr i hi => ?_) w hw
  · rw [Nat.testBit_xor] at hi
    cases q : a.testBit i with
    | true => exact ha i q
    | false => rw [q, Bool.false_xor] at hi; exact hb i hi
  · obtain ⟨x, hx, rfl⟩ := List.mem_map.mp hr
    rw [Nat.testBit_two_pow, decide_eq_true_iff] at hi
    rw [← hi]; exact hx
theorem unit_len : ∀ (l : List Nat), l.Nodup → (closeF (l.map fun i => 2 ^ i)).length = 2 ^ l.length := by
  refine snoc_ind (P := fun l => l.Nodup → (closeF (l.map fun i => 2 ^ i)).length = 2 ^ l.length) (fun _ => rfl) (fun l x ih nd => ?_)
  obtain ⟨n1, _, n3⟩ := List.nodup_append.mp nd
  rw [List.map_append, List.map_singleton, closeF_snoc, if_neg (fun h => n3 x (unit_in _ h x (Nat.testBit_two_pow_self ..)) x (by simp) rfl), List.length_append, List.length_map, List.length_append, List.length_singleton, Nat.pow_succ, ih n1]
  omega
def unitsF (p : Nat) : List Nat := (lotN p).map fun i => 2 ^ i
theorem lot_nodup (p : Nat) : (lotN p).Nodup := (lotN_asc p).imp fun h => Nat.ne_of_lt h
theorem units_len (p : Nat) : (closeF (unitsF p)).length = 2 ^ pop p := unit_len _ (lot_nodup p)
theorem sub_bits {w p : Nat} : w &&& p = w ↔ ∀ i, w.testBit i = true → p.testBit i = true := by
  constructor
  · intro h i hi
    have q := congrArg (fun z => z.testBit i) h
    simp only [Nat.testBit_and, hi, Bool.true_and] at q
    exact q
  · intro h
    refine Nat.eq_of_testBit_eq fun i => ?_
    rw [Nat.testBit_and]
    cases q : w.testBit i with
    | false => rfl
    | true => rw [h i q]; rfl
theorem units_close (p w : Nat) : w ∈ closeF (unitsF p) ↔ w &&& p = w := by
  rw [sub_bits]
  exact ⟨fun h i hi => mem_lotN.mp (unit_in w h i hi), fun h => unit_span _ (lot_nodup p) w fun i hi => mem_lotN.mpr (h i hi)⟩
theorem mem_chkL {rs : List Nat} {n c : Nat} : c ∈ chkL rs n ↔ c < 2 ^ n ∧ ∀ r ∈ rs, par (r &&& c) = false := by
  unfold chkL par
  rw [List.mem_filter, List.mem_range, Bool.not_eq_true', List.any_eq_false]
  refine and_congr_right fun _ => forall_congr' fun r => forall_congr' fun _ => ?_
  simp
theorem chkL_nodup (rs : List Nat) (n : Nat) : (chkL rs n).Nodup := List.nodup_range.sublist (List.filter_sublist ..)
/-- the checks within a part -/
theorem checks_within {rs : List Nat} {n p : Nat} (hp : p < 2 ^ n) : 2 ^ pop p = ((chkL rs n).filter fun c => decide (c &&& p = c)).length * 2 ^ (sweepF (p : Int) (reduceF rs)).1.length := by
  have A := asp_of (sweep_alone (p : Int) (reduceF rs))
  have sp := sweep_span (p : Int) (reduceF rs)
  have hz := fun h hh => hid_zero (p := p) (ms := reduceF rs) (h := h) hh
  generalize (sweepF (p : Int) (reduceF rs)).1 = S at *
  generalize (sweepF (p : Int) (reduceF rs)).2 = T at *
  have h := rank_nul (l := unitsF p) (f := fun c => bitsAtF c S) (fun a b => bits_xor S a b)
  rw [units_len] at h
  have e1 : (closeF ((unitsF p).map fun c => bitsAtF c S)).length = 2 ^ S.length := by
    rw [← show (closeF ((List.range S.length).map fun i => 2 ^ i)).length = 2 ^ S.length by rw [unit_len _ List.nodup_range, List.length_range]]
    refine close_same_len (closeF_same (fun t ht => ?_) fun r hr => ?_)
    · obtain ⟨c, _, rfl⟩ := List.mem_map.mp ht
      refine unit_span _ List.nodup_range _ fun i hi => ?_
      rw [bits_bit, Bool.and_eq_true, decide_eq_true_iff] at hi
      exact List.mem_range.mpr hi.1
    · obtain ⟨k, hk, rfl⟩ := List.mem_map.mp hr
      have hk := List.mem_range.mp hk
      refine closeF_mem _ (List.mem_map.mpr ⟨2 ^ keyP p S[k], List.mem_map.mpr ⟨_, mem_lotN.mpr (A.bit _ (List.getElem_mem hk)), rfl⟩, ?_⟩)
      refine Nat.eq_of_testBit_eq fun j => ?_
      rw [bits_bit, Nat.testBit_two_pow, Nat.and_comm, par_pow]
      by_cases hj : j < S.length
      · rw [decide_eq_true hj, Bool.true_and, List.getD_eq_getElem?_getD, List.getElem?_eq_getElem hj]
        have o := A.one _ (List.getElem_mem hk) _ (List.getElem_mem hj)
        by_cases e : k = j
        · subst e
          rw [decide_eq_true rfl]; exact o.mpr rfl
        · rw [decide_eq_false e]
          cases q : (S[j]).testBit (keyP p S[k]) with
          | false => exact q
          | true =>
            have o := o.mp q
            have P := List.pairwise_iff_getElem.mp A.nd
            rcases Nat.lt_or_gt_of_ne e with l | l
            · exact absurd o.symm (P k j hk hj l)
            · exact absurd o (P j k hj hk l)
      · rw [decide_eq_false hj, decide_eq_false (by omega : ¬ k = j)]; rfl
  have e2 : ((closeF (unitsF p)).filter fun w => decide (bitsAtF w S = 0)).length = ((chkL rs n).filter fun c => decide (c &&& p = c)).length := by
    refine ((List.perm_ext_iff_of_nodup ((closeF_nodup _).1.sublist (List.filter_sublist ..)) ((chkL_nodup rs n).sublist (List.filter_sublist ..))).mpr fun w => ?_).length_eq
    rw [List.mem_filter, List.mem_filter, decide_eq_true_iff, decide_eq_true_iff, units_close, bits_zero, mem_chkL]
    constructor
    · rintro ⟨h1, h2⟩
      refine ⟨⟨?_, fun r hr => ?_⟩, h1⟩
      · rw [← h1]; exact Nat.lt_of_le_of_lt Nat.and_le_right hp
      · refine close_even (rs := S ++ T) (w := w) (fun z hz2 => ?_) r ((sp r).mpr ((reduce_close rs r).mpr (closeF_mem _ hr)))
        rcases List.mem_append.mp hz2 with hs | ht
        · rw [Nat.and_comm]; exact h2 z hs
        · rw [← h1, Nat.and_comm w p, ← Nat.and_assoc, hz z ht, Nat.zero_and]; rfl
    · rintro ⟨⟨h1, h2⟩, h3⟩
      refine ⟨h3, fun s hs => ?_⟩
      rw [Nat.and_comm]
      exact close_even h2 s ((reduce_close rs s).mp ((sp s).mp (closeF_mem _ (List.mem_append_left _ hs))))
  rw [e1, e2, Nat.mul_comm] at h
  exact h
/-! ### the checks tell the words -/
theorem pick_keys {ms : List Nat} (A : AS ms) (b : Nat → Bool) : ∀ l : List Nat, l.Nodup → (∀ r ∈ l, r ∈ ms) → ∃ x ∈ closeF ms, ∀ m ∈ ms, x.testBit (keyN m) = (decide (m ∈ l) && b m)
  | [], _, _ => ⟨0, close_zero _, fun m _ => by rw [Nat.zero_testBit]; simp⟩
  | r :: l, nd, h => by
    obtain ⟨n1, n2⟩ := List.nodup_cons.mp nd
    obtain ⟨x, hx, q⟩ := pick_keys A b l n2 fun r hr => h r (List.mem_cons_of_mem _ hr)
    have hr := h r List.mem_cons_self
    cases hb : b r with
    | false =>
      refine ⟨x, hx, fun m hm => ?_⟩
      rw [q m hm]
      by_cases e : m = r
      · subst e; rw [hb]; simp
      · rw [decide_eq_decide.mpr (List.mem_cons.trans (or_iff_right e))]
    | true =>
      refine ⟨x ^^^ r, close_xor hx (closeF_mem _ hr), fun m hm => ?_⟩
      rw [Nat.testBit_xor, q m hm]
      by_cases e : m = r
      · subst e
        rw [decide_eq_false n1, (A.one m hm m hm).mpr rfl, hb, decide_eq_true List.mem_cons_self]; rfl
      · rw [decide_eq_decide.mpr (List.mem_cons.trans (or_iff_right e))]
        cases z : r.testBit (keyN m) with
        | false => rw [Bool.xor_false]
        | true => exact absurd ((A.one m hm r hr).mp z).symm e
theorem chk_tells {rs : List Nat} {n w : Nat} (hw : w < 2 ^ n) (h : ∀ c ∈ checkF (reduceF rs) n, par (w &&& c) = false) (hb : ∀ r ∈ rs, r < 2 ^ n) : w ∈ closeF rs := by
  have A := reduce_alone rs
  have hm : ∀ m ∈ reduceF rs, m < 2 ^ n := fun m hm => closeF_lt hb m ((reduce_close rs m).mp (closeF_mem _ hm))
  have R := chk_raw A hm
  have h : ∀ c ∈ checkRaw (reduceF rs) n, par (w &&& c) = false := fun c hc => by
    have := close_even (w := w) (rs := checkF (reduceF rs) n) (fun r hr => by rw [Nat.and_comm]; exact h r hr) c ((reduce_close _ c).mpr (closeF_mem _ hc))
    rwa [Nat.and_comm] at this
  rw [← reduce_close]
  generalize reduceF rs = ms at *
  obtain ⟨x, hx, hk⟩ := pick_keys A (fun m => w.testBit (keyN m)) ms A.nd fun _ h => h
  have hx2 : x < 2 ^ n := closeF_lt hm x hx
  have key0 : ∀ m ∈ ms, (w ^^^ x).testBit (keyN m) = false := fun m hm => by
    rw [Nat.testBit_xor, hk m hm, decide_eq_true hm, Bool.true_and, Bool.xor_self]
  have even0 : ∀ c ∈ checkRaw ms n, par ((w ^^^ x) &&& c) = false := fun c hc => by
    rw [par_xand, h c hc, close_even (fun m hm => (R c hc).2 m hm) x hx]; rfl
  have lt0 : w ^^^ x < 2 ^ n := xor_lt hw hx2
  have z : w ^^^ x = 0 := Nat.eq_of_testBit_eq fun p => by
    rw [Nat.zero_testBit]
    by_cases hp : p < n
    · by_cases hpv : ∃ r ∈ ms, keyN r = p
      · obtain ⟨r, hr, rfl⟩ := hpv
        exact key0 r hr
      · have hno : ¬ (ms.any fun r => decide (lowN r = 2 ^ p)) = true := fun q => by
          obtain ⟨r, hr, e⟩ := List.any_eq_true.mp q
          rw [decide_eq_true_iff, A.low r hr] at e
          exact hpv ⟨r, hr, pow2_inj e⟩
        have hc : 2 ^ p ||| ((ms.filter fun r => decide (r &&& 2 ^ p ≠ 0)).map lowN).sum ∈ checkRaw ms n := by
          unfold checkRaw
          exact List.mem_filterMap.mpr ⟨p, List.mem_range.mpr hp, if_neg hno⟩
        have hS := as_sum A (ms.filter fun r => decide (r &&& 2 ^ p ≠ 0)) (A.nd.sublist (List.filter_sublist ..)) fun r hr => (List.mem_filter.mp hr).1
        have ev := even0 _ hc
        generalize ((ms.filter fun r => decide (r &&& 2 ^ p ≠ 0)).map lowN).sum = S at *
        have e : (w ^^^ x) &&& (2 ^ p ||| S) = (w ^^^ x) &&& 2 ^ p := Nat.eq_of_testBit_eq fun i => by
          rw [Nat.testBit_and, Nat.testBit_and, Nat.testBit_or]
          cases q : S.testBit i with
          | false => rw [Bool.or_false]
          | true =>
            obtain ⟨r, hr, e2⟩ := (hS i).mp q
            rw [e2, key0 r (List.mem_filter.mp hr).1, Bool.false_and, Bool.false_and]
        rw [e, par_pow] at ev
        exact ev
    · exact Nat.testBit_lt_two_pow (Nat.lt_of_lt_of_le lt0 (Nat.pow_le_pow_right (by decide) (by omega)))
  have : w = x := by
    have := congrArg (fun z => z ^^^ x) z
    rwa [xx, Nat.zero_xor] at this
  rw [this]; exact hx
/-- the words are the checks of the checks -/
theorem words_chk {rs : List Nat} {n w : Nat} (hb : ∀ r ∈ rs, r < 2 ^ n) : w ∈ chkL (checkF (reduceF rs) n) n ↔ w ∈ closeF rs := by
  rw [mem_chkL]
  constructor
  · rintro ⟨h1, h2⟩
    exact chk_tells h1 (fun c hc => by rw [Nat.and_comm]; exact h2 c hc) hb
  · intro h
    exact ⟨closeF_lt hb w h, fun c hc => by rw [Nat.and_comm]; exact (chk_ok hb c hc).2 w h⟩
end DL

set_option Elab.async false
set_option linter.all false
set_option maxRecDepth 100000
set_option maxHeartbeats 4000000
set_option exponentiation.threshold 2000
namespace DL
open PySem PySem.Spec PyProof.Rows L2 BT
/-! ### rows in echelon -/
structure Ech (F : List Nat) : Prop where
  low : ∀ f ∈ F, lowN f = 2 ^ keyN f
  pw : F.Pairwise fun a b => b.testBit (keyN a) = false
theorem key_bit {f : Nat} (h : lowN f = 2 ^ keyN f) : f.testBit (keyN f) = true := by
  have n0 : f ≠ 0 := fun e => by
    have := h
    rw [e] at this
    have h1 : lowN 0 = 0 := lowN_zero
    rw [h1] at this
    exact absurd this.symm (Nat.ne_of_gt (Nat.two_pow_pos _))
  obtain ⟨k, e, q, _⟩ := low_spec f n0
  rw [key_of e]; exact q
theorem Ech.nil : Ech [] := ⟨fun _ h => (nomatch h), .nil⟩
theorem Ech.init {F : List Nat} {r : Nat} (A : Ech (F ++ [r])) : Ech F ∧ r ≠ 0 ∧ ∀ f ∈ F, r.testBit (keyN f) = false := by
  refine ⟨⟨fun f hf => A.low f (List.mem_append_left _ hf), (List.pairwise_append.mp A.pw).1⟩, ?_, fun f hf => (List.pairwise_append.mp A.pw).2.2 f hf r (List.mem_singleton.mpr rfl)⟩
  intro e
  have h1 := key_bit (A.low r (List.mem_append_right _ (List.mem_singleton.mpr rfl)))
  rw [e, Nat.zero_testBit] at h1
  cases h1
theorem zero_bit {F : List Nat} {k : Nat} (h : ∀ f ∈ F, f.testBit k = false) : ∀ z ∈ closeF F, z.testBit k = false := fun z hz =>
  close_ind (S := fun z => z.testBit k = false) (Nat.zero_testBit k) (fun a b ha hb => by rw [Nat.testBit_xor, ha, hb]; rfl) h z hz
theorem Ech.zero : ∀ {F : List Nat}, Ech F → ∀ z ∈ closeF F, (∀ f ∈ F, z.testBit (keyN f) = false) → z = 0
  | [], _, z, hz, _ => List.mem_singleton.mp (show z ∈ [0] from hz)
  | f :: F, A, z, hz, h => by
    have pw := List.pairwise_cons.mp A.pw
    have A2 : Ech F := ⟨fun g hg => A.low g (List.mem_cons_of_mem _ hg), pw.2⟩
    obtain ⟨x, hx, y, hy, e⟩ := close_split (a := [f]) F z hz
    have hf := key_bit (A.low f List.mem_cons_self)
    have hyk := zero_bit pw.1 y hy
    have hzk := h f List.mem_cons_self
    have hx2 : x = 0 ∨ x = f := by
      have hc : closeF [f] = if f ∈ closeF [] then closeF [] else closeF [] ++ (closeF []).map (· ^^^ f) := closeF_snoc [] f
      rw [hc] at hx
      have c0 : closeF [] = [0] := rfl
      rw [c0] at hx
      split at hx
      · exact .inl (List.mem_singleton.mp hx)
      · rcases List.mem_append.mp hx with hx | hx
        · exact .inl (List.mem_singleton.mp hx)
        · obtain ⟨u, hu, rfl⟩ := List.mem_map.mp hx
          rw [List.mem_singleton.mp hu, Nat.zero_xor]; exact .inr rfl
    rcases hx2 with hx2 | hx2
    · rw [hx2, Nat.zero_xor] at e
      rw [e] at h ⊢
      exact A2.zero y hy fun g hg => h g (List.mem_cons_of_mem _ hg)
    · rw [e, hx2, Nat.testBit_xor, hf, hyk] at hzk
      cases hzk
/-- sums of two lists of rows, the one within the other, as many -/
theorem same_of_sub {a b : List Nat} (ha : a.Nodup) (h : ∀ x ∈ a, x ∈ b) (l : b.length ≤ a.length) : ∀ x, x ∈ b → x ∈ a := fun x hx => by
  refine Classical.byContradiction fun q => ?_
  have nd : (a ++ [x]).Nodup := List.nodup_append.mpr ⟨ha, List.pairwise_singleton .., fun u hu v hv e => q (by rw [← List.mem_singleton.mp hv, ← e]; exact hu)⟩
  have := nodup_sub_len nd (b := b) fun y hy => (List.mem_append.mp hy).elim (h y) fun e => by rw [List.mem_singleton.mp e]; exact hx
  rw [List.length_append, List.length_singleton] at this
  omega
/-- the number of checks -/
theorem full_pop (n : Nat) : pop (2 ^ n - 1) = n := by
  unfold pop
  have hlt : 2 ^ n - 1 < 2 ^ n := by have := Nat.two_pow_pos n; omega
  rw [lotN_eq hlt, show lotB n (2 ^ n - 1) = (List.range n).filter (fun p => (2 ^ n - 1).testBit p) from rfl, List.filter_eq_self.mpr (fun a ha => by rw [Nat.testBit_two_pow_sub_one]; exact decide_eq_true (List.mem_range.mp ha)), List.length_range]
theorem see_full {rs : List Nat} {n : Nat} (hb : ∀ r ∈ rs, r < 2 ^ n) : (sweepF ((2 ^ n - 1 : Nat) : Int) (reduceF rs)).1.length = (reduceF rs).length := by
  have h1 := see_add (reduceF rs) (2 ^ n - 1)
  have h2 := hd_full (ms := reduceF rs) (n := n) (p := 2 ^ n - 1) (ind_reduce rs) (fun m hm => closeF_lt hb m ((reduce_close rs m).mp (closeF_mem _ hm))) (fun i hi => by rw [Nat.testBit_two_pow_sub_one]; exact decide_eq_true hi)
  omega
theorem chkL_len2 {rs : List Nat} {n : Nat} (hb : ∀ r ∈ rs, r < 2 ^ n) : (chkL rs n).length * 2 ^ (reduceF rs).length = 2 ^ n := by
  have h := checks_within (rs := rs) (n := n) (p := 2 ^ n - 1) (by have := Nat.two_pow_pos n; omega)
  rw [full_pop, see_full hb, List.filter_eq_self.mpr (fun c hc => decide_eq_true (by
    rw [Nat.and_two_pow_sub_one_eq_mod]
    exact Nat.mod_eq_of_lt (mem_chkL.mp hc).1))] at h
  exact h.symm
theorem turned_dim {rs : List Nat} {n : Nat} (hb : ∀ r ∈ rs, r < 2 ^ n) : (reduceF (checkF (reduceF rs) n)).length + (reduceF rs).length = n := by
  have hc : ∀ c ∈ checkF (reduceF rs) n, c < 2 ^ n := fun c hc => (chk_ok hb c hc).1
  have h := chkL_len2 hc
  have e : (chkL (checkF (reduceF rs) n) n).length = (closeF rs).length := ((List.perm_ext_iff_of_nodup (chkL_nodup _ n) (closeF_nodup _).1).mpr fun w => words_chk hb).length_eq
  rw [e, rk_pow, ← Nat.pow_add] at h
  have := pow2_inj h
  unfold rkF at this
  omega
/-- all checks are sums of the reduced checks -/
theorem checks_all {rs : List Nat} {n c : Nat} (hb : ∀ r ∈ rs, r < 2 ^ n) : c ∈ closeF (checkF (reduceF rs) n) ↔ c ∈ chkL rs n := by
  have sub : ∀ x ∈ closeF (checkF (reduceF rs) n), x ∈ chkL rs n := fun x hx => mem_chkL.mpr ⟨closeF_lt (fun c hc => (chk_ok hb c hc).1) x hx, fun r hr => by
    rw [Nat.and_comm]
    exact close_even (w := r) (fun c hc => by rw [Nat.and_comm]; exact (chk_ok hb c hc).2 r (closeF_mem _ hr)) x hx⟩
  refine ⟨sub c, same_of_sub (closeF_nodup _).1 sub ?_ c⟩
  have h1 := chkL_len2 hb
  have h2 := turned_dim hb
  rw [rk_pow]
  unfold rkF
  have h3 : 2 ^ (reduceF (checkF (reduceF rs) n)).length * 2 ^ (reduceF rs).length = 2 ^ n := by rw [← Nat.pow_add, h2]
  rw [← h3] at h1
  exact Nat.le_of_eq (Nat.eq_of_mul_eq_mul_right (Nat.two_pow_pos _) h1)
/-! ### a part that grows -/
structure Grown (rs : List Nat) (n p k : Nat) (ts cs : List Nat) : Prop where
  tin : ∀ t ∈ ts, t ∈ closeF rs
  tz : ∀ z ∈ closeF ts, z &&& p = 0 → z = 0
  tl : (closeF ts).length = 2 ^ ts.length
  ts_ : ts.length + hdF (reduceF rs) p = (reduceF rs).length
  cin : ∀ c ∈ cs, c ∈ chkL rs n
  cz : ∀ z ∈ closeF cs, z &&& p = z
  cl : (closeF cs).length = 2 ^ cs.length
  all : ts.length + cs.length = k
theorem Grown.start (rs : List Nat) (n : Nat) : Grown rs n 0 0 [] [] := ⟨fun _ h => (nomatch h), fun z hz _ => List.mem_singleton.mp (show z ∈ [0] from hz), rfl, by rw [hd_none]; exact Nat.zero_add _, fun _ h => (nomatch h), fun z hz => by rw [List.mem_singleton.mp (show z ∈ [0] from hz)]; rfl, rfl, rfl⟩
theorem sub_or {z p x : Nat} (h : z &&& p = z) : z &&& (p ||| 2 ^ x) = z := sub_bits.mpr fun i hi => by
  rw [Nat.testBit_or, sub_bits.mp h i hi]; rfl
theorem Grown.twin {rs ts cs : List Nat} {n p k x t : Nat} (G : Grown rs n p k ts cs) (h : rightP rs p (2 ^ x) false t) : Grown rs n (p ||| 2 ^ x) (k + 1) (ts ++ [t]) cs := by
  obtain ⟨h1, h2, h3⟩ := right_twin h
  rw [par_pow] at h3
  have t0 : t ≠ 0 := fun e => by rw [e, Nat.zero_testBit] at h3; cases h3
  have ht : t ∉ closeF ts := fun q => t0 (G.tz t q h2)
  have hh := hd_right h
  rw [if_neg (by decide)] at hh
  refine ⟨fun z hz => (List.mem_append.mp hz).elim (G.tin z) fun e => by rw [List.mem_singleton.mp e]; exact h1, fun z hz hp => ?_, ?_, ?_, G.cin, fun z hz => sub_or (G.cz z hz), G.cl, ?_⟩
  · rw [closeF_snoc, if_neg ht] at hz
    obtain ⟨hp1, hp2⟩ := and_or_pow.mp hp
    rcases List.mem_append.mp hz with hz | hz
    · exact G.tz z hz hp1
    · obtain ⟨y, hy, rfl⟩ := List.mem_map.mp hz
      have y0 : y = 0 := G.tz y hy (by
        have := hp1
        rw [Nat.and_xor_distrib_right, h2, Nat.xor_zero] at this
        exact this)
      rw [y0, Nat.zero_xor, h3] at hp2
      cases hp2
  · rw [closeF_snoc, if_neg ht, List.length_append, List.length_map, List.length_append, List.length_singleton, Nat.pow_succ, G.tl]
    omega
  · rw [List.length_append, List.length_singleton]
    have := G.ts_
    omega
  · rw [List.length_append, List.length_singleton]
    have := G.all
    omega
theorem Grown.sum {rs ts cs : List Nat} {n p k x c : Nat} (G : Grown rs n p k ts cs) (h : rightP rs p (2 ^ x) true c) (hx : p.testBit x = false) (hn : c ^^^ 2 ^ x < 2 ^ n) : Grown rs n (p ||| 2 ^ x) (k + 1) ts (cs ++ [c ^^^ 2 ^ x]) := by
  have hh := hd_right h
  rw [if_pos rfl] at hh
  unfold rightP at h
  rw [if_pos rfl] at h
  obtain ⟨h1, h2⟩ := h
  have cx : c.testBit x = false := by
    cases q : c.testBit x with
    | false => rfl
    | true => rw [sub_bits.mp h1 x q] at hx; cases hx
  have bx : (c ^^^ 2 ^ x).testBit x = true := by rw [Nat.testBit_xor, cx, Nat.testBit_two_pow_self]; rfl
  have hc : c ^^^ 2 ^ x ∉ closeF cs := fun q => by
    have := sub_bits.mp (G.cz _ q) x bx
    rw [hx] at this; cases this
  refine ⟨G.tin, fun z hz hp => G.tz z hz (and_or_pow.mp hp).1, G.tl, ?_, fun z hz => (List.mem_append.mp hz).elim (G.cin z) fun e => by
    rw [List.mem_singleton.mp e]
    exact mem_chkL.mpr ⟨hn, fun r hr => par_false.mpr (h2 r hr)⟩, fun z hz => ?_, ?_, ?_⟩
  · have := G.ts_
    omega
  · have sub2 : (c ^^^ 2 ^ x) &&& (p ||| 2 ^ x) = c ^^^ 2 ^ x := sub_bits.mpr fun i hi => by
      rw [Nat.testBit_or, Nat.testBit_two_pow]
      by_cases e : x = i
      · subst e; rw [decide_eq_true rfl, Bool.or_true]
      · rw [Nat.testBit_xor, Nat.testBit_two_pow, decide_eq_false e, Bool.xor_false] at hi
        rw [sub_bits.mp h1 i hi]; rfl
    exact close_ind (S := fun z => z &&& (p ||| 2 ^ x) = z) (Nat.zero_and _) (fun a b ha hb => by rw [Nat.and_xor_distrib_right, ha, hb]) (fun r hr => (List.mem_append.mp hr).elim (fun q => sub_or (G.cz r (closeF_mem _ q))) fun e => by rw [List.mem_singleton.mp e]; exact sub2) z hz
  · rw [closeF_snoc, if_neg hc, List.length_append, List.length_map, List.length_append, List.length_singleton, Nat.pow_succ, G.cl]
    omega
  · rw [List.length_append, List.length_singleton]
    have := G.all
    omega
/-- at the end: the twins tell the book, the checks the turned one -/
theorem Grown.book {rs ts cs : List Nat} {n p k : Nat} (G : Grown rs n p k ts cs) (hz : hdF (reduceF rs) p = 0) : reduceF ts = reduceF rs := by
  refine reduce_same.mpr fun w => ⟨closeF_into G.tin w, same_of_sub (closeF_nodup _).1 (closeF_into G.tin) ?_ w⟩
  rw [G.tl, rk_pow]
  have := G.ts_
  unfold rkF
  rw [show ts.length = (reduceF rs).length by omega]
  exact Nat.le_refl _
theorem Grown.turned {rs ts cs : List Nat} {n p : Nat} (G : Grown rs n p n ts cs) (hb : ∀ r ∈ rs, r < 2 ^ n) (hz : hdF (reduceF rs) p = 0) : reduceF cs = reduceF (checkF (reduceF rs) n) := by
  have sub : ∀ w ∈ closeF cs, w ∈ closeF (checkF (reduceF rs) n) := closeF_into fun c hc => (checks_all hb).mpr (G.cin c hc)
  refine reduce_same.mpr fun w => ⟨sub w, same_of_sub (closeF_nodup _).1 sub ?_ w⟩
  rw [G.cl, rk_pow]
  unfold rkF
  have h1 := G.ts_
  have h2 := G.all
  have h3 := turned_dim hb
  rw [show cs.length = (reduceF (checkF (reduceF rs) n)).length by omega]
  exact Nat.le_refl _
end DL

set_option Elab.async false
set_option linter.all false
set_option maxRecDepth 100000
set_option maxHeartbeats 4000000
set_option exponentiation.threshold 2000
namespace DL
open PySem PySem.Spec PyProof.Rows L2 BT
/-! ### promises: methods of books -/
def wordF (ms l : List Nat) : Nat := l.foldl (fun w i => w ^^^ ms.getD i 0) 0
def d_Book_rows : DSp := fun as Q _ => ∃ (n : Nat) (ms : List Nat), as = [.dat (bookX n ms)] ∧ Rows n ms ∧ Q (.lst (ms.map lotM))
def d_Book_holds : DSp := fun as Q _ => ∃ (n : Nat) (ms : List Nat) (w : Nat), as = [.dat (bookX n ms), .dat (lotM w)] ∧ Rows n ms ∧ w < 2 ^ n ∧ Q (.bl (decide (clearedF (-1) w ms = 0)))
def d_Book_words : DSp := fun as Q _ => ∃ (n : Nat) (ms : List Nat), as = [.dat (bookX n ms)] ∧ Rows n ms ∧ n ≤ 24 ∧ ms.length ≤ 12 ∧ ∀ ls : List (List Int), ls.Perm ((spanF ms).map fun m => intsN (lotN m)) → SrtT ls → Q (.lst (ls.map tupI))
def d_Book_word_of : DSp := fun as Q _ => ∃ (n : Nat) (ms : List Nat) (l : Nat), as = [.dat (bookX n ms), .dat (lotM l)] ∧ Rows n ms ∧ l < 2 ^ ms.length ∧ Q (lotM (wordF ms (lotN l)))
def d_Book_is_check : DSp := fun as Q _ => ∃ (n : Nat) (ms : List Nat) (c : Nat), as = [.dat (bookX n ms), .dat (lotM c)] ∧ Rows n ms ∧ c < 2 ^ n ∧ Q (.bl (!(ms.any fun m => par (m &&& c))))
def d_plus : DSp := fun as Q _ => ∃ a b : Nat, as = [.dat (lotM a), .dat (lotM b)] ∧ a < 2 ^ 60 ∧ b < 2 ^ 60 ∧ Q (lotM (a ^^^ b))
def d_Book_tell_same : DSp := fun as Q _ => ∃ (n : Nat) (ms : List Nat) (a b : Nat), as = [.dat (bookX n ms), .dat (lotM a), .dat (lotM b)] ∧ Rows n ms ∧ a < 2 ^ n ∧ b < 2 ^ n ∧ Q (.bl (!(ms.any fun m => par (m &&& (a ^^^ b)))))
end DL

set_option Elab.async false
set_option linter.all false
set_option maxRecDepth 100000
set_option maxHeartbeats 4000000
set_option exponentiation.threshold 2000
namespace DL
open PySem PySem.Spec PyProof.Rows L2 BT
def r_Book_rows : DS := (sRet (eF (fLc (iSq (eFld tab0 "masks" (eV 0))) [1] 1 tYs (eCall d_lot_of (aV 1 aN)))))
def r_Book_holds : DS := (sSeq (sExp (eCall d_need_lot (aV 1 (aC (eFld tab0 "size" (eV 0)) aN))))
  (sRet (e2 (oEq false) (eCall d_cleared (aC (eCall d_mask_of (aV 1 aN)) (aC (eFld tab0 "masks" (eV 0)) (aC (eC (.int (-1))) aN)))) (eC (.int 0)))))
def r_Book_words : DS := (sSeq (sIf (t2 oGt (e2 (oIC CPow fun i j => .int (i * 2 ^ j.toNat)) (eC (.int 1)) (eFld tab0 "dim" (eV 0))) (eC (.int 4096))) (sRaise "TooMany" (eC (.int 4096))) sNil)
  (sRet (eB oSrtT (aC (eF (fLc (iSq (eCall d_span (aC (eFld tab0 "masks" (eV 0)) aN))) [1] 1 tYs (eCall d_lot_of (aV 1 aN)))) aN))))
def r_Book_word_of : DS := (sSeq (sExp (eCall d_need_lot (aV 1 (aC (eFld tab0 "dim" (eV 0)) aN))))
  (sSeq (sSet 2 (eC (.int 0)))
  (sSeq (sFor (iSq (eV 1)) (gN 3) (sAug 2 (oI fun i j => .int (Builtin.bitXor i j)) (e2 oIx (eFld tab0 "masks" (eV 0)) (eV 3))))
  (sRet (eCall d_lot_of (aV 2 aN))))))
end DL

set_option Elab.async false
set_option linter.all false
set_option maxRecDepth 100000
set_option maxHeartbeats 4000000
set_option exponentiation.threshold 2000
namespace DL
open PySem PySem.Spec PyProof.Rows L2 BT
def r_plus : DS := (sSeq (sExp (eCall d_need_lot (aV 0 (aC (eC (.int 60)) aN))))
  (sSeq (sExp (eCall d_need_lot (aV 1 (aC (eC (.int 60)) aN))))
  (sRet (eCall d_lot_of (aC (e2 (oI fun i j => .int (Builtin.bitXor i j)) (eCall d_mask_of (aV 0 aN)) (eCall d_mask_of (aV 1 aN))) aN)))))
def r_Book_is_check : DS := (sSeq (sExp (eCall d_need_lot (aV 1 (aC (eFld tab0 "size" (eV 0)) aN))))
  (sSeq (sSet 2 (eCall d_mask_of (aV 1 aN)))
  (sRet (eNot (eB oAny (aC (eF (fLc (iSq (eFld tab0 "masks" (eV 0))) [3] 3 tYs (eCall d_odd (aC (e2 (oI fun i j => .int (Builtin.bitAnd i j)) (eV 3) (eV 2)) aN)))) aN))))))
def r_Book_tell_same : DS := (sSeq (sExp (eCall d_need_lot (aV 1 (aC (eFld tab0 "size" (eV 0)) aN))))
  (sSeq (sExp (eCall d_need_lot (aV 2 (aC (eFld tab0 "size" (eV 0)) aN))))
  (sRet (eMeth "Book" "is_check" d_Book_is_check (eV 0) (aC (eCall d_plus (aV 1 (aV 2 aN))) aN)))))
end DL

set_option Elab.async false
set_option linter.all false
set_option maxRecDepth 100000
set_option maxHeartbeats 2000000
set_option exponentiation.threshold 2000
namespace DL
open PySem PySem.Spec PyProof.Rows L2 BT
/-! ### new lists out of calls -/
/-- a promise whose answer is a new list that nothing else holds -/
abbrev DSpO := List Sl → (List D → Prop) → (Str → D → Prop) → Prop
def spO (ad : Str → Addr) (f : DSpO) : Sp := fun vs H Q E => ∃ B s as Qd Xd, Wd B s H ∧ ArA ad B s H vs as ∧ f as Qd Xd ∧
  (∀ xs p us H', Qd xs → H p = none → Frm s H H' → H' p = some (.lst us) → DxA ad (Fz (fun b => B b ∨ b = p) H') us xs → Q (.ref p) H') ∧
  (∀ cn d v x H', Xd cn d → Frm s H H' → Dx ad (Fz B H') v d → H' x = none → E (.ref (ad cn)) (some x) (upd H' x (.xd [("what", v)])))
abbrev DefO (P : Program) (w : World) (K : PySem.W.Frag) (mg : Str → Option Value) (base : Heap) (ad : Str → Addr) (k : Nat) (x : Str) (ps : List Str) (f : DSpO) : Prop := DefOk P w K mg base (L2.CX P w) k x ps (spO ad f)
abbrev MetO (P : Program) (w : World) (K : PySem.W.Frag) (mg : Str → Option Value) (base : Heap) (ad : Str → Addr) (k : Nat) (c m : Str) (ps : List Str) (f : DSpO) : Prop := MethOk P w K mg base (L2.CX P w) k (ad c) m ps (spO ad f)
section
variable {X : Cx} {ad : Str → Addr} {E : L2.St → XK} {Ed : DXt} {e o : Expr} {es : List Expr} {fo : DE} {ga : DA} {n k j : Nat} {x c m : Str} {ps : List Str} {dsp : DSpO} {p pos apos : Pos} {f : DF}
def fCallO (f : DSpO) (g : DA) : DF := fun ρ Q Ed => g ρ (fun as => f as Q (Ed ρ)) Ed
def fMethO (c m : Str) (f : DSpO) (fo : DE) (g : DA) : DF := fun ρ Q Ed => fo ρ (fun o => match o with
  | .obj c' fs => c' = c ∧ fs.lookup m = none ∧ g ρ (fun as => f (.dat (.obj c' fs) :: as) Q (Ed ρ)) Ed
  | _ => False) Ed
/-- return of a new list -/
def sRetF (f : DF) : DS := fun De ρ Ed => f ρ De.ro Ed
/-- return of a list of one's own -/
def sRetO (i : Nat) : DS := fun De ρ _ => match ρ[i]? with
  | some (.own xs) => De.ro xs
  | _ => False
end
section
variable {P : Program} {w : World} {K : PySem.W.Frag} {mg : Str → Option Value} {base : Heap} {ad : Str → Addr}
end
end DL

set_option Elab.async false
set_option linter.all false
set_option maxRecDepth 100000
set_option maxHeartbeats 2000000
set_option exponentiation.threshold 2000
namespace DL
open PySem PySem.Spec PyProof.Rows L2 BT
/-! ### dicts by data -/
def valD (es : List (Key × D)) (k : Key) : Option D := (es.find? fun e => decide (e.1 = k)).map (·.2)
def putD (es : List (Key × D)) (k : Key) (d : D) : List (Key × D) := if (es.any fun e => decide (e.1 = k)) = true then es.map (fun e => if e.1 = k then (e.1, d) else e) else es ++ [(k, d)]
def keyD : D → Option Key
  | .int i => some (.inl i)
  | .str s => some (.inr s)
  | _ => none
section
variable {ad : Str → Addr} {F : Addr → HO → Prop}
theorem DxK.len : ∀ {vs : List (Key × V)} {es : List (Key × D)}, DxK ad F vs es → vs.length = es.length
  | _, _, .nil => rfl
  | _, _, .cons _ r => by rw [List.length_cons, List.length_cons, r.len]
theorem DxK.val {k : Key} {d : D} : ∀ {vs : List (Key × V)} {es : List (Key × D)}, DxK ad F vs es → valD es k = some d → ∃ v, valV vs k = some v ∧ Dx ad F v d
  | _, _, .nil, h => by cases h
  | _, _, .cons (k := k') a r, h => by
    unfold valD at h
    rw [List.find?_cons] at h
    by_cases e : k' = k
    · rw [decide_eq_true e] at h
      cases h
      exact ⟨_, valV_pos (p := (k', _)) e, a⟩
    · rw [decide_eq_false e] at h
      obtain ⟨v, h1, h2⟩ := r.val h
      exact ⟨v, (valV_neg (p := (k', _)) e).trans h1, h2⟩
theorem DxK.append : ∀ {vs ws : List (Key × V)} {es fs : List (Key × D)}, DxK ad F vs es → DxK ad F ws fs → DxK ad F (vs ++ ws) (es ++ fs)
  | _, _, _, _, .nil, r => r
  | _, _, _, _, .cons a q, r => .cons a (q.append r)
theorem DxK.any_ (k : Key) : ∀ {vs : List (Key × V)} {es : List (Key × D)}, DxK ad F vs es → (vs.any fun e => decide (e.1 = k)) = (es.any fun e => decide (e.1 = k))
  | _, _, .nil => rfl
  | _, _, .cons _ r => by rw [List.any_cons, List.any_cons, r.any_ k]
theorem DxK.map_ {k : Key} {v : V} {d : D} (a : Dx ad F v d) : ∀ {vs : List (Key × V)} {es : List (Key × D)}, DxK ad F vs es → DxK ad F (vs.map fun e => if e.1 = k then (e.1, v) else e) (es.map fun e => if e.1 = k then (e.1, d) else e)
  | _, _, .nil => .nil
  | _, _, .cons (k := k') b r => by
    rw [List.map_cons, List.map_cons]
    by_cases e : k' = k
    · rw [if_pos e, if_pos e]; exact .cons a (r.map_ a)
    · rw [if_neg e, if_neg e]; exact .cons b (r.map_ a)
theorem DxK.put {k : Key} {v : V} {d : D} {vs : List (Key × V)} {es : List (Key × D)} (r : DxK ad F vs es) (a : Dx ad F v d) : DxK ad F (putK vs k v) (putD es k d) := by
  unfold putK putD
  rw [r.any_ k]
  split
  · exact r.map_ a
  · exact r.append (.cons a .nil)
theorem keyD_v {d : D} {v : V} {k : Key} (a : Dx ad F v d) (h : keyD d = some k) : v = kV k := by
  cases a <;> cases h <;> rfl
end
section
variable {X : Cx} {ad : Str → Addr} {E : L2.St → XK} {Ed : DXt} {o i e : Expr} {fo fi fa : DE} {pos pos' pos2 : Pos}
/-- d[k] -/
def eDGet (fo fi : DE) : DE := fun ρ Q Ed => fo ρ (fun d => fi ρ (fun x => match d, keyD x with
  | .dct es, some k => (match valD es k with | some y => Q y | none => False)
  | _, _ => False) Ed) Ed
/-- k in d, k not in d -/
def eInD (neg : Bool) (fi fo : DE) : DE := fun ρ Q Ed => fi ρ (fun x => fo ρ (fun d => match d, keyD x with
  | .dct es, some k => Q (.bl (ng neg (valD es k).isSome))
  | _, _ => False) Ed) Ed
end
section
variable {ad : Str → Addr} {c : Ct} {P : Nat → Option Addr} {H H1 : Hp} {σ : L2.St} {ρ : List Sl} {E : L2.St → XK} {Ed : DXt}
end
section
variable {X : Cx} {ad : Str → Addr} {E : L2.St → XK} {Ed : DXt} {o e b value : Expr} {fo fi fa fb : DE} {x : Str} {i : Nat} {pos pos' pos2 : Pos} {g : DS}
/-- x = {} that is to be written -/
def sSetOD (i : Nat) : DS := fun De ρ _ => De.nx (ρ.set i (.ownD []))
/-- x[k] = v, x a dict of one's own -/
def sPutD (i : Nat) (fi fv : DE) : DS := fun De ρ Ed => match ρ[i]? with
  | some (.ownD es) => fv ρ (fun v => fi ρ (fun k => match keyD k with
    | some k => es.length < 1000000 ∧ De.nx (ρ.set i (.ownD (putD es k v)))
    | none => False) Ed) Ed
  | _ => False
/-- a dict of one's own is read from now on -/
def sFrzD (i : Nat) (g : DS) : DS := fun De ρ Ed => match ρ[i]? with
  | some (.ownD xs) => g De (ρ.set i (.dat (.dct xs))) Ed
  | _ => g De ρ Ed
end
end DL

set_option Elab.async false
set_option linter.all false
set_option maxRecDepth 100000
set_option maxHeartbeats 2000000
set_option exponentiation.threshold 2000
namespace DL
open PySem PySem.Spec PyProof.Rows L2 BT
/-! ### a dict display with one text as its key -/
section
variable {X : Cx} {ad : Str → Addr} {E : L2.St → XK} {Ed : DXt} {B : Addr → Prop} {s : SO} {ρ : List Sl} {σ : L2.St} {H : Hp} {value : Expr} {fa : DE} {pos pos' : Pos} {j : Nat}
theorem Wl.addD (W : Wl ad E Ed B s ρ σ H) {p : Addr} {kvs : List (Key × V)} (hp : H p = none) : Wl ad E Ed (fun b => B b ∨ b = p) s ρ σ (upd H p (.dK kvs)) := by
  have f := W.wd.new (o := HO.dK kvs) hp
  have w1 := W.wd.frm f
  have fz : ∀ b o, Fz B H b o → Fz (fun b => B b ∨ b = p) (upd H p (.dK kvs)) b o := fun b o h => ⟨fun q => q.elim h.1 (fun e => by
    have z := h.2
    rw [e, hp] at z
    cases z), (W.wd.fz f b o h).2⟩
  refine ⟨⟨⟨fun b q => ?_, fun l a e => ⟨(w1.sr l a e).1, .inl (w1.sr l a e).2.1, .inl (w1.sr l a e).2.2⟩⟩, fun i sl e => (W.rep.sl i sl e).up W.wd (fun b q => .inl q) fz f.st, W.rep.len⟩, fun cn d v x H' g dv hx q => ?_⟩
  · rcases q with q | rfl
    · exact w1.al b q
    · exact ⟨_, upd_same, fun _ e => (nomatch e)⟩
  · exact W.tie cn d v x H' (f.trans g) (dv.mono fun b o h => ⟨fun z => h.1 (.inl z), h.2⟩) hx q
def eDct1 (x : Str) (f : DE) : DE := fun ρ Q Ed => f ρ (fun d => Q (.dct [(.inr x, d)])) Ed
end
end DL

set_option Elab.async false
set_option linter.all false
set_option maxRecDepth 100000
set_option maxHeartbeats 4000000
namespace DL
open PySem PySem.Spec PyProof.Rows L2 BT
section
variable {ad : Str → Addr} {F : Addr → HO → Prop}
/-! ### a dict display of one pair -/
def eDctE (fk f : DE) : DE := fun ρ Q Ed => fk ρ (fun kd => f ρ (fun d => match keyD kd with
  | some k => Q (.dct [(k, d)])
  | none => False) Ed) Ed
theorem pdDctE (hk : PD X ad E Ed k fk) (hv : PD X ad E Ed value fa) : PD X ad E Ed (.Dict [some k] [value] pos) (eDctE fk fa) :=
  ⟨weakE (pe_disp (pps_cons hk.pe hv.pe pps_nil) rfl rfl (by simp) (by simp)) fun σ H Q ⟨B, s, ρ, Qd, W, h, kk⟩ p hp => ⟨_, s, ρ, _, W.addD hp, h, fun kd kv H1 hkd f1 dkv => ⟨_, s, ρ, _, (W.addD hp).frm f1, hkd, fun d v H2 hd f2 dv => by
    have W1 := W.addD (E := E) (Ed := Ed) (kvs := []) hp
    have np : ∀ l a, s = some (l, a) → p ≠ a := fun l a e => ((W.wd.sr l a e).1.free_ne hp).1
    have e2 : H2 p = some (.dK []) := (f1.trans f2).st p _ np upd_same
    have f0 := W.wd.new (o := HO.dK []) hp
    split at hd
    · rename_i ke eke
      have ky := keyD_v dkv eke
      subst ky
      refine ⟨e2, [(ke, v)], rfl, by simp, kk (.dct [(ke, d)]) (.ref p) _ hd ?_ ?_⟩
      · have f3 : Frm s H H2 := f0.trans (f1.trans f2)
        refine ⟨fun b o n e => ?_, fun l a e => ?_⟩
        · by_cases q : b = p
          · rw [q, hp] at e; cases e
          · rw [upd_ne q]; exact f3.st b o n e
        · obtain ⟨⟨i0, b0, c0, cl, n0, w0, h00, h1⟩, zs, h2⟩ := f3.sr l a e
          have fa := (W.wd.sr l a e).1.free_ne hp
          exact ⟨⟨i0, b0, c0, cl, n0, w0, h00, by rw [upd_ne fa.1.symm]; exact h1⟩, zs, by rw [upd_ne fa.2.symm]; exact h2⟩
      · refine .dct (kvs := mergeK [] [(ke, v)]) ⟨W.wd.nb hp, upd_same⟩ ?_
        refine .cons (dv.mono fun b o q => ⟨fun z => q.1 (.inl z), ?_⟩) .nil
        rw [upd_ne (fun z : b = p => q.1 (.inr z))]
        exact q.2
    · exact hd.elim⟩⟩⟩
end
end DL

set_option Elab.async false
set_option linter.all false
set_option maxRecDepth 100000
set_option maxHeartbeats 4000000
set_option exponentiation.threshold 2000
namespace DL
open PySem PySem.Spec PyProof.Rows L2 BT
/-! ### sorted(set(xs)), whole numbers, any number of them -/
abbrev nSet (w : World) : Obj := { cls := .type "set", dict := none, data := .set #[] 0 (.fresh 0 0 (!w.params.followText "set-order")) }
section
variable {P : Program} {w : World} {A : Around} {E : Value → Shared → Prop} {s : Shared}
end
def SqE (K : PySem.W.Frag) (H : Hp) (l : Addr) (xs : List V) : Prop := SqL K H l xs ∨ SqT K H l xs
def tSrtS (K : PySem.W.Frag) (t : TE) : TE := fun σ H Q => t σ H fun x G => ∃ (l : Addr) (zs : List Int), x = V.ref l ∧ SqE K G l (zs.map V.int) ∧ zs.length ≤ 4000 ∧ ∀ (us : List Int) (p : Addr), us.Pairwise (· < ·) → (∀ k, k ∈ us ↔ k ∈ zs) → G p = none → Q (.ref p) (upd G p (.lst (us.map V.int)))
section
variable {X : Cx} {ad : Str → Addr} {E : L2.St → XK} {Ed : DXt} {e : Expr} {fa : DE} {p1 p2 q1 q2 : Pos}
/-- the different ones, ascending -/
def eSrtS (f : DE) : DE := fun ρ Q Ed => f ρ (fun d => match seqD d with
  | some xs => ∃ zs : List Int, intsD xs = some zs ∧ zs.length ≤ 4000 ∧ ∀ us : List Int, us.Pairwise (· < ·) → (∀ x, x ∈ us ↔ x ∈ zs) → Q (.lst (us.map .int))
  | none => False) Ed
/-- sorted of a tuple of whole numbers -/
def oSrtTI : List D → (D → Prop) → Prop
  | [.tup xs], Q => ∃ ns, intsD xs = some ns ∧ ∀ us : List Int, us.Perm ns → us.Pairwise (· ≤ ·) → Q (.lst (us.map D.int))
  | _, _ => False
end
end DL

set_option Elab.async false
set_option linter.all false
set_option maxRecDepth 100000
set_option maxHeartbeats 4000000
set_option exponentiation.threshold 2000
namespace DL
open PySem PySem.Spec PySem.W PySem.SeqAt PySem.Calls PyProof.Rows L2 BT
/-! ### sorted(set(xs)), tuples of whole numbers, fewer than 64 -/
abbrev Prs := List (Addr × List Int)
def refV (L : Prs) : List V := L.map fun q => V.ref q.1
def refs (L : Prs) : List Value := L.map fun q => Value.ref q.1
/-- few different ones -/
def FewK (ks : Prs) : Prop := ∃ C : List (List Int), C.length < 63 ∧ ∀ q ∈ ks, q.2 ∈ C
section
variable {P : Program} {w : World} {A : Around} {E : Value → Shared → Prop} {s : Shared}
end
def tSrtST (K : PySem.W.Frag) (t : TE) : TE := fun σ H Q => t σ H fun x G => ∃ (l : Addr) (ks : Prs), x = V.ref l ∧ SqL K G l (refV ks) ∧ (∀ q ∈ ks, G q.1 = some (.tup (q.2.map V.int))) ∧ FewK ks ∧
  ∀ (ys : Prs) (p : Addr), (∀ q ∈ ys, q ∈ ks) → (∀ q ∈ ks, q.2 ∈ ys.map (·.2)) → (ys.map (·.2)).Nodup → SrtT (ys.map (·.2)) → G p = none → Q (.ref p) (upd G p (.lst (refV ys)))
def leP (q r : Addr × List Int) : Bool := sortLe (listOrd itemOrd) false (fun z : Addr × List Int => keyToks (pyI z.2)) q r
section
variable {X : Cx}
end
end DL

set_option Elab.async false
set_option linter.all false
set_option maxRecDepth 100000
set_option maxHeartbeats 4000000
set_option exponentiation.threshold 2000
namespace DL
open PySem PySem.Spec PyProof.Rows L2 BT
section
variable {X : Cx} {ad : Str → Addr} {E : L2.St → XK} {Ed : DXt} {e : Expr} {fa : DE} {p1 p2 q1 q2 p pos pos' : Pos}
/-- the different tuples, ascending -/
def eSrtST (f : DE) : DE := fun ρ Q Ed => f ρ (fun d => match d with
  | .lst xs => ∃ ls : List (List Int), xs = ls.map tupI ∧ (∃ C : List (List Int), C.length < 63 ∧ ∀ x ∈ ls, x ∈ C) ∧ ∀ us : List (List Int), SrtT us → us.Nodup → (∀ x, x ∈ us ↔ x ∈ ls) → Q (.lst (us.map tupI))
  | _ => False) Ed
/-! ### sorted, as a new list -/
def fSrtI (f : DE) : DF := fun ρ Q Ed => f ρ (fun d => match d with
  | .lst xs => ∃ ns, intsD xs = some ns ∧ ∀ us : List Int, us.Perm ns → us.Pairwise (· ≤ ·) → Q (us.map D.int)
  | _ => False) Ed
def fSrtT (f : DE) : DF := fun ρ Q Ed => f ρ (fun d => match d with
  | .lst xs => ∃ ls : List (List Int), xs = ls.map tupI ∧ ∀ us : List (List Int), us.Perm ls → SrtT us → Q (us.map tupI)
  | _ => False) Ed
/-! ### a list that is being written is lent to a test -/
def sIfL (k : Nat) (t : DT) (g h : DS) : DS := fun De ρ Ed => match ρ[k]? with
  | some (.own xs) => t (ρ.set k (.dat (.lst xs))) (fun c => if c = true then g De ρ Ed else h De ρ Ed) Ed
  | _ => False
end
end DL

set_option Elab.async false
set_option linter.all false
set_option maxRecDepth 100000
set_option maxHeartbeats 2000000
namespace DL
open PySem PySem.Spec PyProof.Rows L2 BT
section
variable {X : Cx} {ad : Str → Addr} {E : L2.St → XK} {Ed : DXt} {b e : Expr} {fa fb : DE} {i : Nat} {x : Str} {pos pos' pos2 : Pos} {op : Operator} {ti : TIp} {o : D → D → (D → Prop) → Prop}
/-- x[k] op= e, x a list of its own -/
def sAugI (i : Nat) (o : D → D → (D → Prop) → Prop) (fk fv : DE) : DS := fun De ρ Ed => match ρ[i]? with
  | some (.own xs) => fk ρ (fun k => match k with
    | .int z => (match ixN xs.length z, atI xs z with
      | some j, some old => fv ρ (fun y => o old y fun d => De.nx (ρ.set i (.own (xs.set j d)))) Ed
      | _, _ => False)
    | _ => False) Ed
  | _ => False
end
end DL

set_option Elab.async false
set_option linter.all false
set_option maxRecDepth 100000
set_option maxHeartbeats 2000000
namespace DL
open PySem PySem.Spec PyProof.Rows L2 BT
/-! ### [elt for a, b in pairs if ..] -/
def prD (d : D) (k : D → D → Prop) : Prop := match d with
  | .tup [a, b] => k a b
  | _ => False
theorem prD_at {ad : Str → Addr} {B : Addr → Prop} {H : Hp} {K : PySem.W.Frag} {v : V} {d : D} {k : D → D → Prop} (dv : Dx ad (Fz B H) v d) (h : prD d k) : ∃ d1 d2 p v1 v2, d = .tup [d1, d2] ∧ v = .ref p ∧ SqT K H p [v1, v2] ∧ Dx ad (Fz B H) v1 d1 ∧ Dx ad (Fz B H) v2 d2 ∧ k d1 d2 := by
  unfold prD at h
  split at h
  · rename_i a b
    cases dv with
    | tup ea ra => cases ra with
      | cons x r => cases r with
        | cons y r =>
          cases r
          exact ⟨a, b, _, _, _, rfl, rfl, .inl (.inl ea.2), x, y, h⟩
  · exact h.elim
theorem RepE.set1 {ad : Str → Addr} {B : Addr → Prop} {s : SO} {H : Hp} {σ : L2.St} {ρ : List Sl} {i : Nat} {v : V} {d : D} (r : RepE ad B s H σ ρ) (dv : Dx ad (Fz B H) v d) : RepE ad B s H (σ.set i (some v)) (ρ.set i (.dat d)) := by
  refine ⟨r.wd, fun j sl e => ?_, by rw [List.length_set, List.length_set, r.len]⟩
  by_cases hj : j = i
  · subst hj
    by_cases hl : j < ρ.length
    · rw [List.getElem?_set_self hl] at e
      cases e
      rw [List.getElem?_set_self (by rw [r.len]; exact hl)]
      exact ⟨v, rfl, dv⟩
    · rw [List.getElem?_eq_none (by rw [List.length_set]; omega)] at e; cases e
  · rw [List.getElem?_set_ne (Ne.symm hj)] at e ⊢
    exact r.sl j sl e
theorem wipe_nn : ∀ {vs : List Nat} {τ : L2.St} {j : Nat}, j ∈ vs → j < τ.length → (wipe τ vs)[j]? = some none := by
  intro vs
  induction vs with
  | nil => intro τ j hj; cases hj
  | cons w vs ih =>
    intro τ j hj hl
    unfold wipe
    by_cases e : j = w
    · subst e
      rw [List.getElem?_set_self (by rw [wipe_length]; exact hl)]
    · rw [List.getElem?_set_ne (Ne.symm e)]
      exact ih ((List.mem_cons.mp hj).resolve_left e) hl
theorem wipe_set1 {τ : L2.St} {v : Option V} {i : Nat} (vs : List Nat) (h : i ∈ vs) : wipe (τ.set i v) vs = wipe τ vs := by
  refine List.ext_getElem? fun j => ?_
  by_cases hj : j ∈ vs
  · by_cases hl : j < τ.length
    · rw [wipe_nn hj (by rw [List.length_set]; exact hl), wipe_nn hj hl]
    · rw [List.getElem?_eq_none (by rw [wipe_length, List.length_set]; omega), List.getElem?_eq_none (by rw [wipe_length]; omega)]
  · rw [wipe_get hj, wipe_get hj, List.getElem?_set_ne (fun e : i = j => hj (e ▸ h))]
section
variable {X : Cx} {ad : Str → Addr} {E : L2.St → XK} {Ed : DXt} {tg elt iter e : Expr} {ifs : List Expr} {scope : Scope} {own : List (Str × Nat)} {pos : Pos} {fi : DI} {tt : DT} {te : DE}
/-- [elt for a, b in iter if ..], the names in slots i and i2 -/
def fLcP (fi : DI) (vs : List Nat) (i i2 : Nat) (tt : DT) (te : DE) : DF := fun ρ Q Ed => fi ρ (fun xs => xs.length ≤ 1000000 ∧ ∃ Iv : Nat → List D → Prop, Iv 0 [] ∧
  (∀ j x acc, xs[j]? = some x → Iv j acc → prD x fun d1 d2 => tt (((wipeD ρ vs).set i (.dat d1)).set i2 (.dat d2)) (fun b => if b = true then te (((wipeD ρ vs).set i (.dat d1)).set i2 (.dat d2)) (fun y => Iv (j + 1) (acc ++ [y])) X0 else Iv (j + 1) acc) X0) ∧ ∀ acc, Iv xs.length acc → Q acc) Ed
theorem lc_lowP {B : Addr → Prop} {s : SO} {ρ : List Sl} {σ : L2.St} {H H1 : Hp} {J : It} {xs : List D} {us : List Nat} {i i2 : Nat} {K : PySem.W.Frag} {Qd : List D → Prop} {Q : VK} (him : i ∈ us) (him2 : i2 ∈ us) (W : Wl ad E Ed B s ρ σ H) (f1 : Frm s H H1) (io : ItOk ad B H1 J xs)
    (hx : xs.length ≤ 1000000 ∧ ∃ Iv : Nat → List D → Prop, Iv 0 [] ∧ (∀ j x acc, xs[j]? = some x → Iv j acc → prD x fun d1 d2 => tt (((wipeD ρ us).set i (.dat d1)).set i2 (.dat d2)) (fun b => if b = true then te (((wipeD ρ us).set i (.dat d1)).set i2 (.dat d2)) (fun y => Iv (j + 1) (acc ++ [y])) X0 else Iv (j + 1) acc) X0) ∧ ∀ acc, Iv xs.length acc → Qd acc)
    (k : ∀ xs p vs H', Qd xs → H p = none → Frm s H H' → H' p = some (.lst vs) → DxA ad (Fz (fun b => B b ∨ b = p) H') vs xs → Q (.ref p) H') :
    ∀ D, H1 D = none → ∃ W : Nat → Nat → Hp → Prop, (∃ m, W 0 m (upd H1 D (.lst []))) ∧ ∀ i' m H, W i' m H → (J.stop i' H ∧ Q (.ref D) H) ∨ (J.go i' H ∧ ∃ Nx : Hp → Prop, (∀ H', Nx H' → ∃ m', m' < m ∧ W (i' + 1) m' H') ∧ ∀ x H', J.yld i' H x H' →
      gTup K 2 (gCons (gName i) (gCons (gName i2) gNil)) x (wipe σ us) H' fun σ2 H2 => wipe σ2 us = wipe σ us ∧ ttD ad (fun _ => E0) X0 tt σ2 H2 fun b H3 => if b = true then teD ad (fun _ => E0) X0 te σ2 H3 fun y H4 => ∃ acc, H4 D = some (.lst acc) ∧ acc.length < sizeLine ∧ Nx (upd H4 D (.lst (acc ++ [y]))) else Nx H3) := by
  intro D hD
  obtain ⟨hlen, Iv, h0, hs, hd⟩ := hx
  have W1 := W.frm f1
  have wd1 := W1.wd
  have Dn : ∀ l a, s = some (l, a) → D ≠ a ∧ D ≠ l := fun l a e => by
    obtain ⟨q, _, _⟩ := wd1.sr l a e
    exact q.free_ne hD
  have wdk : ∀ {H' : Hp}, Frm s H1 H' → (∃ vs, H' D = some (.lst vs)) → Wd (fun b => B b ∨ b = D) s H' := fun {H'} f h => ⟨fun b q => by
      rcases q with q | rfl
      · exact (wd1.frm f).al b q
      · exact ⟨_, h.choose_spec, fun _ e => (nomatch e)⟩, fun l a e => ⟨f.sr l a e, .inl (wd1.sr l a e).2.1, .inl (wd1.sr l a e).2.2⟩⟩
  have fzk : ∀ {H' : Hp}, Frm s H1 H' → ∀ b o, Fz B H1 b o → Fz (fun b => B b ∨ b = D) H' b o := fun {H'} f b o h => ⟨fun q => q.elim h.1 (fun e => by
      have z := h.2
      rw [e, hD] at z
      cases z), (wd1.fz f b o h).2⟩
  refine ⟨fun j m H' => m = xs.length - j ∧ j ≤ xs.length ∧ Frm s H1 H' ∧ ∃ vs acc, H' D = some (.lst vs) ∧ DxA ad (Fz (fun b => B b ∨ b = D) H') vs acc ∧ acc.length ≤ j ∧ Iv j acc, ⟨xs.length, by simp, Nat.zero_le _, wd1.new hD, [], [], upd_same, .nil, Nat.zero_le _, h0⟩, ?_⟩
  rintro j m H' ⟨rfl, hj, f, vs, acc, hv, da, hl, iv⟩
  have io := io j H' _ s (wdk f ⟨_, hv⟩) (fzk f)
  by_cases hlt : j < xs.length
  · obtain ⟨go, yl⟩ := io.2 xs[j] (List.getElem?_eq_getElem hlt)
    refine .inr ⟨go, fun H2 => Frm s H1 H2 ∧ ∃ vs acc, H2 D = some (.lst vs) ∧ DxA ad (Fz (fun b => B b ∨ b = D) H2) vs acc ∧ acc.length ≤ j + 1 ∧ Iv (j + 1) acc, fun H2 q => ⟨_, by omega, rfl, hlt, q⟩, fun v H2 y => ?_⟩
    obtain ⟨sm, dv⟩ := yl v H2 y
    have f2 := (wdk f ⟨_, hv⟩).same sm
    have f12 := f.trans f2
    have hv2 := sm _ _ hv
    have w2 := wdk f12 ⟨_, hv2⟩
    have da2 := da.mono ((wdk f ⟨_, hv⟩).fz f2)
    have st := hs j xs[j] acc (List.getElem?_eq_getElem hlt) iv
    obtain ⟨d1, d2, p, v1, v2, ed, rfl, sq, dv1, dv2, st⟩ := prD_at (K := K) dv st
    have Wb : Wl ad (fun _ => E0) X0 (fun b => B b ∨ b = D) s (((wipeD ρ us).set i (.dat d1)).set i2 (.dat d2)) (((wipe σ us).set i (some v1)).set i2 (some v2)) H2 :=
      ⟨(RepE.wipe1 (B := B) (H := H) w2 (fun j sl e => (W.rep.sl j sl e).up W.wd (fun b q => .inl q) (fun b o q => fzk f12 b o (W.wd.fz f1 b o q)) (f1.trans f12).st) W.rep.len dv1).set1 dv2, fun cn d v x H' _ _ _ q => q.elim⟩
    refine ⟨p, [v1, v2], rfl, sq, rfl, v1, [v2], rfl, v2, [], rfl, rfl, (by rw [wipe_set1 us him2, wipe_set us him]), _, s, _, _, Wb, st, fun b H3 hb f3 => ?_⟩
    have hv3 := f3.st D _ (fun l a e => (Dn l a e).1) hv2
    have da3 := da2.mono (w2.fz f3)
    cases b with
    | false => exact ⟨f12.trans f3, vs, acc, hv3, da3, by omega, hb⟩
    | true =>
      refine ⟨_, s, _, _, Wb.frm f3, hb, fun y u H4 hy f4 dy => ?_⟩
      have hv4 := f4.st D _ (fun l a e => (Dn l a e).1) hv3
      have w3 := (Wb.frm f3).wd
      have da4 := da3.mono (w3.fz f4)
      have f14 := f12.trans (f3.trans f4)
      have fzu : ∀ b o, Fz (fun b => B b ∨ b = D) H4 b o → Fz (fun b => B b ∨ b = D) (upd H4 D (.lst (vs ++ [u]))) b o := fun b o q => ⟨q.1, by rw [upd_ne (fun e => q.1 (.inr e))]; exact q.2⟩
      refine ⟨vs, hv4, by rw [da.length, sizeLine_eq]; omega, ⟨fun b o n q => ?_, fun l a e => ?_⟩, vs ++ [u], acc ++ [y], upd_same, (da4.append (.cons dy .nil)).mono fzu, by rw [List.length_append, List.length_singleton]; omega, hy⟩
      · rw [upd_ne (ne_of_none q hD)]
        exact f14.st b o n q
      · obtain ⟨⟨i0, b0, c0, cl, n0, w0, h00, h1⟩, ns, h2⟩ := f14.sr l a e
        exact ⟨⟨i0, b0, c0, cl, n0, w0, h00, by rw [upd_ne (Ne.symm (Dn l a e).1)]; exact h1⟩, ns, by rw [upd_ne (Ne.symm (Dn l a e).2)]; exact h2⟩
  · have e : j = xs.length := by omega
    subst e
    have hn : H D = none := by
      cases q : H D with
      | none => rfl
      | some o =>
        have := f1.st D o (fun l a e => (Dn l a e).1) q
        rw [hD] at this; cases this
    exact .inl ⟨io.1 rfl, k acc D vs H' (hd acc iv) hn (f1.trans f) hv da⟩
theorem pfLcP {i i2 : Nat} (hc : X.calm = true) (hN : X.N.Nodup) (hi : ID X ad E Ed tg iter fi) (ok : BlkOk X.N X.env.scope scope own)
    (hg : ∀ (s : Shared) (H : Hp) (C : Addr) (cl : List (Str × Addr)) (fp : List Addr), PG (X.blk s H scope (compEnvC scope cl C X.env) fp) tg (gTup X.K 2 (gCons (gName i) (gCons (gName i2) gNil)))) (ht : ∀ (s : Shared) (H : Hp) (C : Addr) (cl : List (Str × Addr)) (fp : List Addr), FD (X.blk s H scope (compEnvC scope cl C X.env) fp) ad (fun _ => E0) X0 ifs tt)
    (he : ∀ (s : Shared) (H : Hp) (C : Addr) (cl : List (Str × Addr)) (fp : List Addr), PD (X.blk s H scope (compEnvC scope cl C X.env) fp) ad (fun _ => E0) X0 elt te) (him : i ∈ own.map (·.2) := by decide) (him2 : i2 ∈ own.map (·.2) := by decide) (hs : ∀ x, foldedSetIterable iter X.env x = pure x := by intro _; rfl) :
    PF X ad E Ed (.ListComp elt [⟨tg, iter, ifs, 0⟩] scope pos) (fLcP fi (own.map (·.2)) i i2 tt te) :=
  ⟨weakE (pe_lc hc hN hi.pi ok hg (fun s H C cl fp => (ht s H C cl fp).pts) (fun s H C cl fp => (he s H C cl fp).pe) hs) fun σ H Q ⟨B, s, ρ, Qd, W, h, k⟩ => ⟨B, s, ρ, _, W, h, fun xs H1 J hx f1 io => lc_lowP him him2 W f1 io hx k⟩⟩
/-- name = [..] on one line -/
theorem sdSetLcP {i i2 j : Nat} {y : Str} {py spos : Pos} (hc : X.calm = true) (hN : X.N.Nodup) (hy : X.N[j]? = some y) (hyl : X.env.scope.names.lookup y = some .local) (hsw : swapsWith (.ListComp elt [⟨tg, iter, ifs, 0⟩] scope pos) (some (.Name y py)) spos.line X.env = pure true)
    (hi : ID X ad E Ed tg iter fi) (ok : BlkOk X.N X.env.scope scope own)
    (hg : ∀ (s : Shared) (H : Hp) (C : Addr) (cl : List (Str × Addr)) (fp : List Addr), PG (X.blk s H scope (compEnvC scope cl C X.env) fp) tg (gTup X.K 2 (gCons (gName i) (gCons (gName i2) gNil)))) (ht : ∀ (s : Shared) (H : Hp) (C : Addr) (cl : List (Str × Addr)) (fp : List Addr), FD (X.blk s H scope (compEnvC scope cl C X.env) fp) ad (fun _ => E0) X0 ifs tt)
    (he : ∀ (s : Shared) (H : Hp) (C : Addr) (cl : List (Str × Addr)) (fp : List Addr), PD (X.blk s H scope (compEnvC scope cl C X.env) fp) ad (fun _ => E0) X0 elt te) (him : i ∈ own.map (·.2) := by decide) (him2 : i2 ∈ own.map (·.2) := by decide) (hs : ∀ x, foldedSetIterable iter X.env x = pure x := by intro _; rfl) :
    SD X ad E Ed (.Assign [.Name y py] (.ListComp elt [⟨tg, iter, ifs, 0⟩] scope pos) spos) (sSet j (eF (fLcP fi (own.map (·.2)) i i2 tt te))) :=
  ⟨weakS (ps_setLc hc hN hy hyl hsw hi.pi ok hg (fun s H C cl fp => (ht s H C cl fp).pts) (fun s H C cl fp => (he s H C cl fp).pe) hs) fun Dn σ H ⟨c, P, ρ, De, r, t, en, h⟩ =>
    ⟨Bl c P, c.s, ρ, _, r.wl t, h, fun xs H1 J hx f1 io => lc_lowP (Q := fun x H1 => gName j x σ H1 Dn.nx) him him2 (r.wl t) f1 io hx fun xs p vs H' hd hp f hv da => en.nx _ _ _ _ ((r.frm f).setD (.lst ⟨r.wd.nb hp, hv⟩ (da.mono fun b o q => ⟨fun z => q.1 (.inl z), q.2⟩))) hd⟩⟩
end
end DL

set_option Elab.async false
set_option linter.all false
set_option maxRecDepth 100000
set_option maxHeartbeats 2000000
namespace DL
open PySem PySem.Spec PyProof.Rows L2 BT
/-! ### repr of None too -/
section
variable {X : Cx} {ad : Str → Addr} {E : L2.St → XK} {Ed : DXt} {e : Expr} {p pos : Pos} {n : Nat} {ga : DA}
def rReprN : List V → Hp → VK → Prop := fun xs H Q => (xs = [.non] ∧ Q (.str (Str.ofString "None")) H) ∨ rReprB xs H Q
theorem call_reprN (gd : X.A.guards = some []) (hu : X.A.units + 64 < cLine) : CallR X (.builtin "repr") rReprN := by
  intro pins s σ H xs us Q I r h
  rcases h with ⟨rfl, q⟩ | h
  · obtain ⟨u, rfl, r1⟩ := vals1 r
    cases (show u = Value.none from r1)
    exact PySem.P.repr_of_none ⟨.str _, H, I.tok _, ⟨_, rfl⟩, q⟩
  · exact call_reprB gd hu pins s σ H xs us Q I r h
def oReprN : List D → (D → Prop) → Prop
  | [.non], Q => Q (.str (Str.ofString "None"))
  | xs, Q => oReprB xs Q
theorem pdReprN (gd : X.A.guards = some []) (hu : X.A.units + 64 < cLine) (hg : Gl X "repr") (hm : X.mg "repr" = none) (ha : AD X ad E Ed [e] n ga) (he : starEach [e] X.env = (false, eval e X.env) :: starEach [] X.env := by rfl) (hpl : (backTo pos (starEach [] X.env)).any (·.1) = false := by rfl) : PD X ad E Ed (.Call (.Name "repr" p) [e] [] pos) (eB oReprN ga) :=
  pdB (call_reprN gd hu) (fun B s H vs ds Qd Q w da h k => by
    unfold oReprN at h
    split at h
    · cases da with
      | cons a r => cases r; cases a; exact .inl ⟨rfl, k _ _ H h w.refl (.str _)⟩
    · refine .inr ?_
      unfold oReprB at h
      split at h
      · cases da with
        | cons a r => cases r; cases a; exact .inr (.inl ⟨_, rfl, k _ _ H h w.refl (.str _)⟩)
      · cases da with
        | cons a r => cases r; cases a; exact .inr (.inr (.inl ⟨_, rfl, h.1, k _ _ H h.2 w.refl (.str _)⟩))
      · cases da with
        | cons a r => cases r; cases a; exact .inr (.inr (.inr ⟨_, rfl, h.1, k _ _ H h.2 w.refl (.str _)⟩))
      · obtain ⟨hk, p, e, sr, h⟩ := h
        cases da with
        | cons a r =>
          cases r
          have dv := a.dv e
          cases a with
          | tup ea ra => exact .inl ⟨_, p, rfl, dv, sr, k _ _ H h w.refl (.str _)⟩
          | lst ea ra => exact .inl ⟨_, p, rfl, dv, sr, k _ _ H h w.refl (.str _)⟩
          | dct ea ra => exact .inl ⟨_, p, rfl, dv, sr, k _ _ H h w.refl (.str _)⟩
          | _ => exact hk.elim
      · exact h.elim) hg hm PyProof.Rows.boot_repr ha (by decide) (by decide) he hpl
end
end DL

set_option Elab.async false
set_option linter.all false
set_option maxRecDepth 100000
set_option maxHeartbeats 4000000
set_option exponentiation.threshold 2000
namespace DL
open PySem PySem.Spec PyProof.Rows L2 BT
/-! ### logs: items of a lot and a bit that may be unknown -/
abbrev LI := Nat × Option Nat
def optI : Option Nat → D
  | none => .non
  | some b => .int (b : Int)
def itD (x : LI) : D := .tup [lotM x.1, optI x.2]
def itL (x : LI) : D := .tup [.int (x.1 : Int), optI x.2]
structure LogOk (n : Nat) (L : List LI) : Prop where
  len : L.length ≤ 60
  lt : ∀ x ∈ L, x.1 < 2 ^ n
  bit : ∀ x ∈ L, ∀ b, x.2 = some b → b ≤ 1
def atL (L : List LI) (i : Nat) : LI := L.getD i (0, none)
def unkF (L : List LI) (is : List Nat) : Option Nat := is.find? fun i => (atL L i).2.isNone
def sumL (L : List LI) (is : List Nat) : Nat := is.foldl (fun w i => w ^^^ (atL L i).1) 0
def oneL' (L : List LI) (is : List Nat) : Nat := is.foldl (fun w i => w + (atL L i).2.getD 0) 0
/-- what against_fault answers for a lot of indexes -/
def afF (ms : List Nat) (L : List LI) (is : List Nat) : D := match unkF L is with
  | some i => .tup [.str (Str.ofString "unknown"), .int (i : Int)]
  | none => if (ms.any fun m => par (m &&& sumL L is)) = true then .tup [.str (Str.ofString "check")] else if oneL' L is % 2 = 0 then .tup [.str (Str.ofString "even")] else .non
def d_is_bit : DSp := fun as Q _ => ∃ d : D, as = [.dat d] ∧ noO d = true ∧ Q (.bl (btwX 0 1 d))
def d_is_item : DSp := fun as Q _ => ∃ (n : Nat) (x : LI), as = [.dat (itD x), .dat (.int (n : Int))] ∧ n ≤ 60 ∧ x.1 < 2 ^ n ∧ (∀ b, x.2 = some b → b ≤ 1) ∧ Q (.bl true)
def d_need_log : DSp := fun as Q _ => ∃ (n : Nat) (L : List LI), as = [.dat (.lst (L.map itD)), .dat (.int (n : Int))] ∧ n ≤ 60 ∧ LogOk n L ∧ Q .non
def d_against_fault : DSp := fun as Q _ => ∃ (n : Nat) (ms : List Nat) (L : List LI) (d : D), as = [.dat (bookX n ms), .dat (.lst (L.map itD)), .dat d] ∧ Rows n ms ∧ n ≤ 24 ∧ LogOk n L ∧ noO d = true ∧
  (isLotX L.length d = false → Q (.tup [.str (Str.ofString "form")])) ∧ ∀ c, d = lotM c → c < 2 ^ L.length → Q (afF ms L (lotN c))
def d_law_lot_f : DSp := fun as Q _ => ∃ m : Nat, as = [.dat (.int (m : Int))] ∧ m < 2 ^ 30 ∧ Q (lotM m)
def d_law_odd_f : DSp := fun as Q _ => ∃ m : Nat, as = [.dat (.int (m : Int))] ∧ m < 2 ^ 32 ∧ Q (.bl (par m))
def d_law_row_f : DSp := fun as Q _ => ∃ n : Nat, as = [.src, .dat (.int (n : Int))] ∧ n ≤ 24 ∧ ∀ m : Nat, m < 2 ^ n → Q (.int (m : Int))
def d_law_check_f : DSp := fun as Q _ => ∃ (n : Nat) (rs : List Nat), as = [.src, .dat (.lst (natX rs)), .dat (.int (n : Int))] ∧ n ≤ 24 ∧ (∀ r ∈ rs, r < 2 ^ n) ∧ rs.length ≤ 100 ∧ ∀ m : Nat, m < 2 ^ n → Q (.int (m : Int))
def d_law_log_f : DSp := fun as Q _ => ∃ (n : Nat) (rs : List Nat), as = [.src, .dat (.int (n : Int)), .dat (.lst (natX rs))] ∧ n ≤ 24 ∧ (∀ r ∈ rs, r < 2 ^ n) ∧ rs.length ≤ 100 ∧ ∀ L : List LI, LogOk n L → L.length ≤ 6 → Q (.lst (L.map itL))
def d_law_due_f : DSp := fun as Q _ => ∃ (n : Nat) (rs : List Nat) (L : List LI) (c : Nat), as = [.dat (.lst (L.map itL)), .dat (.lst (natX rs)), .dat (lotM c)] ∧ n ≤ 24 ∧ (∀ r ∈ rs, r < 2 ^ n) ∧ rs.length ≤ 100 ∧ LogOk n L ∧ c < 2 ^ L.length ∧ Q (afF rs L (lotN c))
def d_law_wrong_f : DSp := fun as Q _ => ∃ m : Nat, as = [.src, .dat (.int (m : Int))] ∧ m ≤ 6 ∧ ∀ d, noO d = true → isLotX m d = false → Q d
end DL

set_option Elab.async false
set_option linter.all false
set_option maxRecDepth 100000
set_option maxHeartbeats 4000000
set_option exponentiation.threshold 2000
namespace DL
open PySem PySem.Spec PyProof.Rows L2 BT
def r_is_bit : DS := (sRet (eCall d_is_between (aV 0 (aC (eC (.int 0)) (aC (eC (.int 1)) aN)))))
def r_is_item : DS := (sSeq (sIf (tOo (tN (tTru (eIs "tuple" (eV 0)))) (t2 (oEq true) (eB oLen (aV 0 aN)) (eC (.int 2)))) (sRet (eC (.bl false))) sNil)
  (sRet (eAn (eCall d_is_lot (aC (e2 oIx (eV 0) (eC (.int 0))) (aV 1 aN))) (eOo (e2 (oIsN false) (e2 oIx (eV 0) (eC (.int 1))) (eC .non)) (eCall d_is_bit (aC (e2 oIx (eV 0) (eC (.int 1))) aN))))))
def r_need_log : DS := (sSeq (sIf (tOo (tN (tTru (eIs "list" (eV 0)))) (t2 oGt (eB oLen (aV 0 aN)) (eC (.int 60)))) (sRaise "BadLog" (e1 (oI1 fun i => .int (-i)) (eC (.int 1)))) sNil)
  (sFor (iEn (aV 0 aN)) (gN2 2 3) (sIf (tN (tTru (eCall d_is_item (aV 3 (aV 1 aN))))) (sRaise "BadLog" (eV 2)) sNil)))
def r_against_fault_1 : DS := (sAug 4 (oI fun i j => .int (i + j)) (eV 7))
def r_against_fault_2 : DS := (sSeq (sAug 3 (oI fun i j => .int (Builtin.bitXor i j)) (eCall d_mask_of (aV 6 aN)))
  r_against_fault_1)
def r_against_fault_3 : DS := (sSeq (sIf (t2 (oIsN false) (eV 7) (eC .non)) (sRet (eTup (aC (eC (.str (Str.ofString "unknown"))) (aV 5 aN)))) sNil)
  r_against_fault_2)
def r_against_fault_4 : DS := (sSeq (sAsg (e2 oIx (eV 1) (eV 5)) (gN2 6 7))
  r_against_fault_3)
def r_against_fault_5 : DS := (sRet (eC .non))
def r_against_fault_6 : DS := (sSeq (sIf (t2 (oEq false) (e2 (oIC (fun _ j => 0 < j) fun i j => .int (i % j)) (eV 4) (eC (.int 2))) (eC (.int 0))) (sRet (eTup (aC (eC (.str (Str.ofString "even"))) aN))) sNil)
  r_against_fault_5)
def r_against_fault_7 : DS := (sSeq (sIf (tN (tTru (eMeth "Book" "is_check" d_Book_is_check (eV 0) (aC (eCall d_lot_of (aV 3 aN)) aN)))) (sRet (eTup (aC (eC (.str (Str.ofString "check"))) aN))) sNil)
  r_against_fault_6)
def r_against_fault_8 : DS := (sSeq (sFor (iSq (eV 2)) (gN 5) r_against_fault_4)
  r_against_fault_7)
def r_against_fault_9 : DS := (sSeq (sSet 4 (eC (.int 0)))
  r_against_fault_8)
def r_against_fault_10 : DS := (sSeq (sSet 3 (eC (.int 0)))
  r_against_fault_9)
def r_against_fault_11 : DS := (sSeq (sIf (tN (tTru (eCall d_is_lot (aV 2 (aC (eB oLen (aV 1 aN)) aN))))) (sRet (eTup (aC (eC (.str (Str.ofString "form"))) aN))) sNil)
  r_against_fault_10)
def r_against_fault : DS := (sSeq (sExp (eCall d_need_log (aV 1 (aC (eFld tab0 "size" (eV 0)) aN))))
  r_against_fault_11)
def r_law_lot_f : DS := (sRet (e1 oTuple (eF (fLc (iRg1 (aC (e1 (oI1 fun i => .int (Builtin.Int.intBits i : Nat)) (eV 0)) aN)) [1] 1 (t2 (oEq false) (e2 (oI fun i j => .int (Builtin.bitAnd i j)) (e2 (oIC (fun _ j => 0 ≤ j) fun i j => .int (i / 2 ^ j.toNat)) (eV 0) (eV 1)) (eC (.int 1))) (eC (.int 1))) (eV 1)))))
def r_law_odd_f : DS := (sSeq (sSet 0 (e2 (oI fun i j => .int (Builtin.bitXor i j)) (eV 0) (e2 (oIC (fun _ j => 0 ≤ j) fun i j => .int (i / 2 ^ j.toNat)) (eV 0) (eC (.int 16)))))
  (sSeq (sSet 0 (e2 (oI fun i j => .int (Builtin.bitXor i j)) (eV 0) (e2 (oIC (fun _ j => 0 ≤ j) fun i j => .int (i / 2 ^ j.toNat)) (eV 0) (eC (.int 8)))))
  (sSeq (sSet 0 (e2 (oI fun i j => .int (Builtin.bitXor i j)) (eV 0) (e2 (oIC (fun _ j => 0 ≤ j) fun i j => .int (i / 2 ^ j.toNat)) (eV 0) (eC (.int 4)))))
  (sSeq (sSet 0 (e2 (oI fun i j => .int (Builtin.bitXor i j)) (eV 0) (e2 (oIC (fun _ j => 0 ≤ j) fun i j => .int (i / 2 ^ j.toNat)) (eV 0) (eC (.int 2)))))
  (sSeq (sSet 0 (e2 (oI fun i j => .int (Builtin.bitXor i j)) (eV 0) (e2 (oIC (fun _ j => 0 ≤ j) fun i j => .int (i / 2 ^ j.toNat)) (eV 0) (eC (.int 1)))))
  (sRet (e2 (oEq false) (e2 (oI fun i j => .int (Builtin.bitAnd i j)) (eV 0) (eC (.int 1))) (eC (.int 1)))))))))
def r_law_row_f : DS := (sSeq (sSet 2 (eCall d_law_draw (aV 0 (aC (e2 (oIC CPow fun i j => .int (i * 2 ^ j.toNat)) (eC (.int 1)) (eV 1)) aN))))
  (sSeq (sIf (t2 (oEq false) (eCall d_law_draw (aV 0 (aC (eC (.int 2)) aN))) (eC (.int 0))) (sSet 2 (e2 (oI fun i j => .int (Builtin.bitAnd i j)) (eV 2) (eCall d_law_draw (aV 0 (aC (e2 (oIC CPow fun i j => .int (i * 2 ^ j.toNat)) (eC (.int 1)) (eV 1)) aN))))) sNil)
  (sRet (eV 2))))
def r_law_check_f : DS := (sSeq (sSet 3 (eCall d_law_draw (aV 0 (aC (e2 (oIC CPow fun i j => .int (i * 2 ^ j.toNat)) (eC (.int 1)) (eV 2)) aN))))
  (sSeq (sFor (iRg1 (aC (eC (.int 2)) aN)) (gN 4) (sFor (iSq (eV 1)) (gN 5) (sIf (tTru (eCall d_law_odd_f (aC (e2 (oI fun i j => .int (Builtin.bitAnd i j)) (eV 5) (eV 3)) aN))) (sSet 3 (e2 (oI fun i j => .int (Builtin.bitXor i j)) (eV 3) (e2 (oIC CPow fun i j => .int (i * 2 ^ j.toNat)) (eC (.int 1)) (e2 (oI fun i j => .int (i - j)) (e1 (oI1 fun i => .int (Builtin.Int.intBits i : Nat)) (e2 (oI fun i j => .int (Builtin.bitAnd i j)) (eV 5) (e1 (oI1 fun i => .int (-i)) (eV 5)))) (eC (.int 1)))))) sNil)))
  (sRet (eV 3))))
def r_law_log_1 : DS := (sApp 3 (eTup (aV 6 (aC (e2 oIx (eF (fLst (aC (eC (.int 0)) (aC (eC (.int 1)) (aC (eC (.int 0)) (aC (eC (.int 1)) (aC (eC (.int 1)) (aC (eC (.int 0)) (aC (eC .non) aN))))))))) (eCall d_law_draw (aV 0 (aC (eC (.int 7)) aN)))) aN))))
def r_law_log_2 : DS := (sSeq (sIf (tAn (t2 (oEq false) (eV 5) (eC (.int 4))) (t2 oGt (eV 4) (eC (.int 0)))) (sSet 6 (e2 oIx (eIxO 3 (eCall d_law_draw (aV 0 (aV 4 aN)))) (eC (.int 0)))) sNil)
  r_law_log_1)
def r_law_log_3 : DS := (sSeq (sIf (tAn (t2 (oEq false) (eV 5) (eC (.int 3))) (t2 oGt (eV 4) (eC (.int 0)))) (sSet 6 (e2 (oI fun i j => .int (Builtin.bitXor i j)) (e2 oIx (eIxO 3 (eCall d_law_draw (aV 0 (aV 4 aN)))) (eC (.int 0))) (e2 oIx (eIxO 3 (e2 (oI fun i j => .int (i - j)) (eV 4) (eC (.int 1)))) (eC (.int 0))))) sNil)
  r_law_log_2)
def r_law_log_4 : DS := (sSeq (sIf (t2 (oEq false) (eV 5) (eC (.int 2))) (sSet 6 (eC (.int 0))) sNil)
  r_law_log_3)
def r_law_log_5 : DS := (sSeq (sIf (t2 oLt (eV 5) (eC (.int 2))) (sSet 6 (eCall d_law_check_f (aV 0 (aV 2 (aV 1 aN))))) sNil)
  r_law_log_4)
def r_law_log_6 : DS := (sSeq (sSet 6 (eCall d_law_row_f (aV 0 (aV 1 aN))))
  r_law_log_5)
def r_law_log_7 : DS := (sSeq (sSet 5 (eCall d_law_draw (aV 0 (aC (eC (.int 6)) aN))))
  r_law_log_6)
def r_law_log_8 : DS := (sFrz 3 (sRet (eV 3)))
def r_law_log_9 : DS := (sSeq (sFor (iRg1 (aC (eCall d_law_draw (aV 0 (aC (eC (.int 7)) aN))) aN)) (gN 4) r_law_log_7)
  r_law_log_8)
def r_law_log_f : DS := (sSeq (sSetO 3 (fLst aN))
  r_law_log_9)
def r_law_due_f : DS := (sSeq (sSet 3 (eC (.int 0)))
  (sSeq (sSet 4 (eC (.int 0)))
  (sSeq (sFor (iSq (eV 2)) (gN 5) (sIf (t2 (oIsN false) (e2 oIx (e2 oIx (eV 0) (eV 5)) (eC (.int 1))) (eC .non)) (sRet (eTup (aC (eC (.str (Str.ofString "unknown"))) (aV 5 aN)))) sNil))
  (sSeq (sFor (iSq (eV 2)) (gN 5) (sSeq (sSet 3 (e2 (oI fun i j => .int (Builtin.bitXor i j)) (eV 3) (e2 oIx (e2 oIx (eV 0) (eV 5)) (eC (.int 0)))))
  (sSet 4 (e2 oAdd (eV 4) (e2 oIx (e2 oIx (eV 0) (eV 5)) (eC (.int 1)))))))
  (sSeq (sIf (tTru (eB oAny (aC (eF (fLc (iSq (eV 1)) [6] 6 tYs (eCall d_law_odd_f (aC (e2 (oI fun i j => .int (Builtin.bitAnd i j)) (eV 6) (eV 3)) aN)))) aN))) (sRet (eTup (aC (eC (.str (Str.ofString "check"))) aN))) sNil)
  (sSeq (sIf (t2 (oEq false) (e2 (oI fun i j => .int (Builtin.bitAnd i j)) (eV 4) (eC (.int 1))) (eC (.int 0))) (sRet (eTup (aC (eC (.str (Str.ofString "even"))) aN))) sNil)
  (sRet (eC .non))))))))
def r_law_wrong_1 : DS := (sSet 5 (e2 oIx (eF (fLst (aC (eTup (aV 5 aN)) (aC (eF (fLst (aV 5 aN))) aN)))) (e2 (oIC (fun _ j => 0 < j) fun i j => .int (i % j)) (eB oInt1 (aV 6 aN)) (eC (.int 2)))))
def r_law_wrong_2 : DS := (sRet (eV 5))
def r_law_wrong_3 : DS := (sSeq (sFor (iRg1 (aC (e2 oAdd (eC (.int 1)) (eCall d_law_draw (aV 0 (aC (eC (.int 24)) aN)))) aN)) (gN 6) r_law_wrong_1)
  r_law_wrong_2)
def r_law_wrong_4 : DS := (sSeq (sSet 5 (eV 3))
  r_law_wrong_3)
def r_law_wrong_5 : DS := (sSeq (sIf (t2 (oEq false) (eV 2) (eC (.int 10))) (sRet (e2 oAdd (eV 3) (eTup (aC (e2 oAdd (e2 (oIC CPow fun i j => .int (i ^ j.toNat)) (eC (.int 10)) (eC (.int 40))) (eV 1)) aN)))) sNil)
  r_law_wrong_4)
def r_law_wrong_6 : DS := (sSeq (sIf (t2 (oEq false) (eV 2) (eC (.int 9))) (sRet (e2 oAdd (e2 oAdd (eSl (eV 3) oNo (oPt (eV 4))) (eTup (aC (eC (.str (Str.ofString "0"))) aN))) (eSl (eV 3) (oPt (eV 4)) oNo))) sNil)
  r_law_wrong_5)
def r_law_wrong_7 : DS := (sSeq (sIf (t2 (oEq false) (eV 2) (eC (.int 8))) (sRet (eTup (aV 3 aN))) sNil)
  r_law_wrong_6)
def r_law_wrong_8 : DS := (sSeq (sIf (t2 (oEq false) (eV 2) (eC (.int 7))) (sRet (e2 oAdd (e2 oAdd (eSl (eV 3) oNo (oPt (eV 4))) (eTup (aC (eC .non) aN))) (eSl (eV 3) (oPt (eV 4)) oNo))) sNil)
  r_law_wrong_7)
def r_law_wrong_9 : DS := (sSeq (sIf (tAn (t2 (oEq false) (eV 2) (eC (.int 6))) (t2 oGt (eV 4) (eC (.int 0)))) (sRet (e2 oAdd (eSl (eV 3) oNo (oPt (eV 4))) (eSl (eV 3) (oPt (e2 (oI fun i j => .int (i - j)) (eV 4) (eC (.int 1)))) oNo))) sNil)
  r_law_wrong_8)
def r_law_wrong_10 : DS := (sSeq (sIf (t2 (oEq false) (eV 2) (eC (.int 5))) (sRet (e2 oAdd (e2 oAdd (eSl (eV 3) oNo (oPt (eV 4))) (eTup (aC (e2 oGt (eV 4) (eC (.int 0))) aN))) (eSl (eV 3) (oPt (eV 4)) oNo))) sNil)
  r_law_wrong_9)
def r_law_wrong_11 : DS := (sSeq (sIf (t2 (oEq false) (eV 2) (eC (.int 4))) (sRet (eTup (aC (e2 oAdd (eV 4) (eC (.int 1))) (aV 4 aN)))) sNil)
  r_law_wrong_10)
def r_law_wrong_12 : DS := (sSeq (sIf (t2 (oEq false) (eV 2) (eC (.int 3))) (sRet (e2 oAdd (eTup (aC (e2 (oI fun i j => .int (i - j)) (e2 (oI fun i j => .int (i - j)) (eC (.int 0)) (eC (.int 1))) (eV 4)) aN)) (eV 3))) sNil)
  r_law_wrong_11)
def r_law_wrong_13 : DS := (sSeq (sIf (t2 (oEq false) (eV 2) (eC (.int 2))) (sRet (e2 oAdd (eV 3) (eTup (aV 1 aN)))) sNil)
  r_law_wrong_12)
def r_law_wrong_14 : DS := (sSeq (sIf (t2 (oEq false) (eV 2) (eC (.int 1))) (sRet (eF (fList (eV 3)))) sNil)
  r_law_wrong_13)
def r_law_wrong_15 : DS := (sSeq (sIf (t2 (oEq false) (eV 2) (eC (.int 0))) (sRet (e2 oIx (eF (fLst (aC (eC .non) (aC (eC (.bl true)) (aC (eC (.int 0)) (aC (eC (.str (Str.ofString ""))) (aC (eC (.str (Str.ofString "0"))) (aC (eC (.dct [])) (aC (eF (fLst aN)) (aC (eF (fLst (aC (eTup aN) aN))) (aC (eTup (aC (eTup aN) aN)) (aC (eDctE (eC (.int 0)) (eC (.int 1))) aN)))))))))))) (eCall d_law_draw (aV 0 (aC (eC (.int 10)) aN))))) sNil)
  r_law_wrong_14)
def r_law_wrong_16 : DS := (sSeq (sSet 4 (eCall d_law_draw (aV 0 (aC (e2 oAdd (eB oLen (aV 3 aN)) (eC (.int 1))) aN))))
  r_law_wrong_15)
def r_law_wrong_17 : DS := (sSeq (sSet 3 (eCall d_law_lot_f (aC (eCall d_law_draw (aV 0 (aC (e2 (oIC CPow fun i j => .int (i * 2 ^ j.toNat)) (eC (.int 1)) (eV 1)) aN))) aN)))
  r_law_wrong_16)
def r_law_wrong_f : DS := (sSeq (sSet 2 (eCall d_law_draw (aV 0 (aC (eC (.int 12)) aN))))
  r_law_wrong_17)
def r_law_1 : DS := (sIf (t2 (oEq true) (eB oReprN (aC (eCall d_against_fault (aV 4 (aC (eF (fList (eV 6))) (aV 8 aN)))) aN)) (eB oReprN (aC (eCall d_law_due_f (aV 5 (aV 3 (aV 8 aN)))) aN))) (sRet (eC (.bl false))) sNil)
def r_law_2 : DS := (sSeq (sSet 8 (eCall d_law_lot_f (aV 7 aN)))
  r_law_1)
def r_law_3 : DS := (sIf (t2 (oEq true) (eB oReprN (aC (eCall d_against_fault (aV 4 (aV 6 (aV 10 aN)))) aN)) (eB oReprN (aC (eTup (aC (eC (.str (Str.ofString "form"))) aN)) aN))) (sRet (eC (.bl false))) sNil)
def r_law_4 : DS := (sSeq (sSet 10 (eCall d_law_wrong_f (aV 1 (aC (eB oLen (aV 5 aN)) aN))))
  r_law_3)
def r_law_5 : DS := (sRet (e2 (oEq false) (eB oReprN (aV 6 aN)) (eB oReprN (aC (eF (fLcP (iSq (eV 5)) [12, 13] 12 13 tYs (eTup (aC (eCall d_law_lot_f (aV 12 aN)) (aV 13 aN))))) aN))))
def r_law_6 : DS := (sSeq (sFor (iRg1 (aC (eC (.int 6)) aN)) (gN 9) r_law_4)
  r_law_5)
def r_law_7 : DS := (sSeq (sFor (iRg1 (aC (e2 (oIC CPow fun i j => .int (i * 2 ^ j.toNat)) (eC (.int 1)) (eB oLen (aV 5 aN))) aN)) (gN 7) r_law_2)
  r_law_6)
def r_law_8 : DS := (sSeq (sSet 6 (eF (fLcP (iSq (eV 5)) [12, 13] 12 13 tYs (eTup (aC (eCall d_law_lot_f (aV 12 aN)) (aV 13 aN))))))
  r_law_7)
def r_law_9 : DS := (sSeq (sSet 5 (eCall d_law_log_f (aV 1 (aV 2 (aV 3 aN)))))
  r_law_8)
def r_law_10 : DS := (sSeq (sSet 4 (eCall d_Book (aV 2 (aC (eF (fLc (iSq (eV 3)) [11] 11 tYs (eCall d_law_lot_f (aV 11 aN)))) aN))))
  r_law_9)
def r_law_11 : DS := (sSeq (sSet 3 (eF (fLc (iRg1 (aC (eCall d_law_draw (aV 1 (aC (eC (.int 7)) aN))) aN)) [9] 9 tYs (eCall d_law_row_f (aV 1 (aV 2 aN))))))
  r_law_10)
def r_law_12 : DS := (sSeq (sIf (t2 (oEq false) (eCall d_law_draw (aV 1 (aC (eC (.int 2)) aN))) (eC (.int 0))) (sSet 2 (e2 oAdd (eC (.int 1)) (e2 (oIC (fun _ j => 0 < j) fun i j => .int (i % j)) (eB oInt1 (aV 2 aN)) (eC (.int 5))))) sNil)
  r_law_11)
def r_law : DS := (sSeq (sSet 2 (e2 oAdd (eC (.int 1)) (eCall d_law_draw (aV 1 (aC (eC (.int 24)) aN)))))
  r_law_12)
end DL

set_option Elab.async false
set_option linter.all false
set_option maxRecDepth 100000
set_option maxHeartbeats 4000000
set_option exponentiation.threshold 2000
namespace DL
open PySem PySem.Spec PyProof.Rows L2 BT
section
variable {P : Program} {w : World} {K : PySem.W.Frag} {mg : Str → Option Value} {base : Heap} {ad : Str → Addr}
/-! ### lowest (s_lowest) -/
theorem sc_lowest : FnScope ["mask"] ["mask"] (defScope s_lowest) := ⟨rfl, rfl, rfl, by decide +kernel, rfl, by decide +kernel, by decide +kernel⟩
theorem rd_lowest {f : Addr} : ∀ (cdv : Value) (A : Around) (outer : List Env) (s : Shared) (H : Hp) (E : XK) (Ed : DXt), Room 0 (A.deeper (envOfC "lowest" (defScope s_lowest) s.heap.objs.size f cdv)) → BS (cxOf (L2.CX P w) P w K mg base ["mask"] "lowest" (defScope s_lowest) f cdv A outer s H E) ad (fun _ => E) Ed (defBody s_lowest) r_lowest := by
    intro cdv A outer s H E Ed hr
    have hu := hr.units
    have hu5 := hr.units5
    have tk : Takes (cxOf (L2.CX P w) P w K mg base ["mask"] "lowest" (defScope s_lowest) f cdv A outer s H E) (fun cls d _ H => E cls d H) := takes_of rfl rfl rfl rfl
    have hx : Lets (cxOf (L2.CX P w) P w K mg base ["mask"] "lowest" (defScope s_lowest) f cdv A outer s H E) (fun _ => E) := letsP (passes_call tk fun _ _ _ _ h => h)
    exact (bsOne (sdRet (pdAnd (pdv 0 (pv 0)) (pdNeg (pdv 0 (pv 0))))))
/-! ### odd (s_odd) -/
theorem sc_odd : FnScope ["mask", "digits"] ["mask"] (defScope s_odd) := ⟨rfl, rfl, rfl, by decide +kernel, rfl, by decide +kernel, by decide +kernel⟩
theorem rd_odd {f : Addr} : ∀ (cdv : Value) (A : Around) (outer : List Env) (s : Shared) (H : Hp) (E : XK) (Ed : DXt), Room 0 (A.deeper (envOfC "odd" (defScope s_odd) s.heap.objs.size f cdv)) → BS (cxOf (L2.CX P w) P w K mg base ["mask", "digits"] "odd" (defScope s_odd) f cdv A outer s H E) ad (fun _ => E) Ed (defBody s_odd) r_odd := by
    intro cdv A outer s H E Ed hr
    have hu := hr.units
    have hu5 := hr.units5
    have tk : Takes (cxOf (L2.CX P w) P w K mg base ["mask", "digits"] "odd" (defScope s_odd) f cdv A outer s H E) (fun cls d _ H => E cls d H) := takes_of rfl rfl rfl rfl
    have hx : Lets (cxOf (L2.CX P w) P w K mg base ["mask", "digits"] "odd" (defScope s_odd) f cdv A outer s H E) (fun _ => E) := letsP (passes_call tk fun _ _ _ _ h => h)
    exact (bsCons (sdSet (fun h => ps_set (i := 1) sc_odd.nd rfl (by first | exact Or.inl rfl | exact Or.inr rfl) h) (pdFmtB (pdv 0 (pv 0))))
    (bsOne (sdRet (pdAnd (pdCnt (pdv 1 (pv 1)) pdStr) pdInt))))
/-! ### cleared (s_cleared) -/
theorem sc_cleared : FnScope ["mask", "rows", "part", "row"] ["mask", "rows", "part"] (defScope s_cleared) := ⟨rfl, rfl, rfl, by decide +kernel, rfl, by decide +kernel, by decide +kernel⟩
theorem rd_cleared {f : Addr} (D_lowest : DefX P w K mg base ad 1 "lowest" ["mask"] d_lowest) : ∀ (cdv : Value) (A : Around) (outer : List Env) (s : Shared) (H : Hp) (E : XK) (Ed : DXt), Room 1 (A.deeper (envOfC "cleared" (defScope s_cleared) s.heap.objs.size f cdv)) → BS (cxOf (L2.CX P w) P w K mg base ["mask", "rows", "part", "row"] "cleared" (defScope s_cleared) f cdv A outer s H E) ad (fun _ => E) Ed (defBody s_cleared) r_cleared := by
    intro cdv A outer s H E Ed hr
    have hu := hr.units
    have hu5 := hr.units5
    have tk : Takes (cxOf (L2.CX P w) P w K mg base ["mask", "rows", "part", "row"] "cleared" (defScope s_cleared) f cdv A outer s H E) (fun cls d _ H => E cls d H) := takes_of rfl rfl rfl rfl
    have hx : Lets (cxOf (L2.CX P w) P w K mg base ["mask", "rows", "part", "row"] "cleared" (defScope s_cleared) f cdv A outer s H E) (fun _ => E) := letsP (passes_call tk fun _ _ _ _ h => h)
    exact (bsCons (sdFor (passes_of rfl) rfl (idSq (pdv 1 (pv 1))) (gdN (pg_name (i := 3) sc_cleared.nd rfl (by first | exact Or.inl rfl | exact Or.inr rfl))) (bsOne (sdIf (tdTru (pdAnd (pdv 0 (pv 0)) (pdCall D_lowest hr hx rfl (adC (pdAnd (pdv 3 (pv 3)) (pdv 2 (pv 2))) adN)))) (bsOne (sdAug (i := 0) (fun h => ps_aug (i := 0) sc_cleared.nd rfl (by first | exact Or.inl rfl | exact Or.inr rfl) h iop_xor) (dI fun i j F => .int _) (pdv 3 (pv 3)))) bsNil)))
    (bsOne (sdRet (pdv 0 (pv 0)))))
/-! ### sweep (s_sweep) -/
theorem sc_sweep : FnScope ["masks", "part", "seen", "hidden", "mask", "rest", "low", "row"] ["masks", "part"] (defScope s_sweep) := ⟨rfl, rfl, rfl, by decide +kernel, rfl, by decide +kernel, by decide +kernel⟩
theorem rd_sweep {f : Addr} (D_cleared : DefX P w K mg base ad 2 "cleared" ["mask", "rows", "part"] d_cleared) (D_lowest : DefX P w K mg base ad 1 "lowest" ["mask"] d_lowest) : ∀ (cdv : Value) (A : Around) (outer : List Env) (s : Shared) (H : Hp) (E : XK) (Ed : DXt), Room 2 (A.deeper (envOfC "sweep" (defScope s_sweep) s.heap.objs.size f cdv)) → BS (cxOf (L2.CX P w) P w K mg base ["masks", "part", "seen", "hidden", "mask", "rest", "low", "row"] "sweep" (defScope s_sweep) f cdv A outer s H E) ad (fun _ => E) Ed (defBody s_sweep) r_sweep := by
    intro cdv A outer s H E Ed hr
    have hu := hr.units
    have hu5 := hr.units5
    have tk : Takes (cxOf (L2.CX P w) P w K mg base ["masks", "part", "seen", "hidden", "mask", "rest", "low", "row"] "sweep" (defScope s_sweep) f cdv A outer s H E) (fun cls d _ H => E cls d H) := takes_of rfl rfl rfl rfl
    have hx : Lets (cxOf (L2.CX P w) P w K mg base ["masks", "part", "seen", "hidden", "mask", "rest", "low", "row"] "sweep" (defScope s_sweep) f cdv A outer s H E) (fun _ => E) := letsP (passes_call tk fun _ _ _ _ h => h)
    exact (bsCons (sdSet (fun h => ps_set (i := 2) sc_sweep.nd rfl (by first | exact Or.inl rfl | exact Or.inr rfl) h) (PF.pd (pfLst adN)))
    (bsCons (sdSetO (fun h => ps_set (i := 3) sc_sweep.nd rfl (by first | exact Or.inl rfl | exact Or.inr rfl) h) (pfLst adN))
    (bsCons (sdFor (passes_of rfl) rfl (idSq (pdv 0 (pv 0))) (gdN (pg_name (i := 4) sc_sweep.nd rfl (by first | exact Or.inl rfl | exact Or.inr rfl))) (bsCons (sdSet (fun h => ps_set (i := 5) sc_sweep.nd rfl (by first | exact Or.inl rfl | exact Or.inr rfl) h) (pdCall D_cleared hr hx rfl (adV 4 (pv 4) (adV 2 (pv 2) (adV 1 (pv 1) adN)))))
    (bsCons (sdSet (fun h => ps_set (i := 6) sc_sweep.nd rfl (by first | exact Or.inl rfl | exact Or.inr rfl) h) (pdCall D_lowest hr hx rfl (adC (pdAnd (pdv 5 (pv 5)) (pdv 1 (pv 1))) adN)))
    (bsOne (sdIf (tdTru (pdv 6 (pv 6))) (bsOne (sdSet (fun h => ps_set (i := 2) sc_sweep.nd rfl (by first | exact Or.inl rfl | exact Or.inr rfl) h) (pdAdd (PF.pd (pfLc (own := [("row", 7)]) (i := 7) rfl sc_sweep.nd (idSq (pdv 2 (pv 2))) (blkOk_by (N := ["masks", "part", "seen", "hidden", "mask", "rest", "low", "row"]) (sc := defScope s_sweep) (by decide +kernel)) (fun _ _ _ _ _ => pg_name (i := 7) sc_sweep.nd rfl (by first | exact Or.inl rfl | exact Or.inr rfl)) (fun _ _ _ _ _ => fdN) (fun _ _ _ _ _ => (pdIf (tdTru (pdAnd (pdv 7 (pv 7)) (pdv 6 (pv 6)))) (pdXor (pdv 7 (pv 7)) (pdv 5 (pv 5))) (pdv 7 (pv 7)))))) (PF.pd (pfLst (adV 5 (pv 5) adN)))))) (bsOne (sdApp (i := 3) (pv 3) (pdv 5 (pv 5)) (fun h => ps_expr (pe_bm PySem.F.plainAttrs_list PySem.F.slot_list_append PySem.F.type_list_append mt_append (pv 3) (pa_cons h pa_nil))))))))))
    (bsOne (sdFrz 3 (sdRet (pdTup (adV 2 (pv 2) (adV 3 (pv 3) adN)))))))))
/-! ### reduce_rows (s_reduce_rows) -/
theorem sc_reduce_rows : FnScope ["masks", "seen", "_"] ["masks"] (defScope s_reduce_rows) := ⟨rfl, rfl, rfl, by decide +kernel, rfl, by decide +kernel, by decide +kernel⟩
theorem rd_reduce_rows {f : Addr} {tALL_PLACES : Tok} (T2 : Bi2 mg) (D_sweep : DefX P w K mg base ad 3 "sweep" ["masks", "part"] d_sweep) (K_lowest : DefOk P w K mg base CX0 1 "lowest" ["mask"] spLowG) (h_ALL_PLACES : mg "ALL_PLACES" = some (.int (-1) tALL_PLACES)) : ∀ (cdv : Value) (A : Around) (outer : List Env) (s : Shared) (H : Hp) (E : XK) (Ed : DXt), Room 3 (A.deeper (envOfC "reduce_rows" (defScope s_reduce_rows) s.heap.objs.size f cdv)) → BS (cxOf (L2.CX P w) P w K mg base ["masks", "seen", "_"] "reduce_rows" (defScope s_reduce_rows) f cdv A outer s H E) ad (fun _ => E) Ed (defBody s_reduce_rows) r_reduce_rows := by
    intro cdv A outer s H E Ed hr
    have hu := hr.units
    have hu5 := hr.units5
    have tk : Takes (cxOf (L2.CX P w) P w K mg base ["masks", "seen", "_"] "reduce_rows" (defScope s_reduce_rows) f cdv A outer s H E) (fun cls d _ H => E cls d H) := takes_of rfl rfl rfl rfl
    have hx : Lets (cxOf (L2.CX P w) P w K mg base ["masks", "seen", "_"] "reduce_rows" (defScope s_reduce_rows) f cdv A outer s H E) (fun _ => E) := letsP (passes_call tk fun _ _ _ _ h => h)
    exact (bsCons (sdAsg (pdCall D_sweep hr hx rfl (adV 0 (pv 0) (adC (pdGlobI rfl h_ALL_PLACES) adN))) (gdN2 (pg_tup rfl (pgs_cons (pg_name (i := 1) sc_reduce_rows.nd rfl (by first | exact Or.inl rfl | exact Or.inr rfl)) (pgs_cons (pg_name (i := 2) sc_reduce_rows.nd rfl (by first | exact Or.inl rfl | exact Or.inr rfl)) pgs_nil)))))
    (bsOne (sdRet (pdSrtK K_lowest hr rfl T2.sorted rfl (pdv 1 (pv 1))))))
/-! ### mask_of (s_mask_of) -/
theorem sc_mask_of : FnScope ["lot", "mask", "place"] ["lot"] (defScope s_mask_of) := ⟨rfl, rfl, rfl, by decide +kernel, rfl, by decide +kernel, by decide +kernel⟩
theorem rd_mask_of {f : Addr} : ∀ (cdv : Value) (A : Around) (outer : List Env) (s : Shared) (H : Hp) (E : XK) (Ed : DXt), Room 0 (A.deeper (envOfC "mask_of" (defScope s_mask_of) s.heap.objs.size f cdv)) → BS (cxOf (L2.CX P w) P w K mg base ["lot", "mask", "place"] "mask_of" (defScope s_mask_of) f cdv A outer s H E) ad (fun _ => E) Ed (defBody s_mask_of) r_mask_of := by
    intro cdv A outer s H E Ed hr
    have hu := hr.units
    have hu5 := hr.units5
    have tk : Takes (cxOf (L2.CX P w) P w K mg base ["lot", "mask", "place"] "mask_of" (defScope s_mask_of) f cdv A outer s H E) (fun cls d _ H => E cls d H) := takes_of rfl rfl rfl rfl
    have hx : Lets (cxOf (L2.CX P w) P w K mg base ["lot", "mask", "place"] "mask_of" (defScope s_mask_of) f cdv A outer s H E) (fun _ => E) := letsP (passes_call tk fun _ _ _ _ h => h)
    exact (bsCons (sdSet (fun h => ps_set (i := 1) sc_mask_of.nd rfl (by first | exact Or.inl rfl | exact Or.inr rfl) h) pdInt)
    (bsCons (sdFor (passes_of rfl) rfl (idSq (pdv 0 (pv 0))) (gdN (pg_name (i := 2) sc_mask_of.nd rfl (by first | exact Or.inl rfl | exact Or.inr rfl))) (bsOne (sdAug (i := 1) (fun h => ps_aug (i := 1) sc_mask_of.nd rfl (by first | exact Or.inl rfl | exact Or.inr rfl) h iop_or) (dI fun i j F => .int _) (pdShl pdInt (pdv 2 (pv 2))))))
    (bsOne (sdRet (pdv 1 (pv 1))))))
/-! ### lot_of (s_lot_of) -/
theorem sc_lot_of : FnScope ["mask", "place"] ["mask"] (defScope s_lot_of) := ⟨rfl, rfl, rfl, by decide +kernel, rfl, by decide +kernel, by decide +kernel⟩
theorem rd_lot_of {f : Addr} (T : Bi mg) : ∀ (cdv : Value) (A : Around) (outer : List Env) (s : Shared) (H : Hp) (E : XK) (Ed : DXt), Room 0 (A.deeper (envOfC "lot_of" (defScope s_lot_of) s.heap.objs.size f cdv)) → BS (cxOf (L2.CX P w) P w K mg base ["mask", "place"] "lot_of" (defScope s_lot_of) f cdv A outer s H E) ad (fun _ => E) Ed (defBody s_lot_of) r_lot_of := by
    intro cdv A outer s H E Ed hr
    have hu := hr.units
    have hu5 := hr.units5
    have tk : Takes (cxOf (L2.CX P w) P w K mg base ["mask", "place"] "lot_of" (defScope s_lot_of) f cdv A outer s H E) (fun cls d _ H => E cls d H) := takes_of rfl rfl rfl rfl
    have hx : Lets (cxOf (L2.CX P w) P w K mg base ["mask", "place"] "lot_of" (defScope s_lot_of) f cdv A outer s H E) (fun _ => E) := letsP (passes_call tk fun _ _ _ _ h => h)
    exact (bsOne (sdRet (pdTuple rfl T.tuple (PF.pd (pfLc (own := [("place", 1)]) (i := 1) rfl sc_lot_of.nd (idRg1 rfl T.range (adC (pdBits (pdv 0 (pv 0))) adN)) (blkOk_by (N := ["mask", "place"]) (sc := defScope s_lot_of) (by decide +kernel)) (fun _ _ _ _ _ => pg_name (i := 1) sc_lot_of.nd rfl (by first | exact Or.inl rfl | exact Or.inr rfl)) (fun _ _ _ _ _ => (fd1 (tdTru (pdAnd (pdShr (pdv 0 (pv 0)) (pdv 1 (pv 1))) pdInt)))) (fun _ _ _ _ _ => (pdv 1 (pv 1))))))))
/-! ### picked (s_picked) -/
theorem sc_picked : FnScope ["mask", "places", "result", "number", "place"] ["mask", "places"] (defScope s_picked) := ⟨rfl, rfl, rfl, by decide +kernel, rfl, by decide +kernel, by decide +kernel⟩
theorem rd_picked {f : Addr} (T : Bi mg) : ∀ (cdv : Value) (A : Around) (outer : List Env) (s : Shared) (H : Hp) (E : XK) (Ed : DXt), Room 0 (A.deeper (envOfC "picked" (defScope s_picked) s.heap.objs.size f cdv)) → BS (cxOf (L2.CX P w) P w K mg base ["mask", "places", "result", "number", "place"] "picked" (defScope s_picked) f cdv A outer s H E) ad (fun _ => E) Ed (defBody s_picked) r_picked := by
    intro cdv A outer s H E Ed hr
    have hu := hr.units
    have hu5 := hr.units5
    have tk : Takes (cxOf (L2.CX P w) P w K mg base ["mask", "places", "result", "number", "place"] "picked" (defScope s_picked) f cdv A outer s H E) (fun cls d _ H => E cls d H) := takes_of rfl rfl rfl rfl
    have hx : Lets (cxOf (L2.CX P w) P w K mg base ["mask", "places", "result", "number", "place"] "picked" (defScope s_picked) f cdv A outer s H E) (fun _ => E) := letsP (passes_call tk fun _ _ _ _ h => h)
    exact (bsCons (sdSet (fun h => ps_set (i := 2) sc_picked.nd rfl (by first | exact Or.inl rfl | exact Or.inr rfl) h) pdInt)
    (bsCons (sdFor (passes_of rfl) rfl (idEn rfl T.enumerate (adV 1 (pv 1) adN)) (gdN2 (pg_tup rfl (pgs_cons (pg_name (i := 3) sc_picked.nd rfl (by first | exact Or.inl rfl | exact Or.inr rfl)) (pgs_cons (pg_name (i := 4) sc_picked.nd rfl (by first | exact Or.inl rfl | exact Or.inr rfl)) pgs_nil)))) (bsOne (sdAug (i := 2) (fun h => ps_aug (i := 2) sc_picked.nd rfl (by first | exact Or.inl rfl | exact Or.inr rfl) h iop_or) (dI fun i j F => .int _) (pdShl (pdAnd (pdShr (pdv 0 (pv 0)) (pdv 4 (pv 4))) pdInt) (pdv 3 (pv 3))))))
    (bsOne (sdRet (pdv 2 (pv 2))))))
/-! ### span (s_span) -/
theorem sc_span : FnScope ["masks", "sums", "mask", "other"] ["masks"] (defScope s_span) := ⟨rfl, rfl, rfl, by decide +kernel, rfl, by decide +kernel, by decide +kernel⟩
theorem rd_span {f : Addr} : ∀ (cdv : Value) (A : Around) (outer : List Env) (s : Shared) (H : Hp) (E : XK) (Ed : DXt), Room 0 (A.deeper (envOfC "span" (defScope s_span) s.heap.objs.size f cdv)) → BS (cxOf (L2.CX P w) P w K mg base ["masks", "sums", "mask", "other"] "span" (defScope s_span) f cdv A outer s H E) ad (fun _ => E) Ed (defBody s_span) r_span := by
    intro cdv A outer s H E Ed hr
    have hu := hr.units
    have hu5 := hr.units5
    have tk : Takes (cxOf (L2.CX P w) P w K mg base ["masks", "sums", "mask", "other"] "span" (defScope s_span) f cdv A outer s H E) (fun cls d _ H => E cls d H) := takes_of rfl rfl rfl rfl
    have hx : Lets (cxOf (L2.CX P w) P w K mg base ["masks", "sums", "mask", "other"] "span" (defScope s_span) f cdv A outer s H E) (fun _ => E) := letsP (passes_call tk fun _ _ _ _ h => h)
    exact (bsCons (sdSet (fun h => ps_set (i := 1) sc_span.nd rfl (by first | exact Or.inl rfl | exact Or.inr rfl) h) (PF.pd (pfLst (adC pdInt adN))))
    (bsCons (sdFor (passes_of rfl) rfl (idSq (pdv 0 (pv 0))) (gdN (pg_name (i := 2) sc_span.nd rfl (by first | exact Or.inl rfl | exact Or.inr rfl))) (bsOne (sdSet (fun h => ps_set (i := 1) sc_span.nd rfl (by first | exact Or.inl rfl | exact Or.inr rfl) h) (pdAdd (pdv 1 (pv 1)) (PF.pd (pfLc (own := [("other", 3)]) (i := 3) rfl sc_span.nd (idSq (pdv 1 (pv 1))) (blkOk_by (N := ["masks", "sums", "mask", "other"]) (sc := defScope s_span) (by decide +kernel)) (fun _ _ _ _ _ => pg_name (i := 3) sc_span.nd rfl (by first | exact Or.inl rfl | exact Or.inr rfl)) (fun _ _ _ _ _ => fdN) (fun _ _ _ _ _ => (pdXor (pdv 2 (pv 2)) (pdv 3 (pv 3))))))))))
    (bsOne (sdRet (pdv 1 (pv 1))))))
/-! ### is_number (s_is_number) -/
theorem sc_is_number : FnScope ["value"] ["value"] (defScope s_is_number) := ⟨rfl, rfl, rfl, by decide +kernel, rfl, by decide +kernel, by decide +kernel⟩
theorem rd_is_number {f : Addr} (T : Bi mg) : ∀ (cdv : Value) (A : Around) (outer : List Env) (s : Shared) (H : Hp) (E : XK) (Ed : DXt), Room 0 (A.deeper (envOfC "is_number" (defScope s_is_number) s.heap.objs.size f cdv)) → BS (cxOf (L2.CX P w) P w K mg base ["value"] "is_number" (defScope s_is_number) f cdv A outer s H E) ad (fun _ => E) Ed (defBody s_is_number) r_is_number := by
    intro cdv A outer s H E Ed hr
    have hu := hr.units
    have hu5 := hr.units5
    have tk : Takes (cxOf (L2.CX P w) P w K mg base ["value"] "is_number" (defScope s_is_number) f cdv A outer s H E) (fun cls d _ H => E cls d H) := takes_of rfl rfl rfl rfl
    have hx : Lets (cxOf (L2.CX P w) P w K mg base ["value"] "is_number" (defScope s_is_number) f cdv A outer s H E) (fun _ => E) := letsP (passes_call tk fun _ _ _ _ h => h)
    exact (bsOne (sdRet (pdAn (pdIs rfl T.isinstance rfl T.int PyProof.Rows.boot_int (by decide +kernel) (pdv 0 (pv 0))) (pdOne (pdNot (pdIs rfl T.isinstance rfl T.bool PyProof.Rows.boot_bool (by decide +kernel) (pdv 0 (pv 0))))))))
/-! ### is_between (s_is_between) -/
theorem sc_is_between : FnScope ["value", "least", "most"] ["value", "least", "most"] (defScope s_is_between) := ⟨rfl, rfl, rfl, by decide +kernel, rfl, by decide +kernel, by decide +kernel⟩
theorem rd_is_between {f : Addr} (D_is_number : DefX P w K mg base ad 1 "is_number" ["value"] d_is_number) : ∀ (cdv : Value) (A : Around) (outer : List Env) (s : Shared) (H : Hp) (E : XK) (Ed : DXt), Room 1 (A.deeper (envOfC "is_between" (defScope s_is_between) s.heap.objs.size f cdv)) → BS (cxOf (L2.CX P w) P w K mg base ["value", "least", "most"] "is_between" (defScope s_is_between) f cdv A outer s H E) ad (fun _ => E) Ed (defBody s_is_between) r_is_between := by
    intro cdv A outer s H E Ed hr
    have hu := hr.units
    have hu5 := hr.units5
    have tk : Takes (cxOf (L2.CX P w) P w K mg base ["value", "least", "most"] "is_between" (defScope s_is_between) f cdv A outer s H E) (fun cls d _ H => E cls d H) := takes_of rfl rfl rfl rfl
    have hx : Lets (cxOf (L2.CX P w) P w K mg base ["value", "least", "most"] "is_between" (defScope s_is_between) f cdv A outer s H E) (fun _ => E) := letsP (passes_call tk fun _ _ _ _ h => h)
    exact (bsOne (sdRet (pdAn (pdCall D_is_number hr hx rfl (adV 0 (pv 0) adN)) (pdOne (pdChain op_le op_le dLe dLe (pdv 1 (pv 1)) (pdv 0 (pv 0)) (pdv 2 (pv 2)) (fun ha hb hc => pe_chain op_le op_le ha hb hc))))))
/-! ### need_size (s_need_size) -/
theorem sc_need_size : FnScope ["size"] ["size"] (defScope s_need_size) := ⟨rfl, rfl, rfl, by decide +kernel, rfl, by decide +kernel, by decide +kernel⟩
theorem rd_need_size {f : Addr} {tMOST_PLACES : Tok} (D_is_between : DefX P w K mg base ad 2 "is_between" ["value", "least", "most"] d_is_between) (E_BadSize : ErrC P w K mg base "BadSize" (ad "BadSize")) (h_MOST_PLACES : mg "MOST_PLACES" = some (.int 60 tMOST_PLACES)) : ∀ (cdv : Value) (A : Around) (outer : List Env) (s : Shared) (H : Hp) (E : XK) (Ed : DXt), Room 2 (A.deeper (envOfC "need_size" (defScope s_need_size) s.heap.objs.size f cdv)) → BS (cxOf (L2.CX P w) P w K mg base ["size"] "need_size" (defScope s_need_size) f cdv A outer s H E) ad (fun _ => E) Ed (defBody s_need_size) r_need_size := by
    intro cdv A outer s H E Ed hr
    have hu := hr.units
    have hu5 := hr.units5
    have tk : Takes (cxOf (L2.CX P w) P w K mg base ["size"] "need_size" (defScope s_need_size) f cdv A outer s H E) (fun cls d _ H => E cls d H) := takes_of rfl rfl rfl rfl
    have hx : Lets (cxOf (L2.CX P w) P w K mg base ["size"] "need_size" (defScope s_need_size) f cdv A outer s H E) (fun _ => E) := letsP (passes_call tk fun _ _ _ _ h => h)
    exact (bsOne (sdIf (tdNot (tdTru (pdCall D_is_between hr hx rfl (adV 0 (pv 0) (adC pdInt (adC (pdGlobI rfl h_MOST_PLACES) adN)))))) (bsOne (sdRaise E_BadSize hr rfl tk rfl (pdv 0 (pv 0)))) bsNil))
/-! ### is_lot (s_is_lot) -/
theorem sc_is_lot : FnScope ["value", "size", "least", "place"] ["value", "size"] (defScope s_is_lot) := ⟨rfl, rfl, rfl, by decide +kernel, rfl, by decide +kernel, by decide +kernel⟩
theorem rd_is_lot {f : Addr} (T : Bi mg) (D_is_number : DefX P w K mg base ad 1 "is_number" ["value"] d_is_number) (D_need_size : DefX P w K mg base ad 3 "need_size" ["size"] d_need_size) : ∀ (cdv : Value) (A : Around) (outer : List Env) (s : Shared) (H : Hp) (E : XK) (Ed : DXt), Room 3 (A.deeper (envOfC "is_lot" (defScope s_is_lot) s.heap.objs.size f cdv)) → BS (cxOf (L2.CX P w) P w K mg base ["value", "size", "least", "place"] "is_lot" (defScope s_is_lot) f cdv A outer s H E) ad (fun _ => E) Ed (defBody s_is_lot) r_is_lot := by
    intro cdv A outer s H E Ed hr
    have hu := hr.units
    have hu5 := hr.units5
    have tk : Takes (cxOf (L2.CX P w) P w K mg base ["value", "size", "least", "place"] "is_lot" (defScope s_is_lot) f cdv A outer s H E) (fun cls d _ H => E cls d H) := takes_of rfl rfl rfl rfl
    have hx : Lets (cxOf (L2.CX P w) P w K mg base ["value", "size", "least", "place"] "is_lot" (defScope s_is_lot) f cdv A outer s H E) (fun _ => E) := letsP (passes_call tk fun _ _ _ _ h => h)
    exact (bsCons (sdExp (pdCall D_need_size hr hx rfl (adV 1 (pv 1) adN)))
    (bsCons (sdIf (tdNot (tdTru (pdIs rfl T.isinstance rfl T.tuple PyProof.Rows.boot_tuple (by decide +kernel) (pdv 0 (pv 0))))) (bsOne (sdRet pdBl)) bsNil)
    (bsCons (sdSet (fun h => ps_set (i := 2) sc_is_lot.nd rfl (by first | exact Or.inl rfl | exact Or.inr rfl) h) pdInt)
    (bsCons (sdFor (passes_of rfl) rfl (idSq (pdv 0 (pv 0))) (gdN (pg_name (i := 3) sc_is_lot.nd rfl (by first | exact Or.inl rfl | exact Or.inr rfl))) (bsCons (sdIf (BD.td (bdOr (tdNot (tdTru (pdCall D_is_number hr hx rfl (adV 3 (pv 3) adN)))) (bdOr1 (tdNot (tdChain op_le op_lt dLe dLt (pdv 2 (pv 2)) (pdv 3 (pv 3)) (pdv 1 (pv 1)) (fun ha hb hc => pt_chain op_le op_lt ha hb hc)))))) (bsOne (sdRet pdBl)) bsNil)
    (bsOne (sdSet (fun h => ps_set (i := 2) sc_is_lot.nd rfl (by first | exact Or.inl rfl | exact Or.inr rfl) h) (pdAdd (pdv 3 (pv 3)) pdInt)))))
    (bsOne (sdRet pdBl))))))
/-! ### need_lot (s_need_lot) -/
theorem sc_need_lot : FnScope ["value", "size"] ["value", "size"] (defScope s_need_lot) := ⟨rfl, rfl, rfl, by decide +kernel, rfl, by decide +kernel, by decide +kernel⟩
theorem rd_need_lot {f : Addr} (D_is_lot : DefX P w K mg base ad 4 "is_lot" ["value", "size"] d_is_lot) (E_BadLot : ErrC P w K mg base "BadLot" (ad "BadLot")) : ∀ (cdv : Value) (A : Around) (outer : List Env) (s : Shared) (H : Hp) (E : XK) (Ed : DXt), Room 4 (A.deeper (envOfC "need_lot" (defScope s_need_lot) s.heap.objs.size f cdv)) → BS (cxOf (L2.CX P w) P w K mg base ["value", "size"] "need_lot" (defScope s_need_lot) f cdv A outer s H E) ad (fun _ => E) Ed (defBody s_need_lot) r_need_lot := by
    intro cdv A outer s H E Ed hr
    have hu := hr.units
    have hu5 := hr.units5
    have tk : Takes (cxOf (L2.CX P w) P w K mg base ["value", "size"] "need_lot" (defScope s_need_lot) f cdv A outer s H E) (fun cls d _ H => E cls d H) := takes_of rfl rfl rfl rfl
    have hx : Lets (cxOf (L2.CX P w) P w K mg base ["value", "size"] "need_lot" (defScope s_need_lot) f cdv A outer s H E) (fun _ => E) := letsP (passes_call tk fun _ _ _ _ h => h)
    exact (bsOne (sdIf (tdNot (tdTru (pdCall D_is_lot hr hx rfl (adV 0 (pv 0) (adV 1 (pv 1) adN))))) (bsOne (sdRaise E_BadLot hr rfl tk rfl (pdv 0 (pv 0)))) bsNil))
/-! ### need_each_lot (s_need_each_lot) -/
theorem sc_need_each_lot : FnScope ["values", "size", "index", "value"] ["values", "size"] (defScope s_need_each_lot) := ⟨rfl, rfl, rfl, by decide +kernel, rfl, by decide +kernel, by decide +kernel⟩
theorem rd_need_each_lot {f : Addr} (T : Bi mg) (D_is_lot : DefX P w K mg base ad 4 "is_lot" ["value", "size"] d_is_lot) (E_BadLots : ErrC P w K mg base "BadLots" (ad "BadLots")) : ∀ (cdv : Value) (A : Around) (outer : List Env) (s : Shared) (H : Hp) (E : XK) (Ed : DXt), Room 4 (A.deeper (envOfC "need_each_lot" (defScope s_need_each_lot) s.heap.objs.size f cdv)) → BS (cxOf (L2.CX P w) P w K mg base ["values", "size", "index", "value"] "need_each_lot" (defScope s_need_each_lot) f cdv A outer s H E) ad (fun _ => E) Ed (defBody s_need_each_lot) r_need_each_lot := by
    intro cdv A outer s H E Ed hr
    have hu := hr.units
    have hu5 := hr.units5
    have tk : Takes (cxOf (L2.CX P w) P w K mg base ["values", "size", "index", "value"] "need_each_lot" (defScope s_need_each_lot) f cdv A outer s H E) (fun cls d _ H => E cls d H) := takes_of rfl rfl rfl rfl
    have hx : Lets (cxOf (L2.CX P w) P w K mg base ["values", "size", "index", "value"] "need_each_lot" (defScope s_need_each_lot) f cdv A outer s H E) (fun _ => E) := letsP (passes_call tk fun _ _ _ _ h => h)
    exact (bsOne (sdFor (passes_of rfl) rfl (idEn rfl T.enumerate (adV 0 (pv 0) adN)) (gdN2 (pg_tup rfl (pgs_cons (pg_name (i := 2) sc_need_each_lot.nd rfl (by first | exact Or.inl rfl | exact Or.inr rfl)) (pgs_cons (pg_name (i := 3) sc_need_each_lot.nd rfl (by first | exact Or.inl rfl | exact Or.inr rfl)) pgs_nil)))) (bsOne (sdIf (tdNot (tdTru (pdCall D_is_lot hr hx rfl (adV 3 (pv 3) (adV 1 (pv 1) adN))))) (bsOne (sdRaise E_BadLots hr rfl tk rfl (pdv 2 (pv 2)))) bsNil))))
/-! ### need_lots (s_need_lots) -/
theorem sc_need_lots : FnScope ["value", "size", "most"] ["value", "size", "most"] (defScope s_need_lots) := ⟨rfl, rfl, rfl, by decide +kernel, rfl, by decide +kernel, by decide +kernel⟩
theorem rd_need_lots {f : Addr} (T : Bi mg) (D_need_each_lot : DefX P w K mg base ad 5 "need_each_lot" ["values", "size"] d_need_each_lot) (E_BadLots : ErrC P w K mg base "BadLots" (ad "BadLots")) : ∀ (cdv : Value) (A : Around) (outer : List Env) (s : Shared) (H : Hp) (E : XK) (Ed : DXt), Room 5 (A.deeper (envOfC "need_lots" (defScope s_need_lots) s.heap.objs.size f cdv)) → BS (cxOf (L2.CX P w) P w K mg base ["value", "size", "most"] "need_lots" (defScope s_need_lots) f cdv A outer s H E) ad (fun _ => E) Ed (defBody s_need_lots) r_need_lots := by
    intro cdv A outer s H E Ed hr
    have hu := hr.units
    have hu5 := hr.units5
    have tk : Takes (cxOf (L2.CX P w) P w K mg base ["value", "size", "most"] "need_lots" (defScope s_need_lots) f cdv A outer s H E) (fun cls d _ H => E cls d H) := takes_of rfl rfl rfl rfl
    have hx : Lets (cxOf (L2.CX P w) P w K mg base ["value", "size", "most"] "need_lots" (defScope s_need_lots) f cdv A outer s H E) (fun _ => E) := letsP (passes_call tk fun _ _ _ _ h => h)
    exact (bsCons (sdIf (BD.td (bdOr (tdNot (tdTru (pdIs rfl T.isinstance rfl T.list PyProof.Rows.boot_list (by decide +kernel) (pdv 0 (pv 0))))) (bdOr1 (tdCmp op_gt dGt (pdLen rfl T.len (adV 0 (pv 0) adN)) (pdv 2 (pv 2)) (by first | exact nomark _ | (intros; rfl)))))) (bsOne (sdRaise E_BadLots hr rfl tk rfl (pdNeg pdInt))) bsNil)
    (bsOne (sdExp (pdCall D_need_each_lot hr hx rfl (adV 0 (pv 0) (adV 1 (pv 1) adN))))))
/-! ### need_book_size (s_need_book_size) -/
theorem sc_need_book_size : FnScope ["size"] ["size"] (defScope s_need_book_size) := ⟨rfl, rfl, rfl, by decide +kernel, rfl, by decide +kernel, by decide +kernel⟩
theorem rd_need_book_size {f : Addr} {tMOST_SIZE : Tok} (D_is_between : DefX P w K mg base ad 2 "is_between" ["value", "least", "most"] d_is_between) (E_BadSize : ErrC P w K mg base "BadSize" (ad "BadSize")) (h_MOST_SIZE : mg "MOST_SIZE" = some (.int 24 tMOST_SIZE)) : ∀ (cdv : Value) (A : Around) (outer : List Env) (s : Shared) (H : Hp) (E : XK) (Ed : DXt), Room 2 (A.deeper (envOfC "need_book_size" (defScope s_need_book_size) s.heap.objs.size f cdv)) → BS (cxOf (L2.CX P w) P w K mg base ["size"] "need_book_size" (defScope s_need_book_size) f cdv A outer s H E) ad (fun _ => E) Ed (defBody s_need_book_size) r_need_book_size := by
    intro cdv A outer s H E Ed hr
    have hu := hr.units
    have hu5 := hr.units5
    have tk : Takes (cxOf (L2.CX P w) P w K mg base ["size"] "need_book_size" (defScope s_need_book_size) f cdv A outer s H E) (fun cls d _ H => E cls d H) := takes_of rfl rfl rfl rfl
    have hx : Lets (cxOf (L2.CX P w) P w K mg base ["size"] "need_book_size" (defScope s_need_book_size) f cdv A outer s H E) (fun _ => E) := letsP (passes_call tk fun _ _ _ _ h => h)
    exact (bsOne (sdIf (tdNot (tdTru (pdCall D_is_between hr hx rfl (adV 0 (pv 0) (adC pdInt (adC (pdGlobI rfl h_MOST_SIZE) adN)))))) (bsOne (sdRaise E_BadSize hr rfl tk rfl (pdv 0 (pv 0)))) bsNil))
/-! ### is_check (s_Book_is_check) -/
theorem sc_Book_is_check : FnScope ["self", "lot", "at", "mask"] ["self", "lot"] (defScope s_Book_is_check) := ⟨rfl, rfl, rfl, by decide +kernel, rfl, by decide +kernel, by decide +kernel⟩
theorem rd_Book_is_check {f : Addr} (T2 : Bi2 mg) (CT : ClsTab K ad tab0) (D_mask_of : DefX P w K mg base ad 1 "mask_of" ["lot"] d_mask_of) (D_need_lot : DefX P w K mg base ad 5 "need_lot" ["value", "size"] d_need_lot) (D_odd : DefX P w K mg base ad 1 "odd" ["mask"] d_odd) : ∀ (cdv : Value) (A : Around) (outer : List Env) (s : Shared) (H : Hp) (E : XK) (Ed : DXt), Room 5 (A.deeper (envOfC "Book.is_check" (defScope s_Book_is_check) s.heap.objs.size f cdv)) → BS (cxOf (L2.CX P w) P w K mg base ["self", "lot", "at", "mask"] "Book.is_check" (defScope s_Book_is_check) f cdv A outer s H E) ad (fun _ => E) Ed (defBody s_Book_is_check) r_Book_is_check := by
    intro cdv A outer s H E Ed hr
    have hu := hr.units
    have hu5 := hr.units5
    have tk : Takes (cxOf (L2.CX P w) P w K mg base ["self", "lot", "at", "mask"] "Book.is_check" (defScope s_Book_is_check) f cdv A outer s H E) (fun cls d _ H => E cls d H) := takes_of rfl rfl rfl rfl
    have hx : Lets (cxOf (L2.CX P w) P w K mg base ["self", "lot", "at", "mask"] "Book.is_check" (defScope s_Book_is_check) f cdv A outer s H E) (fun _ => E) := letsP (passes_call tk fun _ _ _ _ h => h)
    exact (bsCons (sdExp (pdCall D_need_lot hr hx rfl (adV 1 (pv 1) (adC (pdFld CT (pdv 0 (pv 0)) rfl) adN))))
    (bsCons (sdSet (fun h => ps_set (i := 2) sc_Book_is_check.nd rfl (by first | exact Or.inl rfl | exact Or.inr rfl) h) (pdCall D_mask_of hr hx rfl (adV 1 (pv 1) adN)))
    (bsOne (sdRet (pdNot (pdAny rfl rfl T2.any (adC (PF.pd (pfLc (own := [("mask", 3)]) (i := 3) rfl sc_Book_is_check.nd (idSq (pdFld CT (pdv 0 (pv 0)) rfl)) (blkOk_by (N := ["self", "lot", "at", "mask"]) (sc := defScope s_Book_is_check) (by decide +kernel)) (fun _ _ _ _ _ => pg_name (i := 3) sc_Book_is_check.nd rfl (by first | exact Or.inl rfl | exact Or.inr rfl)) (fun _ _ _ _ _ => fdN) (fun _ _ _ _ _ => (pdCall D_odd hr lets0 rfl (adC (pdAnd (pdv 3 (pv 3)) (pdv 2 (pv 2))) adN))))) adN)))))))
/-! ### is_bit (s_is_bit) -/
theorem sc_is_bit : FnScope ["value"] ["value"] (defScope s_is_bit) := ⟨rfl, rfl, rfl, by decide +kernel, rfl, by decide +kernel, by decide +kernel⟩
theorem rd_is_bit {f : Addr} (D_is_between : DefX P w K mg base ad 2 "is_between" ["value", "least", "most"] d_is_between) : ∀ (cdv : Value) (A : Around) (outer : List Env) (s : Shared) (H : Hp) (E : XK) (Ed : DXt), Room 2 (A.deeper (envOfC "is_bit" (defScope s_is_bit) s.heap.objs.size f cdv)) → BS (cxOf (L2.CX P w) P w K mg base ["value"] "is_bit" (defScope s_is_bit) f cdv A outer s H E) ad (fun _ => E) Ed (defBody s_is_bit) r_is_bit := by
    intro cdv A outer s H E Ed hr
    have hu := hr.units
    have hu5 := hr.units5
    have tk : Takes (cxOf (L2.CX P w) P w K mg base ["value"] "is_bit" (defScope s_is_bit) f cdv A outer s H E) (fun cls d _ H => E cls d H) := takes_of rfl rfl rfl rfl
    have hx : Lets (cxOf (L2.CX P w) P w K mg base ["value"] "is_bit" (defScope s_is_bit) f cdv A outer s H E) (fun _ => E) := letsP (passes_call tk fun _ _ _ _ h => h)
    exact (bsOne (sdRet (pdCall D_is_between hr hx rfl (adV 0 (pv 0) (adC pdInt (adC pdInt adN))))))
/-! ### _is_item (s_is_item) -/
theorem sc_is_item : FnScope ["value", "size"] ["value", "size"] (defScope s_is_item) := ⟨rfl, rfl, rfl, by decide +kernel, rfl, by decide +kernel, by decide +kernel⟩
theorem rd_is_item {f : Addr} (T : Bi mg) (D_is_bit : DefX P w K mg base ad 3 "is_bit" ["value"] d_is_bit) (D_is_lot : DefX P w K mg base ad 4 "is_lot" ["value", "size"] d_is_lot) : ∀ (cdv : Value) (A : Around) (outer : List Env) (s : Shared) (H : Hp) (E : XK) (Ed : DXt), Room 4 (A.deeper (envOfC "_is_item" (defScope s_is_item) s.heap.objs.size f cdv)) → BS (cxOf (L2.CX P w) P w K mg base ["value", "size"] "_is_item" (defScope s_is_item) f cdv A outer s H E) ad (fun _ => E) Ed (defBody s_is_item) r_is_item := by
    intro cdv A outer s H E Ed hr
    have hu := hr.units
    have hu5 := hr.units5
    have tk : Takes (cxOf (L2.CX P w) P w K mg base ["value", "size"] "_is_item" (defScope s_is_item) f cdv A outer s H E) (fun cls d _ H => E cls d H) := takes_of rfl rfl rfl rfl
    have hx : Lets (cxOf (L2.CX P w) P w K mg base ["value", "size"] "_is_item" (defScope s_is_item) f cdv A outer s H E) (fun _ => E) := letsP (passes_call tk fun _ _ _ _ h => h)
    exact (bsCons (sdIf (BD.td (bdOr (tdNot (tdTru (pdIs rfl T.isinstance rfl T.tuple PyProof.Rows.boot_tuple (by decide +kernel) (pdv 0 (pv 0))))) (bdOr1 (tdNe hu (pdLen rfl T.len (adV 0 (pv 0) adN)) pdInt (by first | exact nomark _ | (intros; rfl)))))) (bsOne (sdRet pdBl)) bsNil)
    (bsOne (sdRet (pdAn (pdCall D_is_lot hr hx rfl (adC (pdIx (pdv 0 (pv 0)) pdInt (fun _ _ => rfl)) (adV 1 (pv 1) adN))) (pdOne (pdOo (pdCmp op_isN dIsN (pdIx (pdv 0 (pv 0)) pdInt (fun _ _ => rfl)) pdNon (by first | exact nomark _ | (intros; rfl))) (pdOne (pdCall D_is_bit hr hx rfl (adC (pdIx (pdv 0 (pv 0)) pdInt (fun _ _ => rfl)) adN)))))))))
/-! ### need_log (s_need_log) -/
theorem sc_need_log : FnScope ["log", "size", "index", "item"] ["log", "size"] (defScope s_need_log) := ⟨rfl, rfl, rfl, by decide +kernel, rfl, by decide +kernel, by decide +kernel⟩
theorem rd_need_log {f : Addr} {tMOST_ITEMS : Tok} (T : Bi mg) (D_is_item : DefX P w K mg base ad 5 "_is_item" ["value", "size"] d_is_item) (E_BadLog : ErrC P w K mg base "BadLog" (ad "BadLog")) (h_MOST_ITEMS : mg "MOST_ITEMS" = some (.int 60 tMOST_ITEMS)) : ∀ (cdv : Value) (A : Around) (outer : List Env) (s : Shared) (H : Hp) (E : XK) (Ed : DXt), Room 5 (A.deeper (envOfC "need_log" (defScope s_need_log) s.heap.objs.size f cdv)) → BS (cxOf (L2.CX P w) P w K mg base ["log", "size", "index", "item"] "need_log" (defScope s_need_log) f cdv A outer s H E) ad (fun _ => E) Ed (defBody s_need_log) r_need_log := by
    intro cdv A outer s H E Ed hr
    have hu := hr.units
    have hu5 := hr.units5
    have tk : Takes (cxOf (L2.CX P w) P w K mg base ["log", "size", "index", "item"] "need_log" (defScope s_need_log) f cdv A outer s H E) (fun cls d _ H => E cls d H) := takes_of rfl rfl rfl rfl
    have hx : Lets (cxOf (L2.CX P w) P w K mg base ["log", "size", "index", "item"] "need_log" (defScope s_need_log) f cdv A outer s H E) (fun _ => E) := letsP (passes_call tk fun _ _ _ _ h => h)
    exact (bsCons (sdIf (BD.td (bdOr (tdNot (tdTru (pdIs rfl T.isinstance rfl T.list PyProof.Rows.boot_list (by decide +kernel) (pdv 0 (pv 0))))) (bdOr1 (tdCmp op_gt dGt (pdLen rfl T.len (adV 0 (pv 0) adN)) (pdGlobI rfl h_MOST_ITEMS) (by first | exact nomark _ | (intros; rfl)))))) (bsOne (sdRaise E_BadLog hr rfl tk rfl (pdNeg pdInt))) bsNil)
    (bsOne (sdFor (passes_of rfl) rfl (idEn rfl T.enumerate (adV 0 (pv 0) adN)) (gdN2 (pg_tup rfl (pgs_cons (pg_name (i := 2) sc_need_log.nd rfl (by first | exact Or.inl rfl | exact Or.inr rfl)) (pgs_cons (pg_name (i := 3) sc_need_log.nd rfl (by first | exact Or.inl rfl | exact Or.inr rfl)) pgs_nil)))) (bsOne (sdIf (tdNot (tdTru (pdCall D_is_item hr hx rfl (adV 3 (pv 3) (adV 1 (pv 1) adN))))) (bsOne (sdRaise E_BadLog hr rfl tk rfl (pdv 2 (pv 2)))) bsNil)))))
/-! ### against_fault (s_against_fault) -/
theorem sc_against_fault : FnScope ["book", "log", "indexes", "rest", "ones_told", "index", "lot", "bit"] ["book", "log", "indexes"] (defScope s_against_fault) := ⟨rfl, rfl, rfl, by decide +kernel, rfl, by decide +kernel, by decide +kernel⟩
theorem rd_against_fault {f : Addr} (T : Bi mg) (CT : ClsTab K ad tab0) (D_is_lot : DefX P w K mg base ad 4 "is_lot" ["value", "size"] d_is_lot) (D_lot_of : DefX P w K mg base ad 1 "lot_of" ["mask"] d_lot_of) (D_mask_of : DefX P w K mg base ad 1 "mask_of" ["lot"] d_mask_of) (D_need_log : DefX P w K mg base ad 6 "need_log" ["log", "size"] d_need_log) (M_Book_is_check : MetX P w K mg base ad 6 "Book" "is_check" ["self", "lot"] d_Book_is_check) : ∀ (cdv : Value) (A : Around) (outer : List Env) (s : Shared) (H : Hp) (E : XK) (Ed : DXt), Room 6 (A.deeper (envOfC "against_fault" (defScope s_against_fault) s.heap.objs.size f cdv)) → BS (cxOf (L2.CX P w) P w K mg base ["book", "log", "indexes", "rest", "ones_told", "index", "lot", "bit"] "against_fault" (defScope s_against_fault) f cdv A outer s H E) ad (fun _ => E) Ed (defBody s_against_fault) r_against_fault := by
    intro cdv A outer s H E Ed hr
    have hu := hr.units
    have hu5 := hr.units5
    have tk : Takes (cxOf (L2.CX P w) P w K mg base ["book", "log", "indexes", "rest", "ones_told", "index", "lot", "bit"] "against_fault" (defScope s_against_fault) f cdv A outer s H E) (fun cls d _ H => E cls d H) := takes_of rfl rfl rfl rfl
    have hx : Lets (cxOf (L2.CX P w) P w K mg base ["book", "log", "indexes", "rest", "ones_told", "index", "lot", "bit"] "against_fault" (defScope s_against_fault) f cdv A outer s H E) (fun _ => E) := letsP (passes_call tk fun _ _ _ _ h => h)
    exact (bsCons (sdExp (pdCall D_need_log hr hx rfl (adV 1 (pv 1) (adC (pdFld CT (pdv 0 (pv 0)) rfl) adN))))
    (bsCons (sdIf (tdNot (tdTru (pdCall D_is_lot hr hx rfl (adV 2 (pv 2) (adC (pdLen rfl T.len (adV 1 (pv 1) adN)) adN))))) (bsOne (sdRet (pdTup (adC pdStr adN)))) bsNil)
    (bsCons (sdSet (fun h => ps_set (i := 3) sc_against_fault.nd rfl (by first | exact Or.inl rfl | exact Or.inr rfl) h) pdInt)
    (bsCons (sdSet (fun h => ps_set (i := 4) sc_against_fault.nd rfl (by first | exact Or.inl rfl | exact Or.inr rfl) h) pdInt)
    (bsCons (sdFor (passes_of rfl) rfl (idSq (pdv 2 (pv 2))) (gdN (pg_name (i := 5) sc_against_fault.nd rfl (by first | exact Or.inl rfl | exact Or.inr rfl))) (bsCons (sdAsg (pdIx (pdv 1 (pv 1)) (pdv 5 (pv 5)) (fun _ _ => rfl)) (gdN2 (pg_tup rfl (pgs_cons (pg_name (i := 6) sc_against_fault.nd rfl (by first | exact Or.inl rfl | exact Or.inr rfl)) (pgs_cons (pg_name (i := 7) sc_against_fault.nd rfl (by first | exact Or.inl rfl | exact Or.inr rfl)) pgs_nil)))))
    (bsCons (sdIf (tdCmp op_isN dIsN (pdv 7 (pv 7)) pdNon (by first | exact nomark _ | (intros; rfl))) (bsOne (sdRet (pdTup (adC pdStr (adV 5 (pv 5) adN))))) bsNil)
    (bsCons (sdAug (i := 3) (fun h => ps_aug (i := 3) sc_against_fault.nd rfl (by first | exact Or.inl rfl | exact Or.inr rfl) h iop_xor) (dI fun i j F => .int _) (pdCall D_mask_of hr hx rfl (adV 6 (pv 6) adN)))
    (bsOne (sdAug (i := 4) (fun h => ps_aug (i := 4) sc_against_fault.nd rfl (by first | exact Or.inl rfl | exact Or.inr rfl) h iop_add) (dI fun i j F => .int _) (pdv 7 (pv 7))))))))
    (bsCons (sdIf (tdNot (tdTru (pdMeth M_Book_is_check (CT.cls "Book" _ rfl) hr hx (pdv 0 (pv 0)) (adC (pdCall D_lot_of hr hx rfl (adV 3 (pv 3) adN)) adN)))) (bsOne (sdRet (pdTup (adC pdStr adN)))) bsNil)
    (bsCons (sdIf (tdEq hu (pdMod (pdv 4 (pv 4)) pdInt) pdInt (by first | exact nomark _ | (intros; rfl))) (bsOne (sdRet (pdTup (adC pdStr adN)))) bsNil)
    (bsOne (sdRet pdNon)))))))))
/-! ### _law_lot (s_law_lot) -/
theorem sc_law_lot : FnScope ["_law_mask_here", "_law_place"] ["_law_mask_here"] (defScope s_law_lot) := ⟨rfl, rfl, rfl, by decide +kernel, rfl, by decide +kernel, by decide +kernel⟩
theorem rd_law_lot {f : Addr} (T : Bi mg) : ∀ (cdv : Value) (A : Around) (outer : List Env) (s : Shared) (H : Hp) (E : XK) (Ed : DXt), Room 0 (A.deeper (envOfC "_law_lot" (defScope s_law_lot) s.heap.objs.size f cdv)) → BS (cxOf (L2.CX P w) P w K mg base ["_law_mask_here", "_law_place"] "_law_lot" (defScope s_law_lot) f cdv A outer s H E) ad (fun _ => E) Ed (defBody s_law_lot) r_law_lot_f := by
    intro cdv A outer s H E Ed hr
    have hu := hr.units
    have hu5 := hr.units5
    have tk : Takes (cxOf (L2.CX P w) P w K mg base ["_law_mask_here", "_law_place"] "_law_lot" (defScope s_law_lot) f cdv A outer s H E) (fun cls d _ H => E cls d H) := takes_of rfl rfl rfl rfl
    have hx : Lets (cxOf (L2.CX P w) P w K mg base ["_law_mask_here", "_law_place"] "_law_lot" (defScope s_law_lot) f cdv A outer s H E) (fun _ => E) := letsP (passes_call tk fun _ _ _ _ h => h)
    exact (bsOne (sdRet (pdTuple rfl T.tuple (PF.pd (pfLc (own := [("_law_place", 1)]) (i := 1) rfl sc_law_lot.nd (idRg1 rfl T.range (adC (pdBits (pdv 0 (pv 0))) adN)) (blkOk_by (N := ["_law_mask_here", "_law_place"]) (sc := defScope s_law_lot) (by decide +kernel)) (fun _ _ _ _ _ => pg_name (i := 1) sc_law_lot.nd rfl (by first | exact Or.inl rfl | exact Or.inr rfl)) (fun _ _ _ _ _ => (fd1 (tdEq hu (pdAnd (pdShr (pdv 0 (pv 0)) (pdv 1 (pv 1))) pdInt) pdInt (by first | exact nomark _ | (intros; rfl))))) (fun _ _ _ _ _ => (pdv 1 (pv 1))))))))
/-! ### _law_odd (s_law_odd) -/
theorem sc_law_odd : FnScope ["_law_mask_here"] ["_law_mask_here"] (defScope s_law_odd) := ⟨rfl, rfl, rfl, by decide +kernel, rfl, by decide +kernel, by decide +kernel⟩
theorem rd_law_odd {f : Addr} : ∀ (cdv : Value) (A : Around) (outer : List Env) (s : Shared) (H : Hp) (E : XK) (Ed : DXt), Room 0 (A.deeper (envOfC "_law_odd" (defScope s_law_odd) s.heap.objs.size f cdv)) → BS (cxOf (L2.CX P w) P w K mg base ["_law_mask_here"] "_law_odd" (defScope s_law_odd) f cdv A outer s H E) ad (fun _ => E) Ed (defBody s_law_odd) r_law_odd_f := by
    intro cdv A outer s H E Ed hr
    have hu := hr.units
    have hu5 := hr.units5
    have tk : Takes (cxOf (L2.CX P w) P w K mg base ["_law_mask_here"] "_law_odd" (defScope s_law_odd) f cdv A outer s H E) (fun cls d _ H => E cls d H) := takes_of rfl rfl rfl rfl
    have hx : Lets (cxOf (L2.CX P w) P w K mg base ["_law_mask_here"] "_law_odd" (defScope s_law_odd) f cdv A outer s H E) (fun _ => E) := letsP (passes_call tk fun _ _ _ _ h => h)
    exact (bsCons (sdSet (fun h => ps_set (i := 0) sc_law_odd.nd rfl (by first | exact Or.inl rfl | exact Or.inr rfl) h) (pdXor (pdv 0 (pv 0)) (pdShr (pdv 0 (pv 0)) pdInt)))
    (bsCons (sdSet (fun h => ps_set (i := 0) sc_law_odd.nd rfl (by first | exact Or.inl rfl | exact Or.inr rfl) h) (pdXor (pdv 0 (pv 0)) (pdShr (pdv 0 (pv 0)) pdInt)))
    (bsCons (sdSet (fun h => ps_set (i := 0) sc_law_odd.nd rfl (by first | exact Or.inl rfl | exact Or.inr rfl) h) (pdXor (pdv 0 (pv 0)) (pdShr (pdv 0 (pv 0)) pdInt)))
    (bsCons (sdSet (fun h => ps_set (i := 0) sc_law_odd.nd rfl (by first | exact Or.inl rfl | exact Or.inr rfl) h) (pdXor (pdv 0 (pv 0)) (pdShr (pdv 0 (pv 0)) pdInt)))
    (bsCons (sdSet (fun h => ps_set (i := 0) sc_law_odd.nd rfl (by first | exact Or.inl rfl | exact Or.inr rfl) h) (pdXor (pdv 0 (pv 0)) (pdShr (pdv 0 (pv 0)) pdInt)))
    (bsOne (sdRet (pdEq hu (pdAnd (pdv 0 (pv 0)) pdInt) pdInt (by first | exact nomark _ | (intros; rfl))))))))))
/-! ### _law_row (s_law_row) -/
theorem sc_law_row : FnScope ["_law_source_here", "_law_size", "_law_row_here"] ["_law_source_here", "_law_size"] (defScope s_law_row) := ⟨rfl, rfl, rfl, by decide +kernel, rfl, by decide +kernel, by decide +kernel⟩
theorem rd_law_row {f : Addr} (D_law_draw : DefX P w K mg base ad 2 "_law_draw" ["_law_source_here", "_law_many"] d_law_draw) : ∀ (cdv : Value) (A : Around) (outer : List Env) (s : Shared) (H : Hp) (E : XK) (Ed : DXt), Room 2 (A.deeper (envOfC "_law_row" (defScope s_law_row) s.heap.objs.size f cdv)) → BS (cxOf (L2.CX P w) P w K mg base ["_law_source_here", "_law_size", "_law_row_here"] "_law_row" (defScope s_law_row) f cdv A outer s H E) ad (fun _ => E) Ed (defBody s_law_row) r_law_row_f := by
    intro cdv A outer s H E Ed hr
    have hu := hr.units
    have hu5 := hr.units5
    have tk : Takes (cxOf (L2.CX P w) P w K mg base ["_law_source_here", "_law_size", "_law_row_here"] "_law_row" (defScope s_law_row) f cdv A outer s H E) (fun cls d _ H => E cls d H) := takes_of rfl rfl rfl rfl
    have hx : Lets (cxOf (L2.CX P w) P w K mg base ["_law_source_here", "_law_size", "_law_row_here"] "_law_row" (defScope s_law_row) f cdv A outer s H E) (fun _ => E) := letsP (passes_call tk fun _ _ _ _ h => h)
    exact (bsCons (sdSet (fun h => ps_set (i := 2) sc_law_row.nd rfl (by first | exact Or.inl rfl | exact Or.inr rfl) h) (pdCall D_law_draw hr hx rfl (adV 0 (pv 0) (adC (pdShl pdInt (pdv 1 (pv 1))) adN))))
    (bsCons (sdIf (tdEq hu (pdCall D_law_draw hr hx rfl (adV 0 (pv 0) (adC pdInt adN))) pdInt (by first | exact nomark _ | (intros; rfl))) (bsOne (sdSet (fun h => ps_set (i := 2) sc_law_row.nd rfl (by first | exact Or.inl rfl | exact Or.inr rfl) h) (pdAnd (pdv 2 (pv 2)) (pdCall D_law_draw hr hx rfl (adV 0 (pv 0) (adC (pdShl pdInt (pdv 1 (pv 1))) adN)))))) bsNil)
    (bsOne (sdRet (pdv 2 (pv 2))))))
/-! ### _law_check (s_law_check) -/
theorem sc_law_check : FnScope ["_law_source_here", "_law_rows", "_law_size", "_law_lot_here", "_law_k", "_law_row_here"] ["_law_source_here", "_law_rows", "_law_size"] (defScope s_law_check) := ⟨rfl, rfl, rfl, by decide +kernel, rfl, by decide +kernel, by decide +kernel⟩
theorem rd_law_check {f : Addr} (T : Bi mg) (D_law_draw : DefX P w K mg base ad 2 "_law_draw" ["_law_source_here", "_law_many"] d_law_draw) (D_law_odd : DefX P w K mg base ad 1 "_law_odd" ["_law_mask_here"] d_law_odd_f) : ∀ (cdv : Value) (A : Around) (outer : List Env) (s : Shared) (H : Hp) (E : XK) (Ed : DXt), Room 2 (A.deeper (envOfC "_law_check" (defScope s_law_check) s.heap.objs.size f cdv)) → BS (cxOf (L2.CX P w) P w K mg base ["_law_source_here", "_law_rows", "_law_size", "_law_lot_here", "_law_k", "_law_row_here"] "_law_check" (defScope s_law_check) f cdv A outer s H E) ad (fun _ => E) Ed (defBody s_law_check) r_law_check_f := by
    intro cdv A outer s H E Ed hr
    have hu := hr.units
    have hu5 := hr.units5
    have tk : Takes (cxOf (L2.CX P w) P w K mg base ["_law_source_here", "_law_rows", "_law_size", "_law_lot_here", "_law_k", "_law_row_here"] "_law_check" (defScope s_law_check) f cdv A outer s H E) (fun cls d _ H => E cls d H) := takes_of rfl rfl rfl rfl
    have hx : Lets (cxOf (L2.CX P w) P w K mg base ["_law_source_here", "_law_rows", "_law_size", "_law_lot_here", "_law_k", "_law_row_here"] "_law_check" (defScope s_law_check) f cdv A outer s H E) (fun _ => E) := letsP (passes_call tk fun _ _ _ _ h => h)
    exact (bsCons (sdSet (fun h => ps_set (i := 3) sc_law_check.nd rfl (by first | exact Or.inl rfl | exact Or.inr rfl) h) (pdCall D_law_draw hr hx rfl (adV 0 (pv 0) (adC (pdShl pdInt (pdv 2 (pv 2))) adN))))
    (bsCons (sdFor (passes_of rfl) rfl (idRg1 rfl T.range (adC pdInt adN)) (gdN (pg_name (i := 4) sc_law_check.nd rfl (by first | exact Or.inl rfl | exact Or.inr rfl))) (bsOne (sdFor (passes_of rfl) rfl (idSq (pdv 1 (pv 1))) (gdN (pg_name (i := 5) sc_law_check.nd rfl (by first | exact Or.inl rfl | exact Or.inr rfl))) (bsOne (sdIf (tdTru (pdCall D_law_odd hr hx rfl (adC (pdAnd (pdv 5 (pv 5)) (pdv 3 (pv 3))) adN))) (bsOne (sdSet (fun h => ps_set (i := 3) sc_law_check.nd rfl (by first | exact Or.inl rfl | exact Or.inr rfl) h) (pdXor (pdv 3 (pv 3)) (pdShl pdInt (pdSub (pdBits (pdAnd (pdv 5 (pv 5)) (pdNeg (pdv 5 (pv 5))))) pdInt))))) bsNil)))))
    (bsOne (sdRet (pdv 3 (pv 3))))))
/-! ### _law_log (s_law_log) -/
theorem sc_law_log : FnScope ["_law_source_here", "_law_size", "_law_rows", "_law_log_here", "_law_k", "_law_kind", "_law_lot_here"] ["_law_source_here", "_law_size", "_law_rows"] (defScope s_law_log) := ⟨rfl, rfl, rfl, by decide +kernel, rfl, by decide +kernel, by decide +kernel⟩
theorem rd_law_log {f : Addr} (T : Bi mg) (D_law_check : DefX P w K mg base ad 3 "_law_check" ["_law_source_here", "_law_rows", "_law_size"] d_law_check_f) (D_law_draw : DefX P w K mg base ad 2 "_law_draw" ["_law_source_here", "_law_many"] d_law_draw) (D_law_row : DefX P w K mg base ad 3 "_law_row" ["_law_source_here", "_law_size"] d_law_row_f) : ∀ (cdv : Value) (A : Around) (outer : List Env) (s : Shared) (H : Hp) (E : XK) (Ed : DXt), Room 3 (A.deeper (envOfC "_law_log" (defScope s_law_log) s.heap.objs.size f cdv)) → BS (cxOf (L2.CX P w) P w K mg base ["_law_source_here", "_law_size", "_law_rows", "_law_log_here", "_law_k", "_law_kind", "_law_lot_here"] "_law_log" (defScope s_law_log) f cdv A outer s H E) ad (fun _ => E) Ed (defBody s_law_log) r_law_log_f := by
    intro cdv A outer s H E Ed hr
    have hu := hr.units
    have hu5 := hr.units5
    have tk : Takes (cxOf (L2.CX P w) P w K mg base ["_law_source_here", "_law_size", "_law_rows", "_law_log_here", "_law_k", "_law_kind", "_law_lot_here"] "_law_log" (defScope s_law_log) f cdv A outer s H E) (fun cls d _ H => E cls d H) := takes_of rfl rfl rfl rfl
    have hx : Lets (cxOf (L2.CX P w) P w K mg base ["_law_source_here", "_law_size", "_law_rows", "_law_log_here", "_law_k", "_law_kind", "_law_lot_here"] "_law_log" (defScope s_law_log) f cdv A outer s H E) (fun _ => E) := letsP (passes_call tk fun _ _ _ _ h => h)
    exact (bsCons (sdSetO (fun h => ps_set (i := 3) sc_law_log.nd rfl (by first | exact Or.inl rfl | exact Or.inr rfl) h) (pfLst adN))
    (bsCons (sdFor (passes_of rfl) rfl (idRg1 rfl T.range (adC (pdCall D_law_draw hr hx rfl (adV 0 (pv 0) (adC pdInt adN))) adN)) (gdN (pg_name (i := 4) sc_law_log.nd rfl (by first | exact Or.inl rfl | exact Or.inr rfl))) (bsCons (sdSet (fun h => ps_set (i := 5) sc_law_log.nd rfl (by first | exact Or.inl rfl | exact Or.inr rfl) h) (pdCall D_law_draw hr hx rfl (adV 0 (pv 0) (adC pdInt adN))))
    (bsCons (sdSet (fun h => ps_set (i := 6) sc_law_log.nd rfl (by first | exact Or.inl rfl | exact Or.inr rfl) h) (pdCall D_law_row hr hx rfl (adV 0 (pv 0) (adV 1 (pv 1) adN))))
    (bsCons (sdIf (tdCmp op_lt dLt (pdv 5 (pv 5)) pdInt (by first | exact nomark _ | (intros; rfl))) (bsOne (sdSet (fun h => ps_set (i := 6) sc_law_log.nd rfl (by first | exact Or.inl rfl | exact Or.inr rfl) h) (pdCall D_law_check hr hx rfl (adV 0 (pv 0) (adV 2 (pv 2) (adV 1 (pv 1) adN)))))) bsNil)
    (bsCons (sdIf (tdEq hu (pdv 5 (pv 5)) pdInt (by first | exact nomark _ | (intros; rfl))) (bsOne (sdSet (fun h => ps_set (i := 6) sc_law_log.nd rfl (by first | exact Or.inl rfl | exact Or.inr rfl) h) pdInt)) bsNil)
    (bsCons (sdIf (BD.td (bdAnd (tdEq hu (pdv 5 (pv 5)) pdInt (by first | exact nomark _ | (intros; rfl))) (bdAnd1 (tdCmp op_gt dGt (pdv 4 (pv 4)) pdInt (by first | exact nomark _ | (intros; rfl)))))) (bsOne (sdSet (fun h => ps_set (i := 6) sc_law_log.nd rfl (by first | exact Or.inl rfl | exact Or.inr rfl) h) (pdXor (pdIx (pdIxO (pv 3) (pdCall D_law_draw hr hx rfl (adV 0 (pv 0) (adV 4 (pv 4) adN))) (fun _ _ => rfl)) pdInt (fun _ _ => rfl)) (pdIx (pdIxO (pv 3) (pdSub (pdv 4 (pv 4)) pdInt) (fun _ _ => rfl)) pdInt (fun _ _ => rfl))))) bsNil)
    (bsCons (sdIf (BD.td (bdAnd (tdEq hu (pdv 5 (pv 5)) pdInt (by first | exact nomark _ | (intros; rfl))) (bdAnd1 (tdCmp op_gt dGt (pdv 4 (pv 4)) pdInt (by first | exact nomark _ | (intros; rfl)))))) (bsOne (sdSet (fun h => ps_set (i := 6) sc_law_log.nd rfl (by first | exact Or.inl rfl | exact Or.inr rfl) h) (pdIx (pdIxO (pv 3) (pdCall D_law_draw hr hx rfl (adV 0 (pv 0) (adV 4 (pv 4) adN))) (fun _ _ => rfl)) pdInt (fun _ _ => rfl)))) bsNil)
    (bsOne (sdApp (i := 3) (pv 3) (pdTup (adV 6 (pv 6) (adC (pdIx (PF.pd (pfLst (adC pdInt (adC pdInt (adC pdInt (adC pdInt (adC pdInt (adC pdInt (adC pdNon adN))))))))) (pdCall D_law_draw hr hx rfl (adV 0 (pv 0) (adC pdInt adN))) (fun _ _ => rfl)) adN))) (fun h => ps_expr (pe_bm PySem.F.plainAttrs_list PySem.F.slot_list_append PySem.F.type_list_append mt_append (pv 3) (pa_cons h pa_nil))))))))))))
    (bsOne (sdFrz 3 (sdRet (pdv 3 (pv 3)))))))
/-! ### _law_due (s_law_due) -/
theorem sc_law_due : FnScope ["_law_log_here", "_law_rows", "_law_chosen", "_law_lot_here", "_law_bits", "_law_index", "_law_row_here"] ["_law_log_here", "_law_rows", "_law_chosen"] (defScope s_law_due) := ⟨rfl, rfl, rfl, by decide +kernel, rfl, by decide +kernel, by decide +kernel⟩
theorem rd_law_due {f : Addr} (T2 : Bi2 mg) (D_law_odd : DefX P w K mg base ad 1 "_law_odd" ["_law_mask_here"] d_law_odd_f) : ∀ (cdv : Value) (A : Around) (outer : List Env) (s : Shared) (H : Hp) (E : XK) (Ed : DXt), Room 1 (A.deeper (envOfC "_law_due" (defScope s_law_due) s.heap.objs.size f cdv)) → BS (cxOf (L2.CX P w) P w K mg base ["_law_log_here", "_law_rows", "_law_chosen", "_law_lot_here", "_law_bits", "_law_index", "_law_row_here"] "_law_due" (defScope s_law_due) f cdv A outer s H E) ad (fun _ => E) Ed (defBody s_law_due) r_law_due_f := by
    intro cdv A outer s H E Ed hr
    have hu := hr.units
    have hu5 := hr.units5
    have tk : Takes (cxOf (L2.CX P w) P w K mg base ["_law_log_here", "_law_rows", "_law_chosen", "_law_lot_here", "_law_bits", "_law_index", "_law_row_here"] "_law_due" (defScope s_law_due) f cdv A outer s H E) (fun cls d _ H => E cls d H) := takes_of rfl rfl rfl rfl
    have hx : Lets (cxOf (L2.CX P w) P w K mg base ["_law_log_here", "_law_rows", "_law_chosen", "_law_lot_here", "_law_bits", "_law_index", "_law_row_here"] "_law_due" (defScope s_law_due) f cdv A outer s H E) (fun _ => E) := letsP (passes_call tk fun _ _ _ _ h => h)
    exact (bsCons (sdSet (fun h => ps_set (i := 3) sc_law_due.nd rfl (by first | exact Or.inl rfl | exact Or.inr rfl) h) pdInt)
    (bsCons (sdSet (fun h => ps_set (i := 4) sc_law_due.nd rfl (by first | exact Or.inl rfl | exact Or.inr rfl) h) pdInt)
    (bsCons (sdFor (passes_of rfl) rfl (idSq (pdv 2 (pv 2))) (gdN (pg_name (i := 5) sc_law_due.nd rfl (by first | exact Or.inl rfl | exact Or.inr rfl))) (bsOne (sdIf (tdCmp op_isN dIsN (pdIx (pdIx (pdv 0 (pv 0)) (pdv 5 (pv 5)) (fun _ _ => rfl)) pdInt (fun _ _ => rfl)) pdNon (by first | exact nomark _ | (intros; rfl))) (bsOne (sdRet (pdTup (adC pdStr (adV 5 (pv 5) adN))))) bsNil)))
    (bsCons (sdFor (passes_of rfl) rfl (idSq (pdv 2 (pv 2))) (gdN (pg_name (i := 5) sc_law_due.nd rfl (by first | exact Or.inl rfl | exact Or.inr rfl))) (bsCons (sdSet (fun h => ps_set (i := 3) sc_law_due.nd rfl (by first | exact Or.inl rfl | exact Or.inr rfl) h) (pdXor (pdv 3 (pv 3)) (pdIx (pdIx (pdv 0 (pv 0)) (pdv 5 (pv 5)) (fun _ _ => rfl)) pdInt (fun _ _ => rfl))))
    (bsOne (sdSet (fun h => ps_set (i := 4) sc_law_due.nd rfl (by first | exact Or.inl rfl | exact Or.inr rfl) h) (pdAdd (pdv 4 (pv 4)) (pdIx (pdIx (pdv 0 (pv 0)) (pdv 5 (pv 5)) (fun _ _ => rfl)) pdInt (fun _ _ => rfl)))))))
    (bsCons (sdIf (tdTru (pdAny rfl rfl T2.any (adC (PF.pd (pfLc (own := [("_law_row_here", 6)]) (i := 6) rfl sc_law_due.nd (idSq (pdv 1 (pv 1))) (blkOk_by (N := ["_law_log_here", "_law_rows", "_law_chosen", "_law_lot_here", "_law_bits", "_law_index", "_law_row_here"]) (sc := defScope s_law_due) (by decide +kernel)) (fun _ _ _ _ _ => pg_name (i := 6) sc_law_due.nd rfl (by first | exact Or.inl rfl | exact Or.inr rfl)) (fun _ _ _ _ _ => fdN) (fun _ _ _ _ _ => (pdCall D_law_odd hr lets0 rfl (adC (pdAnd (pdv 6 (pv 6)) (pdv 3 (pv 3))) adN))))) adN))) (bsOne (sdRet (pdTup (adC pdStr adN)))) bsNil)
    (bsCons (sdIf (tdEq hu (pdAnd (pdv 4 (pv 4)) pdInt) pdInt (by first | exact nomark _ | (intros; rfl))) (bsOne (sdRet (pdTup (adC pdStr adN)))) bsNil)
    (bsOne (sdRet pdNon))))))))
/-! ### _law_wrong (s_law_wrong) -/
theorem sc_law_wrong : FnScope ["_law_source_here", "_law_many", "_law_kind", "_law_lot_here", "_law_at", "_law_value", "_law_k"] ["_law_source_here", "_law_many"] (defScope s_law_wrong) := ⟨rfl, rfl, rfl, by decide +kernel, rfl, by decide +kernel, by decide +kernel⟩
theorem rd_law_wrong {f : Addr} (T : Bi mg) (D_law_draw : DefX P w K mg base ad 2 "_law_draw" ["_law_source_here", "_law_many"] d_law_draw) (D_law_lot : DefX P w K mg base ad 1 "_law_lot" ["_law_mask_here"] d_law_lot_f) : ∀ (cdv : Value) (A : Around) (outer : List Env) (s : Shared) (H : Hp) (E : XK) (Ed : DXt), Room 2 (A.deeper (envOfC "_law_wrong" (defScope s_law_wrong) s.heap.objs.size f cdv)) → BS (cxOf (L2.CX P w) P w K mg base ["_law_source_here", "_law_many", "_law_kind", "_law_lot_here", "_law_at", "_law_value", "_law_k"] "_law_wrong" (defScope s_law_wrong) f cdv A outer s H E) ad (fun _ => E) Ed (defBody s_law_wrong) r_law_wrong_f := by
    intro cdv A outer s H E Ed hr
    have hu := hr.units
    have hu5 := hr.units5
    have tk : Takes (cxOf (L2.CX P w) P w K mg base ["_law_source_here", "_law_many", "_law_kind", "_law_lot_here", "_law_at", "_law_value", "_law_k"] "_law_wrong" (defScope s_law_wrong) f cdv A outer s H E) (fun cls d _ H => E cls d H) := takes_of rfl rfl rfl rfl
    have hx : Lets (cxOf (L2.CX P w) P w K mg base ["_law_source_here", "_law_many", "_law_kind", "_law_lot_here", "_law_at", "_law_value", "_law_k"] "_law_wrong" (defScope s_law_wrong) f cdv A outer s H E) (fun _ => E) := letsP (passes_call tk fun _ _ _ _ h => h)
    exact (bsCons (sdSet (fun h => ps_set (i := 2) sc_law_wrong.nd rfl (by first | exact Or.inl rfl | exact Or.inr rfl) h) (pdCall D_law_draw hr hx rfl (adV 0 (pv 0) (adC pdInt adN))))
    (bsCons (sdSet (fun h => ps_set (i := 3) sc_law_wrong.nd rfl (by first | exact Or.inl rfl | exact Or.inr rfl) h) (pdCall D_law_lot hr hx rfl (adC (pdCall D_law_draw hr hx rfl (adV 0 (pv 0) (adC (pdShl pdInt (pdv 1 (pv 1))) adN))) adN)))
    (bsCons (sdSet (fun h => ps_set (i := 4) sc_law_wrong.nd rfl (by first | exact Or.inl rfl | exact Or.inr rfl) h) (pdCall D_law_draw hr hx rfl (adV 0 (pv 0) (adC (pdAdd (pdLen rfl T.len (adV 3 (pv 3) adN)) pdInt) adN))))
    (bsCons (sdIf (tdEq hu (pdv 2 (pv 2)) pdInt (by first | exact nomark _ | (intros; rfl))) (bsOne (sdRet (pdIx (PF.pd (pfLst (adC pdNon (adC pdBl (adC pdInt (adC pdStr (adC pdStr (adC pdDct0 (adC (PF.pd (pfLst adN)) (adC (PF.pd (pfLst (adC (pdTup adN) adN))) (adC (pdTup (adC (pdTup adN) adN)) (adC (pdDctE pdInt pdInt) adN)))))))))))) (pdCall D_law_draw hr hx rfl (adV 0 (pv 0) (adC pdInt adN))) (fun _ _ => rfl)))) bsNil)
    (bsCons (sdIf (tdEq hu (pdv 2 (pv 2)) pdInt (by first | exact nomark _ | (intros; rfl))) (bsOne (sdRet (PF.pd (pfList rfl T.list (pdv 3 (pv 3)))))) bsNil)
    (bsCons (sdIf (tdEq hu (pdv 2 (pv 2)) pdInt (by first | exact nomark _ | (intros; rfl))) (bsOne (sdRet (pdAdd (pdv 3 (pv 3)) (pdTup (adV 1 (pv 1) adN))))) bsNil)
    (bsCons (sdIf (tdEq hu (pdv 2 (pv 2)) pdInt (by first | exact nomark _ | (intros; rfl))) (bsOne (sdRet (pdAdd (pdTup (adC (pdSub (pdSub pdInt pdInt) (pdv 4 (pv 4))) adN)) (pdv 3 (pv 3))))) bsNil)
    (bsCons (sdIf (tdEq hu (pdv 2 (pv 2)) pdInt (by first | exact nomark _ | (intros; rfl))) (bsOne (sdRet (pdTup (adC (pdAdd (pdv 4 (pv 4)) pdInt) (adV 4 (pv 4) adN))))) bsNil)
    (bsCons (sdIf (tdEq hu (pdv 2 (pv 2)) pdInt (by first | exact nomark _ | (intros; rfl))) (bsOne (sdRet (pdAdd (pdAdd (pdSl (pdv 3 (pv 3)) odNo (odPt (pdv 4 (pv 4)))) (pdTup (adC (pdCmp op_gt dGt (pdv 4 (pv 4)) pdInt (by first | exact nomark _ | (intros; rfl))) adN))) (pdSl (pdv 3 (pv 3)) (odPt (pdv 4 (pv 4))) odNo)))) bsNil)
    (bsCons (sdIf (BD.td (bdAnd (tdEq hu (pdv 2 (pv 2)) pdInt (by first | exact nomark _ | (intros; rfl))) (bdAnd1 (tdCmp op_gt dGt (pdv 4 (pv 4)) pdInt (by first | exact nomark _ | (intros; rfl)))))) (bsOne (sdRet (pdAdd (pdSl (pdv 3 (pv 3)) odNo (odPt (pdv 4 (pv 4)))) (pdSl (pdv 3 (pv 3)) (odPt (pdSub (pdv 4 (pv 4)) pdInt)) odNo)))) bsNil)
    (bsCons (sdIf (tdEq hu (pdv 2 (pv 2)) pdInt (by first | exact nomark _ | (intros; rfl))) (bsOne (sdRet (pdAdd (pdAdd (pdSl (pdv 3 (pv 3)) odNo (odPt (pdv 4 (pv 4)))) (pdTup (adC pdNon adN))) (pdSl (pdv 3 (pv 3)) (odPt (pdv 4 (pv 4))) odNo)))) bsNil)
    (bsCons (sdIf (tdEq hu (pdv 2 (pv 2)) pdInt (by first | exact nomark _ | (intros; rfl))) (bsOne (sdRet (pdTup (adV 3 (pv 3) adN)))) bsNil)
    (bsCons (sdIf (tdEq hu (pdv 2 (pv 2)) pdInt (by first | exact nomark _ | (intros; rfl))) (bsOne (sdRet (pdAdd (pdAdd (pdSl (pdv 3 (pv 3)) odNo (odPt (pdv 4 (pv 4)))) (pdTup (adC pdStr adN))) (pdSl (pdv 3 (pv 3)) (odPt (pdv 4 (pv 4))) odNo)))) bsNil)
    (bsCons (sdIf (tdEq hu (pdv 2 (pv 2)) pdInt (by first | exact nomark _ | (intros; rfl))) (bsOne (sdRet (pdAdd (pdv 3 (pv 3)) (pdTup (adC (pdAdd (pdPow pdInt pdInt) (pdv 1 (pv 1))) adN))))) bsNil)
    (bsCons (sdSet (fun h => ps_set (i := 5) sc_law_wrong.nd rfl (by first | exact Or.inl rfl | exact Or.inr rfl) h) (pdv 3 (pv 3)))
    (bsCons (sdFor (passes_of rfl) rfl (idRg1 rfl T.range (adC (pdAdd pdInt (pdCall D_law_draw hr hx rfl (adV 0 (pv 0) (adC pdInt adN)))) adN)) (gdN (pg_name (i := 6) sc_law_wrong.nd rfl (by first | exact Or.inl rfl | exact Or.inr rfl))) (bsOne (sdSet (fun h => ps_set (i := 5) sc_law_wrong.nd rfl (by first | exact Or.inl rfl | exact Or.inr rfl) h) (pdIx (PF.pd (pfLst (adC (pdTup (adV 5 (pv 5) adN)) (adC (PF.pd (pfLst (adV 5 (pv 5) adN))) adN)))) (pdMod (pdInt1 rfl T.int (adV 6 (pv 6) adN)) pdInt) (fun _ _ => rfl)))))
    (bsOne (sdRet (pdv 5 (pv 5))))))))))))))))))))
/-! ### law (s_law) -/
theorem sc_law : FnScope ["_law_script", "_law_source_here", "_law_size", "_law_rows", "_law_book", "_law_log_here", "_law_made", "_law_mask_here", "_law_chosen", "_law_k", "_law_wrong_here", "_law_row_here", "_law_lot_here", "_law_bit"] ["_law_script"] (defScope s_law) := ⟨rfl, rfl, rfl, by decide +kernel, rfl, by decide +kernel, by decide +kernel⟩
theorem rd_law {f : Addr} (T : Bi mg) (D_against_fault : DefX P w K mg base ad 7 "against_fault" ["book", "log", "indexes"] d_against_fault) (D_law_draw : DefX P w K mg base ad 2 "_law_draw" ["_law_source_here", "_law_many"] d_law_draw) (D_law_due : DefX P w K mg base ad 2 "_law_due" ["_law_log_here", "_law_rows", "_law_chosen"] d_law_due_f) (D_law_log : DefX P w K mg base ad 4 "_law_log" ["_law_source_here", "_law_size", "_law_rows"] d_law_log_f) (D_law_lot : DefX P w K mg base ad 1 "_law_lot" ["_law_mask_here"] d_law_lot_f) (D_law_row : DefX P w K mg base ad 3 "_law_row" ["_law_source_here", "_law_size"] d_law_row_f) (D_law_wrong : DefX P w K mg base ad 3 "_law_wrong" ["_law_source_here", "_law_many"] d_law_wrong_f) (Mk_Book : MakX P w K mg base ad 7 "Book" ["self", "size", "rows"] d_Book) : ∀ (cdv : Value) (A : Around) (outer : List Env) (s : Shared) (H : Hp) (Ed : DXt), Room 8 (A.deeper (envOfC "law" (defScope s_law) s.heap.objs.size f cdv)) → A.guards = some [] → BS (cxOf CX0 P w K mg base ["_law_script", "_law_source_here", "_law_size", "_law_rows", "_law_book", "_law_log_here", "_law_made", "_law_mask_here", "_law_chosen", "_law_k", "_law_wrong_here", "_law_row_here", "_law_lot_here", "_law_bit"] "law" (defScope s_law) f cdv A outer s H E0).nox ad (fun _ => E0) Ed (defBody s_law).tail r_law := by
    intro cdv A outer s H Ed hr gd
    have hu := hr.units
    have hu5 := hr.units5
    have hx : Lets (cxOf CX0 P w K mg base ["_law_script", "_law_source_here", "_law_size", "_law_rows", "_law_book", "_law_log_here", "_law_made", "_law_mask_here", "_law_chosen", "_law_k", "_law_wrong_here", "_law_row_here", "_law_lot_here", "_law_bit"] "law" (defScope s_law) f cdv A outer s H E0).nox (fun _ => E0) := lets0
    exact (bsCons (sdSet (fun h => ps_set (i := 2) sc_law.nd rfl (by first | exact Or.inl rfl | exact Or.inr rfl) h) (pdAdd pdInt (pdCall D_law_draw hr hx rfl (adV 1 (pv 1) (adC pdInt adN)))))
    (bsCons (sdIf (tdEq hu (pdCall D_law_draw hr hx rfl (adV 1 (pv 1) (adC pdInt adN))) pdInt (by first | exact nomark _ | (intros; rfl))) (bsOne (sdSet (fun h => ps_set (i := 2) sc_law.nd rfl (by first | exact Or.inl rfl | exact Or.inr rfl) h) (pdAdd pdInt (pdMod (pdInt1 rfl T.int (adV 2 (pv 2) adN)) pdInt)))) bsNil)
    (bsCons (sdSetLc (j := 3) (own := [("_law_k", 9)]) (i := 9) rfl sc_law.nd rfl rfl (sw_true rfl rfl rfl (by decide +kernel)) (idRg1 rfl T.range (adC (pdCall D_law_draw hr hx rfl (adV 1 (pv 1) (adC pdInt adN))) adN)) (blkOk_by (N := ["_law_script", "_law_source_here", "_law_size", "_law_rows", "_law_book", "_law_log_here", "_law_made", "_law_mask_here", "_law_chosen", "_law_k", "_law_wrong_here", "_law_row_here", "_law_lot_here", "_law_bit"]) (sc := defScope s_law) (by decide +kernel)) (fun _ _ _ _ _ => pg_name (i := 9) sc_law.nd rfl (by first | exact Or.inl rfl | exact Or.inr rfl)) (fun _ _ _ _ _ => fdN) (fun _ _ _ _ _ => (pdCall D_law_row hr lets0 rfl (adV 1 (pv 1) (adV 2 (pv 2) adN)))))
    (bsCons (sdSet (fun h => ps_set (i := 4) sc_law.nd rfl (by first | exact Or.inl rfl | exact Or.inr rfl) h) (pdMake Mk_Book hr hx rfl (adV 2 (pv 2) (adC (PF.pd (pfLc (own := [("_law_row_here", 11)]) (i := 11) rfl sc_law.nd (idSq (pdv 3 (pv 3))) (blkOk_by (N := ["_law_script", "_law_source_here", "_law_size", "_law_rows", "_law_book", "_law_log_here", "_law_made", "_law_mask_here", "_law_chosen", "_law_k", "_law_wrong_here", "_law_row_here", "_law_lot_here", "_law_bit"]) (sc := defScope s_law) (by decide +kernel)) (fun _ _ _ _ _ => pg_name (i := 11) sc_law.nd rfl (by first | exact Or.inl rfl | exact Or.inr rfl)) (fun _ _ _ _ _ => fdN) (fun _ _ _ _ _ => (pdCall D_law_lot hr lets0 rfl (adV 11 (pv 11) adN))))) adN))))
    (bsCons (sdSet (fun h => ps_set (i := 5) sc_law.nd rfl (by first | exact Or.inl rfl | exact Or.inr rfl) h) (pdCall D_law_log hr hx rfl (adV 1 (pv 1) (adV 2 (pv 2) (adV 3 (pv 3) adN)))))
    (bsCons (sdSetLcP (j := 6) (own := [("_law_lot_here", 12), ("_law_bit", 13)]) (i := 12) (i2 := 13) rfl sc_law.nd rfl rfl (sw_true rfl rfl rfl (by decide +kernel)) (idSq (pdv 5 (pv 5))) (blkOk_by (N := ["_law_script", "_law_source_here", "_law_size", "_law_rows", "_law_book", "_law_log_here", "_law_made", "_law_mask_here", "_law_chosen", "_law_k", "_law_wrong_here", "_law_row_here", "_law_lot_here", "_law_bit"]) (sc := defScope s_law) (by decide +kernel)) (fun _ _ _ _ _ => pg_tup rfl (pgs_cons (pg_name (i := 12) sc_law.nd rfl (by first | exact Or.inl rfl | exact Or.inr rfl)) (pgs_cons (pg_name (i := 13) sc_law.nd rfl (by first | exact Or.inl rfl | exact Or.inr rfl)) pgs_nil))) (fun _ _ _ _ _ => fdN) (fun _ _ _ _ _ => (pdTup (adC (pdCall D_law_lot hr lets0 rfl (adV 12 (pv 12) adN)) (adV 13 (pv 13) adN)))))
    (bsCons (sdFor PassesOwn.never rfl (idRg1 rfl T.range (adC (pdShl pdInt (pdLen rfl T.len (adV 5 (pv 5) adN))) adN)) (gdN (pg_name (i := 7) sc_law.nd rfl (by first | exact Or.inl rfl | exact Or.inr rfl))) (bsCons (sdSet (fun h => ps_set (i := 8) sc_law.nd rfl (by first | exact Or.inl rfl | exact Or.inr rfl) h) (pdCall D_law_lot hr hx rfl (adV 7 (pv 7) adN)))
    (bsOne (sdIf (tdNe hu (pdReprN gd hu rfl T.repr (adC (pdCall D_against_fault hr hx rfl (adV 4 (pv 4) (adC (PF.pd (pfList rfl T.list (pdv 6 (pv 6)))) (adV 8 (pv 8) adN)))) adN)) (pdReprN gd hu rfl T.repr (adC (pdCall D_law_due hr hx rfl (adV 5 (pv 5) (adV 3 (pv 3) (adV 8 (pv 8) adN)))) adN)) (by first | exact nomark _ | (intros; rfl))) (bsOne (sdRet pdBl)) bsNil))))
    (bsCons (sdFor PassesOwn.never rfl (idRg1 rfl T.range (adC pdInt adN)) (gdN (pg_name (i := 9) sc_law.nd rfl (by first | exact Or.inl rfl | exact Or.inr rfl))) (bsCons (sdSet (fun h => ps_set (i := 10) sc_law.nd rfl (by first | exact Or.inl rfl | exact Or.inr rfl) h) (pdCall D_law_wrong hr hx rfl (adV 1 (pv 1) (adC (pdLen rfl T.len (adV 5 (pv 5) adN)) adN))))
    (bsOne (sdIf (tdNe hu (pdReprN gd hu rfl T.repr (adC (pdCall D_against_fault hr hx rfl (adV 4 (pv 4) (adV 6 (pv 6) (adV 10 (pv 10) adN)))) adN)) (pdReprN gd hu rfl T.repr (adC (pdTup (adC pdStr adN)) adN)) (by first | exact nomark _ | (intros; rfl))) (bsOne (sdRet pdBl)) bsNil))))
    (bsOne (sdRet (pdEq hu (pdReprN gd hu rfl T.repr (adV 6 (pv 6) adN)) (pdReprN gd hu rfl T.repr (adC (PF.pd (pfLcP (own := [("_law_lot_here", 12), ("_law_bit", 13)]) (i := 12) (i2 := 13) rfl sc_law.nd (idSq (pdv 5 (pv 5))) (blkOk_by (N := ["_law_script", "_law_source_here", "_law_size", "_law_rows", "_law_book", "_law_log_here", "_law_made", "_law_mask_here", "_law_chosen", "_law_k", "_law_wrong_here", "_law_row_here", "_law_lot_here", "_law_bit"]) (sc := defScope s_law) (by decide +kernel)) (fun _ _ _ _ _ => pg_tup rfl (pgs_cons (pg_name (i := 12) sc_law.nd rfl (by first | exact Or.inl rfl | exact Or.inr rfl)) (pgs_cons (pg_name (i := 13) sc_law.nd rfl (by first | exact Or.inl rfl | exact Or.inr rfl)) pgs_nil))) (fun _ _ _ _ _ => fdN) (fun _ _ _ _ _ => (pdTup (adC (pdCall D_law_lot hr lets0 rfl (adV 12 (pv 12) adN)) (adV 13 (pv 13) adN)))))) adN)) (by first | exact nomark _ | (intros; rfl)))))))))))))
end
end DL

set_option Elab.async false
set_option linter.all false
set_option maxRecDepth 100000
set_option maxHeartbeats 4000000
namespace BT
open PySem PySem.Spec PyProof.Rows L2
section
variable {P : Program} {w : World} {K : PySem.W.Frag} {mg : Str → Option Value} {base : Heap}
/-! ### lowest, as a key -/
theorem sc_lowG : FnScope ["mask"] ["mask"] (defScope s_lowest) := ⟨rfl, rfl, rfl, by decide +kernel, rfl, by decide +kernel, by decide +kernel⟩
theorem ok_lowG {f : Addr} {fd : FuncData} (F : FnP K "lowest" s_lowest f fd) : FnOk P w K mg base CX0 1 f fd ["mask"] DL.spLowG := by
  refine F.ok sc_lowG (fun vs H Q E h => ?_) (fun cdv A outer s H vs Q E hr h => ?_)
  · obtain ⟨m, rfl, _⟩ := h
    rfl
  · obtain ⟨m, rfl, k⟩ := h
    refine ⟨_, PSs.nox (pss_one (ps_ret (pe_op op_and (pv 0) (pe_un un_neg (pv 0))))), ?_⟩
    refine ⟨_, rfl, _, rfl, _, rfl, _, _, rfl, rfl, ?_⟩
    show Q (.int (Builtin.bitAnd (m : Int) (-(m : Int)))) H
    rw [bitAnd_low]
    exact k
end
end BT

set_option Elab.async false
set_option linter.all false
set_option maxRecDepth 100000
set_option maxHeartbeats 4000000
namespace BT
open PySem PySem.Spec PyProof.Rows L2
section
variable {P : Program} {w : World} {K : PySem.W.Frag} {mg : Str → Option Value} {base : Heap}
/-! ### BlindError.__init__ -/
theorem scInit : FnScope ["self", "what"] ["self", "what"] (defScope s_BlindError_init) := ⟨rfl, rfl, rfl, by decide +kernel, rfl, by decide +kernel, by decide +kernel⟩
theorem ok_init {f : Addr} {fd : FuncData} {dvs : List V} {kws : List (Str × V)} (F : FunD K "__init__" "BlindError.__init__" (defArgs s_BlindError_init) (defBody s_BlindError_init) (defScope s_BlindError_init) dvs kws f fd) :
    FnOk P w K mg base CX0 1 f fd ["self", "what"] (spInit K) := by
  refine F.ok scInit (fun vs H Q E h => ?_) (fun cdv A outer s H vs Q E hr h => ?_)
  · obtain ⟨a, C, y, rfl, _⟩ := h
    rfl
  · obtain ⟨a, C, y, rfl, oc, nw, ha, k⟩ := h
    refine ⟨_, PSs.nox (pss_one (ps_ost (pv 0) (pv 1))), ?_⟩
    exact ⟨_, rfl, _, rfl, a, C, rfl, oc, nw, .inl ⟨ha, fun dx hd hne => k dx hd hne⟩⟩
end
end BT

set_option Elab.async false
set_option linter.all false
set_option maxRecDepth 100000
set_option maxHeartbeats 4000000
set_option exponentiation.threshold 2000
namespace DL
open PySem PySem.Spec PyProof.Rows L2 BT
end DL

set_option Elab.async false
set_option linter.all false
set_option maxRecDepth 100000
set_option maxHeartbeats 4000000
set_option exponentiation.threshold 2000
namespace DL
open PySem PySem.Spec PyProof.Rows L2 BT
/-- an object under construction at x, its dict at dx -/
structure New (s : SO) (H1 : Hp) (x dx C : Addr) (H : Hp) (fs : List (Str × V)) : Prop where
  f : Frm s H1 H
  gx : H x = some (.ins C dx fs)
  gd : H dx = some (.own x)
theorem Src.upd {l a x : Addr} {H : Hp} {o : HO} (h : Src l a H) (h1 : l ≠ x) (h2 : a ≠ x) : Src l a (upd H x o) := by
  obtain ⟨⟨i, b, c, cl, n, w, t, e⟩, ns, e2⟩ := h
  exact ⟨⟨i, b, c, cl, n, w, t, by rw [upd_ne h2]; exact e⟩, ns, by rw [upd_ne h1]; exact e2⟩
def NewB (B : Addr → Prop) (x dx : Addr) : Addr → Prop := fun b => B b ∨ b = x ∨ b = dx
section
variable {B : Addr → Prop} {s : SO} {H1 H H' : Hp} {x dx C : Addr} {fs fs' : List (Str × V)} {ad : Str → Addr}
theorem src_ne (w : Wd B s H1) (hx : H1 x = none) : ∀ l a, s = some (l, a) → l ≠ x ∧ a ≠ x := fun l a e => by
  obtain ⟨⟨i, b, c, cl, n, y, t, e1⟩, ns, e2⟩ := (w.sr l a e).1
  exact ⟨fun q => (by rw [q, hx] at e2; cases e2), fun q => (by rw [q, hx] at e1; cases e1)⟩
theorem New.start (w : Wd B s H1) (hx : H1 x = none) (hd : H1 dx = none) (ne : dx ≠ x) : New s H1 x dx C (upd (upd H1 dx (.own x)) x (.ins C dx [])) [] :=
  ⟨⟨fun b o _ h => by
      rw [upd_ne (fun q => by rw [q, hx] at h; cases h), upd_ne (fun q => by rw [q, hd] at h; cases h)]; exact h,
    fun l a e => by
      have h1 := src_ne w hx l a e
      have h2 := src_ne w hd l a e
      exact Src.upd (Src.upd (w.sr l a e).1 h2.1 h2.2) h1.1 h1.2⟩,
   upd_same, by rw [upd_ne ne, upd_same]⟩
theorem New.put (w : Wd B s H1) (hx : H1 x = none) (ne : dx ≠ x) (N : New s H1 x dx C H fs) : New s H1 x dx C (upd H x (.ins C dx fs')) fs' :=
  ⟨⟨fun b o n h => by
      rw [upd_ne (fun q => by rw [q, hx] at h; cases h)]; exact N.f.st b o n h,
    fun l a e => by
      have h1 := src_ne w hx l a e
      exact Src.upd (N.f.sr l a e) h1.1 h1.2⟩,
   upd_same, by rw [upd_ne ne]; exact N.gd⟩
theorem New.go (w : Wd B s H1) (hx : H1 x = none) (hd : H1 dx = none) (N : New s H1 x dx C H fs) (f : Frm s H H') : New s H1 x dx C H' fs :=
  ⟨N.f.trans f, f.st x _ (fun l a e q => (src_ne w hx l a e).2 q.symm) N.gx, f.st dx _ (fun l a e q => (src_ne w hd l a e).2 q.symm) N.gd⟩
theorem New.wd (w : Wd B s H1) (N : New s H1 x dx C H fs) : Wd (NewB B x dx) s H :=
  ⟨fun b h => by
    rcases h with h | h | h
    · exact (w.frm N.f).al b h
    · subst h; exact ⟨_, N.gx, fun xs e => by cases e⟩
    · subst h; exact ⟨_, N.gd, fun xs e => by cases e⟩,
   fun l a e => ⟨N.f.sr l a e, .inl (w.sr l a e).2.1, .inl (w.sr l a e).2.2⟩⟩
theorem New.dat (w : Wd B s H1) (hx : H1 x = none) (hd : H1 dx = none) (N : New s H1 x dx C H fs) {v : V} {d : D} (h : Dx ad (Fz B H1) v d) : Dx ad (Fz (NewB B x dx) H) v d :=
  h.mono fun b o q => by
    refine ⟨fun z => ?_, (w.fz N.f b o q).2⟩
    rcases z with z | z | z
    · exact q.1 z
    · have := q.2; rw [z, hx] at this; cases this
    · have := q.2; rw [z, hd] at this; cases this
end
section
variable {P : Program} {w : World} {K : PySem.W.Frag} {mg : Str → Option Value} {base : Heap} {ad : Str → Addr}
/-- a def with defaults -/
theorem fnXD {x qual : Str} {pr : Arguments} {body : List Stmt} {sc : Scope} {f : Addr} {fd : FuncData} {N ps : List Str} {k : Nat} {dsp : DSp} {g : DS} {dvs : List V} (F : FunD K x qual pr body sc dvs [] f fd) (S : FnScope N ps sc)
    (rd : ∀ (cdv : Value) (A : Around) (outer : List Env) (s : Shared) (H : Hp) (E : XK) (Ed : DXt), Room k (A.deeper (envOfC qual sc s.heap.objs.size f cdv)) → BS (cxOf (L2.CX P w) P w K mg base N qual sc f cdv A outer s H E) ad (fun _ => E) Ed body g)
    (sem : ∀ as Qd Xd, dsp as Qd Xd → as.length = ps.length ∧ g { nx := fun _ => Qd .non, rt := Qd } (as ++ List.replicate (N.length - as.length) .un) fun _ => Xd) : FnOk P w K mg base (L2.CX P w) (k + 1) f fd ps (spD ad dsp) := by
  refine F.ok S (fun vs H Q E h => (body_low (N := N) sem h).1) (fun cdv A outer s H vs Q E hr h => ?_)
  obtain ⟨_, Ed, h⟩ := body_low (N := N) sem h
  exact ⟨_, (rd cdv A outer s H E Ed hr).ps, h⟩
end
end DL

set_option Elab.async false
set_option linter.all false
set_option maxRecDepth 100000
set_option maxHeartbeats 4000000
set_option exponentiation.threshold 2000
namespace DL
open PySem PySem.Spec PyProof.Rows L2 BT
/-! ### Book.__init__: its statements at the heap, its expressions by data -/
theorem sc_Book_init : FnScope ["self", "size", "rows", "row"] ["self", "size", "rows"] (defScope s_Book_init) := ⟨rfl, rfl, rfl, by decide +kernel, rfl, by decide +kernel, by decide +kernel⟩
section
variable {P : Program} {w : World} {K : PySem.W.Frag} {mg : Str → Option Value} {base : Heap} {ad : Str → Addr}
theorem ok_Book_init {f : Addr} {fd : FuncData} (T : Bi mg) (TT : ClsTab K ad tab0) (D_need_book_size : DefX P w K mg base ad 3 "need_book_size" ["size"] d_need_book_size)
    (D_need_lots : DefXD P w K mg base ad 6 "need_lots" ["value", "size", "most"] [60] d_need_lots) (D_mask_of : DefX P w K mg base ad 1 "mask_of" ["lot"] d_mask_of) (D_reduce_rows : DefX P w K mg base ad 4 "reduce_rows" ["masks"] d_reduce_rows)
    (F : FnM K "__init__" "Book.__init__" s_Book_init f fd) : FnOk P w K mg base (L2.CX P w) 7 f fd ["self", "size", "rows"] (spI ad "Book" d_Book) := by
  refine F.ok sc_Book_init (fun vs H Q E h => ?_) (fun cdv A outer sh H vs Q E hr h => ?_)
  · obtain ⟨x, dx, us, H1, B, s, as, Qd, Xd, rfl, _, _, _, _, _, A1, ⟨n, ls, rfl, _⟩, _⟩ := h
    cases A1 with
    | cons a r => cases r with
      | cons b r => cases r; rfl
  · obtain ⟨x, dx, us, H1, B, s, as, Qd, Xd, rfl, eH, hx1, hd1, hne, W1, A1, ⟨n, ls, rfl, n1, n2, hl, hb, q⟩, kk, _⟩ := h
    cases A1 with
    | cons a r => cases r with
      | cons b r =>
        cases r
        rename_i v1 v2
        have a : Dx ad (Fz B H1) v1 (.int (n : Int)) := a
        have b : Dx ad (Fz B H1) v2 (.lst (ls.map lotM)) := b
        have hu := hr.units
        have hu5 := hr.units5
        have tk : Takes (cxOf (L2.CX P w) P w K mg base ["self", "size", "rows", "row"] "Book.__init__" (defScope s_Book_init) f cdv A outer sh H E) (fun cls d _ H => E cls d H) := takes_of rfl rfl rfl rfl
        have hx : Lets (cxOf (L2.CX P w) P w K mg base ["self", "size", "rows", "row"] "Book.__init__" (defScope s_Book_init) f cdv A outer sh H E) (fun _ => E) := letsP (passes_call tk fun _ _ _ _ h => h)
        refine ⟨_, pss_cons (ps_expr (PD.pe (ad := ad) (E := fun _ => E) (Ed := fun _ _ _ => False) (pdCall D_need_book_size hr hx rfl (adV 1 (pv 1) adN))))
          (pss_cons (ps_expr (PD.pe (ad := ad) (E := fun _ => E) (Ed := fun _ _ _ => False) (pdCallD D_need_lots hr hx rfl (adV 2 (pv 2) (adV 1 (pv 1) adN)))))
          (pss_cons (ps_fld (pv 0) (pv 1) rfl)
          (pss_cons (ps_fld (pv 0) (PD.pe (ad := ad) (E := fun _ => E) (Ed := fun _ _ _ => False) (pdTuple rfl T.tuple (pdCall D_reduce_rows hr hx rfl (adC (PF.pd (pfLc (own := [("row", 3)]) (i := 3) rfl sc_Book_init.nd (idSq (pdv 2 (pv 2))) (blkOk_by (N := ["self", "size", "rows", "row"]) (sc := defScope s_Book_init) (by decide +kernel)) (fun _ _ _ _ _ => pg_name (i := 3) sc_Book_init.nd rfl (Or.inl rfl)) (fun _ _ _ _ _ => fdN) (fun _ _ _ _ _ => (pdCall D_mask_of hr lets0 rfl (adV 3 (pv 3) adN))))) adN)))) rfl)
          (pss_one (ps_fld (pv 0) (pe_callB call_len_seq (by rfl) T.len PySem.boot_len (pa_cons (pe_fld (pv 0) rfl) pa_nil)) rfl))))), ?_⟩
        have N0 : New s H1 x dx (ad "Book") H [] := eH ▸ New.start W1 hx1 hd1 hne
        clear eH
        cases a
        have wl : ∀ {H2 : Hp} {fs : List (Str × V)}, New s H1 x dx (ad "Book") H2 fs → Wl ad (fun _ => E) (fun _ _ _ => False) (NewB B x dx) s [.un, .dat (.int (n : Int)), .dat (.lst (ls.map lotM)), .un] [some (.ref x), some (.int (n : Int)), some v2, none] H2 := fun {H2 fs} N => by
          refine ⟨⟨N.wd W1, fun i sl e => ?_, rfl⟩, fun _ _ _ _ _ _ _ _ h => h.elim⟩
          rcases i with _ | _ | _ | _ | i
          · cases Option.some.inj e; trivial
          · cases Option.some.inj e; exact ⟨_, rfl, .int _⟩
          · cases Option.some.inj e; exact ⟨_, rfl, N.dat W1 hx1 hd1 b⟩
          · cases Option.some.inj e; trivial
          · cases e
        have cC := TT.cls "Book" _ rfl
        have nS := TT.no "Book" _ rfl "size" (by simp)
        have nM := TT.no "Book" _ rfl "masks" (by simp)
        have nD := TT.no "Book" _ rfl "dim" (by simp)
        refine ⟨_, _, _, fun _ => True, wl N0, ?_, fun c vc H2 _ f2 _ => ?_⟩
        · (try dsimp only [gN, gN2, sNil, sSeq, sExp, sRet, sIf, sPass, sCont, sBrk, sSet, sSetO, sApp, sAppF, sApPop, flatD, sFrz, sAug, sRaise, sAsg, sPut, eV, eC, e1, e2, t2, tBl, tTru, tN, tAn, tOo, tCh, eNot, eAn, eOo, eIf, eTup, eLst, eF, eFld, eIs, eIxO, eLenO, eSl, eRev, eB, eCall, eCallG, eMeth, aN, aC, aV, oNo, oPt, eIsO, oSrtI, oSrtT, oLt, oLe, oReprB, oInI, gN3, eCh, oGt, oGe, oI, oIC, oI1, oAdd, oMul, oEq, oIsN, oIx, oLen, oList, oTuple, oAbs, oMin2, oInt1, fLst, fListRg1, fList, fRep, fCat, tYs, tru, isS, dats, seqD, seqO, tyS, List.set, List.getElem?_cons_zero, List.getElem?_cons_succ, List.append_eq, List.nil_append, List.cons_append, Option.map_some, Option.bind_some, ng, wipeD, List.length_cons, List.length_nil, Nat.reduceAdd, Nat.reduceSub, List.replicate_succ, List.replicate_zero]; try simp only [decide_eq_true_eq, Bool.not_eq_true', decide_eq_false_iff_not, Bool.false_eq_true, if_false, if_true, reduceIte, String.reduceBEq, Bool.true_or, Bool.false_or, Bool.or_false, Bool.and_false, Bool.false_and, Bool.and_true, Bool.true_and, Bool.not_true, Bool.not_false, ne_eq, not_true_eq_false, reduceCtorEq, Bool.true_eq_false, decide_true, decide_false])
          exact ⟨n, rfl, n1, n2, trivial⟩
        have N2 := N0.go W1 hx1 hd1 f2
        refine ⟨_, _, _, fun _ => True, wl N2, ?_, fun d3 v3 H3 _ f3 _ => ?_⟩
        · unfold eCallD intsS
          (try dsimp only [gN, gN2, sNil, sSeq, sExp, sRet, sIf, sPass, sCont, sBrk, sSet, sSetO, sApp, sAppF, sApPop, flatD, sFrz, sAug, sRaise, sAsg, sPut, eV, eC, e1, e2, t2, tBl, tTru, tN, tAn, tOo, tCh, eNot, eAn, eOo, eIf, eTup, eLst, eF, eFld, eIs, eIxO, eLenO, eSl, eRev, eB, eCall, eCallG, eMeth, aN, aC, aV, oNo, oPt, eIsO, oSrtI, oSrtT, oLt, oLe, oReprB, oInI, gN3, eCh, oGt, oGe, oI, oIC, oI1, oAdd, oMul, oEq, oIsN, oIx, oLen, oList, oTuple, oAbs, oMin2, oInt1, fLst, fListRg1, fList, fRep, fCat, tYs, tru, isS, dats, seqD, seqO, tyS, List.set, List.getElem?_cons_zero, List.getElem?_cons_succ, List.append_eq, List.nil_append, List.cons_append, Option.map_some, Option.bind_some, ng, wipeD, List.length_cons, List.length_nil, Nat.reduceAdd, Nat.reduceSub, List.replicate_succ, List.replicate_zero]; try simp only [decide_eq_true_eq, Bool.not_eq_true', decide_eq_false_iff_not, Bool.false_eq_true, if_false, if_true, reduceIte, String.reduceBEq, Bool.true_or, Bool.false_or, Bool.or_false, Bool.and_false, Bool.false_and, Bool.and_true, Bool.true_and, Bool.not_true, Bool.not_false, ne_eq, not_true_eq_false, reduceCtorEq, Bool.true_eq_false, decide_true, decide_false])
          exact ⟨ls, n, 60, rfl, by omega, hl, hb, trivial⟩
        have N3 := N2.go W1 hx1 hd1 f3
        refine ⟨_, rfl, _, rfl, x, _, dx, _, rfl, N3.gx, cC, nS, (by show 0 < 1000; decide), ?_⟩
        have N4 := N3.put W1 hx1 hne (fs' := [("size", .int (n : Int))])
        refine ⟨_, _, _, fun d => d = .tup (natX (reduceF ls)), wl N4, ?_, fun d5 v5 H5 h5 f5 x5 => ?_⟩
        · (try dsimp only [gN, gN2, sNil, sSeq, sExp, sRet, sIf, sPass, sCont, sBrk, sSet, sSetO, sApp, sAppF, sApPop, flatD, sFrz, sAug, sRaise, sAsg, sPut, eV, eC, e1, e2, t2, tBl, tTru, tN, tAn, tOo, tCh, eNot, eAn, eOo, eIf, eTup, eLst, eF, eFld, eIs, eIxO, eLenO, eSl, eRev, eB, eCall, eCallG, eMeth, aN, aC, aV, oNo, oPt, eIsO, oSrtI, oSrtT, oLt, oLe, oReprB, oInI, gN3, eCh, oGt, oGe, oI, oIC, oI1, oAdd, oMul, oEq, oIsN, oIx, oLen, oList, oTuple, oAbs, oMin2, oInt1, fLst, fListRg1, fList, fRep, fCat, tYs, tru, isS, dats, seqD, seqO, tyS, List.set, List.getElem?_cons_zero, List.getElem?_cons_succ, List.append_eq, List.nil_append, List.cons_append, Option.map_some, Option.bind_some, ng, wipeD, List.length_cons, List.length_nil, Nat.reduceAdd, Nat.reduceSub, List.replicate_succ, List.replicate_zero]; try simp only [decide_eq_true_eq, Bool.not_eq_true', decide_eq_false_iff_not, Bool.false_eq_true, if_false, if_true, reduceIte, String.reduceBEq, Bool.true_or, Bool.false_or, Bool.or_false, Bool.and_false, Bool.false_and, Bool.and_true, Bool.true_and, Bool.not_true, Bool.not_false, ne_eq, not_true_eq_false, reduceCtorEq, Bool.true_eq_false, decide_true, decide_false])
          refine lcLotM ls (fun R r => iSqV rfl rfl r) (by omega) (fun l hl' Q' q' => ?_) ?_
          · (try dsimp only [gN, gN2, sNil, sSeq, sExp, sRet, sIf, sPass, sCont, sBrk, sSet, sSetO, sApp, sAppF, sApPop, flatD, sFrz, sAug, sRaise, sAsg, sPut, eV, eC, e1, e2, t2, tBl, tTru, tN, tAn, tOo, tCh, eNot, eAn, eOo, eIf, eTup, eLst, eF, eFld, eIs, eIxO, eLenO, eSl, eRev, eB, eCall, eCallG, eMeth, aN, aC, aV, oNo, oPt, eIsO, oSrtI, oSrtT, oLt, oLe, oReprB, oInI, gN3, eCh, oGt, oGe, oI, oIC, oI1, oAdd, oMul, oEq, oIsN, oIx, oLen, oList, oTuple, oAbs, oMin2, oInt1, fLst, fListRg1, fList, fRep, fCat, tYs, tru, isS, dats, seqD, seqO, tyS, List.set, List.getElem?_cons_zero, List.getElem?_cons_succ, List.append_eq, List.nil_append, List.cons_append, Option.map_some, Option.bind_some, ng, wipeD, List.length_cons, List.length_nil, Nat.reduceAdd, Nat.reduceSub, List.replicate_succ, List.replicate_zero]; try simp only [decide_eq_true_eq, Bool.not_eq_true', decide_eq_false_iff_not, Bool.false_eq_true, if_false, if_true, reduceIte, String.reduceBEq, Bool.true_or, Bool.false_or, Bool.or_false, Bool.and_false, Bool.false_and, Bool.and_true, Bool.true_and, Bool.not_true, Bool.not_false, ne_eq, not_true_eq_false, reduceCtorEq, Bool.true_eq_false, decide_true, decide_false])
            refine ⟨_, rfl, lotM_sm (hb l hl') (by omega), ?_⟩
            rw [maskN_lotN]
            exact q'
          · (try dsimp only [gN, gN2, sNil, sSeq, sExp, sRet, sIf, sPass, sCont, sBrk, sSet, sSetO, sApp, sAppF, sApPop, flatD, sFrz, sAug, sRaise, sAsg, sPut, eV, eC, e1, e2, t2, tBl, tTru, tN, tAn, tOo, tCh, eNot, eAn, eOo, eIf, eTup, eLst, eF, eFld, eIs, eIxO, eLenO, eSl, eRev, eB, eCall, eCallG, eMeth, aN, aC, aV, oNo, oPt, eIsO, oSrtI, oSrtT, oLt, oLe, oReprB, oInI, gN3, eCh, oGt, oGe, oI, oIC, oI1, oAdd, oMul, oEq, oIsN, oIx, oLen, oList, oTuple, oAbs, oMin2, oInt1, fLst, fListRg1, fList, fRep, fCat, tYs, tru, isS, dats, seqD, seqO, tyS, List.set, List.getElem?_cons_zero, List.getElem?_cons_succ, List.append_eq, List.nil_append, List.cons_append, Option.map_some, Option.bind_some, ng, wipeD, List.length_cons, List.length_nil, Nat.reduceAdd, Nat.reduceSub, List.replicate_succ, List.replicate_zero]; try simp only [decide_eq_true_eq, Bool.not_eq_true', decide_eq_false_iff_not, Bool.false_eq_true, if_false, if_true, reduceIte, String.reduceBEq, Bool.true_or, Bool.false_or, Bool.or_false, Bool.and_false, Bool.false_and, Bool.and_true, Bool.true_and, Bool.not_true, Bool.not_false, ne_eq, not_true_eq_false, reduceCtorEq, Bool.true_eq_false, decide_true, decide_false])
            exact ⟨_, ls, rfl, rfl, by omega, rfl⟩
        subst h5
        have N5 := N4.go W1 hx1 hd1 f5
        cases x5 with
        | tup ea ra =>
          rename_i t vs
          have ev := natsD_V ra
          subst ev
          have tx : t ≠ x := fun e => ea.1 (.inr (.inl e))
          refine ⟨_, rfl, x, _, dx, _, rfl, N5.gx, cC, nM, (by show 1 < 1000; decide), ?_⟩
          have N6 := N5.put W1 hx1 hne (fs' := [("size", .int (n : Int)), ("masks", .ref t)])
          have g6 : (upd H5 x (.ins (ad "Book") dx [("size", .int (n : Int)), ("masks", .ref t)])) t = some (.tup (natV (reduceF ls))) := by rw [upd_ne tx]; exact ea.2
          refine ⟨_, rfl, x, _, dx, _, _, rfl, N6.gx, cC, nM, rfl, t, _, rfl, .inr (.inl (.inl g6)), _, rfl, x, _, dx, _, rfl, N6.gx, cC, nD, (by show 2 < 1000; decide), ?_⟩
          have N7 := N6.put W1 hx1 hne (fs' := [("size", .int (n : Int)), ("masks", .ref t), ("dim", .int (natV (reduceF ls)).length)])
          have g7 := (show (upd (upd H5 x (.ins (ad "Book") dx [("size", .int (n : Int)), ("masks", .ref t)])) x (.ins (ad "Book") dx [("size", .int (n : Int)), ("masks", .ref t), ("dim", .int (natV (reduceF ls)).length)])) t = some (.tup (natV (reduceF ls))) by rw [upd_ne tx]; exact g6)
          refine kk _ _ q N7.f (.obj ⟨W1.nb hx1, N7.gx⟩ (.cons (.int _) (.cons (.tup ⟨fun z => ea.1 (.inl z), g7⟩ (dx_natV _)) (.cons ?_ .nil))))
          rw [show (natV (reduceF ls)).length = (reduceF ls).length from by unfold natV; rw [List.length_map]]
          exact .int _
end
end DL

set_option Elab.async false
set_option linter.all false
set_option maxRecDepth 100000
set_option maxHeartbeats 4000000
set_option exponentiation.threshold 2000
namespace DL
open PySem PySem.Spec PyProof.Rows L2 BT
end DL

set_option Elab.async false
set_option linter.all false
set_option maxRecDepth 100000
set_option maxHeartbeats 4000000
set_option exponentiation.threshold 2000
namespace DL
open PySem PySem.Spec PyProof.Rows L2 BT
/-! ### slices, comprehensions -/
theorem sIxN (n d k : Nat) : HT.sIx n d (some (k : Int)) = min k n := by
  show (if (k : Int) < 0 then ((k : Int) + (n : Int)).toNat else min (k : Int).toNat n) = min k n
  rw [if_neg (by omega), Int.toNat_natCast]
theorem cut_natX (l : List Nat) (lo hi : Option Int) : cutD (natX l) lo hi = natX ((l.drop (HT.sIx l.length 0 lo)).take (HT.sIx l.length l.length hi - HT.sIx l.length 0 lo)) := by
  unfold cutD; rw [natX_len]; unfold natX; rw [List.map_take, List.map_drop]
theorem cut_from {l : List Nat} {k : Nat} (h : k ≤ l.length) : cutD (natX l) (some (k : Int)) none = natX (l.drop k) := by
  rw [cut_natX, sIxN, show HT.sIx l.length l.length none = l.length from rfl, Nat.min_eq_left h, List.take_of_length_le (by rw [List.length_drop]; omega)]
theorem cut_to {l : List Nat} {k : Nat} (h : k ≤ l.length) : cutD (natX l) none (some (k : Int)) = natX (l.take k) := by
  rw [cut_natX, sIxN, show HT.sIx l.length 0 none = 0 from rfl, Nat.min_eq_left h, Nat.sub_zero, List.drop_zero]
end DL

set_option Elab.async false
set_option linter.all false
set_option maxRecDepth 100000
set_option maxHeartbeats 4000000
set_option exponentiation.threshold 2000
namespace DL
open PySem PySem.Spec PyProof.Rows L2 BT
/-! ### reduced rows are their own reduced rows -/
/-! ### rows mixed with later ones -/
/-! ### ranks with wishes -/
def wishG (p : Nat) (ws : List Nat) (w : Nat) : Nat := (w &&& p) ^^^ (bitsAtF w ws <<< 24)
end DL

set_option Elab.async false
set_option linter.all false
set_option maxRecDepth 100000
set_option maxHeartbeats 4000000
set_option exponentiation.threshold 2000
namespace DL
open PySem PySem.Spec PyProof.Rows L2 BT
/-! ### bits of a mask at places, and back -/
/-- the mask whose bit at L[k] is the bit k of c -/
def sprF (c : Nat) (L : List Nat) : Nat := L.zipIdx.foldl (fun r x => if c.testBit x.2 = true then r ||| 2 ^ x.1 else r) 0
/-! ### books made of books, by their sums -/
end DL

set_option Elab.async false
set_option linter.all false
set_option maxRecDepth 100000
set_option maxHeartbeats 4000000
set_option exponentiation.threshold 2000
namespace DL
open PySem PySem.Spec PyProof.Rows L2 BT
/-! ### promises: lists of lots, words, reduced rows -/
def d_law_lots_equal : DSp := fun as Q _ => ∃ ls : List (List Nat), as = [.dat (lotsX ls), .dat (lotsX ls)] ∧ ls.length ≤ 10000 ∧ (∀ l ∈ ls, l.length ≤ 10000) ∧ Q (.bl true)
def d_law_words : DSp := fun as Q _ => ∃ rs : List Nat, as = [.dat (.lst (natX rs))] ∧ (∀ r ∈ rs, r < 2 ^ 16) ∧ Q (.lst (natX (closeF rs)))
def d_law_dim : DSp := fun as Q _ => ∃ xs : List D, as = [.dat (.lst xs)] ∧ Q (.int ((Builtin.Int.intBits xs.length : Nat) - 1 : Int))
def d_law_reduced : DSp := fun as Q _ => ∃ ws : List Nat, as = [.dat (.lst (natX ws))] ∧ (∀ w ∈ ws, w < 2 ^ 60) ∧ ws.length ≤ 10000 ∧ Q (.lst (natX (redF ws)))
end DL

set_option Elab.async false
set_option linter.all false
set_option maxRecDepth 100000
set_option maxHeartbeats 4000000
set_option exponentiation.threshold 2000
namespace DL
open PySem PySem.Spec PyProof.Rows L2 BT
/-! ### promises: books made of books -/
def d_Book_need_places : DSp := fun as Q _ => ∃ (n : Nat) (ms : List Nat) (p : Nat), as = [.dat (bookX n ms), .dat (lotM p)] ∧ n ≤ 60 ∧ p < 2 ^ n ∧ p ≠ 0 ∧ Q .non
def d_told : DSp := fun as Q _ => ∃ (n : Nat) (d : D) (ms : List Nat), as = [.dat (.int (n : Int)), .dat d] ∧ seqD d = some (natX ms) ∧ 1 ≤ n ∧ n ≤ 24 ∧ ms.length ≤ 60 ∧ (∀ m ∈ ms, m < 2 ^ n) ∧ Q (bookX n (reduceF ms))
def d_Book_within : DSp := fun as Q _ => ∃ (n : Nat) (ms : List Nat) (p : Nat), as = [.dat (bookX n ms), .dat (lotM p)] ∧ Rows n ms ∧ 1 ≤ n ∧ n ≤ 24 ∧ p < 2 ^ n ∧ Q (bookX n (reduceF (sweepF (Builtin.bitNot (p : Int)) ms).2))
def d_Book_shown : DSp := fun as Q _ => ∃ (n : Nat) (ms : List Nat) (p : Nat), as = [.dat (bookX n ms), .dat (lotM p)] ∧ Rows n ms ∧ 1 ≤ n ∧ n ≤ 24 ∧ p < 2 ^ n ∧ Q (bookX n (reduceF (ms.map fun m => m &&& p)))
def d_Book_on : DSp := fun as Q _ => ∃ (n : Nat) (ms : List Nat) (p : Nat), as = [.dat (bookX n ms), .dat (lotM p)] ∧ Rows n ms ∧ 1 ≤ n ∧ n ≤ 24 ∧ p < 2 ^ n ∧ p ≠ 0 ∧ Q (bookX (lotN p).length (reduceF (ms.map fun m => pickedF m (lotN p))))
def d_Book_under : DSp := fun as Q _ => ∃ (n : Nat) (ms : List Nat) (p : Nat), as = [.dat (bookX n ms), .dat (lotM p)] ∧ Rows n ms ∧ 1 ≤ n ∧ n ≤ 24 ∧ p < 2 ^ n ∧ p ≠ 0 ∧ Q (bookX (lotN p).length (reduceF ((reduceF (sweepF (Builtin.bitNot (p : Int)) ms).2).map fun m => pickedF m (lotN p))))
def d_Book_join : DSp := fun as Q _ => ∃ (n : Nat) (ms ks : List Nat), as = [.dat (bookX n ms), .dat (bookX n ks)] ∧ 1 ≤ n ∧ n ≤ 24 ∧ ms.length + ks.length ≤ 60 ∧ (∀ m ∈ ms, m < 2 ^ n) ∧ (∀ m ∈ ks, m < 2 ^ n) ∧ Q (bookX n (reduceF (ms ++ ks)))
/-- the book of the checks, as masks -/
def turnF (n : Nat) (ms : List Nat) : List Nat := reduceF (checkF ms n)
/-- what a turned book needs -/
structure TRows (n : Nat) (ms : List Nat) : Prop where
  R : Rows n ms
  n1 : 1 ≤ n
  n2 : n ≤ 24
  cl : (checkF ms n).length ≤ 24
  ct : ∀ c ∈ checkF ms n, c < 2 ^ n
def d_Book_meet : DSp := fun as Q _ => ∃ (n : Nat) (ms ks : List Nat), as = [.dat (bookX n ms), .dat (bookX n ks)] ∧ TRows n ms ∧ TRows n ks ∧ (turnF n ms).length + (turnF n ks).length ≤ 60 ∧ TRows n (reduceF (turnF n ms ++ turnF n ks)) ∧ (∀ m ∈ turnF n ms, m < 2 ^ n) ∧ (∀ m ∈ turnF n ks, m < 2 ^ n) ∧ Q (bookX n (turnF n (reduceF (turnF n ms ++ turnF n ks))))
def d_Book_beside : DSp := fun as Q _ => ∃ (n k : Nat) (ms ks : List Nat), as = [.dat (bookX n ms), .dat (bookX k ks)] ∧ 1 ≤ n ∧ 1 ≤ k ∧ n + k ≤ 24 ∧ ms.length + ks.length ≤ 60 ∧ (∀ m ∈ ms, m < 2 ^ n) ∧ (∀ m ∈ ks, m < 2 ^ k) ∧ Q (bookX (n + k) (reduceF (ms ++ ks.map fun m => m <<< n)))
def d_is_order : DSp := fun as Q _ => ∃ (n : Nat) (o : List Nat), as = [.dat (.tup (natX o)), .dat (.int (n : Int))] ∧ n ≤ 60 ∧ o.Perm (List.range n) ∧ Q (.bl true)
def d_Book_moved : DSp := fun as Q _ => ∃ (n : Nat) (ms o : List Nat), as = [.dat (bookX n ms), .dat (.tup (natX o))] ∧ Rows n ms ∧ 1 ≤ n ∧ n ≤ 24 ∧ o.Perm (List.range n) ∧ Q (bookX n (reduceF (ms.map fun m => pickedF m o)))
def wideF (n c m : Nat) : Nat := m ||| ((pop (m &&& c) % 2) <<< n)
def d_Book_with_sum : DSp := fun as Q _ => ∃ (n : Nat) (ms : List Nat) (c : Nat), as = [.dat (bookX n ms), .dat (lotM c)] ∧ Rows n ms ∧ 1 ≤ n ∧ n ≤ 23 ∧ c < 2 ^ n ∧ Q (bookX (n + 1) (reduceF (ms.map (wideF n c))))
end DL

set_option Elab.async false
set_option linter.all false
set_option maxRecDepth 100000
set_option maxHeartbeats 4000000
set_option exponentiation.threshold 2000
namespace DL
open PySem PySem.Spec PyProof.Rows L2 BT
/-! ### turned books, by their words -/
theorem any_close (rs : List Nat) (c : Nat) : ((closeF rs).any fun w => par (w &&& c)) = (rs.any fun w => par (w &&& c)) := by
  rw [Bool.eq_iff_iff]
  constructor
  · intro h
    cases e : rs.any fun w => par (w &&& c) with
    | true => rfl
    | false =>
      have he : ∀ r ∈ rs, par (r &&& c) = false := fun r hr => by
        cases q : par (r &&& c) with
        | false => rfl
        | true => rw [List.any_eq_true.mpr ⟨r, hr, q⟩] at e; cases e
      obtain ⟨z, hz, q⟩ := List.any_eq_true.mp h
      rw [close_even he z hz] at q; cases q
  · intro h
    obtain ⟨r, hr, q⟩ := List.any_eq_true.mp h
    exact List.any_eq_true.mpr ⟨r, closeF_mem r hr, q⟩
theorem any_congr {a b : List Nat} (h : ∀ w, w ∈ closeF a ↔ w ∈ closeF b) (c : Nat) : (a.any fun w => par (w &&& c)) = (b.any fun w => par (w &&& c)) := by
  rw [← any_close a, ← any_close b, Bool.eq_iff_iff, List.any_eq_true, List.any_eq_true]
  exact ⟨fun ⟨z, hz, q⟩ => ⟨z, (h z).mp hz, q⟩, fun ⟨z, hz, q⟩ => ⟨z, (h z).mpr hz, q⟩⟩
theorem any_red (rs : List Nat) (c : Nat) : ((reduceF rs).any fun w => par (w &&& c)) = (rs.any fun w => par (w &&& c)) := any_congr (fun w => reduce_close rs w) c
/-- the checks of the book that these rows tell -/
def tF (n : Nat) (rs : List Nat) : List Nat := checkF (reduceF rs) n
end DL

set_option Elab.async false
set_option linter.all false
set_option maxRecDepth 100000
set_option maxHeartbeats 400000
namespace DL
open PySem PySem.Spec PyProof.Rows L2 BT
theorem oIx_l {xs : List D} {i : Int} {d : D} {Q : D → Prop} (h : atI xs i = some d) (q : Q d) : oIx (.lst xs) (.int i) Q := by
  show (match atI xs i with | some d => Q d | none => False)
  rw [h]; exact q
theorem oIx_t {xs : List D} {i : Int} {d : D} {Q : D → Prop} (h : atI xs i = some d) (q : Q d) : oIx (.tup xs) (.int i) Q := by
  show (match atI xs i with | some d => Q d | none => False)
  rw [h]; exact q
theorem oEq_i {neg : Bool} {i j : Int} {Q : D → Prop} (q : Q (.bl (ng neg (decide (i = j))))) : oEq neg (.int i) (.int j) Q := q
theorem oEq_iT {a b : Int} {Q : D → Prop} (h : a = b) (q : Q (.bl true)) : oEq false (.int a) (.int b) Q := by
  show Q (.bl (ng false (decide (a = b))))
  rw [decide_eq_true h]; exact q
theorem oEq_iF {a b : Int} {Q : D → Prop} (h : a ≠ b) (q : Q (.bl false)) : oEq false (.int a) (.int b) Q := by
  show Q (.bl (ng false (decide (a = b))))
  rw [decide_eq_false h]; exact q
theorem oEq_strR {neg : Bool} {a b : Str} {Q : D → Prop} {r : Bool} (h : decide (a = b) = r) (q : Q (.bl (ng neg r))) : oEq neg (.str a) (.str b) Q := by
  show Q (.bl (ng neg (decide (a = b))))
  rw [h]; exact q
theorem str_same {neg : Bool} {a : Str} {Q : D → Prop} (q : Q (.bl (ng neg true))) : oEq neg (.str a) (.str a) Q := oEq_strR (r := true) (decide_eq_true rfl) q
theorem atI_n {xs : List D} {i : Nat} {d : D} (h : xs[i]? = some d) : atI xs (i : Int) = some d := by rw [at_nat]; exact h
theorem bitsN_pow (k : Nat) : bitsN (2 ^ k) = k + 1 := by
  unfold bitsN
  rw [if_neg (Nat.pos_iff_ne_zero.mp (Nat.two_pow_pos k)), Nat.log2_two_pow]
theorem lcPg {α : Type} {fi : DI} {vs : List Nat} {i i2 : Nat} {tt : DT} {te : DE} {ρ : List Sl} {Q : List D → Prop} {Ed : DXt} (Z : List α) (a b : α → D) (p : α → Bool) (f : α → D) (hf : ∀ R : List D → Prop, R (Z.map fun z => D.tup [a z, b z]) → fi ρ R Ed) (hl : Z.length ≤ 1000000)
    (ht : ∀ z ∈ Z, ∀ Q' : Bool → Prop, Q' (p z) → tt (((wipeD ρ vs).set i (.dat (a z))).set i2 (.dat (b z))) Q' X0)
    (hs : ∀ z ∈ Z, p z = true → ∀ Q' : D → Prop, Q' (f z) → te (((wipeD ρ vs).set i (.dat (a z))).set i2 (.dat (b z))) Q' X0) (q : Q ((Z.filter p).map f)) : fLcP fi vs i i2 tt te ρ Q Ed := by
  refine hf _ ⟨by rw [List.length_map]; exact hl, fun j acc => acc = ((Z.take j).filter p).map f, rfl, ?_, ?_⟩
  · rintro j x acc hj rfl
    rw [List.getElem?_map] at hj
    obtain ⟨z, hz, rfl⟩ := Option.map_eq_some_iff.mp hj
    have hm := List.mem_of_getElem? hz
    show tt _ _ _
    refine ht z hm _ ?_
    have e : (Z.take (j + 1)).filter p = (Z.take j).filter p ++ (if p z = true then [z] else []) := by
      rw [List.take_succ, hz, List.filter_append]
      congr 1
      show List.filter p [z] = _
      rw [List.filter_cons]; rfl
    cases c : p z with
    | true =>
      refine ifT rfl ?_
      refine hs z hm c _ ?_
      show _ = ((Z.take (j + 1)).filter p).map f
      rw [e, c, if_pos rfl, List.map_append]; rfl
    | false =>
      refine ifF (by decide) ?_
      show _ = ((Z.take (j + 1)).filter p).map f
      rw [e, c, if_neg (by decide), List.append_nil]
  · rintro acc rfl
    rw [List.length_map, List.take_of_length_le (Nat.le_refl _)]
    exact q
theorem lcRw {k n : Nat} {te : DE} {ρ : List Sl} {Q : List D → Prop} {Ed : DXt} {fi : DI} {vs : List Nat} {i : Nat} (hf : ∀ R : List D → Prop, (∀ j : Nat, j ≤ k → R (natX (List.range j))) → fi ρ R Ed) (hk : k ≤ 1000 := by decide)
    (hs : ∀ x, ∀ Q' : D → Prop, (∀ v : Nat, v < 2 ^ n → Q' (.int (v : Int))) → te ((wipeD ρ vs).set i (.dat x)) Q' X0) (q : ∀ ps : List Nat, ps.length ≤ k → (∀ p ∈ ps, p < 2 ^ n) → Q (natX ps)) : fLc fi vs i tYs te ρ Q Ed := by
  refine hf _ fun m hm => ⟨by rw [natX_len, List.length_range]; omega, fun j acc => ∃ ps : List Nat, acc = natX ps ∧ ps.length = j ∧ ∀ p ∈ ps, p < 2 ^ n, ⟨[], rfl, rfl, by simp⟩, ?_, ?_⟩
  · rintro j x acc hx ⟨ps, rfl, hp, hb⟩
    dsimp only [tYs]
    rw [if_pos rfl]
    refine hs x _ fun v hv => ⟨ps ++ [v], natX_snoc ps v, by rw [List.length_append, List.length_singleton, hp], fun p h => ?_⟩
    rcases List.mem_append.mp h with g | g
    · exact hb p g
    · rw [List.mem_singleton.mp g]; exact hv
  · rintro acc ⟨ps, rfl, hp, hb⟩
    rw [natX_len, List.length_range] at hp
    exact q ps (by omega) hb
theorem powN24 {n : Nat} (h : n ≤ 24) : 2 ^ n ≤ 2 ^ 24 := Nat.pow_le_pow_right (by decide) h
end DL

set_option Elab.async false
set_option linter.all false
set_option maxRecDepth 100000
set_option maxHeartbeats 4000000
set_option exponentiation.threshold 2000
namespace DL
open PySem PySem.Spec PyProof.Rows L2 BT
/-! ### fields of books; loops over ranges that are drawn -/
theorem bk_size (n : Int) (ms : D) (k : D) : List.lookup (Str.ofString "size") [(Str.ofString "size", D.int n), (Str.ofString "masks", ms), (Str.ofString "dim", k)] = some (.int n) := rfl
theorem bk_masks (n : D) (ms : D) (k : D) : List.lookup (Str.ofString "masks") [(Str.ofString "size", n), (Str.ofString "masks", ms), (Str.ofString "dim", k)] = some ms := rfl
theorem bk_dim (n : D) (ms : D) (k : D) : List.lookup (Str.ofString "dim") [(Str.ofString "size", n), (Str.ofString "masks", ms), (Str.ofString "dim", k)] = some k := rfl
theorem tab_size : tabHas tab0 (Str.ofString "Book") (Str.ofString "size") = true := rfl
theorem tab_masks : tabHas tab0 (Str.ofString "Book") (Str.ofString "masks") = true := rfl
theorem tab_dim : tabHas tab0 (Str.ofString "Book") (Str.ofString "dim") = true := rfl
end DL

set_option Elab.async false
set_option linter.all false
set_option maxRecDepth 100000
set_option maxHeartbeats 4000000
set_option exponentiation.threshold 2000
namespace DL
open PySem PySem.Spec PyProof.Rows L2 BT
def JRows (n : Nat) (sh : Int) (m : Nat) (ρ : List Sl) : Prop := ∃ (d : Int) (rs : List Nat) (a b c e f g : Sl), ρ = [.src, .dat (.int (n : Int)), .dat (.int sh), .dat (.int d), .own (natX rs), a, b, c, e, f, g] ∧ rs.length ≤ m ∧ ∀ r ∈ rs, r < 2 ^ n
/-! ### Book.__eq__ -/
theorem natX_inj {a b : List Nat} (h : natX a = natX b) : a = b := (List.map_inj_right fun x y h => by injection h with h; exact Int.ofNat.inj h).mp h
end DL

set_option Elab.async false
set_option linter.all false
set_option maxRecDepth 100000
set_option maxHeartbeats 4000000
set_option exponentiation.threshold 2000
namespace DL
open PySem PySem.Spec PyProof.Rows L2 BT
/-! ### methods of books -/
theorem big1000 {n m : Nat} (h : m < 2 ^ n) (hn : n ≤ 1000) : m < 2 ^ 1000 := Nat.lt_of_lt_of_le h (Nat.pow_le_pow_right (by decide) hn)
theorem any_nat {l : List Nat} {R : D → Prop} (q : R (.bl (l.any fun z => decide (z ≠ 0)))) : oAny [.lst (natX l)] R := by
  unfold oAny
  cases l with
  | nil => exact q
  | cons a l =>
    dsimp only
    rw [show blsD (natX (a :: l)) = none from rfl, intsD_nat]
    dsimp only
    rw [show ((a :: l).map fun p : Nat => (p : Int)).any (· != 0) = (a :: l).any fun z => decide (z ≠ 0) from by
      rw [List.any_map]
      congr 1
      funext z
      show ((z : Int) != 0) = decide (z ≠ 0)
      by_cases h : z = 0
      · subst h; rfl
      · rw [decide_eq_true h]; exact bne_iff_ne.mpr (by omega)]
    exact q
theorem sem_Book_is_check : ∀ as Qd Xd, d_Book_is_check as Qd Xd → as.length = ["self", "lot"].length ∧ r_Book_is_check { nx := fun _ => Qd .non, rt := Qd } (as ++ List.replicate (["self", "lot", "at", "mask"].length - as.length) .un) (fun _ => Xd) := by
  rintro as Qd Xd ⟨n, ms, c, rfl, R, hc, q⟩
  refine ⟨rfl, ?_⟩
  unfold r_Book_is_check bookX
  (try dsimp only [gN, gN2, sNil, sSeq, sExp, sRet, sIf, sPass, sCont, sBrk, sSet, sSetO, sApp, sAppF, sApPop, flatD, sFrz, sAug, sRaise, sAsg, sPut, eV, eC, e1, e2, t2, tBl, tTru, tN, tAn, tOo, tCh, eNot, eAn, eOo, eIf, eTup, eLst, eF, eFld, eIs, eIxO, eLenO, eSl, eRev, eB, eCall, eCallG, eMeth, aN, aC, aV, oNo, oPt, eIsO, oSrtI, oSrtT, oLt, oLe, oReprB, oInI, gN3, eCh, oGt, oGe, oI, oIC, oI1, oAdd, oMul, oEq, oIsN, oIx, oLen, oList, oTuple, oAbs, oMin2, oInt1, fLst, fListRg1, fList, fRep, fCat, tYs, tru, isS, dats, seqD, seqO, tyS, List.set, List.getElem?_cons_zero, List.getElem?_cons_succ, List.append_eq, List.nil_append, List.cons_append, Option.map_some, Option.bind_some, ng, wipeD, List.length_cons, List.length_nil, Nat.reduceAdd, Nat.reduceSub, List.replicate_succ, List.replicate_zero, eCell, sSetL, bareD,  eCallD, intsS, unS, List.map, oInS, isNumX]; try simp only [decide_eq_true_eq, Bool.not_eq_true', decide_eq_false_iff_not, Bool.false_eq_true, if_false, if_true, reduceIte, String.reduceBEq, Bool.true_or, Bool.false_or, Bool.or_false, Bool.and_false, Bool.false_and, Bool.and_true, Bool.true_and, Bool.not_true, Bool.not_false, ne_eq, not_true_eq_false, reduceCtorEq, Bool.true_eq_false, decide_true, decide_false])
  refine ⟨rfl, _, n, rfl, noO_lotM c, R.nl, lot_ok hc, ?_⟩
  (try dsimp only [gN, gN2, sNil, sSeq, sExp, sRet, sIf, sPass, sCont, sBrk, sSet, sSetO, sApp, sAppF, sApPop, flatD, sFrz, sAug, sRaise, sAsg, sPut, eV, eC, e1, e2, t2, tBl, tTru, tN, tAn, tOo, tCh, eNot, eAn, eOo, eIf, eTup, eLst, eF, eFld, eIs, eIxO, eLenO, eSl, eRev, eB, eCall, eCallG, eMeth, aN, aC, aV, oNo, oPt, eIsO, oSrtI, oSrtT, oLt, oLe, oReprB, oInI, gN3, eCh, oGt, oGe, oI, oIC, oI1, oAdd, oMul, oEq, oIsN, oIx, oLen, oList, oTuple, oAbs, oMin2, oInt1, fLst, fListRg1, fList, fRep, fCat, tYs, tru, isS, dats, seqD, seqO, tyS, List.set, List.getElem?_cons_zero, List.getElem?_cons_succ, List.append_eq, List.nil_append, List.cons_append, Option.map_some, Option.bind_some, ng, wipeD, List.length_cons, List.length_nil, Nat.reduceAdd, Nat.reduceSub, List.replicate_succ, List.replicate_zero, eCell, sSetL, bareD,  eCallD, intsS, unS, List.map, oInS, isNumX]; try simp only [decide_eq_true_eq, Bool.not_eq_true', decide_eq_false_iff_not, Bool.false_eq_true, if_false, if_true, reduceIte, String.reduceBEq, Bool.true_or, Bool.false_or, Bool.or_false, Bool.and_false, Bool.false_and, Bool.and_true, Bool.true_and, Bool.not_true, Bool.not_false, ne_eq, not_true_eq_false, reduceCtorEq, Bool.true_eq_false, decide_true, decide_false])
  refine ⟨_, rfl, lotM_sm hc R.nl, ?_⟩
  rw [maskN_lotN]
  (try dsimp only [gN, gN2, sNil, sSeq, sExp, sRet, sIf, sPass, sCont, sBrk, sSet, sSetO, sApp, sAppF, sApPop, flatD, sFrz, sAug, sRaise, sAsg, sPut, eV, eC, e1, e2, t2, tBl, tTru, tN, tAn, tOo, tCh, eNot, eAn, eOo, eIf, eTup, eLst, eF, eFld, eIs, eIxO, eLenO, eSl, eRev, eB, eCall, eCallG, eMeth, aN, aC, aV, oNo, oPt, eIsO, oSrtI, oSrtT, oLt, oLe, oReprB, oInI, gN3, eCh, oGt, oGe, oI, oIC, oI1, oAdd, oMul, oEq, oIsN, oIx, oLen, oList, oTuple, oAbs, oMin2, oInt1, fLst, fListRg1, fList, fRep, fCat, tYs, tru, isS, dats, seqD, seqO, tyS, List.set, List.getElem?_cons_zero, List.getElem?_cons_succ, List.append_eq, List.nil_append, List.cons_append, Option.map_some, Option.bind_some, ng, wipeD, List.length_cons, List.length_nil, Nat.reduceAdd, Nat.reduceSub, List.replicate_succ, List.replicate_zero, eCell, sSetL, bareD,  eCallD, intsS, unS, List.map, oInS, isNumX]; try simp only [decide_eq_true_eq, Bool.not_eq_true', decide_eq_false_iff_not, Bool.false_eq_true, if_false, if_true, reduceIte, String.reduceBEq, Bool.true_or, Bool.false_or, Bool.or_false, Bool.and_false, Bool.false_and, Bool.and_true, Bool.true_and, Bool.not_true, Bool.not_false, ne_eq, not_true_eq_false, reduceCtorEq, Bool.true_eq_false, decide_true, decide_false])
  refine lcMapN ms (fun m => pop (m &&& c) % 2) (fun R' r' => ?_) (by have := R.ml; omega) (fun m hm Q' q' => ?_) ?_
  · unfold iSq
    (try dsimp only [gN, gN2, sNil, sSeq, sExp, sRet, sIf, sPass, sCont, sBrk, sSet, sSetO, sApp, sAppF, sApPop, flatD, sFrz, sAug, sRaise, sAsg, sPut, eV, eC, e1, e2, t2, tBl, tTru, tN, tAn, tOo, tCh, eNot, eAn, eOo, eIf, eTup, eLst, eF, eFld, eIs, eIxO, eLenO, eSl, eRev, eB, eCall, eCallG, eMeth, aN, aC, aV, oNo, oPt, eIsO, oSrtI, oSrtT, oLt, oLe, oReprB, oInI, gN3, eCh, oGt, oGe, oI, oIC, oI1, oAdd, oMul, oEq, oIsN, oIx, oLen, oList, oTuple, oAbs, oMin2, oInt1, fLst, fListRg1, fList, fRep, fCat, tYs, tru, isS, dats, seqD, seqO, tyS, List.set, List.getElem?_cons_zero, List.getElem?_cons_succ, List.append_eq, List.nil_append, List.cons_append, Option.map_some, Option.bind_some, ng, wipeD, List.length_cons, List.length_nil, Nat.reduceAdd, Nat.reduceSub, List.replicate_succ, List.replicate_zero, eCell, sSetL, bareD,  eCallD, intsS, unS, List.map, oInS, isNumX]; try simp only [decide_eq_true_eq, Bool.not_eq_true', decide_eq_false_iff_not, Bool.false_eq_true, if_false, if_true, reduceIte, String.reduceBEq, Bool.true_or, Bool.false_or, Bool.or_false, Bool.and_false, Bool.false_and, Bool.and_true, Bool.true_and, Bool.not_true, Bool.not_false, ne_eq, not_true_eq_false, reduceCtorEq, Bool.true_eq_false, decide_true, decide_false])
    exact ⟨rfl, r'⟩
  · (try dsimp only [gN, gN2, sNil, sSeq, sExp, sRet, sIf, sPass, sCont, sBrk, sSet, sSetO, sApp, sAppF, sApPop, flatD, sFrz, sAug, sRaise, sAsg, sPut, eV, eC, e1, e2, t2, tBl, tTru, tN, tAn, tOo, tCh, eNot, eAn, eOo, eIf, eTup, eLst, eF, eFld, eIs, eIxO, eLenO, eSl, eRev, eB, eCall, eCallG, eMeth, aN, aC, aV, oNo, oPt, eIsO, oSrtI, oSrtT, oLt, oLe, oReprB, oInI, gN3, eCh, oGt, oGe, oI, oIC, oI1, oAdd, oMul, oEq, oIsN, oIx, oLen, oList, oTuple, oAbs, oMin2, oInt1, fLst, fListRg1, fList, fRep, fCat, tYs, tru, isS, dats, seqD, seqO, tyS, List.set, List.getElem?_cons_zero, List.getElem?_cons_succ, List.append_eq, List.nil_append, List.cons_append, Option.map_some, Option.bind_some, ng, wipeD, List.length_cons, List.length_nil, Nat.reduceAdd, Nat.reduceSub, List.replicate_succ, List.replicate_zero, eCell, sSetL, bareD,  eCallD, intsS, unS, List.map, oInS, isNumX]; try simp only [decide_eq_true_eq, Bool.not_eq_true', decide_eq_false_iff_not, Bool.false_eq_true, if_false, if_true, reduceIte, String.reduceBEq, Bool.true_or, Bool.false_or, Bool.or_false, Bool.and_false, Bool.false_and, Bool.and_true, Bool.true_and, Bool.not_true, Bool.not_false, ne_eq, not_true_eq_false, reduceCtorEq, Bool.true_eq_false, decide_true, decide_false])
    rw [bitAnd_nat]
    exact ⟨_, rfl, big1000 (Nat.lt_of_le_of_lt Nat.and_le_right hc) (by have := R.nl; omega), q'⟩
  · (try dsimp only [gN, gN2, sNil, sSeq, sExp, sRet, sIf, sPass, sCont, sBrk, sSet, sSetO, sApp, sAppF, sApPop, flatD, sFrz, sAug, sRaise, sAsg, sPut, eV, eC, e1, e2, t2, tBl, tTru, tN, tAn, tOo, tCh, eNot, eAn, eOo, eIf, eTup, eLst, eF, eFld, eIs, eIxO, eLenO, eSl, eRev, eB, eCall, eCallG, eMeth, aN, aC, aV, oNo, oPt, eIsO, oSrtI, oSrtT, oLt, oLe, oReprB, oInI, gN3, eCh, oGt, oGe, oI, oIC, oI1, oAdd, oMul, oEq, oIsN, oIx, oLen, oList, oTuple, oAbs, oMin2, oInt1, fLst, fListRg1, fList, fRep, fCat, tYs, tru, isS, dats, seqD, seqO, tyS, List.set, List.getElem?_cons_zero, List.getElem?_cons_succ, List.append_eq, List.nil_append, List.cons_append, Option.map_some, Option.bind_some, ng, wipeD, List.length_cons, List.length_nil, Nat.reduceAdd, Nat.reduceSub, List.replicate_succ, List.replicate_zero, eCell, sSetL, bareD,  eCallD, intsS, unS, List.map, oInS, isNumX]; try simp only [decide_eq_true_eq, Bool.not_eq_true', decide_eq_false_iff_not, Bool.false_eq_true, if_false, if_true, reduceIte, String.reduceBEq, Bool.true_or, Bool.false_or, Bool.or_false, Bool.and_false, Bool.false_and, Bool.and_true, Bool.true_and, Bool.not_true, Bool.not_false, ne_eq, not_true_eq_false, reduceCtorEq, Bool.true_eq_false, decide_true, decide_false])
    refine any_nat ?_
    (try dsimp only [gN, gN2, sNil, sSeq, sExp, sRet, sIf, sPass, sCont, sBrk, sSet, sSetO, sApp, sAppF, sApPop, flatD, sFrz, sAug, sRaise, sAsg, sPut, eV, eC, e1, e2, t2, tBl, tTru, tN, tAn, tOo, tCh, eNot, eAn, eOo, eIf, eTup, eLst, eF, eFld, eIs, eIxO, eLenO, eSl, eRev, eB, eCall, eCallG, eMeth, aN, aC, aV, oNo, oPt, eIsO, oSrtI, oSrtT, oLt, oLe, oReprB, oInI, gN3, eCh, oGt, oGe, oI, oIC, oI1, oAdd, oMul, oEq, oIsN, oIx, oLen, oList, oTuple, oAbs, oMin2, oInt1, fLst, fListRg1, fList, fRep, fCat, tYs, tru, isS, dats, seqD, seqO, tyS, List.set, List.getElem?_cons_zero, List.getElem?_cons_succ, List.append_eq, List.nil_append, List.cons_append, Option.map_some, Option.bind_some, ng, wipeD, List.length_cons, List.length_nil, Nat.reduceAdd, Nat.reduceSub, List.replicate_succ, List.replicate_zero, eCell, sSetL, bareD,  eCallD, intsS, unS, List.map, oInS, isNumX]; try simp only [decide_eq_true_eq, Bool.not_eq_true', decide_eq_false_iff_not, Bool.false_eq_true, if_false, if_true, reduceIte, String.reduceBEq, Bool.true_or, Bool.false_or, Bool.or_false, Bool.and_false, Bool.false_and, Bool.and_true, Bool.true_and, Bool.not_true, Bool.not_false, ne_eq, not_true_eq_false, reduceCtorEq, Bool.true_eq_false, decide_true, decide_false])
    rw [List.any_map]
    rw [show (ms.any ((fun z => decide (z ≠ 0)) ∘ fun m => pop (m &&& c) % 2)) = ms.any fun m => par (m &&& c) from by
      congr 1
      funext m
      show decide (pop (m &&& c) % 2 ≠ 0) = par (m &&& c)
      unfold par
      exact decide_eq_decide.mpr (by omega)]
    exact q
end DL

set_option Elab.async false
set_option linter.all false
set_option maxRecDepth 100000
set_option maxHeartbeats 1000000
set_option exponentiation.threshold 2000
namespace DL
open PySem PySem.Spec PyProof.Rows L2 BT
theorem sem_law_lot_f : ∀ as Qd Xd, d_law_lot_f as Qd Xd → as.length = ["_law_mask_here"].length ∧ r_law_lot_f { nx := fun _ => Qd .non, rt := Qd } (as ++ List.replicate (["_law_mask_here", "_law_place"].length - as.length) .un) (fun _ => Xd) := by
  rintro as Qd Xd ⟨m, rfl, hm, q⟩
  refine ⟨rfl, ?_⟩
  have hb := bitsN_small (m := m) (Nat.lt_trans hm (by decide))
  unfold r_law_lot_f
  (try dsimp only [gN, gN2, sNil, sSeq, sExp, sRet, sIf, sPass, sCont, sBrk, sSet, sSetO, sApp, sAppF, sApPop, flatD, sFrz, sAug, sRaise, sAsg, sPut, eV, eC, e1, e2, t2, tBl, tTru, tN, tAn, tOo, tCh, eNot, eAn, eOo, eIf, eTup, eLst, eF, eFld, eIs, eIxO, eLenO, eSl, eRev, eB, eCall, eCallG, eMeth, aN, aC, aV, oNo, oPt, eIsO, oSrtI, oSrtT, oLt, oLe, oReprB, oInI, gN3, eCh, oGt, oGe, oI, oIC, oI1, oAdd, oMul, oEq, oIsN, oIx, oLen, oList, oTuple, oAbs, oMin2, oInt1, fLst, fListRg1, fList, fRep, fCat, tYs, tru, isS, dats, seqD, seqO, tyS, List.set, List.getElem?_cons_zero, List.getElem?_cons_succ, List.append_eq, List.nil_append, List.cons_append, Option.map_some, Option.bind_some, ng, wipeD, List.length_cons, List.length_nil, Nat.reduceAdd, Nat.reduceSub, List.replicate_succ, List.replicate_zero, eCell, sSetL, bareD,  eCallD, intsS, unS, List.map, oInS, isNumX]; try simp only [decide_eq_true_eq, Bool.not_eq_true', decide_eq_false_iff_not, Bool.false_eq_true, if_false, if_true, reduceIte, String.reduceBEq, Bool.true_or, Bool.false_or, Bool.or_false, Bool.and_false, Bool.false_and, Bool.and_true, Bool.true_and, Bool.not_true, Bool.not_false, ne_eq, not_true_eq_false, reduceCtorEq, Bool.true_eq_false, decide_true, decide_false])
  refine lcFiltN (List.range (bitsN m)) (fun p => m.testBit p) (fun R h => ?_) (by rw [List.length_range]; omega) (fun r hr Q' q => ?_) (fun r hr e Q' q => ?_) ?_
  · unfold iRg1
    (try dsimp only [gN, gN2, sNil, sSeq, sExp, sRet, sIf, sPass, sCont, sBrk, sSet, sSetO, sApp, sAppF, sApPop, flatD, sFrz, sAug, sRaise, sAsg, sPut, eV, eC, e1, e2, t2, tBl, tTru, tN, tAn, tOo, tCh, eNot, eAn, eOo, eIf, eTup, eLst, eF, eFld, eIs, eIxO, eLenO, eSl, eRev, eB, eCall, eCallG, eMeth, aN, aC, aV, oNo, oPt, eIsO, oSrtI, oSrtT, oLt, oLe, oReprB, oInI, gN3, eCh, oGt, oGe, oI, oIC, oI1, oAdd, oMul, oEq, oIsN, oIx, oLen, oList, oTuple, oAbs, oMin2, oInt1, fLst, fListRg1, fList, fRep, fCat, tYs, tru, isS, dats, seqD, seqO, tyS, List.set, List.getElem?_cons_zero, List.getElem?_cons_succ, List.append_eq, List.nil_append, List.cons_append, Option.map_some, Option.bind_some, ng, wipeD, List.length_cons, List.length_nil, Nat.reduceAdd, Nat.reduceSub, List.replicate_succ, List.replicate_zero, eCell, sSetL, bareD,  eCallD, intsS, unS, List.map, oInS, isNumX]; try simp only [decide_eq_true_eq, Bool.not_eq_true', decide_eq_false_iff_not, Bool.false_eq_true, if_false, if_true, reduceIte, String.reduceBEq, Bool.true_or, Bool.false_or, Bool.or_false, Bool.and_false, Bool.false_and, Bool.and_true, Bool.true_and, Bool.not_true, Bool.not_false, ne_eq, not_true_eq_false, reduceCtorEq, Bool.true_eq_false, decide_true, decide_false])
    refine ⟨by rw [intBits_nat]; omega, by rw [intBits_nat]; omega, ?_⟩
    rw [intBits_nat, Int.toNat_natCast, rg_nat]; exact h
  · (try dsimp only [gN, gN2, sNil, sSeq, sExp, sRet, sIf, sPass, sCont, sBrk, sSet, sSetO, sApp, sAppF, sApPop, flatD, sFrz, sAug, sRaise, sAsg, sPut, eV, eC, e1, e2, t2, tBl, tTru, tN, tAn, tOo, tCh, eNot, eAn, eOo, eIf, eTup, eLst, eF, eFld, eIs, eIxO, eLenO, eSl, eRev, eB, eCall, eCallG, eMeth, aN, aC, aV, oNo, oPt, eIsO, oSrtI, oSrtT, oLt, oLe, oReprB, oInI, gN3, eCh, oGt, oGe, oI, oIC, oI1, oAdd, oMul, oEq, oIsN, oIx, oLen, oList, oTuple, oAbs, oMin2, oInt1, fLst, fListRg1, fList, fRep, fCat, tYs, tru, isS, dats, seqD, seqO, tyS, List.set, List.getElem?_cons_zero, List.getElem?_cons_succ, List.append_eq, List.nil_append, List.cons_append, Option.map_some, Option.bind_some, ng, wipeD, List.length_cons, List.length_nil, Nat.reduceAdd, Nat.reduceSub, List.replicate_succ, List.replicate_zero, eCell, sSetL, bareD,  eCallD, intsS, unS, List.map, oInS, isNumX]; try simp only [decide_eq_true_eq, Bool.not_eq_true', decide_eq_false_iff_not, Bool.false_eq_true, if_false, if_true, reduceIte, String.reduceBEq, Bool.true_or, Bool.false_or, Bool.or_false, Bool.and_false, Bool.false_and, Bool.and_true, Bool.true_and, Bool.not_true, Bool.not_false, ne_eq, not_true_eq_false, reduceCtorEq, Bool.true_eq_false, decide_true, decide_false])
    refine ⟨by omega, ?_⟩
    rw [bit_shr, bit_dec]
    exact q
  · (try dsimp only [gN, gN2, sNil, sSeq, sExp, sRet, sIf, sPass, sCont, sBrk, sSet, sSetO, sApp, sAppF, sApPop, flatD, sFrz, sAug, sRaise, sAsg, sPut, eV, eC, e1, e2, t2, tBl, tTru, tN, tAn, tOo, tCh, eNot, eAn, eOo, eIf, eTup, eLst, eF, eFld, eIs, eIxO, eLenO, eSl, eRev, eB, eCall, eCallG, eMeth, aN, aC, aV, oNo, oPt, eIsO, oSrtI, oSrtT, oLt, oLe, oReprB, oInI, gN3, eCh, oGt, oGe, oI, oIC, oI1, oAdd, oMul, oEq, oIsN, oIx, oLen, oList, oTuple, oAbs, oMin2, oInt1, fLst, fListRg1, fList, fRep, fCat, tYs, tru, isS, dats, seqD, seqO, tyS, List.set, List.getElem?_cons_zero, List.getElem?_cons_succ, List.append_eq, List.nil_append, List.cons_append, Option.map_some, Option.bind_some, ng, wipeD, List.length_cons, List.length_nil, Nat.reduceAdd, Nat.reduceSub, List.replicate_succ, List.replicate_zero, eCell, sSetL, bareD,  eCallD, intsS, unS, List.map, oInS, isNumX]; try simp only [decide_eq_true_eq, Bool.not_eq_true', decide_eq_false_iff_not, Bool.false_eq_true, if_false, if_true, reduceIte, String.reduceBEq, Bool.true_or, Bool.false_or, Bool.or_false, Bool.and_false, Bool.false_and, Bool.and_true, Bool.true_and, Bool.not_true, Bool.not_false, ne_eq, not_true_eq_false, reduceCtorEq, Bool.true_eq_false, decide_true, decide_false])
    exact q
  · (try dsimp only [gN, gN2, sNil, sSeq, sExp, sRet, sIf, sPass, sCont, sBrk, sSet, sSetO, sApp, sAppF, sApPop, flatD, sFrz, sAug, sRaise, sAsg, sPut, eV, eC, e1, e2, t2, tBl, tTru, tN, tAn, tOo, tCh, eNot, eAn, eOo, eIf, eTup, eLst, eF, eFld, eIs, eIxO, eLenO, eSl, eRev, eB, eCall, eCallG, eMeth, aN, aC, aV, oNo, oPt, eIsO, oSrtI, oSrtT, oLt, oLe, oReprB, oInI, gN3, eCh, oGt, oGe, oI, oIC, oI1, oAdd, oMul, oEq, oIsN, oIx, oLen, oList, oTuple, oAbs, oMin2, oInt1, fLst, fListRg1, fList, fRep, fCat, tYs, tru, isS, dats, seqD, seqO, tyS, List.set, List.getElem?_cons_zero, List.getElem?_cons_succ, List.append_eq, List.nil_append, List.cons_append, Option.map_some, Option.bind_some, ng, wipeD, List.length_cons, List.length_nil, Nat.reduceAdd, Nat.reduceSub, List.replicate_succ, List.replicate_zero, eCell, sSetL, bareD,  eCallD, intsS, unS, List.map, oInS, isNumX]; try simp only [decide_eq_true_eq, Bool.not_eq_true', decide_eq_false_iff_not, Bool.false_eq_true, if_false, if_true, reduceIte, String.reduceBEq, Bool.true_or, Bool.false_or, Bool.or_false, Bool.and_false, Bool.false_and, Bool.and_true, Bool.true_and, Bool.not_true, Bool.not_false, ne_eq, not_true_eq_false, reduceCtorEq, Bool.true_eq_false, decide_true, decide_false])
    rw [lotN_bits]
    exact q
theorem sem_law_odd_f : ∀ as Qd Xd, d_law_odd_f as Qd Xd → as.length = ["_law_mask_here"].length ∧ r_law_odd_f { nx := fun _ => Qd .non, rt := Qd } (as ++ List.replicate (["_law_mask_here"].length - as.length) .un) (fun _ => Xd) := fun as Qd Xd h => semx_law_odd as Qd Xd h
theorem sem_law_row_f : ∀ as Qd Xd, d_law_row_f as Qd Xd → as.length = ["_law_source_here", "_law_size"].length ∧ r_law_row_f { nx := fun _ => Qd .non, rt := Qd } (as ++ List.replicate (["_law_source_here", "_law_size", "_law_row_here"].length - as.length) .un) (fun _ => Xd) := by
  rintro as Qd Xd ⟨n, rfl, hn, q⟩
  refine ⟨rfl, ?_⟩
  have p24 := powN24 hn
  have p0 := Nat.two_pow_pos n
  unfold r_law_row_f
  (try dsimp only [gN, gN2, sNil, sSeq, sExp, sRet, sIf, sPass, sCont, sBrk, sSet, sSetO, sApp, sAppF, sApPop, flatD, sFrz, sAug, sRaise, sAsg, sPut, eV, eC, e1, e2, t2, tBl, tTru, tN, tAn, tOo, tCh, eNot, eAn, eOo, eIf, eTup, eLst, eF, eFld, eIs, eIxO, eLenO, eSl, eRev, eB, eCall, eCallG, eMeth, aN, aC, aV, oNo, oPt, eIsO, oSrtI, oSrtT, oLt, oLe, oReprB, oInI, gN3, eCh, oGt, oGe, oI, oIC, oI1, oAdd, oMul, oIsN, oLen, oList, oTuple, oAbs, oMin2, oInt1, fLst, fListRg1, fList, fRep, fCat, tYs, tru, isS, dats, seqD, seqO, tyS, List.set, List.getElem?_cons_zero, List.getElem?_cons_succ, List.append_eq, List.nil_append, List.cons_append, Option.map_some, Option.bind_some, ng, wipeD, List.length_cons, List.length_nil, Nat.reduceAdd, Nat.reduceSub, List.replicate_succ, List.replicate_zero, eCell, sSetL, bareD,  eCallD, intsS, unS, List.map, oInS, isNumX]; try simp only [decide_eq_true_eq, Bool.not_eq_true', decide_eq_false_iff_not, Bool.false_eq_true, if_false, if_true, reduceIte, String.reduceBEq, Bool.true_or, Bool.false_or, Bool.or_false, Bool.and_false, Bool.false_and, Bool.and_true, Bool.true_and, Bool.not_true, Bool.not_false, ne_eq, not_true_eq_false, reduceCtorEq, Bool.true_eq_false, decide_true, decide_false])
  rw [shl1_nat]
  refine ⟨cpow1 (by omega), _, rfl, by omega, by omega, fun m m0 m1 => ?_⟩
  obtain ⟨m, rfl⟩ := Int.eq_ofNat_of_zero_le m0
  refine ⟨_, rfl, by decide, by decide, fun k k0 k1 => ?_⟩
  by_cases c : k = 0
  · refine oEq_iT c ?_
    refine ifT rfl ?_
    refine ⟨cpow1 (by omega), _, rfl, by omega, by omega, fun y y0 y1 => ?_⟩
    obtain ⟨y, rfl⟩ := Int.eq_ofNat_of_zero_le y0
    (try dsimp only [gN, gN2, sNil, sSeq, sExp, sRet, sIf, sPass, sCont, sBrk, sSet, sSetO, sApp, sAppF, sApPop, flatD, sFrz, sAug, sRaise, sAsg, sPut, eV, eC, e1, e2, t2, tBl, tTru, tN, tAn, tOo, tCh, eNot, eAn, eOo, eIf, eTup, eLst, eF, eFld, eIs, eIxO, eLenO, eSl, eRev, eB, eCall, eCallG, eMeth, aN, aC, aV, oNo, oPt, eIsO, oSrtI, oSrtT, oLt, oLe, oReprB, oInI, gN3, eCh, oGt, oGe, oI, oIC, oI1, oAdd, oMul, oIsN, oLen, oList, oTuple, oAbs, oMin2, oInt1, fLst, fListRg1, fList, fRep, fCat, tYs, tru, isS, dats, seqD, seqO, tyS, List.set, List.getElem?_cons_zero, List.getElem?_cons_succ, List.append_eq, List.nil_append, List.cons_append, Option.map_some, Option.bind_some, ng, wipeD, List.length_cons, List.length_nil, Nat.reduceAdd, Nat.reduceSub, List.replicate_succ, List.replicate_zero, eCell, sSetL, bareD,  eCallD, intsS, unS, List.map, oInS, isNumX]; try simp only [decide_eq_true_eq, Bool.not_eq_true', decide_eq_false_iff_not, Bool.false_eq_true, if_false, if_true, reduceIte, String.reduceBEq, Bool.true_or, Bool.false_or, Bool.or_false, Bool.and_false, Bool.false_and, Bool.and_true, Bool.true_and, Bool.not_true, Bool.not_false, ne_eq, not_true_eq_false, reduceCtorEq, Bool.true_eq_false, decide_true, decide_false])
    rw [bitAnd_nat]
    exact q _ (Nat.lt_of_le_of_lt Nat.and_le_left (by omega))
  · refine oEq_iF c ?_
    refine ifF (by decide) ?_
    exact q _ (by omega)
theorem sem_law_check_f : ∀ as Qd Xd, d_law_check_f as Qd Xd → as.length = ["_law_source_here", "_law_rows", "_law_size"].length ∧ r_law_check_f { nx := fun _ => Qd .non, rt := Qd } (as ++ List.replicate (["_law_source_here", "_law_rows", "_law_size", "_law_lot_here", "_law_k", "_law_row_here"].length - as.length) .un) (fun _ => Xd) := by
  rintro as Qd Xd ⟨n, rs, rfl, hn, hr, lr, q⟩
  refine ⟨rfl, ?_⟩
  have p24 := powN24 hn
  have p0 := Nat.two_pow_pos n
  unfold r_law_check_f
  (try dsimp only [gN, gN2, sNil, sSeq, sExp, sRet, sIf, sPass, sCont, sBrk, sSet, sSetO, sApp, sAppF, sApPop, flatD, sFrz, sAug, sRaise, sAsg, sPut, eV, eC, e1, e2, t2, tBl, tTru, tN, tAn, tOo, tCh, eNot, eAn, eOo, eIf, eTup, eLst, eF, eFld, eIs, eIxO, eLenO, eSl, eRev, eB, eCall, eCallG, eMeth, aN, aC, aV, oNo, oPt, eIsO, oSrtI, oSrtT, oLt, oLe, oReprB, oInI, gN3, eCh, oGt, oGe, oI, oIC, oI1, oAdd, oMul, oIsN, oLen, oList, oTuple, oAbs, oMin2, oInt1, fLst, fListRg1, fList, fRep, fCat, tYs, tru, isS, dats, seqD, seqO, tyS, List.set, List.getElem?_cons_zero, List.getElem?_cons_succ, List.append_eq, List.nil_append, List.cons_append, Option.map_some, Option.bind_some, ng, wipeD, List.length_cons, List.length_nil, Nat.reduceAdd, Nat.reduceSub, List.replicate_succ, List.replicate_zero, eCell, sSetL, bareD,  eCallD, intsS, unS, List.map, oInS, isNumX]; try simp only [decide_eq_true_eq, Bool.not_eq_true', decide_eq_false_iff_not, Bool.false_eq_true, if_false, if_true, reduceIte, String.reduceBEq, Bool.true_or, Bool.false_or, Bool.or_false, Bool.and_false, Bool.false_and, Bool.and_true, Bool.true_and, Bool.not_true, Bool.not_false, ne_eq, not_true_eq_false, reduceCtorEq, Bool.true_eq_false, decide_true, decide_false])
  rw [shl1_nat]
  refine ⟨cpow1 (by omega), _, rfl, by omega, by omega, fun m m0 m1 => ?_⟩
  obtain ⟨m, rfl⟩ := Int.eq_ofNat_of_zero_le m0
  refine sForR 2 (fun R r => ?_) (fun i ρ => ∃ (m : Nat) (a b : Sl), m < 2 ^ n ∧ ρ = [.src, .dat (.lst (natX rs)), .dat (.int (n : Int)), .dat (.int (m : Int)), a, b]) ⟨m, _, _, by omega, rfl⟩ ?_ ?_
  · unfold iRg1
    (try dsimp only [gN, gN2, sNil, sSeq, sExp, sRet, sIf, sPass, sCont, sBrk, sSet, sSetO, sApp, sAppF, sApPop, flatD, sFrz, sAug, sRaise, sAsg, sPut, eV, eC, e1, e2, t2, tBl, tTru, tN, tAn, tOo, tCh, eNot, eAn, eOo, eIf, eTup, eLst, eF, eFld, eIs, eIxO, eLenO, eSl, eRev, eB, eCall, eCallG, eMeth, aN, aC, aV, oNo, oPt, eIsO, oSrtI, oSrtT, oLt, oLe, oReprB, oInI, gN3, eCh, oGt, oGe, oI, oIC, oI1, oAdd, oMul, oEq, oIsN, oIx, oLen, oList, oTuple, oAbs, oMin2, oInt1, fLst, fListRg1, fList, fRep, fCat, tYs, tru, isS, dats, seqD, seqO, tyS, List.set, List.getElem?_cons_zero, List.getElem?_cons_succ, List.append_eq, List.nil_append, List.cons_append, Option.map_some, Option.bind_some, ng, wipeD, List.length_cons, List.length_nil, Nat.reduceAdd, Nat.reduceSub, List.replicate_succ, List.replicate_zero, eCell, sSetL, bareD,  eCallD, intsS, unS, List.map, oInS, isNumX]; try simp only [decide_eq_true_eq, Bool.not_eq_true', decide_eq_false_iff_not, Bool.false_eq_true, if_false, if_true, reduceIte, String.reduceBEq, Bool.true_or, Bool.false_or, Bool.or_false, Bool.and_false, Bool.false_and, Bool.and_true, Bool.true_and, Bool.not_true, Bool.not_false, ne_eq, not_true_eq_false, reduceCtorEq, Bool.true_eq_false, decide_true, decide_false])
    exact ⟨by decide, by decide, r⟩
  · rintro i ρ hi ⟨m, a, b, hm, rfl⟩
    (try dsimp only [gN, gN2, sNil, sSeq, sExp, sRet, sIf, sPass, sCont, sBrk, sSet, sSetO, sApp, sAppF, sApPop, flatD, sFrz, sAug, sRaise, sAsg, sPut, eV, eC, e1, e2, t2, tBl, tTru, tN, tAn, tOo, tCh, eNot, eAn, eOo, eIf, eTup, eLst, eF, eFld, eIs, eIxO, eLenO, eSl, eRev, eB, eCall, eCallG, eMeth, aN, aC, aV, oNo, oPt, eIsO, oSrtI, oSrtT, oLt, oLe, oReprB, oInI, gN3, eCh, oGt, oGe, oI, oIC, oI1, oAdd, oMul, oIsN, oLen, oList, oTuple, oAbs, oMin2, oInt1, fLst, fListRg1, fList, fRep, fCat, tYs, tru, isS, dats, seqD, seqO, tyS, List.set, List.getElem?_cons_zero, List.getElem?_cons_succ, List.append_eq, List.nil_append, List.cons_append, Option.map_some, Option.bind_some, ng, wipeD, List.length_cons, List.length_nil, Nat.reduceAdd, Nat.reduceSub, List.replicate_succ, List.replicate_zero, eCell, sSetL, bareD,  eCallD, intsS, unS, List.map, oInS, isNumX]; try simp only [decide_eq_true_eq, Bool.not_eq_true', decide_eq_false_iff_not, Bool.false_eq_true, if_false, if_true, reduceIte, String.reduceBEq, Bool.true_or, Bool.false_or, Bool.or_false, Bool.and_false, Bool.false_and, Bool.and_true, Bool.true_and, Bool.not_true, Bool.not_false, ne_eq, not_true_eq_false, reduceCtorEq, Bool.true_eq_false, decide_true, decide_false])
    unfold sFor
    refine iSqV rfl rfl ?_
    refine ⟨fun j ρ => ∃ (m : Nat) (b : Sl), m < 2 ^ n ∧ ρ = [.src, .dat (.lst (natX rs)), .dat (.int (n : Int)), .dat (.int (m : Int)), .dat (.int (i : Nat)), b], ⟨m, _, hm, rfl⟩, ?_, ?_⟩
    · rintro j x ρ hx ⟨m, b, hm, rfl⟩
      obtain ⟨w, hw, rfl⟩ := natX_get hx
      have lw := hr w (List.mem_of_getElem? hw)
      (try dsimp only [gN, gN2, sNil, sSeq, sExp, sRet, sIf, sPass, sCont, sBrk, sSet, sSetO, sApp, sAppF, sApPop, flatD, sFrz, sAug, sRaise, sAsg, sPut, eV, eC, e1, e2, t2, tBl, tTru, tN, tAn, tOo, tCh, eNot, eAn, eOo, eIf, eTup, eLst, eF, eFld, eIs, eIxO, eLenO, eSl, eRev, eB, eCall, eCallG, eMeth, aN, aC, aV, oNo, oPt, eIsO, oSrtI, oSrtT, oLt, oLe, oReprB, oInI, gN3, eCh, oGt, oGe, oI, oIC, oI1, oAdd, oMul, oIsN, oLen, oList, oTuple, oAbs, oMin2, oInt1, fLst, fListRg1, fList, fRep, fCat, tYs, tru, isS, dats, seqD, seqO, tyS, List.set, List.getElem?_cons_zero, List.getElem?_cons_succ, List.append_eq, List.nil_append, List.cons_append, Option.map_some, Option.bind_some, ng, wipeD, List.length_cons, List.length_nil, Nat.reduceAdd, Nat.reduceSub, List.replicate_succ, List.replicate_zero, eCell, sSetL, bareD,  eCallD, intsS, unS, List.map, oInS, isNumX]; try simp only [decide_eq_true_eq, Bool.not_eq_true', decide_eq_false_iff_not, Bool.false_eq_true, if_false, if_true, reduceIte, String.reduceBEq, Bool.true_or, Bool.false_or, Bool.or_false, Bool.and_false, Bool.false_and, Bool.and_true, Bool.true_and, Bool.not_true, Bool.not_false, ne_eq, not_true_eq_false, reduceCtorEq, Bool.true_eq_false, decide_true, decide_false])
      rw [bitAnd_nat]
      refine ⟨w &&& m, rfl, Nat.lt_of_le_of_lt Nat.and_le_left (by omega), ?_⟩
      cases c : par (w &&& m) with
      | false =>
        (try dsimp only [gN, gN2, sNil, sSeq, sExp, sRet, sIf, sPass, sCont, sBrk, sSet, sSetO, sApp, sAppF, sApPop, flatD, sFrz, sAug, sRaise, sAsg, sPut, eV, eC, e1, e2, t2, tBl, tTru, tN, tAn, tOo, tCh, eNot, eAn, eOo, eIf, eTup, eLst, eF, eFld, eIs, eIxO, eLenO, eSl, eRev, eB, eCall, eCallG, eMeth, aN, aC, aV, oNo, oPt, eIsO, oSrtI, oSrtT, oLt, oLe, oReprB, oInI, gN3, eCh, oGt, oGe, oI, oIC, oI1, oAdd, oMul, oIsN, oLen, oList, oTuple, oAbs, oMin2, oInt1, fLst, fListRg1, fList, fRep, fCat, tYs, tru, isS, dats, seqD, seqO, tyS, List.set, List.getElem?_cons_zero, List.getElem?_cons_succ, List.append_eq, List.nil_append, List.cons_append, Option.map_some, Option.bind_some, ng, wipeD, List.length_cons, List.length_nil, Nat.reduceAdd, Nat.reduceSub, List.replicate_succ, List.replicate_zero, eCell, sSetL, bareD,  eCallD, intsS, unS, List.map, oInS, isNumX]; try simp only [decide_eq_true_eq, Bool.not_eq_true', decide_eq_false_iff_not, Bool.false_eq_true, if_false, if_true, reduceIte, String.reduceBEq, Bool.true_or, Bool.false_or, Bool.or_false, Bool.and_false, Bool.false_and, Bool.and_true, Bool.true_and, Bool.not_true, Bool.not_false, ne_eq, not_true_eq_false, reduceCtorEq, Bool.true_eq_false, decide_true, decide_false])
        exact ⟨m, _, hm, rfl⟩
      | true =>
        (try dsimp only [gN, gN2, sNil, sSeq, sExp, sRet, sIf, sPass, sCont, sBrk, sSet, sSetO, sApp, sAppF, sApPop, flatD, sFrz, sAug, sRaise, sAsg, sPut, eV, eC, e1, e2, t2, tBl, tTru, tN, tAn, tOo, tCh, eNot, eAn, eOo, eIf, eTup, eLst, eF, eFld, eIs, eIxO, eLenO, eSl, eRev, eB, eCall, eCallG, eMeth, aN, aC, aV, oNo, oPt, eIsO, oSrtI, oSrtT, oLt, oLe, oReprB, oInI, gN3, eCh, oGt, oGe, oI, oIC, oI1, oAdd, oMul, oIsN, oLen, oList, oTuple, oAbs, oMin2, oInt1, fLst, fListRg1, fList, fRep, fCat, tYs, tru, isS, dats, seqD, seqO, tyS, List.set, List.getElem?_cons_zero, List.getElem?_cons_succ, List.append_eq, List.nil_append, List.cons_append, Option.map_some, Option.bind_some, ng, wipeD, List.length_cons, List.length_nil, Nat.reduceAdd, Nat.reduceSub, List.replicate_succ, List.replicate_zero, eCell, sSetL, bareD,  eCallD, intsS, unS, List.map, oInS, isNumX]; try simp only [decide_eq_true_eq, Bool.not_eq_true', decide_eq_false_iff_not, Bool.false_eq_true, if_false, if_true, reduceIte, String.reduceBEq, Bool.true_or, Bool.false_or, Bool.or_false, Bool.and_false, Bool.false_and, Bool.and_true, Bool.true_and, Bool.not_true, Bool.not_false, ne_eq, not_true_eq_false, reduceCtorEq, Bool.true_eq_false, decide_true, decide_false])
        have w0 : w ≠ 0 := fun e => by rw [e, Nat.zero_and] at c; cases c
        obtain ⟨k, ek, hk, _⟩ := low_spec w w0
        have kn : k < n := Nat.lt_of_not_le fun h => by
          rw [Nat.testBit_lt_two_pow (Nat.lt_of_lt_of_le lw (Nat.pow_le_pow_right (by decide) h))] at hk; cases hk
        rw [bitAnd_low, intBits_nat, ek, bitsN_pow]
        refine ⟨by unfold CPow; omega, ?_⟩
        rw [show ((k + 1 : Nat) : Int) - 1 = (k : Int) from by omega, shl1_nat, bitXor_nat]
        exact ⟨m ^^^ 2 ^ k, _, Nat.xor_lt_two_pow hm (Nat.pow_lt_pow_right (by decide) kn), rfl⟩
    · rintro ρ ⟨m, b, hm, rfl⟩
      exact ⟨m, _, _, hm, rfl⟩
  · rintro ρ ⟨m, a, b, hm, rfl⟩
    (try dsimp only [gN, gN2, sNil, sSeq, sExp, sRet, sIf, sPass, sCont, sBrk, sSet, sSetO, sApp, sAppF, sApPop, flatD, sFrz, sAug, sRaise, sAsg, sPut, eV, eC, e1, e2, t2, tBl, tTru, tN, tAn, tOo, tCh, eNot, eAn, eOo, eIf, eTup, eLst, eF, eFld, eIs, eIxO, eLenO, eSl, eRev, eB, eCall, eCallG, eMeth, aN, aC, aV, oNo, oPt, eIsO, oSrtI, oSrtT, oLt, oLe, oReprB, oInI, gN3, eCh, oGt, oGe, oI, oIC, oI1, oAdd, oMul, oIsN, oLen, oList, oTuple, oAbs, oMin2, oInt1, fLst, fListRg1, fList, fRep, fCat, tYs, tru, isS, dats, seqD, seqO, tyS, List.set, List.getElem?_cons_zero, List.getElem?_cons_succ, List.append_eq, List.nil_append, List.cons_append, Option.map_some, Option.bind_some, ng, wipeD, List.length_cons, List.length_nil, Nat.reduceAdd, Nat.reduceSub, List.replicate_succ, List.replicate_zero, eCell, sSetL, bareD,  eCallD, intsS, unS, List.map, oInS, isNumX]; try simp only [decide_eq_true_eq, Bool.not_eq_true', decide_eq_false_iff_not, Bool.false_eq_true, if_false, if_true, reduceIte, String.reduceBEq, Bool.true_or, Bool.false_or, Bool.or_false, Bool.and_false, Bool.false_and, Bool.and_true, Bool.true_and, Bool.not_true, Bool.not_false, ne_eq, not_true_eq_false, reduceCtorEq, Bool.true_eq_false, decide_true, decide_false])
    exact q m hm
end DL

set_option Elab.async false
set_option linter.all false
set_option maxRecDepth 100000
set_option maxHeartbeats 1000000
set_option exponentiation.threshold 2000
namespace DL
open PySem PySem.Spec PyProof.Rows L2 BT
theorem sem_is_bit : ∀ as Qd Xd, d_is_bit as Qd Xd → as.length = ["value"].length ∧ r_is_bit { nx := fun _ => Qd .non, rt := Qd } (as ++ List.replicate (["value"].length - as.length) .un) (fun _ => Xd) := by
  rintro as Qd Xd ⟨d, rfl, hd, q⟩
  refine ⟨rfl, ?_⟩
  unfold r_is_bit
  (try dsimp only [gN, gN2, sNil, sSeq, sExp, sRet, sIf, sPass, sCont, sBrk, sSet, sSetO, sApp, sAppF, sApPop, flatD, sFrz, sAug, sRaise, sAsg, sPut, eV, eC, e1, e2, t2, tBl, tTru, tN, tAn, tOo, tCh, eNot, eAn, eOo, eIf, eTup, eLst, eF, eFld, eIs, eIxO, eLenO, eSl, eRev, eB, eCall, eCallG, eMeth, aN, aC, aV, oNo, oPt, eIsO, oSrtI, oSrtT, oLt, oLe, oReprB, oInI, gN3, eCh, oGt, oGe, oI, oIC, oI1, oAdd, oMul, oIsN, oLen, oList, oTuple, oAbs, oMin2, oInt1, fLst, fListRg1, fList, fRep, fCat, tYs, tru, isS, dats, seqD, seqO, tyS, List.set, List.getElem?_cons_zero, List.getElem?_cons_succ, List.append_eq, List.nil_append, List.cons_append, Option.map_some, Option.bind_some, ng, wipeD, List.length_cons, List.length_nil, Nat.reduceAdd, Nat.reduceSub, List.replicate_succ, List.replicate_zero, eCell, sSetL, bareD,  eCallD, intsS, unS, List.map, oInS, isNumX]; try simp only [decide_eq_true_eq, Bool.not_eq_true', decide_eq_false_iff_not, Bool.false_eq_true, if_false, if_true, reduceIte, String.reduceBEq, Bool.true_or, Bool.false_or, Bool.or_false, Bool.and_false, Bool.false_and, Bool.and_true, Bool.true_and, Bool.not_true, Bool.not_false, ne_eq, not_true_eq_false, reduceCtorEq, Bool.true_eq_false, decide_true, decide_false])
  exact ⟨d, 0, 1, rfl, hd, q⟩
theorem btw_bit {b : Nat} (h : b ≤ 1) : btwX 0 1 (.int (b : Int)) = true := by
  unfold btwX
  rw [Bool.and_eq_true]
  exact ⟨decide_eq_true (by omega), decide_eq_true (by omega)⟩
theorem sem_is_item : ∀ as Qd Xd, d_is_item as Qd Xd → as.length = ["value", "size"].length ∧ r_is_item { nx := fun _ => Qd .non, rt := Qd } (as ++ List.replicate (["value", "size"].length - as.length) .un) (fun _ => Xd) := by
  rintro as Qd Xd ⟨n, ⟨m, o⟩, rfl, hn, hm, hb, q⟩
  refine ⟨rfl, ?_⟩
  unfold r_is_item itD
  (try dsimp only [gN, gN2, sNil, sSeq, sExp, sRet, sIf, sPass, sCont, sBrk, sSet, sSetO, sApp, sAppF, sApPop, flatD, sFrz, sAug, sRaise, sAsg, sPut, eV, eC, e1, e2, t2, tBl, tTru, tN, tAn, tOo, tCh, eNot, eAn, eOo, eIf, eTup, eLst, eF, eFld, eIs, eIxO, eLenO, eSl, eRev, eB, eCall, eCallG, eMeth, aN, aC, aV, oNo, oPt, eIsO, oSrtI, oSrtT, oLt, oLe, oReprB, oInI, gN3, eCh, oGt, oGe, oI, oIC, oI1, oAdd, oMul, oIsN, oLen, oList, oTuple, oAbs, oMin2, oInt1, fLst, fListRg1, fList, fRep, fCat, tYs, tru, isS, dats, seqD, seqO, tyS, List.set, List.getElem?_cons_zero, List.getElem?_cons_succ, List.append_eq, List.nil_append, List.cons_append, Option.map_some, Option.bind_some, ng, wipeD, List.length_cons, List.length_nil, Nat.reduceAdd, Nat.reduceSub, List.replicate_succ, List.replicate_zero, eCell, sSetL, bareD,  eCallD, intsS, unS, List.map, oInS, isNumX]; try simp only [decide_eq_true_eq, Bool.not_eq_true', decide_eq_false_iff_not, Bool.false_eq_true, if_false, if_true, reduceIte, String.reduceBEq, Bool.true_or, Bool.false_or, Bool.or_false, Bool.and_false, Bool.false_and, Bool.and_true, Bool.true_and, Bool.not_true, Bool.not_false, ne_eq, not_true_eq_false, reduceCtorEq, Bool.true_eq_false, decide_true, decide_false])
  refine oEq_i ?_
  rw [decide_eq_true (by rfl)]
  refine ifF (by decide) ?_
  refine oIx_t (d := lotM m) rfl ?_
  refine ⟨lotM m, n, rfl, noO_lotM m, hn, ?_⟩
  rw [lot_ok hm]
  refine ifT rfl ?_
  refine oIx_t (d := optI o) rfl ?_
  cases o with
  | none =>
    unfold optI
    (try dsimp only [gN, gN2, sNil, sSeq, sExp, sRet, sIf, sPass, sCont, sBrk, sSet, sSetO, sApp, sAppF, sApPop, flatD, sFrz, sAug, sRaise, sAsg, sPut, eV, eC, e1, e2, t2, tBl, tTru, tN, tAn, tOo, tCh, eNot, eAn, eOo, eIf, eTup, eLst, eF, eFld, eIs, eIxO, eLenO, eSl, eRev, eB, eCall, eCallG, eMeth, aN, aC, aV, oNo, oPt, eIsO, oSrtI, oSrtT, oLt, oLe, oReprB, oInI, gN3, eCh, oGt, oGe, oI, oIC, oI1, oAdd, oMul, oIsN, oLen, oList, oTuple, oAbs, oMin2, oInt1, fLst, fListRg1, fList, fRep, fCat, tYs, tru, isS, dats, seqD, seqO, tyS, List.set, List.getElem?_cons_zero, List.getElem?_cons_succ, List.append_eq, List.nil_append, List.cons_append, Option.map_some, Option.bind_some, ng, wipeD, List.length_cons, List.length_nil, Nat.reduceAdd, Nat.reduceSub, List.replicate_succ, List.replicate_zero, eCell, sSetL, bareD,  eCallD, intsS, unS, List.map, oInS, isNumX]; try simp only [decide_eq_true_eq, Bool.not_eq_true', decide_eq_false_iff_not, Bool.false_eq_true, if_false, if_true, reduceIte, String.reduceBEq, Bool.true_or, Bool.false_or, Bool.or_false, Bool.and_false, Bool.false_and, Bool.and_true, Bool.true_and, Bool.not_true, Bool.not_false, ne_eq, not_true_eq_false, reduceCtorEq, Bool.true_eq_false, decide_true, decide_false])
    exact q
  | some b =>
    unfold optI
    (try dsimp only [gN, gN2, sNil, sSeq, sExp, sRet, sIf, sPass, sCont, sBrk, sSet, sSetO, sApp, sAppF, sApPop, flatD, sFrz, sAug, sRaise, sAsg, sPut, eV, eC, e1, e2, t2, tBl, tTru, tN, tAn, tOo, tCh, eNot, eAn, eOo, eIf, eTup, eLst, eF, eFld, eIs, eIxO, eLenO, eSl, eRev, eB, eCall, eCallG, eMeth, aN, aC, aV, oNo, oPt, eIsO, oSrtI, oSrtT, oLt, oLe, oReprB, oInI, gN3, eCh, oGt, oGe, oI, oIC, oI1, oAdd, oMul, oIsN, oLen, oList, oTuple, oAbs, oMin2, oInt1, fLst, fListRg1, fList, fRep, fCat, tYs, tru, isS, dats, seqD, seqO, tyS, List.set, List.getElem?_cons_zero, List.getElem?_cons_succ, List.append_eq, List.nil_append, List.cons_append, Option.map_some, Option.bind_some, ng, wipeD, List.length_cons, List.length_nil, Nat.reduceAdd, Nat.reduceSub, List.replicate_succ, List.replicate_zero, eCell, sSetL, bareD,  eCallD, intsS, unS, List.map, oInS, isNumX]; try simp only [decide_eq_true_eq, Bool.not_eq_true', decide_eq_false_iff_not, Bool.false_eq_true, if_false, if_true, reduceIte, String.reduceBEq, Bool.true_or, Bool.false_or, Bool.or_false, Bool.and_false, Bool.false_and, Bool.and_true, Bool.true_and, Bool.not_true, Bool.not_false, ne_eq, not_true_eq_false, reduceCtorEq, Bool.true_eq_false, decide_true, decide_false])
    refine oIx_t (d := .int (b : Int)) rfl ?_
    refine ⟨.int (b : Int), rfl, rfl, ?_⟩
    rw [btw_bit (hb b rfl)]
    exact q
theorem sem_need_log : ∀ as Qd Xd, d_need_log as Qd Xd → as.length = ["log", "size"].length ∧ r_need_log { nx := fun _ => Qd .non, rt := Qd } (as ++ List.replicate (["log", "size", "index", "item"].length - as.length) .un) (fun _ => Xd) := by
  rintro as Qd Xd ⟨n, L, rfl, hn, ok, q⟩
  refine ⟨rfl, ?_⟩
  have ll := ok.len
  unfold r_need_log
  (try dsimp only [gN, gN2, sNil, sSeq, sExp, sRet, sIf, sPass, sCont, sBrk, sSet, sSetO, sApp, sAppF, sApPop, flatD, sFrz, sAug, sRaise, sAsg, sPut, eV, eC, e1, e2, t2, tBl, tTru, tN, tAn, tOo, tCh, eNot, eAn, eOo, eIf, eTup, eLst, eF, eFld, eIs, eIxO, eLenO, eSl, eRev, eB, eCall, eCallG, eMeth, aN, aC, aV, oNo, oPt, eIsO, oSrtI, oSrtT, oLt, oLe, oReprB, oInI, gN3, eCh, oGt, oGe, oI, oIC, oI1, oAdd, oMul, oIsN, oLen, oList, oTuple, oAbs, oMin2, oInt1, fLst, fListRg1, fList, fRep, fCat, tYs, tru, isS, dats, seqD, seqO, tyS, List.set, List.getElem?_cons_zero, List.getElem?_cons_succ, List.append_eq, List.nil_append, List.cons_append, Option.map_some, Option.bind_some, ng, wipeD, List.length_cons, List.length_nil, Nat.reduceAdd, Nat.reduceSub, List.replicate_succ, List.replicate_zero, eCell, sSetL, bareD,  eCallD, intsS, unS, List.map, oInS, isNumX]; try simp only [decide_eq_true_eq, Bool.not_eq_true', decide_eq_false_iff_not, Bool.false_eq_true, if_false, if_true, reduceIte, String.reduceBEq, Bool.true_or, Bool.false_or, Bool.or_false, Bool.and_false, Bool.false_and, Bool.and_true, Bool.true_and, Bool.not_true, Bool.not_false, ne_eq, not_true_eq_false, reduceCtorEq, Bool.true_eq_false, decide_true, decide_false])
  refine ifF (by rw [List.length_map]; first | omega | (intro z; have := of_decide_eq_true z; omega)) ?_
  unfold sFor
  refine iEnV rfl rfl ?_
  refine ⟨fun i ρ => ∃ a b, ρ = [.dat (.lst (L.map itD)), .dat (.int (n : Int)), a, b], ⟨_, _, rfl⟩, ?_, ?_⟩
  · rintro i x ρ hx ⟨a, b, rfl⟩
    obtain ⟨y, hy, rfl⟩ := enD_get hx
    rw [List.getElem?_map] at hy
    obtain ⟨z, hz, rfl⟩ := Option.map_eq_some_iff.mp hy
    have mz := List.mem_of_getElem? hz
    (try dsimp only [gN, gN2, sNil, sSeq, sExp, sRet, sIf, sPass, sCont, sBrk, sSet, sSetO, sApp, sAppF, sApPop, flatD, sFrz, sAug, sRaise, sAsg, sPut, eV, eC, e1, e2, t2, tBl, tTru, tN, tAn, tOo, tCh, eNot, eAn, eOo, eIf, eTup, eLst, eF, eFld, eIs, eIxO, eLenO, eSl, eRev, eB, eCall, eCallG, eMeth, aN, aC, aV, oNo, oPt, eIsO, oSrtI, oSrtT, oLt, oLe, oReprB, oInI, gN3, eCh, oGt, oGe, oI, oIC, oI1, oAdd, oMul, oIsN, oLen, oList, oTuple, oAbs, oMin2, oInt1, fLst, fListRg1, fList, fRep, fCat, tYs, tru, isS, dats, seqD, seqO, tyS, List.set, List.getElem?_cons_zero, List.getElem?_cons_succ, List.append_eq, List.nil_append, List.cons_append, Option.map_some, Option.bind_some, ng, wipeD, List.length_cons, List.length_nil, Nat.reduceAdd, Nat.reduceSub, List.replicate_succ, List.replicate_zero, eCell, sSetL, bareD,  eCallD, intsS, unS, List.map, oInS, isNumX]; try simp only [decide_eq_true_eq, Bool.not_eq_true', decide_eq_false_iff_not, Bool.false_eq_true, if_false, if_true, reduceIte, String.reduceBEq, Bool.true_or, Bool.false_or, Bool.or_false, Bool.and_false, Bool.false_and, Bool.and_true, Bool.true_and, Bool.not_true, Bool.not_false, ne_eq, not_true_eq_false, reduceCtorEq, Bool.true_eq_false, decide_true, decide_false])
    refine ⟨n, z, rfl, hn, ok.lt z mz, ok.bit z mz, ?_⟩
    (try dsimp only [gN, gN2, sNil, sSeq, sExp, sRet, sIf, sPass, sCont, sBrk, sSet, sSetO, sApp, sAppF, sApPop, flatD, sFrz, sAug, sRaise, sAsg, sPut, eV, eC, e1, e2, t2, tBl, tTru, tN, tAn, tOo, tCh, eNot, eAn, eOo, eIf, eTup, eLst, eF, eFld, eIs, eIxO, eLenO, eSl, eRev, eB, eCall, eCallG, eMeth, aN, aC, aV, oNo, oPt, eIsO, oSrtI, oSrtT, oLt, oLe, oReprB, oInI, gN3, eCh, oGt, oGe, oI, oIC, oI1, oAdd, oMul, oIsN, oLen, oList, oTuple, oAbs, oMin2, oInt1, fLst, fListRg1, fList, fRep, fCat, tYs, tru, isS, dats, seqD, seqO, tyS, List.set, List.getElem?_cons_zero, List.getElem?_cons_succ, List.append_eq, List.nil_append, List.cons_append, Option.map_some, Option.bind_some, ng, wipeD, List.length_cons, List.length_nil, Nat.reduceAdd, Nat.reduceSub, List.replicate_succ, List.replicate_zero, eCell, sSetL, bareD,  eCallD, intsS, unS, List.map, oInS, isNumX]; try simp only [decide_eq_true_eq, Bool.not_eq_true', decide_eq_false_iff_not, Bool.false_eq_true, if_false, if_true, reduceIte, String.reduceBEq, Bool.true_or, Bool.false_or, Bool.or_false, Bool.and_false, Bool.false_and, Bool.and_true, Bool.true_and, Bool.not_true, Bool.not_false, ne_eq, not_true_eq_false, reduceCtorEq, Bool.true_eq_false, decide_true, decide_false])
    exact ⟨_, _, rfl⟩
  · rintro ρ ⟨a, b, rfl⟩
    exact q
theorem atL_of {L : List LI} {i : Nat} {x : LI} (h : L[i]? = some x) : atL L i = x := by unfold atL; rw [List.getD_eq_getElem?_getD, h]; rfl
theorem unk_snoc {L : List LI} {is : List Nat} {i : Nat} (h : unkF L is = none) : unkF L (is ++ [i]) = if (atL L i).2.isNone = true then some i else none := by
  unfold unkF at h ⊢
  rw [List.find?_append, h]
  rw [Option.none_or, List.find?_cons]
  cases (atL L i).2.isNone <;> rfl
theorem unk_app {L : List LI} {is js : List Nat} {i : Nat} (h : unkF L is = some i) : unkF L (is ++ js) = some i := by
  unfold unkF at h ⊢
  rw [List.find?_append, h]; rfl
theorem sum_snocL (L : List LI) (is : List Nat) (i : Nat) : sumL L (is ++ [i]) = sumL L is ^^^ (atL L i).1 := by unfold sumL; rw [List.foldl_append]; rfl
theorem one_snocL (L : List LI) (is : List Nat) (i : Nat) : oneL' L (is ++ [i]) = oneL' L is + (atL L i).2.getD 0 := by unfold oneL'; rw [List.foldl_append]; rfl
theorem sumL_lt {n : Nat} {L : List LI} (ok : LogOk n L) : ∀ (is : List Nat), (∀ i ∈ is, i < L.length) → sumL L is < 2 ^ n := fun is h => by
  have : ∀ (is : List Nat) (w : Nat), w < 2 ^ n → (∀ i ∈ is, i < L.length) → is.foldl (fun w i => w ^^^ (atL L i).1) w < 2 ^ n := fun is => by
    induction is with
    | nil => exact fun w hw _ => hw
    | cons i is ih =>
      intro w hw h
      have hi := h i List.mem_cons_self
      refine ih _ (Nat.xor_lt_two_pow hw ?_) fun j hj => h j (List.mem_cons_of_mem _ hj)
      have e := atL_of (List.getElem?_eq_getElem hi)
      rw [e]
      exact ok.lt _ (List.getElem_mem hi)
  exact this is 0 (Nat.two_pow_pos n) h
theorem sumL_one {n : Nat} {L : List LI} (ok : LogOk n L) {i : Nat} (hi : i < L.length) : (atL L i).1 < 2 ^ n := by
  rw [atL_of (List.getElem?_eq_getElem hi)]
  exact ok.lt _ (List.getElem_mem hi)
theorem sem_against_fault : ∀ as Qd Xd, d_against_fault as Qd Xd → as.length = ["book", "log", "indexes"].length ∧ r_against_fault { nx := fun _ => Qd .non, rt := Qd } (as ++ List.replicate (["book", "log", "indexes", "rest", "ones_told", "index", "lot", "bit"].length - as.length) .un) (fun _ => Xd) := by
  rintro as Qd Xd ⟨n, ms, L, d, rfl, R, hn, ok, hd, qf, qc⟩
  refine ⟨rfl, ?_⟩
  have ll := ok.len
  unfold r_against_fault
  unfold bookX
  (try dsimp only [gN, gN2, sNil, sSeq, sExp, sRet, sIf, sPass, sCont, sBrk, sSet, sSetO, sApp, sAppF, sApPop, flatD, sFrz, sAug, sRaise, sAsg, sPut, eV, eC, e1, e2, t2, tBl, tTru, tN, tAn, tOo, tCh, eNot, eAn, eOo, eIf, eTup, eLst, eF, eFld, eIs, eIxO, eLenO, eSl, eRev, eB, eCall, eCallG, eMeth, aN, aC, aV, oNo, oPt, eIsO, oSrtI, oSrtT, oLt, oLe, oReprB, oInI, gN3, eCh, oGt, oGe, oI, oIC, oI1, oAdd, oMul, oIsN, oLen, oList, oTuple, oAbs, oMin2, oInt1, fLst, fListRg1, fList, fRep, fCat, tYs, tru, isS, dats, seqD, seqO, tyS, List.set, List.getElem?_cons_zero, List.getElem?_cons_succ, List.append_eq, List.nil_append, List.cons_append, Option.map_some, Option.bind_some, ng, wipeD, List.length_cons, List.length_nil, Nat.reduceAdd, Nat.reduceSub, List.replicate_succ, List.replicate_zero, eCell, sSetL, bareD,  eCallD, intsS, unS, List.map, oInS, isNumX]; try simp only [decide_eq_true_eq, Bool.not_eq_true', decide_eq_false_iff_not, Bool.false_eq_true, if_false, if_true, reduceIte, String.reduceBEq, Bool.true_or, Bool.false_or, Bool.or_false, Bool.and_false, Bool.false_and, Bool.and_true, Bool.true_and, Bool.not_true, Bool.not_false, ne_eq, not_true_eq_false, reduceCtorEq, Bool.true_eq_false, decide_true, decide_false])
  (try simp only [bk_size, bk_masks, bk_dim, tab_size, tab_masks, tab_dim, true_and])
  refine ⟨n, L, rfl, by omega, ok, ?_⟩
  unfold r_against_fault_11
  (try dsimp only [gN, gN2, sNil, sSeq, sExp, sRet, sIf, sPass, sCont, sBrk, sSet, sSetO, sApp, sAppF, sApPop, flatD, sFrz, sAug, sRaise, sAsg, sPut, eV, eC, e1, e2, t2, tBl, tTru, tN, tAn, tOo, tCh, eNot, eAn, eOo, eIf, eTup, eLst, eF, eFld, eIs, eIxO, eLenO, eSl, eRev, eB, eCall, eCallG, eMeth, aN, aC, aV, oNo, oPt, eIsO, oSrtI, oSrtT, oLt, oLe, oReprB, oInI, gN3, eCh, oGt, oGe, oI, oIC, oI1, oAdd, oMul, oIsN, oLen, oList, oTuple, oAbs, oMin2, oInt1, fLst, fListRg1, fList, fRep, fCat, tYs, tru, isS, dats, seqD, seqO, tyS, List.set, List.getElem?_cons_zero, List.getElem?_cons_succ, List.append_eq, List.nil_append, List.cons_append, Option.map_some, Option.bind_some, ng, wipeD, List.length_cons, List.length_nil, Nat.reduceAdd, Nat.reduceSub, List.replicate_succ, List.replicate_zero, eCell, sSetL, bareD,  eCallD, intsS, unS, List.map, oInS, isNumX]; try simp only [decide_eq_true_eq, Bool.not_eq_true', decide_eq_false_iff_not, Bool.false_eq_true, if_false, if_true, reduceIte, String.reduceBEq, Bool.true_or, Bool.false_or, Bool.or_false, Bool.and_false, Bool.false_and, Bool.and_true, Bool.true_and, Bool.not_true, Bool.not_false, ne_eq, not_true_eq_false, reduceCtorEq, Bool.true_eq_false, decide_true, decide_false])
  refine ⟨d, L.length, by rw [List.length_map], hd, by omega, ?_⟩
  cases cd : isLotX L.length d with
  | false =>
    (try dsimp only [gN, gN2, sNil, sSeq, sExp, sRet, sIf, sPass, sCont, sBrk, sSet, sSetO, sApp, sAppF, sApPop, flatD, sFrz, sAug, sRaise, sAsg, sPut, eV, eC, e1, e2, t2, tBl, tTru, tN, tAn, tOo, tCh, eNot, eAn, eOo, eIf, eTup, eLst, eF, eFld, eIs, eIxO, eLenO, eSl, eRev, eB, eCall, eCallG, eMeth, aN, aC, aV, oNo, oPt, eIsO, oSrtI, oSrtT, oLt, oLe, oReprB, oInI, gN3, eCh, oGt, oGe, oI, oIC, oI1, oAdd, oMul, oIsN, oLen, oList, oTuple, oAbs, oMin2, oInt1, fLst, fListRg1, fList, fRep, fCat, tYs, tru, isS, dats, seqD, seqO, tyS, List.set, List.getElem?_cons_zero, List.getElem?_cons_succ, List.append_eq, List.nil_append, List.cons_append, Option.map_some, Option.bind_some, ng, wipeD, List.length_cons, List.length_nil, Nat.reduceAdd, Nat.reduceSub, List.replicate_succ, List.replicate_zero, eCell, sSetL, bareD,  eCallD, intsS, unS, List.map, oInS, isNumX]; try simp only [decide_eq_true_eq, Bool.not_eq_true', decide_eq_false_iff_not, Bool.false_eq_true, if_false, if_true, reduceIte, String.reduceBEq, Bool.true_or, Bool.false_or, Bool.or_false, Bool.and_false, Bool.false_and, Bool.and_true, Bool.true_and, Bool.not_true, Bool.not_false, ne_eq, not_true_eq_false, reduceCtorEq, Bool.true_eq_false, decide_true, decide_false])
    exact qf cd
  | true =>
    obtain ⟨c, lc, rfl⟩ := is_lot_inv cd
    have qc := qc c rfl lc
    have im : ∀ i ∈ lotN c, i < L.length := fun i hi => lotN_lt lc i hi
    (try dsimp only [gN, gN2, sNil, sSeq, sExp, sRet, sIf, sPass, sCont, sBrk, sSet, sSetO, sApp, sAppF, sApPop, flatD, sFrz, sAug, sRaise, sAsg, sPut, eV, eC, e1, e2, t2, tBl, tTru, tN, tAn, tOo, tCh, eNot, eAn, eOo, eIf, eTup, eLst, eF, eFld, eIs, eIxO, eLenO, eSl, eRev, eB, eCall, eCallG, eMeth, aN, aC, aV, oNo, oPt, eIsO, oSrtI, oSrtT, oLt, oLe, oReprB, oInI, gN3, eCh, oGt, oGe, oI, oIC, oI1, oAdd, oMul, oIsN, oLen, oList, oTuple, oAbs, oMin2, oInt1, fLst, fListRg1, fList, fRep, fCat, tYs, tru, isS, dats, seqD, seqO, tyS, List.set, List.getElem?_cons_zero, List.getElem?_cons_succ, List.append_eq, List.nil_append, List.cons_append, Option.map_some, Option.bind_some, ng, wipeD, List.length_cons, List.length_nil, Nat.reduceAdd, Nat.reduceSub, List.replicate_succ, List.replicate_zero, eCell, sSetL, bareD,  eCallD, intsS, unS, List.map, oInS, isNumX]; try simp only [decide_eq_true_eq, Bool.not_eq_true', decide_eq_false_iff_not, Bool.false_eq_true, if_false, if_true, reduceIte, String.reduceBEq, Bool.true_or, Bool.false_or, Bool.or_false, Bool.and_false, Bool.false_and, Bool.and_true, Bool.true_and, Bool.not_true, Bool.not_false, ne_eq, not_true_eq_false, reduceCtorEq, Bool.true_eq_false, decide_true, decide_false])
    unfold r_against_fault_10
    (try dsimp only [gN, gN2, sNil, sSeq, sExp, sRet, sIf, sPass, sCont, sBrk, sSet, sSetO, sApp, sAppF, sApPop, flatD, sFrz, sAug, sRaise, sAsg, sPut, eV, eC, e1, e2, t2, tBl, tTru, tN, tAn, tOo, tCh, eNot, eAn, eOo, eIf, eTup, eLst, eF, eFld, eIs, eIxO, eLenO, eSl, eRev, eB, eCall, eCallG, eMeth, aN, aC, aV, oNo, oPt, eIsO, oSrtI, oSrtT, oLt, oLe, oReprB, oInI, gN3, eCh, oGt, oGe, oI, oIC, oI1, oAdd, oMul, oIsN, oLen, oList, oTuple, oAbs, oMin2, oInt1, fLst, fListRg1, fList, fRep, fCat, tYs, tru, isS, dats, seqD, seqO, tyS, List.set, List.getElem?_cons_zero, List.getElem?_cons_succ, List.append_eq, List.nil_append, List.cons_append, Option.map_some, Option.bind_some, ng, wipeD, List.length_cons, List.length_nil, Nat.reduceAdd, Nat.reduceSub, List.replicate_succ, List.replicate_zero, eCell, sSetL, bareD,  eCallD, intsS, unS, List.map, oInS, isNumX]; try simp only [decide_eq_true_eq, Bool.not_eq_true', decide_eq_false_iff_not, Bool.false_eq_true, if_false, if_true, reduceIte, String.reduceBEq, Bool.true_or, Bool.false_or, Bool.or_false, Bool.and_false, Bool.false_and, Bool.and_true, Bool.true_and, Bool.not_true, Bool.not_false, ne_eq, not_true_eq_false, reduceCtorEq, Bool.true_eq_false, decide_true, decide_false])
    unfold r_against_fault_9
    (try dsimp only [gN, gN2, sNil, sSeq, sExp, sRet, sIf, sPass, sCont, sBrk, sSet, sSetO, sApp, sAppF, sApPop, flatD, sFrz, sAug, sRaise, sAsg, sPut, eV, eC, e1, e2, t2, tBl, tTru, tN, tAn, tOo, tCh, eNot, eAn, eOo, eIf, eTup, eLst, eF, eFld, eIs, eIxO, eLenO, eSl, eRev, eB, eCall, eCallG, eMeth, aN, aC, aV, oNo, oPt, eIsO, oSrtI, oSrtT, oLt, oLe, oReprB, oInI, gN3, eCh, oGt, oGe, oI, oIC, oI1, oAdd, oMul, oIsN, oLen, oList, oTuple, oAbs, oMin2, oInt1, fLst, fListRg1, fList, fRep, fCat, tYs, tru, isS, dats, seqD, seqO, tyS, List.set, List.getElem?_cons_zero, List.getElem?_cons_succ, List.append_eq, List.nil_append, List.cons_append, Option.map_some, Option.bind_some, ng, wipeD, List.length_cons, List.length_nil, Nat.reduceAdd, Nat.reduceSub, List.replicate_succ, List.replicate_zero, eCell, sSetL, bareD,  eCallD, intsS, unS, List.map, oInS, isNumX]; try simp only [decide_eq_true_eq, Bool.not_eq_true', decide_eq_false_iff_not, Bool.false_eq_true, if_false, if_true, reduceIte, String.reduceBEq, Bool.true_or, Bool.false_or, Bool.or_false, Bool.and_false, Bool.false_and, Bool.and_true, Bool.true_and, Bool.not_true, Bool.not_false, ne_eq, not_true_eq_false, reduceCtorEq, Bool.true_eq_false, decide_true, decide_false])
    unfold r_against_fault_8
    (try dsimp only [gN, gN2, sNil, sSeq, sExp, sRet, sIf, sPass, sCont, sBrk, sSet, sSetO, sApp, sAppF, sApPop, flatD, sFrz, sAug, sRaise, sAsg, sPut, eV, eC, e1, e2, t2, tBl, tTru, tN, tAn, tOo, tCh, eNot, eAn, eOo, eIf, eTup, eLst, eF, eFld, eIs, eIxO, eLenO, eSl, eRev, eB, eCall, eCallG, eMeth, aN, aC, aV, oNo, oPt, eIsO, oSrtI, oSrtT, oLt, oLe, oReprB, oInI, gN3, eCh, oGt, oGe, oI, oIC, oI1, oAdd, oMul, oIsN, oLen, oList, oTuple, oAbs, oMin2, oInt1, fLst, fListRg1, fList, fRep, fCat, tYs, tru, isS, dats, seqD, seqO, tyS, List.set, List.getElem?_cons_zero, List.getElem?_cons_succ, List.append_eq, List.nil_append, List.cons_append, Option.map_some, Option.bind_some, ng, wipeD, List.length_cons, List.length_nil, Nat.reduceAdd, Nat.reduceSub, List.replicate_succ, List.replicate_zero, eCell, sSetL, bareD,  eCallD, intsS, unS, List.map, oInS, isNumX]; try simp only [decide_eq_true_eq, Bool.not_eq_true', decide_eq_false_iff_not, Bool.false_eq_true, if_false, if_true, reduceIte, String.reduceBEq, Bool.true_or, Bool.false_or, Bool.or_false, Bool.and_false, Bool.false_and, Bool.and_true, Bool.true_and, Bool.not_true, Bool.not_false, ne_eq, not_true_eq_false, reduceCtorEq, Bool.true_eq_false, decide_true, decide_false])
    unfold sFor
    refine iSqV rfl (d := lotM c) rfl ?_
    refine ⟨fun j ρ => ∃ a5 a6 a7 : Sl, unkF L ((lotN c).take j) = none ∧ ρ = [.dat (bookX n ms), .dat (.lst (L.map itD)), .dat (lotM c), .dat (.int (sumL L ((lotN c).take j) : Nat)), .dat (.int (oneL' L ((lotN c).take j) : Nat)), a5, a6, a7], ⟨_, _, _, rfl, rfl⟩, ?_, ?_⟩
    · rintro j x ρ hx ⟨a5, a6, a7, hu, rfl⟩
      obtain ⟨i, hi, rfl⟩ := natX_get hx
      have li := im i (List.mem_of_getElem? hi)
      have ei := atL_of (List.getElem?_eq_getElem li)
      have ti := take_snoc hi
      unfold r_against_fault_4
      (try dsimp only [gN, gN2, sNil, sSeq, sExp, sRet, sIf, sPass, sCont, sBrk, sSet, sSetO, sApp, sAppF, sApPop, flatD, sFrz, sAug, sRaise, sAsg, sPut, eV, eC, e1, e2, t2, tBl, tTru, tN, tAn, tOo, tCh, eNot, eAn, eOo, eIf, eTup, eLst, eF, eFld, eIs, eIxO, eLenO, eSl, eRev, eB, eCall, eCallG, eMeth, aN, aC, aV, oNo, oPt, eIsO, oSrtI, oSrtT, oLt, oLe, oReprB, oInI, gN3, eCh, oGt, oGe, oI, oIC, oI1, oAdd, oMul, oIsN, oLen, oList, oTuple, oAbs, oMin2, oInt1, fLst, fListRg1, fList, fRep, fCat, tYs, tru, isS, dats, seqD, seqO, tyS, List.set, List.getElem?_cons_zero, List.getElem?_cons_succ, List.append_eq, List.nil_append, List.cons_append, Option.map_some, Option.bind_some, ng, wipeD, List.length_cons, List.length_nil, Nat.reduceAdd, Nat.reduceSub, List.replicate_succ, List.replicate_zero, eCell, sSetL, bareD,  eCallD, intsS, unS, List.map, oInS, isNumX]; try simp only [decide_eq_true_eq, Bool.not_eq_true', decide_eq_false_iff_not, Bool.false_eq_true, if_false, if_true, reduceIte, String.reduceBEq, Bool.true_or, Bool.false_or, Bool.or_false, Bool.and_false, Bool.false_and, Bool.and_true, Bool.true_and, Bool.not_true, Bool.not_false, ne_eq, not_true_eq_false, reduceCtorEq, Bool.true_eq_false, decide_true, decide_false])
      refine oIx_l (d := itD (L[i])) (atI_n (by rw [List.getElem?_map, List.getElem?_eq_getElem li]; rfl)) ?_
      generalize L[i] = y at ei ⊢
      obtain ⟨m, o⟩ := y
      unfold itD
      (try dsimp only [gN, gN2, sNil, sSeq, sExp, sRet, sIf, sPass, sCont, sBrk, sSet, sSetO, sApp, sAppF, sApPop, flatD, sFrz, sAug, sRaise, sAsg, sPut, eV, eC, e1, e2, t2, tBl, tTru, tN, tAn, tOo, tCh, eNot, eAn, eOo, eIf, eTup, eLst, eF, eFld, eIs, eIxO, eLenO, eSl, eRev, eB, eCall, eCallG, eMeth, aN, aC, aV, oNo, oPt, eIsO, oSrtI, oSrtT, oLt, oLe, oReprB, oInI, gN3, eCh, oGt, oGe, oI, oIC, oI1, oAdd, oMul, oIsN, oLen, oList, oTuple, oAbs, oMin2, oInt1, fLst, fListRg1, fList, fRep, fCat, tYs, tru, isS, dats, seqD, seqO, tyS, List.set, List.getElem?_cons_zero, List.getElem?_cons_succ, List.append_eq, List.nil_append, List.cons_append, Option.map_some, Option.bind_some, ng, wipeD, List.length_cons, List.length_nil, Nat.reduceAdd, Nat.reduceSub, List.replicate_succ, List.replicate_zero, eCell, sSetL, bareD,  eCallD, intsS, unS, List.map, oInS, isNumX]; try simp only [decide_eq_true_eq, Bool.not_eq_true', decide_eq_false_iff_not, Bool.false_eq_true, if_false, if_true, reduceIte, String.reduceBEq, Bool.true_or, Bool.false_or, Bool.or_false, Bool.and_false, Bool.false_and, Bool.and_true, Bool.true_and, Bool.not_true, Bool.not_false, ne_eq, not_true_eq_false, reduceCtorEq, Bool.true_eq_false, decide_true, decide_false])
      unfold r_against_fault_3
      cases o with
      | none =>
        unfold optI
        (try dsimp only [gN, gN2, sNil, sSeq, sExp, sRet, sIf, sPass, sCont, sBrk, sSet, sSetO, sApp, sAppF, sApPop, flatD, sFrz, sAug, sRaise, sAsg, sPut, eV, eC, e1, e2, t2, tBl, tTru, tN, tAn, tOo, tCh, eNot, eAn, eOo, eIf, eTup, eLst, eF, eFld, eIs, eIxO, eLenO, eSl, eRev, eB, eCall, eCallG, eMeth, aN, aC, aV, oNo, oPt, eIsO, oSrtI, oSrtT, oLt, oLe, oReprB, oInI, gN3, eCh, oGt, oGe, oI, oIC, oI1, oAdd, oMul, oIsN, oLen, oList, oTuple, oAbs, oMin2, oInt1, fLst, fListRg1, fList, fRep, fCat, tYs, tru, isS, dats, seqD, seqO, tyS, List.set, List.getElem?_cons_zero, List.getElem?_cons_succ, List.append_eq, List.nil_append, List.cons_append, Option.map_some, Option.bind_some, ng, wipeD, List.length_cons, List.length_nil, Nat.reduceAdd, Nat.reduceSub, List.replicate_succ, List.replicate_zero, eCell, sSetL, bareD,  eCallD, intsS, unS, List.map, oInS, isNumX]; try simp only [decide_eq_true_eq, Bool.not_eq_true', decide_eq_false_iff_not, Bool.false_eq_true, if_false, if_true, reduceIte, String.reduceBEq, Bool.true_or, Bool.false_or, Bool.or_false, Bool.and_false, Bool.false_and, Bool.and_true, Bool.true_and, Bool.not_true, Bool.not_false, ne_eq, not_true_eq_false, reduceCtorEq, Bool.true_eq_false, decide_true, decide_false])
        unfold afF at qc
        have : unkF L (lotN c) = some i := by
          have h1 : unkF L ((lotN c).take (j + 1)) = some i := by rw [ti, unk_snoc hu, ei]; rfl
          have := unk_app (js := (lotN c).drop (j + 1)) h1
          rwa [List.take_append_drop] at this
        rw [this] at qc
        exact qc
      | some b =>
        unfold optI
        (try dsimp only [gN, gN2, sNil, sSeq, sExp, sRet, sIf, sPass, sCont, sBrk, sSet, sSetO, sApp, sAppF, sApPop, flatD, sFrz, sAug, sRaise, sAsg, sPut, eV, eC, e1, e2, t2, tBl, tTru, tN, tAn, tOo, tCh, eNot, eAn, eOo, eIf, eTup, eLst, eF, eFld, eIs, eIxO, eLenO, eSl, eRev, eB, eCall, eCallG, eMeth, aN, aC, aV, oNo, oPt, eIsO, oSrtI, oSrtT, oLt, oLe, oReprB, oInI, gN3, eCh, oGt, oGe, oI, oIC, oI1, oAdd, oMul, oIsN, oLen, oList, oTuple, oAbs, oMin2, oInt1, fLst, fListRg1, fList, fRep, fCat, tYs, tru, isS, dats, seqD, seqO, tyS, List.set, List.getElem?_cons_zero, List.getElem?_cons_succ, List.append_eq, List.nil_append, List.cons_append, Option.map_some, Option.bind_some, ng, wipeD, List.length_cons, List.length_nil, Nat.reduceAdd, Nat.reduceSub, List.replicate_succ, List.replicate_zero, eCell, sSetL, bareD,  eCallD, intsS, unS, List.map, oInS, isNumX]; try simp only [decide_eq_true_eq, Bool.not_eq_true', decide_eq_false_iff_not, Bool.false_eq_true, if_false, if_true, reduceIte, String.reduceBEq, Bool.true_or, Bool.false_or, Bool.or_false, Bool.and_false, Bool.false_and, Bool.and_true, Bool.true_and, Bool.not_true, Bool.not_false, ne_eq, not_true_eq_false, reduceCtorEq, Bool.true_eq_false, decide_true, decide_false])
        unfold r_against_fault_2
        (try dsimp only [gN, gN2, sNil, sSeq, sExp, sRet, sIf, sPass, sCont, sBrk, sSet, sSetO, sApp, sAppF, sApPop, flatD, sFrz, sAug, sRaise, sAsg, sPut, eV, eC, e1, e2, t2, tBl, tTru, tN, tAn, tOo, tCh, eNot, eAn, eOo, eIf, eTup, eLst, eF, eFld, eIs, eIxO, eLenO, eSl, eRev, eB, eCall, eCallG, eMeth, aN, aC, aV, oNo, oPt, eIsO, oSrtI, oSrtT, oLt, oLe, oReprB, oInI, gN3, eCh, oGt, oGe, oI, oIC, oI1, oAdd, oMul, oIsN, oLen, oList, oTuple, oAbs, oMin2, oInt1, fLst, fListRg1, fList, fRep, fCat, tYs, tru, isS, dats, seqD, seqO, tyS, List.set, List.getElem?_cons_zero, List.getElem?_cons_succ, List.append_eq, List.nil_append, List.cons_append, Option.map_some, Option.bind_some, ng, wipeD, List.length_cons, List.length_nil, Nat.reduceAdd, Nat.reduceSub, List.replicate_succ, List.replicate_zero, eCell, sSetL, bareD,  eCallD, intsS, unS, List.map, oInS, isNumX]; try simp only [decide_eq_true_eq, Bool.not_eq_true', decide_eq_false_iff_not, Bool.false_eq_true, if_false, if_true, reduceIte, String.reduceBEq, Bool.true_or, Bool.false_or, Bool.or_false, Bool.and_false, Bool.false_and, Bool.and_true, Bool.true_and, Bool.not_true, Bool.not_false, ne_eq, not_true_eq_false, reduceCtorEq, Bool.true_eq_false, decide_true, decide_false])
        refine ⟨lotN m, rfl, fun p hp => by have := lotN_lt (n := n) (by rw [← show (atL L i).1 = m from by rw [ei]]; exact sumL_one ok li) p hp; omega, ?_⟩
        rw [maskN_lotN]
        (try dsimp only [gN, gN2, sNil, sSeq, sExp, sRet, sIf, sPass, sCont, sBrk, sSet, sSetO, sApp, sAppF, sApPop, flatD, sFrz, sAug, sRaise, sAsg, sPut, eV, eC, e1, e2, t2, tBl, tTru, tN, tAn, tOo, tCh, eNot, eAn, eOo, eIf, eTup, eLst, eF, eFld, eIs, eIxO, eLenO, eSl, eRev, eB, eCall, eCallG, eMeth, aN, aC, aV, oNo, oPt, eIsO, oSrtI, oSrtT, oLt, oLe, oReprB, oInI, gN3, eCh, oGt, oGe, oI, oIC, oI1, oAdd, oMul, oIsN, oLen, oList, oTuple, oAbs, oMin2, oInt1, fLst, fListRg1, fList, fRep, fCat, tYs, tru, isS, dats, seqD, seqO, tyS, List.set, List.getElem?_cons_zero, List.getElem?_cons_succ, List.append_eq, List.nil_append, List.cons_append, Option.map_some, Option.bind_some, ng, wipeD, List.length_cons, List.length_nil, Nat.reduceAdd, Nat.reduceSub, List.replicate_succ, List.replicate_zero, eCell, sSetL, bareD,  eCallD, intsS, unS, List.map, oInS, isNumX]; try simp only [decide_eq_true_eq, Bool.not_eq_true', decide_eq_false_iff_not, Bool.false_eq_true, if_false, if_true, reduceIte, String.reduceBEq, Bool.true_or, Bool.false_or, Bool.or_false, Bool.and_false, Bool.false_and, Bool.and_true, Bool.true_and, Bool.not_true, Bool.not_false, ne_eq, not_true_eq_false, reduceCtorEq, Bool.true_eq_false, decide_true, decide_false])
        rw [bitXor_nat]
        unfold r_against_fault_1
        (try dsimp only [gN, gN2, sNil, sSeq, sExp, sRet, sIf, sPass, sCont, sBrk, sSet, sSetO, sApp, sAppF, sApPop, flatD, sFrz, sAug, sRaise, sAsg, sPut, eV, eC, e1, e2, t2, tBl, tTru, tN, tAn, tOo, tCh, eNot, eAn, eOo, eIf, eTup, eLst, eF, eFld, eIs, eIxO, eLenO, eSl, eRev, eB, eCall, eCallG, eMeth, aN, aC, aV, oNo, oPt, eIsO, oSrtI, oSrtT, oLt, oLe, oReprB, oInI, gN3, eCh, oGt, oGe, oI, oIC, oI1, oAdd, oMul, oIsN, oLen, oList, oTuple, oAbs, oMin2, oInt1, fLst, fListRg1, fList, fRep, fCat, tYs, tru, isS, dats, seqD, seqO, tyS, List.set, List.getElem?_cons_zero, List.getElem?_cons_succ, List.append_eq, List.nil_append, List.cons_append, Option.map_some, Option.bind_some, ng, wipeD, List.length_cons, List.length_nil, Nat.reduceAdd, Nat.reduceSub, List.replicate_succ, List.replicate_zero, eCell, sSetL, bareD,  eCallD, intsS, unS, List.map, oInS, isNumX]; try simp only [decide_eq_true_eq, Bool.not_eq_true', decide_eq_false_iff_not, Bool.false_eq_true, if_false, if_true, reduceIte, String.reduceBEq, Bool.true_or, Bool.false_or, Bool.or_false, Bool.and_false, Bool.false_and, Bool.and_true, Bool.true_and, Bool.not_true, Bool.not_false, ne_eq, not_true_eq_false, reduceCtorEq, Bool.true_eq_false, decide_true, decide_false])
        refine ⟨.dat (.int (i : Nat)), .dat (lotM m), .dat (.int (b : Nat)), ?_, ?_⟩
        · rw [ti, unk_snoc hu, ei]; rfl
        · rw [ti, sum_snocL, one_snocL, ei, Int.natCast_add]; rfl
    · rintro ρ ⟨a5, a6, a7, hu, rfl⟩
      have lx : (natX (lotN c)).length = (lotN c).length := natX_len _
      rw [lx, List.take_of_length_le (Nat.le_refl _)] at hu ⊢
      have sl := sumL_lt ok (lotN c) im
      unfold afF at qc
      rw [hu] at qc
      dsimp only at qc
      unfold r_against_fault_7
      (try dsimp only [gN, gN2, sNil, sSeq, sExp, sRet, sIf, sPass, sCont, sBrk, sSet, sSetO, sApp, sAppF, sApPop, flatD, sFrz, sAug, sRaise, sAsg, sPut, eV, eC, e1, e2, t2, tBl, tTru, tN, tAn, tOo, tCh, eNot, eAn, eOo, eIf, eTup, eLst, eF, eFld, eIs, eIxO, eLenO, eSl, eRev, eB, eCall, eCallG, eMeth, aN, aC, aV, oNo, oPt, eIsO, oSrtI, oSrtT, oLt, oLe, oReprB, oInI, gN3, eCh, oGt, oGe, oI, oIC, oI1, oAdd, oMul, oIsN, oLen, oList, oTuple, oAbs, oMin2, oInt1, fLst, fListRg1, fList, fRep, fCat, tYs, tru, isS, dats, seqD, seqO, tyS, List.set, List.getElem?_cons_zero, List.getElem?_cons_succ, List.append_eq, List.nil_append, List.cons_append, Option.map_some, Option.bind_some, ng, wipeD, List.length_cons, List.length_nil, Nat.reduceAdd, Nat.reduceSub, List.replicate_succ, List.replicate_zero, eCell, sSetL, bareD,  eCallD, intsS, unS, List.map, oInS, isNumX]; try simp only [decide_eq_true_eq, Bool.not_eq_true', decide_eq_false_iff_not, Bool.false_eq_true, if_false, if_true, reduceIte, String.reduceBEq, Bool.true_or, Bool.false_or, Bool.or_false, Bool.and_false, Bool.false_and, Bool.and_true, Bool.true_and, Bool.not_true, Bool.not_false, ne_eq, not_true_eq_false, reduceCtorEq, Bool.true_eq_false, decide_true, decide_false])
      refine ⟨rfl, rfl, sumL L (lotN c), rfl, Nat.lt_of_lt_of_le sl (Nat.pow_le_pow_right (by decide) (by omega)), ?_⟩
      refine ⟨n, ms, sumL L (lotN c), rfl, R, sl, ?_⟩
      cases ca : (ms.any fun m => par (m &&& sumL L (lotN c))) with
      | true =>
        rw [ca, if_pos rfl] at qc
        (try dsimp only [gN, gN2, sNil, sSeq, sExp, sRet, sIf, sPass, sCont, sBrk, sSet, sSetO, sApp, sAppF, sApPop, flatD, sFrz, sAug, sRaise, sAsg, sPut, eV, eC, e1, e2, t2, tBl, tTru, tN, tAn, tOo, tCh, eNot, eAn, eOo, eIf, eTup, eLst, eF, eFld, eIs, eIxO, eLenO, eSl, eRev, eB, eCall, eCallG, eMeth, aN, aC, aV, oNo, oPt, eIsO, oSrtI, oSrtT, oLt, oLe, oReprB, oInI, gN3, eCh, oGt, oGe, oI, oIC, oI1, oAdd, oMul, oIsN, oLen, oList, oTuple, oAbs, oMin2, oInt1, fLst, fListRg1, fList, fRep, fCat, tYs, tru, isS, dats, seqD, seqO, tyS, List.set, List.getElem?_cons_zero, List.getElem?_cons_succ, List.append_eq, List.nil_append, List.cons_append, Option.map_some, Option.bind_some, ng, wipeD, List.length_cons, List.length_nil, Nat.reduceAdd, Nat.reduceSub, List.replicate_succ, List.replicate_zero, eCell, sSetL, bareD,  eCallD, intsS, unS, List.map, oInS, isNumX]; try simp only [decide_eq_true_eq, Bool.not_eq_true', decide_eq_false_iff_not, Bool.false_eq_true, if_false, if_true, reduceIte, String.reduceBEq, Bool.true_or, Bool.false_or, Bool.or_false, Bool.and_false, Bool.false_and, Bool.and_true, Bool.true_and, Bool.not_true, Bool.not_false, ne_eq, not_true_eq_false, reduceCtorEq, Bool.true_eq_false, decide_true, decide_false])
        exact qc
      | false =>
        rw [ca, if_neg (by decide)] at qc
        (try dsimp only [gN, gN2, sNil, sSeq, sExp, sRet, sIf, sPass, sCont, sBrk, sSet, sSetO, sApp, sAppF, sApPop, flatD, sFrz, sAug, sRaise, sAsg, sPut, eV, eC, e1, e2, t2, tBl, tTru, tN, tAn, tOo, tCh, eNot, eAn, eOo, eIf, eTup, eLst, eF, eFld, eIs, eIxO, eLenO, eSl, eRev, eB, eCall, eCallG, eMeth, aN, aC, aV, oNo, oPt, eIsO, oSrtI, oSrtT, oLt, oLe, oReprB, oInI, gN3, eCh, oGt, oGe, oI, oIC, oI1, oAdd, oMul, oIsN, oLen, oList, oTuple, oAbs, oMin2, oInt1, fLst, fListRg1, fList, fRep, fCat, tYs, tru, isS, dats, seqD, seqO, tyS, List.set, List.getElem?_cons_zero, List.getElem?_cons_succ, List.append_eq, List.nil_append, List.cons_append, Option.map_some, Option.bind_some, ng, wipeD, List.length_cons, List.length_nil, Nat.reduceAdd, Nat.reduceSub, List.replicate_succ, List.replicate_zero, eCell, sSetL, bareD,  eCallD, intsS, unS, List.map, oInS, isNumX]; try simp only [decide_eq_true_eq, Bool.not_eq_true', decide_eq_false_iff_not, Bool.false_eq_true, if_false, if_true, reduceIte, String.reduceBEq, Bool.true_or, Bool.false_or, Bool.or_false, Bool.and_false, Bool.false_and, Bool.and_true, Bool.true_and, Bool.not_true, Bool.not_false, ne_eq, not_true_eq_false, reduceCtorEq, Bool.true_eq_false, decide_true, decide_false])
        unfold r_against_fault_6
        (try dsimp only [gN, gN2, sNil, sSeq, sExp, sRet, sIf, sPass, sCont, sBrk, sSet, sSetO, sApp, sAppF, sApPop, flatD, sFrz, sAug, sRaise, sAsg, sPut, eV, eC, e1, e2, t2, tBl, tTru, tN, tAn, tOo, tCh, eNot, eAn, eOo, eIf, eTup, eLst, eF, eFld, eIs, eIxO, eLenO, eSl, eRev, eB, eCall, eCallG, eMeth, aN, aC, aV, oNo, oPt, eIsO, oSrtI, oSrtT, oLt, oLe, oReprB, oInI, gN3, eCh, oGt, oGe, oI, oIC, oI1, oAdd, oMul, oIsN, oLen, oList, oTuple, oAbs, oMin2, oInt1, fLst, fListRg1, fList, fRep, fCat, tYs, tru, isS, dats, seqD, seqO, tyS, List.set, List.getElem?_cons_zero, List.getElem?_cons_succ, List.append_eq, List.nil_append, List.cons_append, Option.map_some, Option.bind_some, ng, wipeD, List.length_cons, List.length_nil, Nat.reduceAdd, Nat.reduceSub, List.replicate_succ, List.replicate_zero, eCell, sSetL, bareD,  eCallD, intsS, unS, List.map, oInS, isNumX]; try simp only [decide_eq_true_eq, Bool.not_eq_true', decide_eq_false_iff_not, Bool.false_eq_true, if_false, if_true, reduceIte, String.reduceBEq, Bool.true_or, Bool.false_or, Bool.or_false, Bool.and_false, Bool.false_and, Bool.and_true, Bool.true_and, Bool.not_true, Bool.not_false, ne_eq, not_true_eq_false, reduceCtorEq, Bool.true_eq_false, decide_true, decide_false])
        refine ⟨by decide, ?_⟩
        by_cases c2 : oneL' L (lotN c) % 2 = 0
        · rw [if_pos c2] at qc
          refine oEq_iT (by omega) ?_
          refine ifT rfl ?_
          exact qc
        · rw [if_neg c2] at qc
          refine oEq_iF (by omega) ?_
          refine ifF (by decide) ?_
          unfold r_against_fault_5
          (try dsimp only [gN, gN2, sNil, sSeq, sExp, sRet, sIf, sPass, sCont, sBrk, sSet, sSetO, sApp, sAppF, sApPop, flatD, sFrz, sAug, sRaise, sAsg, sPut, eV, eC, e1, e2, t2, tBl, tTru, tN, tAn, tOo, tCh, eNot, eAn, eOo, eIf, eTup, eLst, eF, eFld, eIs, eIxO, eLenO, eSl, eRev, eB, eCall, eCallG, eMeth, aN, aC, aV, oNo, oPt, eIsO, oSrtI, oSrtT, oLt, oLe, oReprB, oInI, gN3, eCh, oGt, oGe, oI, oIC, oI1, oAdd, oMul, oIsN, oLen, oList, oTuple, oAbs, oMin2, oInt1, fLst, fListRg1, fList, fRep, fCat, tYs, tru, isS, dats, seqD, seqO, tyS, List.set, List.getElem?_cons_zero, List.getElem?_cons_succ, List.append_eq, List.nil_append, List.cons_append, Option.map_some, Option.bind_some, ng, wipeD, List.length_cons, List.length_nil, Nat.reduceAdd, Nat.reduceSub, List.replicate_succ, List.replicate_zero, eCell, sSetL, bareD,  eCallD, intsS, unS, List.map, oInS, isNumX]; try simp only [decide_eq_true_eq, Bool.not_eq_true', decide_eq_false_iff_not, Bool.false_eq_true, if_false, if_true, reduceIte, String.reduceBEq, Bool.true_or, Bool.false_or, Bool.or_false, Bool.and_false, Bool.false_and, Bool.and_true, Bool.true_and, Bool.not_true, Bool.not_false, ne_eq, not_true_eq_false, reduceCtorEq, Bool.true_eq_false, decide_true, decide_false])
          exact qc
end DL

set_option Elab.async false
set_option linter.all false
set_option maxRecDepth 100000
set_option maxHeartbeats 1000000
set_option exponentiation.threshold 2000
namespace DL
open PySem PySem.Spec PyProof.Rows L2 BT
theorem sem_law_due_f : ∀ as Qd Xd, d_law_due_f as Qd Xd → as.length = ["_law_log_here", "_law_rows", "_law_chosen"].length ∧ r_law_due_f { nx := fun _ => Qd .non, rt := Qd } (as ++ List.replicate (["_law_log_here", "_law_rows", "_law_chosen", "_law_lot_here", "_law_bits", "_law_index", "_law_row_here"].length - as.length) .un) (fun _ => Xd) := by
  rintro as Qd Xd ⟨n, rs, L, c, rfl, hn, hr, lr, ok, lc, q⟩
  refine ⟨rfl, ?_⟩
  have ll := ok.len
  have im : ∀ i ∈ lotN c, i < L.length := fun i hi => lotN_lt lc i hi
  have it : ∀ i, i < L.length → (L.map itL)[i]? = some (itL (atL L i)) := fun i li => by
    rw [List.getElem?_map, List.getElem?_eq_getElem li, atL_of (List.getElem?_eq_getElem li)]; rfl
  unfold r_law_due_f
  (try dsimp only [gN, gN2, sNil, sSeq, sExp, sRet, sIf, sPass, sCont, sBrk, sSet, sSetO, sApp, sAppF, sApPop, flatD, sFrz, sAug, sRaise, sAsg, sPut, eV, eC, e1, e2, t2, tBl, tTru, tN, tAn, tOo, tCh, eNot, eAn, eOo, eIf, eTup, eLst, eF, eFld, eIs, eIxO, eLenO, eSl, eRev, eB, eCall, eCallG, eMeth, aN, aC, aV, oNo, oPt, eIsO, oSrtI, oSrtT, oLt, oLe, oReprB, oInI, gN3, eCh, oGt, oGe, oI, oIC, oI1, oAdd, oMul, oIsN, oLen, oList, oTuple, oAbs, oMin2, oInt1, fLst, fListRg1, fList, fRep, fCat, tYs, tru, isS, dats, seqD, seqO, tyS, List.set, List.getElem?_cons_zero, List.getElem?_cons_succ, List.append_eq, List.nil_append, List.cons_append, Option.map_some, Option.bind_some, ng, wipeD, List.length_cons, List.length_nil, Nat.reduceAdd, Nat.reduceSub, List.replicate_succ, List.replicate_zero, eCell, sSetL, bareD,  eCallD, intsS, unS, List.map, oInS, isNumX]; try simp only [decide_eq_true_eq, Bool.not_eq_true', decide_eq_false_iff_not, Bool.false_eq_true, if_false, if_true, reduceIte, String.reduceBEq, Bool.true_or, Bool.false_or, Bool.or_false, Bool.and_false, Bool.false_and, Bool.and_true, Bool.true_and, Bool.not_true, Bool.not_false, ne_eq, not_true_eq_false, reduceCtorEq, Bool.true_eq_false, decide_true, decide_false])
  unfold sFor
  refine iSqV rfl (d := lotM c) rfl ?_
  refine ⟨fun j ρ => ∃ a5 : Sl, unkF L ((lotN c).take j) = none ∧ ρ = [.dat (.lst (L.map itL)), .dat (.lst (natX rs)), .dat (lotM c), .dat (.int 0), .dat (.int 0), a5, .un], ⟨_, rfl, rfl⟩, ?_, ?_⟩
  · rintro j x ρ hx ⟨a5, hu, rfl⟩
    obtain ⟨i, hi, rfl⟩ := natX_get hx
    have li := im i (List.mem_of_getElem? hi)
    have ti := take_snoc hi
    (try dsimp only [gN, gN2, sNil, sSeq, sExp, sRet, sIf, sPass, sCont, sBrk, sSet, sSetO, sApp, sAppF, sApPop, flatD, sFrz, sAug, sRaise, sAsg, sPut, eV, eC, e1, e2, t2, tBl, tTru, tN, tAn, tOo, tCh, eNot, eAn, eOo, eIf, eTup, eLst, eF, eFld, eIs, eIxO, eLenO, eSl, eRev, eB, eCall, eCallG, eMeth, aN, aC, aV, oNo, oPt, eIsO, oSrtI, oSrtT, oLt, oLe, oReprB, oInI, gN3, eCh, oGt, oGe, oI, oIC, oI1, oAdd, oMul, oIsN, oLen, oList, oTuple, oAbs, oMin2, oInt1, fLst, fListRg1, fList, fRep, fCat, tYs, tru, isS, dats, seqD, seqO, tyS, List.set, List.getElem?_cons_zero, List.getElem?_cons_succ, List.append_eq, List.nil_append, List.cons_append, Option.map_some, Option.bind_some, ng, wipeD, List.length_cons, List.length_nil, Nat.reduceAdd, Nat.reduceSub, List.replicate_succ, List.replicate_zero, eCell, sSetL, bareD,  eCallD, intsS, unS, List.map, oInS, isNumX]; try simp only [decide_eq_true_eq, Bool.not_eq_true', decide_eq_false_iff_not, Bool.false_eq_true, if_false, if_true, reduceIte, String.reduceBEq, Bool.true_or, Bool.false_or, Bool.or_false, Bool.and_false, Bool.false_and, Bool.and_true, Bool.true_and, Bool.not_true, Bool.not_false, ne_eq, not_true_eq_false, reduceCtorEq, Bool.true_eq_false, decide_true, decide_false])
    refine oIx_l (atI_n (it i li)) ?_
    have un := unk_snoc (i := i) hu
    generalize atL L i = y at un ⊢
    obtain ⟨m, o⟩ := y
    unfold itL
    refine oIx_t (d := optI o) rfl ?_
    cases o with
    | none =>
      unfold optI
      (try dsimp only [gN, gN2, sNil, sSeq, sExp, sRet, sIf, sPass, sCont, sBrk, sSet, sSetO, sApp, sAppF, sApPop, flatD, sFrz, sAug, sRaise, sAsg, sPut, eV, eC, e1, e2, t2, tBl, tTru, tN, tAn, tOo, tCh, eNot, eAn, eOo, eIf, eTup, eLst, eF, eFld, eIs, eIxO, eLenO, eSl, eRev, eB, eCall, eCallG, eMeth, aN, aC, aV, oNo, oPt, eIsO, oSrtI, oSrtT, oLt, oLe, oReprB, oInI, gN3, eCh, oGt, oGe, oI, oIC, oI1, oAdd, oMul, oIsN, oLen, oList, oTuple, oAbs, oMin2, oInt1, fLst, fListRg1, fList, fRep, fCat, tYs, tru, isS, dats, seqD, seqO, tyS, List.set, List.getElem?_cons_zero, List.getElem?_cons_succ, List.append_eq, List.nil_append, List.cons_append, Option.map_some, Option.bind_some, ng, wipeD, List.length_cons, List.length_nil, Nat.reduceAdd, Nat.reduceSub, List.replicate_succ, List.replicate_zero, eCell, sSetL, bareD,  eCallD, intsS, unS, List.map, oInS, isNumX]; try simp only [decide_eq_true_eq, Bool.not_eq_true', decide_eq_false_iff_not, Bool.false_eq_true, if_false, if_true, reduceIte, String.reduceBEq, Bool.true_or, Bool.false_or, Bool.or_false, Bool.and_false, Bool.false_and, Bool.and_true, Bool.true_and, Bool.not_true, Bool.not_false, ne_eq, not_true_eq_false, reduceCtorEq, Bool.true_eq_false, decide_true, decide_false])
      unfold afF at q
      have : unkF L (lotN c) = some i := by
        have h1 : unkF L ((lotN c).take (j + 1)) = some i := by rw [ti, un]; rfl
        have := unk_app (js := (lotN c).drop (j + 1)) h1
        rwa [List.take_append_drop] at this
      rw [this] at q
      exact q
    | some b =>
      unfold optI
      (try dsimp only [gN, gN2, sNil, sSeq, sExp, sRet, sIf, sPass, sCont, sBrk, sSet, sSetO, sApp, sAppF, sApPop, flatD, sFrz, sAug, sRaise, sAsg, sPut, eV, eC, e1, e2, t2, tBl, tTru, tN, tAn, tOo, tCh, eNot, eAn, eOo, eIf, eTup, eLst, eF, eFld, eIs, eIxO, eLenO, eSl, eRev, eB, eCall, eCallG, eMeth, aN, aC, aV, oNo, oPt, eIsO, oSrtI, oSrtT, oLt, oLe, oReprB, oInI, gN3, eCh, oGt, oGe, oI, oIC, oI1, oAdd, oMul, oIsN, oLen, oList, oTuple, oAbs, oMin2, oInt1, fLst, fListRg1, fList, fRep, fCat, tYs, tru, isS, dats, seqD, seqO, tyS, List.set, List.getElem?_cons_zero, List.getElem?_cons_succ, List.append_eq, List.nil_append, List.cons_append, Option.map_some, Option.bind_some, ng, wipeD, List.length_cons, List.length_nil, Nat.reduceAdd, Nat.reduceSub, List.replicate_succ, List.replicate_zero, eCell, sSetL, bareD,  eCallD, intsS, unS, List.map, oInS, isNumX]; try simp only [decide_eq_true_eq, Bool.not_eq_true', decide_eq_false_iff_not, Bool.false_eq_true, if_false, if_true, reduceIte, String.reduceBEq, Bool.true_or, Bool.false_or, Bool.or_false, Bool.and_false, Bool.false_and, Bool.and_true, Bool.true_and, Bool.not_true, Bool.not_false, ne_eq, not_true_eq_false, reduceCtorEq, Bool.true_eq_false, decide_true, decide_false])
      refine ⟨.dat (.int (i : Nat)), ?_, rfl⟩
      rw [ti, un]; rfl
  · rintro ρ ⟨a5, hu, rfl⟩
    have lx : (natX (lotN c)).length = (lotN c).length := natX_len _
    rw [lx, List.take_of_length_le (Nat.le_refl _)] at hu
    (try dsimp only [gN, gN2, sNil, sSeq, sExp, sRet, sIf, sPass, sCont, sBrk, sSet, sSetO, sApp, sAppF, sApPop, flatD, sFrz, sAug, sRaise, sAsg, sPut, eV, eC, e1, e2, t2, tBl, tTru, tN, tAn, tOo, tCh, eNot, eAn, eOo, eIf, eTup, eLst, eF, eFld, eIs, eIxO, eLenO, eSl, eRev, eB, eCall, eCallG, eMeth, aN, aC, aV, oNo, oPt, eIsO, oSrtI, oSrtT, oLt, oLe, oReprB, oInI, gN3, eCh, oGt, oGe, oI, oIC, oI1, oAdd, oMul, oIsN, oLen, oList, oTuple, oAbs, oMin2, oInt1, fLst, fListRg1, fList, fRep, fCat, tYs, tru, isS, dats, seqD, seqO, tyS, List.set, List.getElem?_cons_zero, List.getElem?_cons_succ, List.append_eq, List.nil_append, List.cons_append, Option.map_some, Option.bind_some, ng, wipeD, List.length_cons, List.length_nil, Nat.reduceAdd, Nat.reduceSub, List.replicate_succ, List.replicate_zero, eCell, sSetL, bareD,  eCallD, intsS, unS, List.map, oInS, isNumX]; try simp only [decide_eq_true_eq, Bool.not_eq_true', decide_eq_false_iff_not, Bool.false_eq_true, if_false, if_true, reduceIte, String.reduceBEq, Bool.true_or, Bool.false_or, Bool.or_false, Bool.and_false, Bool.false_and, Bool.and_true, Bool.true_and, Bool.not_true, Bool.not_false, ne_eq, not_true_eq_false, reduceCtorEq, Bool.true_eq_false, decide_true, decide_false])
    refine iSqV rfl (d := lotM c) rfl ?_
    refine ⟨fun j ρ => ∃ a5 : Sl, ρ = [.dat (.lst (L.map itL)), .dat (.lst (natX rs)), .dat (lotM c), .dat (.int (sumL L ((lotN c).take j) : Nat)), .dat (.int (oneL' L ((lotN c).take j) : Nat)), a5, .un], ⟨_, rfl⟩, ?_, ?_⟩
    · rintro j x ρ hx ⟨a5, rfl⟩
      obtain ⟨i, hi, rfl⟩ := natX_get hx
      have mi := List.mem_of_getElem? hi
      have li := im i mi
      have ti := take_snoc hi
      have kn : (atL L i).2.isNone = false := by
        unfold unkF at hu
        have := List.find?_eq_none.mp hu i mi
        cases h : (atL L i).2.isNone with
        | false => rfl
        | true => exact absurd h this
      (try dsimp only [gN, gN2, sNil, sSeq, sExp, sRet, sIf, sPass, sCont, sBrk, sSet, sSetO, sApp, sAppF, sApPop, flatD, sFrz, sAug, sRaise, sAsg, sPut, eV, eC, e1, e2, t2, tBl, tTru, tN, tAn, tOo, tCh, eNot, eAn, eOo, eIf, eTup, eLst, eF, eFld, eIs, eIxO, eLenO, eSl, eRev, eB, eCall, eCallG, eMeth, aN, aC, aV, oNo, oPt, eIsO, oSrtI, oSrtT, oLt, oLe, oReprB, oInI, gN3, eCh, oGt, oGe, oI, oIC, oI1, oAdd, oMul, oIsN, oLen, oList, oTuple, oAbs, oMin2, oInt1, fLst, fListRg1, fList, fRep, fCat, tYs, tru, isS, dats, seqD, seqO, tyS, List.set, List.getElem?_cons_zero, List.getElem?_cons_succ, List.append_eq, List.nil_append, List.cons_append, Option.map_some, Option.bind_some, ng, wipeD, List.length_cons, List.length_nil, Nat.reduceAdd, Nat.reduceSub, List.replicate_succ, List.replicate_zero, eCell, sSetL, bareD,  eCallD, intsS, unS, List.map, oInS, isNumX]; try simp only [decide_eq_true_eq, Bool.not_eq_true', decide_eq_false_iff_not, Bool.false_eq_true, if_false, if_true, reduceIte, String.reduceBEq, Bool.true_or, Bool.false_or, Bool.or_false, Bool.and_false, Bool.false_and, Bool.and_true, Bool.true_and, Bool.not_true, Bool.not_false, ne_eq, not_true_eq_false, reduceCtorEq, Bool.true_eq_false, decide_true, decide_false])
      have it1 := it i li
      have e1 := sum_snocL L ((lotN c).take j) i
      have e2 := one_snocL L ((lotN c).take j) i
      generalize atL L i = y at it1 e1 e2 kn
      obtain ⟨m, o⟩ := y
      cases o with
      | none => cases kn
      | some b =>
        refine oIx_l (atI_n it1) ?_
        unfold itL
        refine oIx_t (d := .int (m : Int)) rfl ?_
        (try dsimp only [gN, gN2, sNil, sSeq, sExp, sRet, sIf, sPass, sCont, sBrk, sSet, sSetO, sApp, sAppF, sApPop, flatD, sFrz, sAug, sRaise, sAsg, sPut, eV, eC, e1, e2, t2, tBl, tTru, tN, tAn, tOo, tCh, eNot, eAn, eOo, eIf, eTup, eLst, eF, eFld, eIs, eIxO, eLenO, eSl, eRev, eB, eCall, eCallG, eMeth, aN, aC, aV, oNo, oPt, eIsO, oSrtI, oSrtT, oLt, oLe, oReprB, oInI, gN3, eCh, oGt, oGe, oI, oIC, oI1, oAdd, oMul, oIsN, oLen, oList, oTuple, oAbs, oMin2, oInt1, fLst, fListRg1, fList, fRep, fCat, tYs, tru, isS, dats, seqD, seqO, tyS, List.set, List.getElem?_cons_zero, List.getElem?_cons_succ, List.append_eq, List.nil_append, List.cons_append, Option.map_some, Option.bind_some, ng, wipeD, List.length_cons, List.length_nil, Nat.reduceAdd, Nat.reduceSub, List.replicate_succ, List.replicate_zero, eCell, sSetL, bareD,  eCallD, intsS, unS, List.map, oInS, isNumX]; try simp only [decide_eq_true_eq, Bool.not_eq_true', decide_eq_false_iff_not, Bool.false_eq_true, if_false, if_true, reduceIte, String.reduceBEq, Bool.true_or, Bool.false_or, Bool.or_false, Bool.and_false, Bool.false_and, Bool.and_true, Bool.true_and, Bool.not_true, Bool.not_false, ne_eq, not_true_eq_false, reduceCtorEq, Bool.true_eq_false, decide_true, decide_false])
        rw [bitXor_nat]
        refine oIx_l (atI_n it1) ?_
        unfold itL
        refine oIx_t (d := .int (b : Int)) rfl ?_
        (try dsimp only [gN, gN2, sNil, sSeq, sExp, sRet, sIf, sPass, sCont, sBrk, sSet, sSetO, sApp, sAppF, sApPop, flatD, sFrz, sAug, sRaise, sAsg, sPut, eV, eC, e1, e2, t2, tBl, tTru, tN, tAn, tOo, tCh, eNot, eAn, eOo, eIf, eTup, eLst, eF, eFld, eIs, eIxO, eLenO, eSl, eRev, eB, eCall, eCallG, eMeth, aN, aC, aV, oNo, oPt, eIsO, oSrtI, oSrtT, oLt, oLe, oReprB, oInI, gN3, eCh, oGt, oGe, oI, oIC, oI1, oAdd, oMul, oIsN, oLen, oList, oTuple, oAbs, oMin2, oInt1, fLst, fListRg1, fList, fRep, fCat, tYs, tru, isS, dats, seqD, seqO, tyS, List.set, List.getElem?_cons_zero, List.getElem?_cons_succ, List.append_eq, List.nil_append, List.cons_append, Option.map_some, Option.bind_some, ng, wipeD, List.length_cons, List.length_nil, Nat.reduceAdd, Nat.reduceSub, List.replicate_succ, List.replicate_zero, eCell, sSetL, bareD,  eCallD, intsS, unS, List.map, oInS, isNumX]; try simp only [decide_eq_true_eq, Bool.not_eq_true', decide_eq_false_iff_not, Bool.false_eq_true, if_false, if_true, reduceIte, String.reduceBEq, Bool.true_or, Bool.false_or, Bool.or_false, Bool.and_false, Bool.false_and, Bool.and_true, Bool.true_and, Bool.not_true, Bool.not_false, ne_eq, not_true_eq_false, reduceCtorEq, Bool.true_eq_false, decide_true, decide_false])
        refine ⟨.dat (.int (i : Nat)), ?_⟩
        rw [ti, e1, e2, Int.natCast_add]; rfl
    · rintro ρ ⟨a5, rfl⟩
      rw [lx, List.take_of_length_le (Nat.le_refl _)]
      have sl := sumL_lt ok (lotN c) im
      have p24 := powN24 hn
      unfold afF at q
      rw [hu] at q
      dsimp only at q
      (try dsimp only [gN, gN2, sNil, sSeq, sExp, sRet, sIf, sPass, sCont, sBrk, sSet, sSetO, sApp, sAppF, sApPop, flatD, sFrz, sAug, sRaise, sAsg, sPut, eV, eC, e1, e2, t2, tBl, tTru, tN, tAn, tOo, tCh, eNot, eAn, eOo, eIf, eTup, eLst, eF, eFld, eIs, eIxO, eLenO, eSl, eRev, eB, eCall, eCallG, eMeth, aN, aC, aV, oNo, oPt, eIsO, oSrtI, oSrtT, oLt, oLe, oReprB, oInI, gN3, eCh, oGt, oGe, oI, oIC, oI1, oAdd, oMul, oIsN, oLen, oList, oTuple, oAbs, oMin2, oInt1, fLst, fListRg1, fList, fRep, fCat, tYs, tru, isS, dats, seqD, seqO, tyS, List.set, List.getElem?_cons_zero, List.getElem?_cons_succ, List.append_eq, List.nil_append, List.cons_append, Option.map_some, Option.bind_some, ng, wipeD, List.length_cons, List.length_nil, Nat.reduceAdd, Nat.reduceSub, List.replicate_succ, List.replicate_zero, eCell, sSetL, bareD,  eCallD, intsS, unS, List.map, oInS, isNumX]; try simp only [decide_eq_true_eq, Bool.not_eq_true', decide_eq_false_iff_not, Bool.false_eq_true, if_false, if_true, reduceIte, String.reduceBEq, Bool.true_or, Bool.false_or, Bool.or_false, Bool.and_false, Bool.false_and, Bool.and_true, Bool.true_and, Bool.not_true, Bool.not_false, ne_eq, not_true_eq_false, reduceCtorEq, Bool.true_eq_false, decide_true, decide_false])
      refine lcBl rs (fun m => par (m &&& sumL L (lotN c))) (fun R r => iSqV rfl rfl r) (by omega) (fun r hr' Q' q' => ?_) ?_
      · (try dsimp only [gN, gN2, sNil, sSeq, sExp, sRet, sIf, sPass, sCont, sBrk, sSet, sSetO, sApp, sAppF, sApPop, flatD, sFrz, sAug, sRaise, sAsg, sPut, eV, eC, e1, e2, t2, tBl, tTru, tN, tAn, tOo, tCh, eNot, eAn, eOo, eIf, eTup, eLst, eF, eFld, eIs, eIxO, eLenO, eSl, eRev, eB, eCall, eCallG, eMeth, aN, aC, aV, oNo, oPt, eIsO, oSrtI, oSrtT, oLt, oLe, oReprB, oInI, gN3, eCh, oGt, oGe, oI, oIC, oI1, oAdd, oMul, oIsN, oLen, oList, oTuple, oAbs, oMin2, oInt1, fLst, fListRg1, fList, fRep, fCat, tYs, tru, isS, dats, seqD, seqO, tyS, List.set, List.getElem?_cons_zero, List.getElem?_cons_succ, List.append_eq, List.nil_append, List.cons_append, Option.map_some, Option.bind_some, ng, wipeD, List.length_cons, List.length_nil, Nat.reduceAdd, Nat.reduceSub, List.replicate_succ, List.replicate_zero, eCell, sSetL, bareD,  eCallD, intsS, unS, List.map, oInS, isNumX]; try simp only [decide_eq_true_eq, Bool.not_eq_true', decide_eq_false_iff_not, Bool.false_eq_true, if_false, if_true, reduceIte, String.reduceBEq, Bool.true_or, Bool.false_or, Bool.or_false, Bool.and_false, Bool.false_and, Bool.and_true, Bool.true_and, Bool.not_true, Bool.not_false, ne_eq, not_true_eq_false, reduceCtorEq, Bool.true_eq_false, decide_true, decide_false])
        rw [bitAnd_nat]
        exact ⟨r &&& sumL L (lotN c), rfl, Nat.lt_of_le_of_lt Nat.and_le_right (by omega), q'⟩
      · refine any_bl ?_
        rw [List.any_map]
        cases ca : (rs.any fun m => par (m &&& sumL L (lotN c))) with
        | true =>
          rw [ca, if_pos rfl] at q
          rw [show (rs.any (id ∘ fun m => par (m &&& sumL L (lotN c)))) = true from ca]
          exact q
        | false =>
          rw [ca, if_neg (by decide)] at q
          rw [show (rs.any (id ∘ fun m => par (m &&& sumL L (lotN c)))) = false from ca]
          (try dsimp only [gN, gN2, sNil, sSeq, sExp, sRet, sIf, sPass, sCont, sBrk, sSet, sSetO, sApp, sAppF, sApPop, flatD, sFrz, sAug, sRaise, sAsg, sPut, eV, eC, e1, e2, t2, tBl, tTru, tN, tAn, tOo, tCh, eNot, eAn, eOo, eIf, eTup, eLst, eF, eFld, eIs, eIxO, eLenO, eSl, eRev, eB, eCall, eCallG, eMeth, aN, aC, aV, oNo, oPt, eIsO, oSrtI, oSrtT, oLt, oLe, oReprB, oInI, gN3, eCh, oGt, oGe, oI, oIC, oI1, oAdd, oMul, oIsN, oLen, oList, oTuple, oAbs, oMin2, oInt1, fLst, fListRg1, fList, fRep, fCat, tYs, tru, isS, dats, seqD, seqO, tyS, List.set, List.getElem?_cons_zero, List.getElem?_cons_succ, List.append_eq, List.nil_append, List.cons_append, Option.map_some, Option.bind_some, ng, wipeD, List.length_cons, List.length_nil, Nat.reduceAdd, Nat.reduceSub, List.replicate_succ, List.replicate_zero, eCell, sSetL, bareD,  eCallD, intsS, unS, List.map, oInS, isNumX]; try simp only [decide_eq_true_eq, Bool.not_eq_true', decide_eq_false_iff_not, Bool.false_eq_true, if_false, if_true, reduceIte, String.reduceBEq, Bool.true_or, Bool.false_or, Bool.or_false, Bool.and_false, Bool.false_and, Bool.and_true, Bool.true_and, Bool.not_true, Bool.not_false, ne_eq, not_true_eq_false, reduceCtorEq, Bool.true_eq_false, decide_true, decide_false])
          rw [show Builtin.bitAnd ((oneL' L (lotN c) : Nat) : Int) 1 = ((oneL' L (lotN c) % 2 : Nat) : Int) from by rw [show (1 : Int) = ((1 : Nat) : Int) from rfl, bitAnd_nat, Nat.and_one_is_mod]]
          by_cases c2 : oneL' L (lotN c) % 2 = 0
          · rw [if_pos c2] at q
            refine oEq_iT (by omega) ?_
            refine ifT rfl ?_
            exact q
          · rw [if_neg c2] at q
            refine oEq_iF (by omega) ?_
            refine ifF (by decide) ?_
            exact q
end DL

set_option Elab.async false
set_option linter.all false
set_option maxRecDepth 100000
set_option maxHeartbeats 1000000
set_option exponentiation.threshold 2000
namespace DL
open PySem PySem.Spec PyProof.Rows L2 BT
theorem log_1 {De : DEnds} {Ed : DXt} {n i : Nat} {rs : List Nat} {L : List LI} {k : Int} {m : Nat} (l6 : L.length ≤ 6)
    (hq : ∀ o : Option Nat, (∀ b, o = some b → b ≤ 1) → De.nx [.src, .dat (.int (n : Int)), .dat (.lst (natX rs)), .own ((L ++ [(m, o)]).map itL), .dat (.int (i : Int)), .dat (.int k), .dat (.int (m : Int))]) : r_law_log_1 De [.src, .dat (.int (n : Int)), .dat (.lst (natX rs)), .own (L.map itL), .dat (.int (i : Int)), .dat (.int k), .dat (.int (m : Int))] Ed := by
  have fin : ∀ o : Option Nat, (∀ b, o = some b → b ≤ 1) → (L.map itL).length < 1000000 ∧ De.nx [.src, .dat (.int (n : Int)), .dat (.lst (natX rs)), .own (L.map itL ++ [.tup [.int (m : Int), optI o]]), .dat (.int (i : Int)), .dat (.int k), .dat (.int (m : Int))] := fun o ho => by
    have := hq o ho
    rw [List.map_append] at this
    exact ⟨by rw [List.length_map]; omega, this⟩
  unfold r_law_log_1
  (try dsimp only [gN, gN2, sNil, sSeq, sExp, sRet, sIf, sPass, sCont, sBrk, sSet, sSetO, sApp, sAppF, sApPop, flatD, sFrz, sAug, sRaise, sAsg, sPut, eV, eC, e1, e2, t2, tBl, tTru, tN, tAn, tOo, tCh, eNot, eAn, eOo, eIf, eTup, eLst, eF, eFld, eIs, eIxO, eLenO, eSl, eRev, eB, eCall, eCallG, eMeth, aN, aC, aV, oNo, oPt, eIsO, oSrtI, oSrtT, oLt, oLe, oReprB, oInI, gN3, eCh, oGt, oGe, oI, oIC, oI1, oAdd, oMul, oIsN, oLen, oList, oTuple, oAbs, oMin2, oInt1, fLst, fListRg1, fList, fRep, fCat, tYs, tru, isS, dats, seqD, seqO, tyS, List.set, List.getElem?_cons_zero, List.getElem?_cons_succ, List.append_eq, List.nil_append, List.cons_append, Option.map_some, Option.bind_some, ng, wipeD, List.length_cons, List.length_nil, Nat.reduceAdd, Nat.reduceSub, List.replicate_succ, List.replicate_zero, eCell, sSetL, bareD,  eCallD, intsS, unS, List.map, oInS, isNumX]; try simp only [decide_eq_true_eq, Bool.not_eq_true', decide_eq_false_iff_not, Bool.false_eq_true, if_false, if_true, reduceIte, String.reduceBEq, Bool.true_or, Bool.false_or, Bool.or_false, Bool.and_false, Bool.false_and, Bool.and_true, Bool.true_and, Bool.not_true, Bool.not_false, ne_eq, not_true_eq_false, reduceCtorEq, Bool.true_eq_false, decide_true, decide_false])
  refine ⟨_, rfl, by decide, by decide, fun y y0 y1 => ?_⟩
  obtain ⟨y, rfl⟩ := Int.eq_ofNat_of_zero_le y0
  have z0 : ∀ b, some 0 = some b → b ≤ 1 := fun b e => by injection e with e; omega
  have z1 : ∀ b, some 1 = some b → b ≤ 1 := fun b e => by injection e with e; omega
  rcases (by omega : y = 0 ∨ y = 1 ∨ y = 2 ∨ y = 3 ∨ y = 4 ∨ y = 5 ∨ y = 6) with rfl | rfl | rfl | rfl | rfl | rfl | rfl
  · exact oIx_l (d := .int ((0 : Nat) : Int)) rfl (fin (some 0) z0)
  · exact oIx_l (d := .int ((1 : Nat) : Int)) rfl (fin (some 1) z1)
  · exact oIx_l (d := .int ((0 : Nat) : Int)) rfl (fin (some 0) z0)
  · exact oIx_l (d := .int ((1 : Nat) : Int)) rfl (fin (some 1) z1)
  · exact oIx_l (d := .int ((1 : Nat) : Int)) rfl (fin (some 1) z1)
  · exact oIx_l (d := .int ((0 : Nat) : Int)) rfl (fin (some 0) z0)
  · exact oIx_l (d := .non) rfl (fin none fun b e => by cases e)
theorem sem_law_log_f : ∀ as Qd Xd, d_law_log_f as Qd Xd → as.length = ["_law_source_here", "_law_size", "_law_rows"].length ∧ r_law_log_f { nx := fun _ => Qd .non, rt := Qd } (as ++ List.replicate (["_law_source_here", "_law_size", "_law_rows", "_law_log_here", "_law_k", "_law_kind", "_law_lot_here"].length - as.length) .un) (fun _ => Xd) := by
  rintro as Qd Xd ⟨n, rs, rfl, hn, hr, lr, q⟩
  refine ⟨rfl, ?_⟩
  have p0 := Nat.two_pow_pos n
  unfold r_law_log_f
  (try dsimp only [gN, gN2, sNil, sSeq, sExp, sRet, sIf, sPass, sCont, sBrk, sSet, sSetO, sApp, sAppF, sApPop, flatD, sFrz, sAug, sRaise, sAsg, sPut, eV, eC, e1, e2, t2, tBl, tTru, tN, tAn, tOo, tCh, eNot, eAn, eOo, eIf, eTup, eLst, eF, eFld, eIs, eIxO, eLenO, eSl, eRev, eB, eCall, eCallG, eMeth, aN, aC, aV, oNo, oPt, eIsO, oSrtI, oSrtT, oLt, oLe, oReprB, oInI, gN3, eCh, oGt, oGe, oI, oIC, oI1, oAdd, oMul, oIsN, oLen, oList, oTuple, oAbs, oMin2, oInt1, fLst, fListRg1, fList, fRep, fCat, tYs, tru, isS, dats, seqD, seqO, tyS, List.set, List.getElem?_cons_zero, List.getElem?_cons_succ, List.append_eq, List.nil_append, List.cons_append, Option.map_some, Option.bind_some, ng, wipeD, List.length_cons, List.length_nil, Nat.reduceAdd, Nat.reduceSub, List.replicate_succ, List.replicate_zero, eCell, sSetL, bareD,  eCallD, intsS, unS, List.map, oInS, isNumX]; try simp only [decide_eq_true_eq, Bool.not_eq_true', decide_eq_false_iff_not, Bool.false_eq_true, if_false, if_true, reduceIte, String.reduceBEq, Bool.true_or, Bool.false_or, Bool.or_false, Bool.and_false, Bool.false_and, Bool.and_true, Bool.true_and, Bool.not_true, Bool.not_false, ne_eq, not_true_eq_false, reduceCtorEq, Bool.true_eq_false, decide_true, decide_false])
  unfold r_law_log_9
  (try dsimp only [gN, gN2, sNil, sSeq, sExp, sRet, sIf, sPass, sCont, sBrk, sSet, sSetO, sApp, sAppF, sApPop, flatD, sFrz, sAug, sRaise, sAsg, sPut, eV, eC, e1, e2, t2, tBl, tTru, tN, tAn, tOo, tCh, eNot, eAn, eOo, eIf, eTup, eLst, eF, eFld, eIs, eIxO, eLenO, eSl, eRev, eB, eCall, eCallG, eMeth, aN, aC, aV, oNo, oPt, eIsO, oSrtI, oSrtT, oLt, oLe, oReprB, oInI, gN3, eCh, oGt, oGe, oI, oIC, oI1, oAdd, oMul, oIsN, oLen, oList, oTuple, oAbs, oMin2, oInt1, fLst, fListRg1, fList, fRep, fCat, tYs, tru, isS, dats, seqD, seqO, tyS, List.set, List.getElem?_cons_zero, List.getElem?_cons_succ, List.append_eq, List.nil_append, List.cons_append, Option.map_some, Option.bind_some, ng, wipeD, List.length_cons, List.length_nil, Nat.reduceAdd, Nat.reduceSub, List.replicate_succ, List.replicate_zero, eCell, sSetL, bareD,  eCallD, intsS, unS, List.map, oInS, isNumX]; try simp only [decide_eq_true_eq, Bool.not_eq_true', decide_eq_false_iff_not, Bool.false_eq_true, if_false, if_true, reduceIte, String.reduceBEq, Bool.true_or, Bool.false_or, Bool.or_false, Bool.and_false, Bool.false_and, Bool.and_true, Bool.true_and, Bool.not_true, Bool.not_false, ne_eq, not_true_eq_false, reduceCtorEq, Bool.true_eq_false, decide_true, decide_false])
  unfold sFor iRg1
  (try dsimp only [gN, gN2, sNil, sSeq, sExp, sRet, sIf, sPass, sCont, sBrk, sSet, sSetO, sApp, sAppF, sApPop, flatD, sFrz, sAug, sRaise, sAsg, sPut, eV, eC, e1, e2, t2, tBl, tTru, tN, tAn, tOo, tCh, eNot, eAn, eOo, eIf, eTup, eLst, eF, eFld, eIs, eIxO, eLenO, eSl, eRev, eB, eCall, eCallG, eMeth, aN, aC, aV, oNo, oPt, eIsO, oSrtI, oSrtT, oLt, oLe, oReprB, oInI, gN3, eCh, oGt, oGe, oI, oIC, oI1, oAdd, oMul, oIsN, oLen, oList, oTuple, oAbs, oMin2, oInt1, fLst, fListRg1, fList, fRep, fCat, tYs, tru, isS, dats, seqD, seqO, tyS, List.set, List.getElem?_cons_zero, List.getElem?_cons_succ, List.append_eq, List.nil_append, List.cons_append, Option.map_some, Option.bind_some, ng, wipeD, List.length_cons, List.length_nil, Nat.reduceAdd, Nat.reduceSub, List.replicate_succ, List.replicate_zero, eCell, sSetL, bareD,  eCallD, intsS, unS, List.map, oInS, isNumX]; try simp only [decide_eq_true_eq, Bool.not_eq_true', decide_eq_false_iff_not, Bool.false_eq_true, if_false, if_true, reduceIte, String.reduceBEq, Bool.true_or, Bool.false_or, Bool.or_false, Bool.and_false, Bool.false_and, Bool.and_true, Bool.true_and, Bool.not_true, Bool.not_false, ne_eq, not_true_eq_false, reduceCtorEq, Bool.true_eq_false, decide_true, decide_false])
  refine ⟨_, rfl, by decide, by decide, fun t t0 t1 => ?_⟩
  obtain ⟨t, rfl⟩ := Int.eq_ofNat_of_zero_le t0
  (try dsimp only [gN, gN2, sNil, sSeq, sExp, sRet, sIf, sPass, sCont, sBrk, sSet, sSetO, sApp, sAppF, sApPop, flatD, sFrz, sAug, sRaise, sAsg, sPut, eV, eC, e1, e2, t2, tBl, tTru, tN, tAn, tOo, tCh, eNot, eAn, eOo, eIf, eTup, eLst, eF, eFld, eIs, eIxO, eLenO, eSl, eRev, eB, eCall, eCallG, eMeth, aN, aC, aV, oNo, oPt, eIsO, oSrtI, oSrtT, oLt, oLe, oReprB, oInI, gN3, eCh, oGt, oGe, oI, oIC, oI1, oAdd, oMul, oIsN, oLen, oList, oTuple, oAbs, oMin2, oInt1, fLst, fListRg1, fList, fRep, fCat, tYs, tru, isS, dats, seqD, seqO, tyS, List.set, List.getElem?_cons_zero, List.getElem?_cons_succ, List.append_eq, List.nil_append, List.cons_append, Option.map_some, Option.bind_some, ng, wipeD, List.length_cons, List.length_nil, Nat.reduceAdd, Nat.reduceSub, List.replicate_succ, List.replicate_zero, eCell, sSetL, bareD,  eCallD, intsS, unS, List.map, oInS, isNumX]; try simp only [decide_eq_true_eq, Bool.not_eq_true', decide_eq_false_iff_not, Bool.false_eq_true, if_false, if_true, reduceIte, String.reduceBEq, Bool.true_or, Bool.false_or, Bool.or_false, Bool.and_false, Bool.false_and, Bool.and_true, Bool.true_and, Bool.not_true, Bool.not_false, ne_eq, not_true_eq_false, reduceCtorEq, Bool.true_eq_false, decide_true, decide_false])
  rw [Int.toNat_natCast, rg_nat]
  refine ⟨by omega, by omega, fun i ρ => ∃ (L : List LI) (a b c : Sl), L.length = i ∧ LogOk n L ∧ ρ = [.src, .dat (.int (n : Int)), .dat (.lst (natX rs)), .own (L.map itL), a, b, c], ⟨[], _, _, _, rfl, ⟨by decide, by simp, by simp⟩, rfl⟩, ?_, ?_⟩
  · rintro i x ρ hx ⟨L, a, b, c, ll, ok, rfl⟩
    obtain ⟨i', hi', rfl⟩ := natX_get hx
    have li : i < t := by
      have := (List.getElem?_eq_some_iff.mp hi').1
      rwa [List.length_range] at this
    rw [List.getElem?_range li] at hi'
    cases Option.some.inj hi'
    have at0 : ∀ j : Nat, j < L.length → ∃ m, m < 2 ^ n ∧ ∃ o, (L.map itL)[j]? = some (.tup [.int ((m : Nat) : Int), o]) := fun j hj => by
      refine ⟨(L[j]).1, ok.lt _ (List.getElem_mem hj), optI (L[j]).2, ?_⟩
      rw [List.getElem?_map, List.getElem?_eq_getElem hj]; rfl
    have h1 : ∀ (De : DEnds) (Ed : DXt) (k : Int) (m : Nat), m < 2 ^ n → (∀ ρ, (∃ (L : List LI) (a b c : Sl), L.length = i + 1 ∧ LogOk n L ∧ ρ = [.src, .dat (.int (n : Int)), .dat (.lst (natX rs)), .own (L.map itL), a, b, c]) → De.nx ρ) → r_law_log_1 De [.src, .dat (.int (n : Int)), .dat (.lst (natX rs)), .own (L.map itL), .dat (.int (i : Int)), .dat (.int k), .dat (.int (m : Int))] Ed := fun De Ed k m hm hq => log_1 (by omega) fun o ho => hq _ ⟨L ++ [(m, o)], _, _, _, by rw [List.length_append, ll]; rfl, ⟨by rw [List.length_append, List.length_singleton]; omega, fun x hx => by
      rcases List.mem_append.mp hx with g | g
      · exact ok.lt x g
      · rw [List.mem_singleton.mp g]; exact hm, fun x hx b hb => by
      rcases List.mem_append.mp hx with g | g
      · exact ok.bit x g b hb
      · rw [List.mem_singleton.mp g] at hb; exact ho b hb⟩, rfl⟩
    have h2 : ∀ (De : DEnds) (Ed : DXt) (k : Int) (m : Nat), m < 2 ^ n → (∀ ρ, (∃ (L : List LI) (a b c : Sl), L.length = i + 1 ∧ LogOk n L ∧ ρ = [.src, .dat (.int (n : Int)), .dat (.lst (natX rs)), .own (L.map itL), a, b, c]) → De.nx ρ) → r_law_log_2 De [.src, .dat (.int (n : Int)), .dat (.lst (natX rs)), .own (L.map itL), .dat (.int (i : Int)), .dat (.int k), .dat (.int (m : Int))] Ed := fun De Ed k m hm hq => by
      unfold r_law_log_2
      (try dsimp only [gN, gN2, sNil, sSeq, sExp, sRet, sIf, sPass, sCont, sBrk, sSet, sSetO, sApp, sAppF, sApPop, flatD, sFrz, sAug, sRaise, sAsg, sPut, eV, eC, e1, e2, t2, tBl, tTru, tN, tAn, tOo, tCh, eNot, eAn, eOo, eIf, eTup, eLst, eF, eFld, eIs, eIxO, eLenO, eSl, eRev, eB, eCall, eCallG, eMeth, aN, aC, aV, oNo, oPt, eIsO, oSrtI, oSrtT, oLt, oLe, oReprB, oInI, gN3, eCh, oGt, oGe, oI, oIC, oI1, oAdd, oMul, oIsN, oLen, oList, oTuple, oAbs, oMin2, oInt1, fLst, fListRg1, fList, fRep, fCat, tYs, tru, isS, dats, seqD, seqO, tyS, List.set, List.getElem?_cons_zero, List.getElem?_cons_succ, List.append_eq, List.nil_append, List.cons_append, Option.map_some, Option.bind_some, ng, wipeD, List.length_cons, List.length_nil, Nat.reduceAdd, Nat.reduceSub, List.replicate_succ, List.replicate_zero, eCell, sSetL, bareD,  eCallD, intsS, unS, List.map, oInS, isNumX]; try simp only [decide_eq_true_eq, Bool.not_eq_true', decide_eq_false_iff_not, Bool.false_eq_true, if_false, if_true, reduceIte, String.reduceBEq, Bool.true_or, Bool.false_or, Bool.or_false, Bool.and_false, Bool.false_and, Bool.and_true, Bool.true_and, Bool.not_true, Bool.not_false, ne_eq, not_true_eq_false, reduceCtorEq, Bool.true_eq_false, decide_true, decide_false])
      by_cases c4 : k = 4
      · refine oEq_iT c4 ?_
        refine ifT rfl ?_
        by_cases c0 : 0 < i
        · refine ifT (by omega) ?_
          refine ⟨_, rfl, by omega, by omega, fun y y0 y1 => ?_⟩
          obtain ⟨y, rfl⟩ := Int.eq_ofNat_of_zero_le y0
          obtain ⟨m', hm', o, eo⟩ := at0 y (by omega)
          (try dsimp only [gN, gN2, sNil, sSeq, sExp, sRet, sIf, sPass, sCont, sBrk, sSet, sSetO, sApp, sAppF, sApPop, flatD, sFrz, sAug, sRaise, sAsg, sPut, eV, eC, e1, e2, t2, tBl, tTru, tN, tAn, tOo, tCh, eNot, eAn, eOo, eIf, eTup, eLst, eF, eFld, eIs, eIxO, eLenO, eSl, eRev, eB, eCall, eCallG, eMeth, aN, aC, aV, oNo, oPt, eIsO, oSrtI, oSrtT, oLt, oLe, oReprB, oInI, gN3, eCh, oGt, oGe, oI, oIC, oI1, oAdd, oMul, oIsN, oLen, oList, oTuple, oAbs, oMin2, oInt1, fLst, fListRg1, fList, fRep, fCat, tYs, tru, isS, dats, seqD, seqO, tyS, List.set, List.getElem?_cons_zero, List.getElem?_cons_succ, List.append_eq, List.nil_append, List.cons_append, Option.map_some, Option.bind_some, ng, wipeD, List.length_cons, List.length_nil, Nat.reduceAdd, Nat.reduceSub, List.replicate_succ, List.replicate_zero, eCell, sSetL, bareD,  eCallD, intsS, unS, List.map, oInS, isNumX]; try simp only [decide_eq_true_eq, Bool.not_eq_true', decide_eq_false_iff_not, Bool.false_eq_true, if_false, if_true, reduceIte, String.reduceBEq, Bool.true_or, Bool.false_or, Bool.or_false, Bool.and_false, Bool.false_and, Bool.and_true, Bool.true_and, Bool.not_true, Bool.not_false, ne_eq, not_true_eq_false, reduceCtorEq, Bool.true_eq_false, decide_true, decide_false])
          rw [atI_n eo]
          refine oIx_t (d := .int (m' : Int)) rfl ?_
          exact h1 De Ed k m' hm' hq
        · refine ifF (by omega) ?_
          exact h1 De Ed k m hm hq
      · refine oEq_iF c4 ?_
        refine ifF (by decide) ?_
        exact h1 De Ed k m hm hq
    have h3 : ∀ (De : DEnds) (Ed : DXt) (k : Int) (m : Nat), m < 2 ^ n → (∀ ρ, (∃ (L : List LI) (a b c : Sl), L.length = i + 1 ∧ LogOk n L ∧ ρ = [.src, .dat (.int (n : Int)), .dat (.lst (natX rs)), .own (L.map itL), a, b, c]) → De.nx ρ) → r_law_log_3 De [.src, .dat (.int (n : Int)), .dat (.lst (natX rs)), .own (L.map itL), .dat (.int (i : Int)), .dat (.int k), .dat (.int (m : Int))] Ed := fun De Ed k m hm hq => by
      unfold r_law_log_3
      (try dsimp only [gN, gN2, sNil, sSeq, sExp, sRet, sIf, sPass, sCont, sBrk, sSet, sSetO, sApp, sAppF, sApPop, flatD, sFrz, sAug, sRaise, sAsg, sPut, eV, eC, e1, e2, t2, tBl, tTru, tN, tAn, tOo, tCh, eNot, eAn, eOo, eIf, eTup, eLst, eF, eFld, eIs, eIxO, eLenO, eSl, eRev, eB, eCall, eCallG, eMeth, aN, aC, aV, oNo, oPt, eIsO, oSrtI, oSrtT, oLt, oLe, oReprB, oInI, gN3, eCh, oGt, oGe, oI, oIC, oI1, oAdd, oMul, oIsN, oLen, oList, oTuple, oAbs, oMin2, oInt1, fLst, fListRg1, fList, fRep, fCat, tYs, tru, isS, dats, seqD, seqO, tyS, List.set, List.getElem?_cons_zero, List.getElem?_cons_succ, List.append_eq, List.nil_append, List.cons_append, Option.map_some, Option.bind_some, ng, wipeD, List.length_cons, List.length_nil, Nat.reduceAdd, Nat.reduceSub, List.replicate_succ, List.replicate_zero, eCell, sSetL, bareD,  eCallD, intsS, unS, List.map, oInS, isNumX]; try simp only [decide_eq_true_eq, Bool.not_eq_true', decide_eq_false_iff_not, Bool.false_eq_true, if_false, if_true, reduceIte, String.reduceBEq, Bool.true_or, Bool.false_or, Bool.or_false, Bool.and_false, Bool.false_and, Bool.and_true, Bool.true_and, Bool.not_true, Bool.not_false, ne_eq, not_true_eq_false, reduceCtorEq, Bool.true_eq_false, decide_true, decide_false])
      by_cases c4 : k = 3
      · refine oEq_iT c4 ?_
        refine ifT rfl ?_
        by_cases c0 : 0 < i
        · refine ifT (by omega) ?_
          refine ⟨_, rfl, by omega, by omega, fun y y0 y1 => ?_⟩
          obtain ⟨y, rfl⟩ := Int.eq_ofNat_of_zero_le y0
          obtain ⟨m', hm', o, eo⟩ := at0 y (by omega)
          obtain ⟨m2, hm2, o2, eo2⟩ := at0 (i - 1) (by omega)
          (try dsimp only [gN, gN2, sNil, sSeq, sExp, sRet, sIf, sPass, sCont, sBrk, sSet, sSetO, sApp, sAppF, sApPop, flatD, sFrz, sAug, sRaise, sAsg, sPut, eV, eC, e1, e2, t2, tBl, tTru, tN, tAn, tOo, tCh, eNot, eAn, eOo, eIf, eTup, eLst, eF, eFld, eIs, eIxO, eLenO, eSl, eRev, eB, eCall, eCallG, eMeth, aN, aC, aV, oNo, oPt, eIsO, oSrtI, oSrtT, oLt, oLe, oReprB, oInI, gN3, eCh, oGt, oGe, oI, oIC, oI1, oAdd, oMul, oIsN, oLen, oList, oTuple, oAbs, oMin2, oInt1, fLst, fListRg1, fList, fRep, fCat, tYs, tru, isS, dats, seqD, seqO, tyS, List.set, List.getElem?_cons_zero, List.getElem?_cons_succ, List.append_eq, List.nil_append, List.cons_append, Option.map_some, Option.bind_some, ng, wipeD, List.length_cons, List.length_nil, Nat.reduceAdd, Nat.reduceSub, List.replicate_succ, List.replicate_zero, eCell, sSetL, bareD,  eCallD, intsS, unS, List.map, oInS, isNumX]; try simp only [decide_eq_true_eq, Bool.not_eq_true', decide_eq_false_iff_not, Bool.false_eq_true, if_false, if_true, reduceIte, String.reduceBEq, Bool.true_or, Bool.false_or, Bool.or_false, Bool.and_false, Bool.false_and, Bool.and_true, Bool.true_and, Bool.not_true, Bool.not_false, ne_eq, not_true_eq_false, reduceCtorEq, Bool.true_eq_false, decide_true, decide_false])
          rw [atI_n eo]
          refine oIx_t (d := .int (m' : Int)) rfl ?_
          rw [show ((i : Int) - 1) = ((i - 1 : Nat) : Int) from by omega, atI_n eo2]
          refine oIx_t (d := .int (m2 : Int)) rfl ?_
          (try dsimp only [gN, gN2, sNil, sSeq, sExp, sRet, sIf, sPass, sCont, sBrk, sSet, sSetO, sApp, sAppF, sApPop, flatD, sFrz, sAug, sRaise, sAsg, sPut, eV, eC, e1, e2, t2, tBl, tTru, tN, tAn, tOo, tCh, eNot, eAn, eOo, eIf, eTup, eLst, eF, eFld, eIs, eIxO, eLenO, eSl, eRev, eB, eCall, eCallG, eMeth, aN, aC, aV, oNo, oPt, eIsO, oSrtI, oSrtT, oLt, oLe, oReprB, oInI, gN3, eCh, oGt, oGe, oI, oIC, oI1, oAdd, oMul, oIsN, oLen, oList, oTuple, oAbs, oMin2, oInt1, fLst, fListRg1, fList, fRep, fCat, tYs, tru, isS, dats, seqD, seqO, tyS, List.set, List.getElem?_cons_zero, List.getElem?_cons_succ, List.append_eq, List.nil_append, List.cons_append, Option.map_some, Option.bind_some, ng, wipeD, List.length_cons, List.length_nil, Nat.reduceAdd, Nat.reduceSub, List.replicate_succ, List.replicate_zero, eCell, sSetL, bareD,  eCallD, intsS, unS, List.map, oInS, isNumX]; try simp only [decide_eq_true_eq, Bool.not_eq_true', decide_eq_false_iff_not, Bool.false_eq_true, if_false, if_true, reduceIte, String.reduceBEq, Bool.true_or, Bool.false_or, Bool.or_false, Bool.and_false, Bool.false_and, Bool.and_true, Bool.true_and, Bool.not_true, Bool.not_false, ne_eq, not_true_eq_false, reduceCtorEq, Bool.true_eq_false, decide_true, decide_false])
          rw [bitXor_nat]
          exact h2 _ _ _ _ (Nat.xor_lt_two_pow hm' hm2) hq
        · refine ifF (by omega) ?_
          exact h2 _ _ _ _ hm hq
      · refine oEq_iF c4 ?_
        refine ifF (by decide) ?_
        exact h2 _ _ _ _ hm hq
    unfold r_law_log_7
    (try dsimp only [gN, gN2, sNil, sSeq, sExp, sRet, sIf, sPass, sCont, sBrk, sSet, sSetO, sApp, sAppF, sApPop, flatD, sFrz, sAug, sRaise, sAsg, sPut, eV, eC, e1, e2, t2, tBl, tTru, tN, tAn, tOo, tCh, eNot, eAn, eOo, eIf, eTup, eLst, eF, eFld, eIs, eIxO, eLenO, eSl, eRev, eB, eCall, eCallG, eMeth, aN, aC, aV, oNo, oPt, eIsO, oSrtI, oSrtT, oLt, oLe, oReprB, oInI, gN3, eCh, oGt, oGe, oI, oIC, oI1, oAdd, oMul, oIsN, oLen, oList, oTuple, oAbs, oMin2, oInt1, fLst, fListRg1, fList, fRep, fCat, tYs, tru, isS, dats, seqD, seqO, tyS, List.set, List.getElem?_cons_zero, List.getElem?_cons_succ, List.append_eq, List.nil_append, List.cons_append, Option.map_some, Option.bind_some, ng, wipeD, List.length_cons, List.length_nil, Nat.reduceAdd, Nat.reduceSub, List.replicate_succ, List.replicate_zero, eCell, sSetL, bareD,  eCallD, intsS, unS, List.map, oInS, isNumX]; try simp only [decide_eq_true_eq, Bool.not_eq_true', decide_eq_false_iff_not, Bool.false_eq_true, if_false, if_true, reduceIte, String.reduceBEq, Bool.true_or, Bool.false_or, Bool.or_false, Bool.and_false, Bool.false_and, Bool.and_true, Bool.true_and, Bool.not_true, Bool.not_false, ne_eq, not_true_eq_false, reduceCtorEq, Bool.true_eq_false, decide_true, decide_false])
    refine ⟨_, rfl, by decide, by decide, fun k k0 k1 => ?_⟩
    unfold r_law_log_6
    (try dsimp only [gN, gN2, sNil, sSeq, sExp, sRet, sIf, sPass, sCont, sBrk, sSet, sSetO, sApp, sAppF, sApPop, flatD, sFrz, sAug, sRaise, sAsg, sPut, eV, eC, e1, e2, t2, tBl, tTru, tN, tAn, tOo, tCh, eNot, eAn, eOo, eIf, eTup, eLst, eF, eFld, eIs, eIxO, eLenO, eSl, eRev, eB, eCall, eCallG, eMeth, aN, aC, aV, oNo, oPt, eIsO, oSrtI, oSrtT, oLt, oLe, oReprB, oInI, gN3, eCh, oGt, oGe, oI, oIC, oI1, oAdd, oMul, oIsN, oLen, oList, oTuple, oAbs, oMin2, oInt1, fLst, fListRg1, fList, fRep, fCat, tYs, tru, isS, dats, seqD, seqO, tyS, List.set, List.getElem?_cons_zero, List.getElem?_cons_succ, List.append_eq, List.nil_append, List.cons_append, Option.map_some, Option.bind_some, ng, wipeD, List.length_cons, List.length_nil, Nat.reduceAdd, Nat.reduceSub, List.replicate_succ, List.replicate_zero, eCell, sSetL, bareD,  eCallD, intsS, unS, List.map, oInS, isNumX]; try simp only [decide_eq_true_eq, Bool.not_eq_true', decide_eq_false_iff_not, Bool.false_eq_true, if_false, if_true, reduceIte, String.reduceBEq, Bool.true_or, Bool.false_or, Bool.or_false, Bool.and_false, Bool.false_and, Bool.and_true, Bool.true_and, Bool.not_true, Bool.not_false, ne_eq, not_true_eq_false, reduceCtorEq, Bool.true_eq_false, decide_true, decide_false])
    refine ⟨n, rfl, hn, fun m hm => ?_⟩
    unfold r_law_log_5
    (try dsimp only [gN, gN2, sNil, sSeq, sExp, sRet, sIf, sPass, sCont, sBrk, sSet, sSetO, sApp, sAppF, sApPop, flatD, sFrz, sAug, sRaise, sAsg, sPut, eV, eC, e1, e2, t2, tBl, tTru, tN, tAn, tOo, tCh, eNot, eAn, eOo, eIf, eTup, eLst, eF, eFld, eIs, eIxO, eLenO, eSl, eRev, eB, eCall, eCallG, eMeth, aN, aC, aV, oNo, oPt, eIsO, oSrtI, oSrtT, oLt, oLe, oReprB, oInI, gN3, eCh, oGt, oGe, oI, oIC, oI1, oAdd, oMul, oIsN, oLen, oList, oTuple, oAbs, oMin2, oInt1, fLst, fListRg1, fList, fRep, fCat, tYs, tru, isS, dats, seqD, seqO, tyS, List.set, List.getElem?_cons_zero, List.getElem?_cons_succ, List.append_eq, List.nil_append, List.cons_append, Option.map_some, Option.bind_some, ng, wipeD, List.length_cons, List.length_nil, Nat.reduceAdd, Nat.reduceSub, List.replicate_succ, List.replicate_zero, eCell, sSetL, bareD,  eCallD, intsS, unS, List.map, oInS, isNumX]; try simp only [decide_eq_true_eq, Bool.not_eq_true', decide_eq_false_iff_not, Bool.false_eq_true, if_false, if_true, reduceIte, String.reduceBEq, Bool.true_or, Bool.false_or, Bool.or_false, Bool.and_false, Bool.false_and, Bool.and_true, Bool.true_and, Bool.not_true, Bool.not_false, ne_eq, not_true_eq_false, reduceCtorEq, Bool.true_eq_false, decide_true, decide_false])
    by_cases c2 : k < 2
    · refine ifT (by first | exact c2 | exact decide_eq_true c2) ?_
      refine ⟨n, rs, rfl, hn, hr, lr, fun m' hm' => ?_⟩
      unfold r_law_log_4
      (try dsimp only [gN, gN2, sNil, sSeq, sExp, sRet, sIf, sPass, sCont, sBrk, sSet, sSetO, sApp, sAppF, sApPop, flatD, sFrz, sAug, sRaise, sAsg, sPut, eV, eC, e1, e2, t2, tBl, tTru, tN, tAn, tOo, tCh, eNot, eAn, eOo, eIf, eTup, eLst, eF, eFld, eIs, eIxO, eLenO, eSl, eRev, eB, eCall, eCallG, eMeth, aN, aC, aV, oNo, oPt, eIsO, oSrtI, oSrtT, oLt, oLe, oReprB, oInI, gN3, eCh, oGt, oGe, oI, oIC, oI1, oAdd, oMul, oIsN, oLen, oList, oTuple, oAbs, oMin2, oInt1, fLst, fListRg1, fList, fRep, fCat, tYs, tru, isS, dats, seqD, seqO, tyS, List.set, List.getElem?_cons_zero, List.getElem?_cons_succ, List.append_eq, List.nil_append, List.cons_append, Option.map_some, Option.bind_some, ng, wipeD, List.length_cons, List.length_nil, Nat.reduceAdd, Nat.reduceSub, List.replicate_succ, List.replicate_zero, eCell, sSetL, bareD,  eCallD, intsS, unS, List.map, oInS, isNumX]; try simp only [decide_eq_true_eq, Bool.not_eq_true', decide_eq_false_iff_not, Bool.false_eq_true, if_false, if_true, reduceIte, String.reduceBEq, Bool.true_or, Bool.false_or, Bool.or_false, Bool.and_false, Bool.false_and, Bool.and_true, Bool.true_and, Bool.not_true, Bool.not_false, ne_eq, not_true_eq_false, reduceCtorEq, Bool.true_eq_false, decide_true, decide_false])
      refine oEq_iF (by omega) ?_
      refine ifF (by decide) ?_
      exact h3 _ _ _ _ hm' fun ρ h => h
    · refine ifF (by first | exact c2 | (intro z; exact c2 (of_decide_eq_true z))) ?_
      unfold r_law_log_4
      (try dsimp only [gN, gN2, sNil, sSeq, sExp, sRet, sIf, sPass, sCont, sBrk, sSet, sSetO, sApp, sAppF, sApPop, flatD, sFrz, sAug, sRaise, sAsg, sPut, eV, eC, e1, e2, t2, tBl, tTru, tN, tAn, tOo, tCh, eNot, eAn, eOo, eIf, eTup, eLst, eF, eFld, eIs, eIxO, eLenO, eSl, eRev, eB, eCall, eCallG, eMeth, aN, aC, aV, oNo, oPt, eIsO, oSrtI, oSrtT, oLt, oLe, oReprB, oInI, gN3, eCh, oGt, oGe, oI, oIC, oI1, oAdd, oMul, oIsN, oLen, oList, oTuple, oAbs, oMin2, oInt1, fLst, fListRg1, fList, fRep, fCat, tYs, tru, isS, dats, seqD, seqO, tyS, List.set, List.getElem?_cons_zero, List.getElem?_cons_succ, List.append_eq, List.nil_append, List.cons_append, Option.map_some, Option.bind_some, ng, wipeD, List.length_cons, List.length_nil, Nat.reduceAdd, Nat.reduceSub, List.replicate_succ, List.replicate_zero, eCell, sSetL, bareD,  eCallD, intsS, unS, List.map, oInS, isNumX]; try simp only [decide_eq_true_eq, Bool.not_eq_true', decide_eq_false_iff_not, Bool.false_eq_true, if_false, if_true, reduceIte, String.reduceBEq, Bool.true_or, Bool.false_or, Bool.or_false, Bool.and_false, Bool.false_and, Bool.and_true, Bool.true_and, Bool.not_true, Bool.not_false, ne_eq, not_true_eq_false, reduceCtorEq, Bool.true_eq_false, decide_true, decide_false])
      by_cases c3 : k = 2
      · refine oEq_iT c3 ?_
        refine ifT rfl ?_
        exact h3 _ _ _ 0 p0 fun ρ h => h
      · refine oEq_iF c3 ?_
        refine ifF (by decide) ?_
        exact h3 _ _ _ _ hm fun ρ h => h
  · rintro ρ ⟨L, a, b, c, ll, ok, rfl⟩
    rw [natX_len, List.length_range] at ll
    unfold r_law_log_8
    (try dsimp only [gN, gN2, sNil, sSeq, sExp, sRet, sIf, sPass, sCont, sBrk, sSet, sSetO, sApp, sAppF, sApPop, flatD, sFrz, sAug, sRaise, sAsg, sPut, eV, eC, e1, e2, t2, tBl, tTru, tN, tAn, tOo, tCh, eNot, eAn, eOo, eIf, eTup, eLst, eF, eFld, eIs, eIxO, eLenO, eSl, eRev, eB, eCall, eCallG, eMeth, aN, aC, aV, oNo, oPt, eIsO, oSrtI, oSrtT, oLt, oLe, oReprB, oInI, gN3, eCh, oGt, oGe, oI, oIC, oI1, oAdd, oMul, oIsN, oLen, oList, oTuple, oAbs, oMin2, oInt1, fLst, fListRg1, fList, fRep, fCat, tYs, tru, isS, dats, seqD, seqO, tyS, List.set, List.getElem?_cons_zero, List.getElem?_cons_succ, List.append_eq, List.nil_append, List.cons_append, Option.map_some, Option.bind_some, ng, wipeD, List.length_cons, List.length_nil, Nat.reduceAdd, Nat.reduceSub, List.replicate_succ, List.replicate_zero, eCell, sSetL, bareD,  eCallD, intsS, unS, List.map, oInS, isNumX]; try simp only [decide_eq_true_eq, Bool.not_eq_true', decide_eq_false_iff_not, Bool.false_eq_true, if_false, if_true, reduceIte, String.reduceBEq, Bool.true_or, Bool.false_or, Bool.or_false, Bool.and_false, Bool.false_and, Bool.and_true, Bool.true_and, Bool.not_true, Bool.not_false, ne_eq, not_true_eq_false, reduceCtorEq, Bool.true_eq_false, decide_true, decide_false])
    exact q L ok (by omega)
theorem noOs_app : ∀ xs ys : List D, noOs (xs ++ ys) = (noOs xs && noOs ys)
  | [], ys => by rw [List.nil_append]; simp [noOs]
  | x :: xs, ys => by rw [List.cons_append]; simp only [noOs]; rw [noOs_app xs ys, Bool.and_assoc]
theorem not_lot {n : Nat} {xs : List D} (h : ∀ c, c < 2 ^ n → xs ≠ natX (lotN c)) : isLotX (n : Int) (.tup xs) = false := by
  cases e : isLotX (n : Int) (.tup xs) with
  | false => rfl
  | true =>
    obtain ⟨c, hc, he⟩ := is_lot_inv e
    unfold lotX at he
    injection he with he
    exact absurd he (h c hc)
theorem not_lot_mem {n : Nat} {xs : List D} {x : D} (h : x ∈ xs) (hx : ∀ p : Nat, p < n → x ≠ .int (p : Int)) : isLotX (n : Int) (.tup xs) = false := not_lot fun c hc e => by
  rw [e] at h
  obtain ⟨p, hp, rfl⟩ := List.mem_map.mp h
  exact hx p (lotN_lt hc p hp) rfl
theorem sem_law_wrong_f : ∀ as Qd Xd, d_law_wrong_f as Qd Xd → as.length = ["_law_source_here", "_law_many"].length ∧ r_law_wrong_f { nx := fun _ => Qd .non, rt := Qd } (as ++ List.replicate (["_law_source_here", "_law_many", "_law_kind", "_law_lot_here", "_law_at", "_law_value", "_law_k"].length - as.length) .un) (fun _ => Xd) := by
  rintro as Qd Xd ⟨m, rfl, hm, q⟩
  refine ⟨rfl, ?_⟩
  have p6 : 2 ^ m ≤ 2 ^ 6 := Nat.pow_le_pow_right (by decide) hm
  have p0 := Nat.two_pow_pos m
  unfold r_law_wrong_f
  (try dsimp only [gN, gN2, sNil, sSeq, sExp, sRet, sIf, sPass, sCont, sBrk, sSet, sSetO, sApp, sAppF, sApPop, flatD, sFrz, sAug, sRaise, sAsg, sPut, eV, eC, e1, e2, t2, tBl, tTru, tN, tAn, tOo, tCh, eNot, eAn, eOo, eIf, eTup, eLst, eF, eFld, eIs, eIxO, eLenO, eSl, eRev, eB, eCall, eCallG, eMeth, aN, aC, aV, oNo, oPt, eIsO, oSrtI, oSrtT, oLt, oLe, oReprB, oInI, gN3, eCh, oGt, oGe, oI, oIC, oI1, oAdd, oMul, oIsN, oLen, oList, oTuple, oAbs, oMin2, oInt1, fLst, fListRg1, fList, fRep, fCat, tYs, tru, isS, dats, seqD, seqO, tyS, List.set, List.getElem?_cons_zero, List.getElem?_cons_succ, List.append_eq, List.nil_append, List.cons_append, Option.map_some, Option.bind_some, ng, wipeD, List.length_cons, List.length_nil, Nat.reduceAdd, Nat.reduceSub, List.replicate_succ, List.replicate_zero, eCell, sSetL, bareD,  eCallD, intsS, unS, List.map, oInS, isNumX]; try simp only [decide_eq_true_eq, Bool.not_eq_true', decide_eq_false_iff_not, Bool.false_eq_true, if_false, if_true, reduceIte, String.reduceBEq, Bool.true_or, Bool.false_or, Bool.or_false, Bool.and_false, Bool.false_and, Bool.and_true, Bool.true_and, Bool.not_true, Bool.not_false, ne_eq, not_true_eq_false, reduceCtorEq, Bool.true_eq_false, decide_true, decide_false])
  refine ⟨_, rfl, by decide, by decide, fun k k0 k1 => ?_⟩
  unfold r_law_wrong_17
  (try dsimp only [gN, gN2, sNil, sSeq, sExp, sRet, sIf, sPass, sCont, sBrk, sSet, sSetO, sApp, sAppF, sApPop, flatD, sFrz, sAug, sRaise, sAsg, sPut, eV, eC, e1, e2, t2, tBl, tTru, tN, tAn, tOo, tCh, eNot, eAn, eOo, eIf, eTup, eLst, eF, eFld, eIs, eIxO, eLenO, eSl, eRev, eB, eCall, eCallG, eMeth, aN, aC, aV, oNo, oPt, eIsO, oSrtI, oSrtT, oLt, oLe, oReprB, oInI, gN3, eCh, oGt, oGe, oI, oIC, oI1, oAdd, oMul, oIsN, oLen, oList, oTuple, oAbs, oMin2, oInt1, fLst, fListRg1, fList, fRep, fCat, tYs, tru, isS, dats, seqD, seqO, tyS, List.set, List.getElem?_cons_zero, List.getElem?_cons_succ, List.append_eq, List.nil_append, List.cons_append, Option.map_some, Option.bind_some, ng, wipeD, List.length_cons, List.length_nil, Nat.reduceAdd, Nat.reduceSub, List.replicate_succ, List.replicate_zero, eCell, sSetL, bareD,  eCallD, intsS, unS, List.map, oInS, isNumX]; try simp only [decide_eq_true_eq, Bool.not_eq_true', decide_eq_false_iff_not, Bool.false_eq_true, if_false, if_true, reduceIte, String.reduceBEq, Bool.true_or, Bool.false_or, Bool.or_false, Bool.and_false, Bool.false_and, Bool.and_true, Bool.true_and, Bool.not_true, Bool.not_false, ne_eq, not_true_eq_false, reduceCtorEq, Bool.true_eq_false, decide_true, decide_false])
  rw [shl1_nat]
  refine ⟨cpow1 (by omega), _, rfl, by omega, by omega, fun c c0 c1 => ?_⟩
  obtain ⟨c, rfl⟩ := Int.eq_ofNat_of_zero_le c0
  have lc : c < 2 ^ m := by omega
  refine ⟨c, rfl, by omega, ?_⟩
  have ll : (lotN c).length ≤ 6 := nodup_len 6 _ (asc_nodup (lotN_asc c)) fun b hb => Nat.lt_of_lt_of_le (lotN_lt lc b hb) hm
  have lx : (natX (lotN c)).length = (lotN c).length := natX_len _
  have nn := noO_nats (lotN c)
  have nt : ∀ k, noOs (natX ((lotN c).take k)) = true := fun k => noO_nats _
  have nd : ∀ k, noOs (natX ((lotN c).drop k)) = true := fun k => noO_nats _
  unfold r_law_wrong_16
  unfold lotM lotX
  (try dsimp only [gN, gN2, sNil, sSeq, sExp, sRet, sIf, sPass, sCont, sBrk, sSet, sSetO, sApp, sAppF, sApPop, flatD, sFrz, sAug, sRaise, sAsg, sPut, eV, eC, e1, e2, t2, tBl, tTru, tN, tAn, tOo, tCh, eNot, eAn, eOo, eIf, eTup, eLst, eF, eFld, eIs, eIxO, eLenO, eSl, eRev, eB, eCall, eCallG, eMeth, aN, aC, aV, oNo, oPt, eIsO, oSrtI, oSrtT, oLt, oLe, oReprB, oInI, gN3, eCh, oGt, oGe, oI, oIC, oI1, oAdd, oMul, oIsN, oLen, oList, oTuple, oAbs, oMin2, oInt1, fLst, fListRg1, fList, fRep, fCat, tYs, tru, isS, dats, seqD, seqO, tyS, List.set, List.getElem?_cons_zero, List.getElem?_cons_succ, List.append_eq, List.nil_append, List.cons_append, Option.map_some, Option.bind_some, ng, wipeD, List.length_cons, List.length_nil, Nat.reduceAdd, Nat.reduceSub, List.replicate_succ, List.replicate_zero, eCell, sSetL, bareD,  eCallD, intsS, unS, List.map, oInS, isNumX]; try simp only [decide_eq_true_eq, Bool.not_eq_true', decide_eq_false_iff_not, Bool.false_eq_true, if_false, if_true, reduceIte, String.reduceBEq, Bool.true_or, Bool.false_or, Bool.or_false, Bool.and_false, Bool.false_and, Bool.and_true, Bool.true_and, Bool.not_true, Bool.not_false, ne_eq, not_true_eq_false, reduceCtorEq, Bool.true_eq_false, decide_true, decide_false])
  rw [lx]
  refine ⟨_, rfl, by omega, by omega, fun a a0 a1 => ?_⟩
  obtain ⟨a, rfl⟩ := Int.eq_ofNat_of_zero_le a0
  have la : a ≤ (lotN c).length := by omega
  have ct := cut_to la
  have cf := cut_from la
  unfold r_law_wrong_15
  (try dsimp only [gN, gN2, sNil, sSeq, sExp, sRet, sIf, sPass, sCont, sBrk, sSet, sSetO, sApp, sAppF, sApPop, flatD, sFrz, sAug, sRaise, sAsg, sPut, eV, eC, e1, e2, t2, tBl, tTru, tN, tAn, tOo, tCh, eNot, eAn, eOo, eIf, eTup, eLst, eF, eFld, eIs, eIxO, eLenO, eSl, eRev, eB, eCall, eCallG, eMeth, aN, aC, aV, oNo, oPt, eIsO, oSrtI, oSrtT, oLt, oLe, oReprB, oInI, gN3, eCh, oGt, oGe, oI, oIC, oI1, oAdd, oMul, oIsN, oLen, oList, oTuple, oAbs, oMin2, oInt1, fLst, fListRg1, fList, fRep, fCat, tYs, tru, isS, dats, seqD, seqO, tyS, List.set, List.getElem?_cons_zero, List.getElem?_cons_succ, List.append_eq, List.nil_append, List.cons_append, Option.map_some, Option.bind_some, ng, wipeD, List.length_cons, List.length_nil, Nat.reduceAdd, Nat.reduceSub, List.replicate_succ, List.replicate_zero, eCell, sSetL, bareD,  eCallD, intsS, unS, List.map, oInS, isNumX]; try simp only [decide_eq_true_eq, Bool.not_eq_true', decide_eq_false_iff_not, Bool.false_eq_true, if_false, if_true, reduceIte, String.reduceBEq, Bool.true_or, Bool.false_or, Bool.or_false, Bool.and_false, Bool.false_and, Bool.and_true, Bool.true_and, Bool.not_true, Bool.not_false, ne_eq, not_true_eq_false, reduceCtorEq, Bool.true_eq_false, decide_true, decide_false])
  by_cases h0 : k = 0
  · refine oEq_iT h0 ?_
    refine ifT rfl ?_
    unfold eDctE
    (try dsimp only [gN, gN2, sNil, sSeq, sExp, sRet, sIf, sPass, sCont, sBrk, sSet, sSetO, sApp, sAppF, sApPop, flatD, sFrz, sAug, sRaise, sAsg, sPut, eV, eC, e1, e2, t2, tBl, tTru, tN, tAn, tOo, tCh, eNot, eAn, eOo, eIf, eTup, eLst, eF, eFld, eIs, eIxO, eLenO, eSl, eRev, eB, eCall, eCallG, eMeth, aN, aC, aV, oNo, oPt, eIsO, oSrtI, oSrtT, oLt, oLe, oReprB, oInI, gN3, eCh, oGt, oGe, oI, oIC, oI1, oAdd, oMul, oIsN, oLen, oList, oTuple, oAbs, oMin2, oInt1, fLst, fListRg1, fList, fRep, fCat, tYs, tru, isS, dats, seqD, seqO, tyS, List.set, List.getElem?_cons_zero, List.getElem?_cons_succ, List.append_eq, List.nil_append, List.cons_append, Option.map_some, Option.bind_some, ng, wipeD, List.length_cons, List.length_nil, Nat.reduceAdd, Nat.reduceSub, List.replicate_succ, List.replicate_zero, eCell, sSetL, bareD,  eCallD, intsS, unS, List.map, oInS, isNumX]; try simp only [decide_eq_true_eq, Bool.not_eq_true', decide_eq_false_iff_not, Bool.false_eq_true, if_false, if_true, reduceIte, String.reduceBEq, Bool.true_or, Bool.false_or, Bool.or_false, Bool.and_false, Bool.false_and, Bool.and_true, Bool.true_and, Bool.not_true, Bool.not_false, ne_eq, not_true_eq_false, reduceCtorEq, Bool.true_eq_false, decide_true, decide_false])
    unfold keyD
    (try dsimp only [gN, gN2, sNil, sSeq, sExp, sRet, sIf, sPass, sCont, sBrk, sSet, sSetO, sApp, sAppF, sApPop, flatD, sFrz, sAug, sRaise, sAsg, sPut, eV, eC, e1, e2, t2, tBl, tTru, tN, tAn, tOo, tCh, eNot, eAn, eOo, eIf, eTup, eLst, eF, eFld, eIs, eIxO, eLenO, eSl, eRev, eB, eCall, eCallG, eMeth, aN, aC, aV, oNo, oPt, eIsO, oSrtI, oSrtT, oLt, oLe, oReprB, oInI, gN3, eCh, oGt, oGe, oI, oIC, oI1, oAdd, oMul, oIsN, oLen, oList, oTuple, oAbs, oMin2, oInt1, fLst, fListRg1, fList, fRep, fCat, tYs, tru, isS, dats, seqD, seqO, tyS, List.set, List.getElem?_cons_zero, List.getElem?_cons_succ, List.append_eq, List.nil_append, List.cons_append, Option.map_some, Option.bind_some, ng, wipeD, List.length_cons, List.length_nil, Nat.reduceAdd, Nat.reduceSub, List.replicate_succ, List.replicate_zero, eCell, sSetL, bareD,  eCallD, intsS, unS, List.map, oInS, isNumX]; try simp only [decide_eq_true_eq, Bool.not_eq_true', decide_eq_false_iff_not, Bool.false_eq_true, if_false, if_true, reduceIte, String.reduceBEq, Bool.true_or, Bool.false_or, Bool.or_false, Bool.and_false, Bool.false_and, Bool.and_true, Bool.true_and, Bool.not_true, Bool.not_false, ne_eq, not_true_eq_false, reduceCtorEq, Bool.true_eq_false, decide_true, decide_false])
    refine ⟨_, rfl, by decide, by decide, fun y y0 y1 => ?_⟩
    obtain ⟨y, rfl⟩ := Int.eq_ofNat_of_zero_le y0
    rcases (by omega : y = 0 ∨ y = 1 ∨ y = 2 ∨ y = 3 ∨ y = 4 ∨ y = 5 ∨ y = 6 ∨ y = 7 ∨ y = 8 ∨ y = 9) with rfl | rfl | rfl | rfl | rfl | rfl | rfl | rfl | rfl | rfl
    · exact oIx_l (d := .non) rfl (q _ rfl rfl)
    · exact oIx_l (d := .bl true) rfl (q _ rfl rfl)
    · exact oIx_l (d := .int 0) rfl (q _ rfl rfl)
    · exact oIx_l (d := .str (Str.ofString "")) rfl (q _ rfl rfl)
    · exact oIx_l (d := .str (Str.ofString "0")) rfl (q _ rfl rfl)
    · exact oIx_l (d := .dct []) rfl (q _ rfl rfl)
    · exact oIx_l (d := .lst []) rfl (q _ rfl rfl)
    · exact oIx_l (d := .lst [.tup []]) rfl (q _ rfl rfl)
    · exact oIx_l (d := .tup [.tup []]) rfl (q _ rfl rfl)
    · exact oIx_l rfl (q _ rfl rfl)
  refine oEq_iF h0 ?_
  refine ifF (by decide) ?_
  unfold r_law_wrong_14
  (try dsimp only [gN, gN2, sNil, sSeq, sExp, sRet, sIf, sPass, sCont, sBrk, sSet, sSetO, sApp, sAppF, sApPop, flatD, sFrz, sAug, sRaise, sAsg, sPut, eV, eC, e1, e2, t2, tBl, tTru, tN, tAn, tOo, tCh, eNot, eAn, eOo, eIf, eTup, eLst, eF, eFld, eIs, eIxO, eLenO, eSl, eRev, eB, eCall, eCallG, eMeth, aN, aC, aV, oNo, oPt, eIsO, oSrtI, oSrtT, oLt, oLe, oReprB, oInI, gN3, eCh, oGt, oGe, oI, oIC, oI1, oAdd, oMul, oIsN, oLen, oList, oTuple, oAbs, oMin2, oInt1, fLst, fListRg1, fList, fRep, fCat, tYs, tru, isS, dats, seqD, seqO, tyS, List.set, List.getElem?_cons_zero, List.getElem?_cons_succ, List.append_eq, List.nil_append, List.cons_append, Option.map_some, Option.bind_some, ng, wipeD, List.length_cons, List.length_nil, Nat.reduceAdd, Nat.reduceSub, List.replicate_succ, List.replicate_zero, eCell, sSetL, bareD,  eCallD, intsS, unS, List.map, oInS, isNumX]; try simp only [decide_eq_true_eq, Bool.not_eq_true', decide_eq_false_iff_not, Bool.false_eq_true, if_false, if_true, reduceIte, String.reduceBEq, Bool.true_or, Bool.false_or, Bool.or_false, Bool.and_false, Bool.false_and, Bool.and_true, Bool.true_and, Bool.not_true, Bool.not_false, ne_eq, not_true_eq_false, reduceCtorEq, Bool.true_eq_false, decide_true, decide_false])
  by_cases h1 : k = 1
  · refine oEq_iT h1 ?_
    refine ifT rfl ?_
    exact q _ nn rfl
  refine oEq_iF h1 ?_
  refine ifF (by decide) ?_
  unfold r_law_wrong_13
  (try dsimp only [gN, gN2, sNil, sSeq, sExp, sRet, sIf, sPass, sCont, sBrk, sSet, sSetO, sApp, sAppF, sApPop, flatD, sFrz, sAug, sRaise, sAsg, sPut, eV, eC, e1, e2, t2, tBl, tTru, tN, tAn, tOo, tCh, eNot, eAn, eOo, eIf, eTup, eLst, eF, eFld, eIs, eIxO, eLenO, eSl, eRev, eB, eCall, eCallG, eMeth, aN, aC, aV, oNo, oPt, eIsO, oSrtI, oSrtT, oLt, oLe, oReprB, oInI, gN3, eCh, oGt, oGe, oI, oIC, oI1, oAdd, oMul, oIsN, oLen, oList, oTuple, oAbs, oMin2, oInt1, fLst, fListRg1, fList, fRep, fCat, tYs, tru, isS, dats, seqD, seqO, tyS, List.set, List.getElem?_cons_zero, List.getElem?_cons_succ, List.append_eq, List.nil_append, List.cons_append, Option.map_some, Option.bind_some, ng, wipeD, List.length_cons, List.length_nil, Nat.reduceAdd, Nat.reduceSub, List.replicate_succ, List.replicate_zero, eCell, sSetL, bareD,  eCallD, intsS, unS, List.map, oInS, isNumX]; try simp only [decide_eq_true_eq, Bool.not_eq_true', decide_eq_false_iff_not, Bool.false_eq_true, if_false, if_true, reduceIte, String.reduceBEq, Bool.true_or, Bool.false_or, Bool.or_false, Bool.and_false, Bool.false_and, Bool.and_true, Bool.true_and, Bool.not_true, Bool.not_false, ne_eq, not_true_eq_false, reduceCtorEq, Bool.true_eq_false, decide_true, decide_false])
  by_cases h2 : k = 2
  · refine oEq_iT h2 ?_
    refine ifT rfl ?_
    refine ⟨by rw [lx]; omega, ?_⟩
    exact q _ (by simp only [noO, noOs_app, nn]; rfl) (not_lot_mem (x := .int (m : Int)) (by simp) fun p hp e => by injection e with e; omega)
  refine oEq_iF h2 ?_
  refine ifF (by decide) ?_
  unfold r_law_wrong_12
  (try dsimp only [gN, gN2, sNil, sSeq, sExp, sRet, sIf, sPass, sCont, sBrk, sSet, sSetO, sApp, sAppF, sApPop, flatD, sFrz, sAug, sRaise, sAsg, sPut, eV, eC, e1, e2, t2, tBl, tTru, tN, tAn, tOo, tCh, eNot, eAn, eOo, eIf, eTup, eLst, eF, eFld, eIs, eIxO, eLenO, eSl, eRev, eB, eCall, eCallG, eMeth, aN, aC, aV, oNo, oPt, eIsO, oSrtI, oSrtT, oLt, oLe, oReprB, oInI, gN3, eCh, oGt, oGe, oI, oIC, oI1, oAdd, oMul, oIsN, oLen, oList, oTuple, oAbs, oMin2, oInt1, fLst, fListRg1, fList, fRep, fCat, tYs, tru, isS, dats, seqD, seqO, tyS, List.set, List.getElem?_cons_zero, List.getElem?_cons_succ, List.append_eq, List.nil_append, List.cons_append, Option.map_some, Option.bind_some, ng, wipeD, List.length_cons, List.length_nil, Nat.reduceAdd, Nat.reduceSub, List.replicate_succ, List.replicate_zero, eCell, sSetL, bareD,  eCallD, intsS, unS, List.map, oInS, isNumX]; try simp only [decide_eq_true_eq, Bool.not_eq_true', decide_eq_false_iff_not, Bool.false_eq_true, if_false, if_true, reduceIte, String.reduceBEq, Bool.true_or, Bool.false_or, Bool.or_false, Bool.and_false, Bool.false_and, Bool.and_true, Bool.true_and, Bool.not_true, Bool.not_false, ne_eq, not_true_eq_false, reduceCtorEq, Bool.true_eq_false, decide_true, decide_false])
  by_cases h3 : k = 3
  · refine oEq_iT h3 ?_
    refine ifT rfl ?_
    refine ⟨by rw [lx]; omega, ?_⟩
    exact q _ (by simp only [noO, noOs, nn]; rfl) (not_lot_mem (x := .int (0 - 1 - (a : Int))) (by simp) fun p hp e => by injection e with e; omega)
  refine oEq_iF h3 ?_
  refine ifF (by decide) ?_
  unfold r_law_wrong_11
  (try dsimp only [gN, gN2, sNil, sSeq, sExp, sRet, sIf, sPass, sCont, sBrk, sSet, sSetO, sApp, sAppF, sApPop, flatD, sFrz, sAug, sRaise, sAsg, sPut, eV, eC, e1, e2, t2, tBl, tTru, tN, tAn, tOo, tCh, eNot, eAn, eOo, eIf, eTup, eLst, eF, eFld, eIs, eIxO, eLenO, eSl, eRev, eB, eCall, eCallG, eMeth, aN, aC, aV, oNo, oPt, eIsO, oSrtI, oSrtT, oLt, oLe, oReprB, oInI, gN3, eCh, oGt, oGe, oI, oIC, oI1, oAdd, oMul, oIsN, oLen, oList, oTuple, oAbs, oMin2, oInt1, fLst, fListRg1, fList, fRep, fCat, tYs, tru, isS, dats, seqD, seqO, tyS, List.set, List.getElem?_cons_zero, List.getElem?_cons_succ, List.append_eq, List.nil_append, List.cons_append, Option.map_some, Option.bind_some, ng, wipeD, List.length_cons, List.length_nil, Nat.reduceAdd, Nat.reduceSub, List.replicate_succ, List.replicate_zero, eCell, sSetL, bareD,  eCallD, intsS, unS, List.map, oInS, isNumX]; try simp only [decide_eq_true_eq, Bool.not_eq_true', decide_eq_false_iff_not, Bool.false_eq_true, if_false, if_true, reduceIte, String.reduceBEq, Bool.true_or, Bool.false_or, Bool.or_false, Bool.and_false, Bool.false_and, Bool.and_true, Bool.true_and, Bool.not_true, Bool.not_false, ne_eq, not_true_eq_false, reduceCtorEq, Bool.true_eq_false, decide_true, decide_false])
  by_cases h4 : k = 4
  · refine oEq_iT h4 ?_
    refine ifT rfl ?_
    refine q _ rfl (not_lot fun c' hc' e => ?_)
    have e : natX [a + 1, a] = natX (lotN c') := e
    have e := natX_inj e
    have := lotN_asc c'
    rw [← e] at this
    simp at this
    omega
  refine oEq_iF h4 ?_
  refine ifF (by decide) ?_
  unfold r_law_wrong_10
  (try dsimp only [gN, gN2, sNil, sSeq, sExp, sRet, sIf, sPass, sCont, sBrk, sSet, sSetO, sApp, sAppF, sApPop, flatD, sFrz, sAug, sRaise, sAsg, sPut, eV, eC, e1, e2, t2, tBl, tTru, tN, tAn, tOo, tCh, eNot, eAn, eOo, eIf, eTup, eLst, eF, eFld, eIs, eIxO, eLenO, eSl, eRev, eB, eCall, eCallG, eMeth, aN, aC, aV, oNo, oPt, eIsO, oSrtI, oSrtT, oLt, oLe, oReprB, oInI, gN3, eCh, oGt, oGe, oI, oIC, oI1, oAdd, oMul, oIsN, oLen, oList, oTuple, oAbs, oMin2, oInt1, fLst, fListRg1, fList, fRep, fCat, tYs, tru, isS, dats, seqD, seqO, tyS, List.set, List.getElem?_cons_zero, List.getElem?_cons_succ, List.append_eq, List.nil_append, List.cons_append, Option.map_some, Option.bind_some, ng, wipeD, List.length_cons, List.length_nil, Nat.reduceAdd, Nat.reduceSub, List.replicate_succ, List.replicate_zero, eCell, sSetL, bareD,  eCallD, intsS, unS, List.map, oInS, isNumX]; try simp only [decide_eq_true_eq, Bool.not_eq_true', decide_eq_false_iff_not, Bool.false_eq_true, if_false, if_true, reduceIte, String.reduceBEq, Bool.true_or, Bool.false_or, Bool.or_false, Bool.and_false, Bool.false_and, Bool.and_true, Bool.true_and, Bool.not_true, Bool.not_false, ne_eq, not_true_eq_false, reduceCtorEq, Bool.true_eq_false, decide_true, decide_false])
  by_cases h5 : k = 5
  · refine oEq_iT h5 ?_
    refine ifT rfl ?_
    rw [ct, cf]
    refine ⟨by simp only [natX_len, List.length_take]; omega, by simp only [List.length_append, natX_len, List.length_take, List.length_drop, List.length_singleton]; omega, ?_⟩
    exact q _ (by simp only [noO, noOs_app, nt, nd]; rfl) (not_lot_mem (x := .bl (decide (0 < (a : Int)))) (by simp) fun p hp e => by cases e)
  refine oEq_iF h5 ?_
  refine ifF (by decide) ?_
  unfold r_law_wrong_9
  have rest : r_law_wrong_8 { nx := fun _ => Qd .non, rt := Qd } [.src, .dat (.int (m : Int)), .dat (.int k), .dat (.tup (natX (lotN c))), .dat (.int (a : Int)), .un, .un] (fun _ => Xd) := by
    unfold r_law_wrong_8
    (try dsimp only [gN, gN2, sNil, sSeq, sExp, sRet, sIf, sPass, sCont, sBrk, sSet, sSetO, sApp, sAppF, sApPop, flatD, sFrz, sAug, sRaise, sAsg, sPut, eV, eC, e1, e2, t2, tBl, tTru, tN, tAn, tOo, tCh, eNot, eAn, eOo, eIf, eTup, eLst, eF, eFld, eIs, eIxO, eLenO, eSl, eRev, eB, eCall, eCallG, eMeth, aN, aC, aV, oNo, oPt, eIsO, oSrtI, oSrtT, oLt, oLe, oReprB, oInI, gN3, eCh, oGt, oGe, oI, oIC, oI1, oAdd, oMul, oIsN, oLen, oList, oTuple, oAbs, oMin2, oInt1, fLst, fListRg1, fList, fRep, fCat, tYs, tru, isS, dats, seqD, seqO, tyS, List.set, List.getElem?_cons_zero, List.getElem?_cons_succ, List.append_eq, List.nil_append, List.cons_append, Option.map_some, Option.bind_some, ng, wipeD, List.length_cons, List.length_nil, Nat.reduceAdd, Nat.reduceSub, List.replicate_succ, List.replicate_zero, eCell, sSetL, bareD,  eCallD, intsS, unS, List.map, oInS, isNumX]; try simp only [decide_eq_true_eq, Bool.not_eq_true', decide_eq_false_iff_not, Bool.false_eq_true, if_false, if_true, reduceIte, String.reduceBEq, Bool.true_or, Bool.false_or, Bool.or_false, Bool.and_false, Bool.false_and, Bool.and_true, Bool.true_and, Bool.not_true, Bool.not_false, ne_eq, not_true_eq_false, reduceCtorEq, Bool.true_eq_false, decide_true, decide_false])
    by_cases h7 : k = 7
    · refine oEq_iT h7 ?_
      refine ifT rfl ?_
      rw [ct, cf]
      refine ⟨by simp only [natX_len, List.length_take]; omega, by simp only [List.length_append, natX_len, List.length_take, List.length_drop, List.length_singleton]; omega, ?_⟩
      exact q _ (by simp only [noO, noOs_app, nt, nd]; rfl) (not_lot_mem (x := .non) (by simp) fun p hp e => by cases e)
    refine oEq_iF h7 ?_
    refine ifF (by decide) ?_
    unfold r_law_wrong_7
    (try dsimp only [gN, gN2, sNil, sSeq, sExp, sRet, sIf, sPass, sCont, sBrk, sSet, sSetO, sApp, sAppF, sApPop, flatD, sFrz, sAug, sRaise, sAsg, sPut, eV, eC, e1, e2, t2, tBl, tTru, tN, tAn, tOo, tCh, eNot, eAn, eOo, eIf, eTup, eLst, eF, eFld, eIs, eIxO, eLenO, eSl, eRev, eB, eCall, eCallG, eMeth, aN, aC, aV, oNo, oPt, eIsO, oSrtI, oSrtT, oLt, oLe, oReprB, oInI, gN3, eCh, oGt, oGe, oI, oIC, oI1, oAdd, oMul, oIsN, oLen, oList, oTuple, oAbs, oMin2, oInt1, fLst, fListRg1, fList, fRep, fCat, tYs, tru, isS, dats, seqD, seqO, tyS, List.set, List.getElem?_cons_zero, List.getElem?_cons_succ, List.append_eq, List.nil_append, List.cons_append, Option.map_some, Option.bind_some, ng, wipeD, List.length_cons, List.length_nil, Nat.reduceAdd, Nat.reduceSub, List.replicate_succ, List.replicate_zero, eCell, sSetL, bareD,  eCallD, intsS, unS, List.map, oInS, isNumX]; try simp only [decide_eq_true_eq, Bool.not_eq_true', decide_eq_false_iff_not, Bool.false_eq_true, if_false, if_true, reduceIte, String.reduceBEq, Bool.true_or, Bool.false_or, Bool.or_false, Bool.and_false, Bool.false_and, Bool.and_true, Bool.true_and, Bool.not_true, Bool.not_false, ne_eq, not_true_eq_false, reduceCtorEq, Bool.true_eq_false, decide_true, decide_false])
    by_cases h8 : k = 8
    · refine oEq_iT h8 ?_
      refine ifT rfl ?_
      exact q _ (by simp only [noO, noOs, nn]; rfl) rfl
    refine oEq_iF h8 ?_
    refine ifF (by decide) ?_
    unfold r_law_wrong_6
    (try dsimp only [gN, gN2, sNil, sSeq, sExp, sRet, sIf, sPass, sCont, sBrk, sSet, sSetO, sApp, sAppF, sApPop, flatD, sFrz, sAug, sRaise, sAsg, sPut, eV, eC, e1, e2, t2, tBl, tTru, tN, tAn, tOo, tCh, eNot, eAn, eOo, eIf, eTup, eLst, eF, eFld, eIs, eIxO, eLenO, eSl, eRev, eB, eCall, eCallG, eMeth, aN, aC, aV, oNo, oPt, eIsO, oSrtI, oSrtT, oLt, oLe, oReprB, oInI, gN3, eCh, oGt, oGe, oI, oIC, oI1, oAdd, oMul, oIsN, oLen, oList, oTuple, oAbs, oMin2, oInt1, fLst, fListRg1, fList, fRep, fCat, tYs, tru, isS, dats, seqD, seqO, tyS, List.set, List.getElem?_cons_zero, List.getElem?_cons_succ, List.append_eq, List.nil_append, List.cons_append, Option.map_some, Option.bind_some, ng, wipeD, List.length_cons, List.length_nil, Nat.reduceAdd, Nat.reduceSub, List.replicate_succ, List.replicate_zero, eCell, sSetL, bareD,  eCallD, intsS, unS, List.map, oInS, isNumX]; try simp only [decide_eq_true_eq, Bool.not_eq_true', decide_eq_false_iff_not, Bool.false_eq_true, if_false, if_true, reduceIte, String.reduceBEq, Bool.true_or, Bool.false_or, Bool.or_false, Bool.and_false, Bool.false_and, Bool.and_true, Bool.true_and, Bool.not_true, Bool.not_false, ne_eq, not_true_eq_false, reduceCtorEq, Bool.true_eq_false, decide_true, decide_false])
    by_cases h9 : k = 9
    · refine oEq_iT h9 ?_
      refine ifT rfl ?_
      rw [ct, cf]
      refine ⟨by simp only [natX_len, List.length_take]; omega, by simp only [List.length_append, natX_len, List.length_take, List.length_drop, List.length_singleton]; omega, ?_⟩
      exact q _ (by simp only [noO, noOs_app, nt, nd]; rfl) (not_lot_mem (x := .str (Str.ofString "0")) (by simp) fun p hp e => by cases e)
    refine oEq_iF h9 ?_
    refine ifF (by decide) ?_
    unfold r_law_wrong_5
    (try dsimp only [gN, gN2, sNil, sSeq, sExp, sRet, sIf, sPass, sCont, sBrk, sSet, sSetO, sApp, sAppF, sApPop, flatD, sFrz, sAug, sRaise, sAsg, sPut, eV, eC, e1, e2, t2, tBl, tTru, tN, tAn, tOo, tCh, eNot, eAn, eOo, eIf, eTup, eLst, eF, eFld, eIs, eIxO, eLenO, eSl, eRev, eB, eCall, eCallG, eMeth, aN, aC, aV, oNo, oPt, eIsO, oSrtI, oSrtT, oLt, oLe, oReprB, oInI, gN3, eCh, oGt, oGe, oI, oIC, oI1, oAdd, oMul, oIsN, oLen, oList, oTuple, oAbs, oMin2, oInt1, fLst, fListRg1, fList, fRep, fCat, tYs, tru, isS, dats, seqD, seqO, tyS, List.set, List.getElem?_cons_zero, List.getElem?_cons_succ, List.append_eq, List.nil_append, List.cons_append, Option.map_some, Option.bind_some, ng, wipeD, List.length_cons, List.length_nil, Nat.reduceAdd, Nat.reduceSub, List.replicate_succ, List.replicate_zero, eCell, sSetL, bareD,  eCallD, intsS, unS, List.map, oInS, isNumX]; try simp only [decide_eq_true_eq, Bool.not_eq_true', decide_eq_false_iff_not, Bool.false_eq_true, if_false, if_true, reduceIte, String.reduceBEq, Bool.true_or, Bool.false_or, Bool.or_false, Bool.and_false, Bool.false_and, Bool.and_true, Bool.true_and, Bool.not_true, Bool.not_false, ne_eq, not_true_eq_false, reduceCtorEq, Bool.true_eq_false, decide_true, decide_false])
    by_cases h10 : k = 10
    · refine oEq_iT h10 ?_
      refine ifT rfl ?_
      refine ⟨by unfold CPow; decide, by rw [lx]; omega, ?_⟩
      exact q _ (by simp only [noO, noOs_app, nn]; rfl) (not_lot_mem (x := .int ((10 : Int) ^ (40 : Int).toNat + (m : Int))) (by simp) fun p hp e => by
        injection e with e
        have : (10 : Int) ^ (40 : Int).toNat = 10000000000000000000000000000000000000000 := by decide
        omega)
    refine oEq_iF h10 ?_
    refine ifF (by decide) ?_
    unfold r_law_wrong_4
    (try dsimp only [gN, gN2, sNil, sSeq, sExp, sRet, sIf, sPass, sCont, sBrk, sSet, sSetO, sApp, sAppF, sApPop, flatD, sFrz, sAug, sRaise, sAsg, sPut, eV, eC, e1, e2, t2, tBl, tTru, tN, tAn, tOo, tCh, eNot, eAn, eOo, eIf, eTup, eLst, eF, eFld, eIs, eIxO, eLenO, eSl, eRev, eB, eCall, eCallG, eMeth, aN, aC, aV, oNo, oPt, eIsO, oSrtI, oSrtT, oLt, oLe, oReprB, oInI, gN3, eCh, oGt, oGe, oI, oIC, oI1, oAdd, oMul, oIsN, oLen, oList, oTuple, oAbs, oMin2, oInt1, fLst, fListRg1, fList, fRep, fCat, tYs, tru, isS, dats, seqD, seqO, tyS, List.set, List.getElem?_cons_zero, List.getElem?_cons_succ, List.append_eq, List.nil_append, List.cons_append, Option.map_some, Option.bind_some, ng, wipeD, List.length_cons, List.length_nil, Nat.reduceAdd, Nat.reduceSub, List.replicate_succ, List.replicate_zero, eCell, sSetL, bareD,  eCallD, intsS, unS, List.map, oInS, isNumX]; try simp only [decide_eq_true_eq, Bool.not_eq_true', decide_eq_false_iff_not, Bool.false_eq_true, if_false, if_true, reduceIte, String.reduceBEq, Bool.true_or, Bool.false_or, Bool.or_false, Bool.and_false, Bool.false_and, Bool.and_true, Bool.true_and, Bool.not_true, Bool.not_false, ne_eq, not_true_eq_false, reduceCtorEq, Bool.true_eq_false, decide_true, decide_false])
    unfold r_law_wrong_3
    (try dsimp only [gN, gN2, sNil, sSeq, sExp, sRet, sIf, sPass, sCont, sBrk, sSet, sSetO, sApp, sAppF, sApPop, flatD, sFrz, sAug, sRaise, sAsg, sPut, eV, eC, e1, e2, t2, tBl, tTru, tN, tAn, tOo, tCh, eNot, eAn, eOo, eIf, eTup, eLst, eF, eFld, eIs, eIxO, eLenO, eSl, eRev, eB, eCall, eCallG, eMeth, aN, aC, aV, oNo, oPt, eIsO, oSrtI, oSrtT, oLt, oLe, oReprB, oInI, gN3, eCh, oGt, oGe, oI, oIC, oI1, oAdd, oMul, oIsN, oLen, oList, oTuple, oAbs, oMin2, oInt1, fLst, fListRg1, fList, fRep, fCat, tYs, tru, isS, dats, seqD, seqO, tyS, List.set, List.getElem?_cons_zero, List.getElem?_cons_succ, List.append_eq, List.nil_append, List.cons_append, Option.map_some, Option.bind_some, ng, wipeD, List.length_cons, List.length_nil, Nat.reduceAdd, Nat.reduceSub, List.replicate_succ, List.replicate_zero, eCell, sSetL, bareD,  eCallD, intsS, unS, List.map, oInS, isNumX]; try simp only [decide_eq_true_eq, Bool.not_eq_true', decide_eq_false_iff_not, Bool.false_eq_true, if_false, if_true, reduceIte, String.reduceBEq, Bool.true_or, Bool.false_or, Bool.or_false, Bool.and_false, Bool.false_and, Bool.and_true, Bool.true_and, Bool.not_true, Bool.not_false, ne_eq, not_true_eq_false, reduceCtorEq, Bool.true_eq_false, decide_true, decide_false])
    unfold sFor iRg1
    (try dsimp only [gN, gN2, sNil, sSeq, sExp, sRet, sIf, sPass, sCont, sBrk, sSet, sSetO, sApp, sAppF, sApPop, flatD, sFrz, sAug, sRaise, sAsg, sPut, eV, eC, e1, e2, t2, tBl, tTru, tN, tAn, tOo, tCh, eNot, eAn, eOo, eIf, eTup, eLst, eF, eFld, eIs, eIxO, eLenO, eSl, eRev, eB, eCall, eCallG, eMeth, aN, aC, aV, oNo, oPt, eIsO, oSrtI, oSrtT, oLt, oLe, oReprB, oInI, gN3, eCh, oGt, oGe, oI, oIC, oI1, oAdd, oMul, oIsN, oLen, oList, oTuple, oAbs, oMin2, oInt1, fLst, fListRg1, fList, fRep, fCat, tYs, tru, isS, dats, seqD, seqO, tyS, List.set, List.getElem?_cons_zero, List.getElem?_cons_succ, List.append_eq, List.nil_append, List.cons_append, Option.map_some, Option.bind_some, ng, wipeD, List.length_cons, List.length_nil, Nat.reduceAdd, Nat.reduceSub, List.replicate_succ, List.replicate_zero, eCell, sSetL, bareD,  eCallD, intsS, unS, List.map, oInS, isNumX]; try simp only [decide_eq_true_eq, Bool.not_eq_true', decide_eq_false_iff_not, Bool.false_eq_true, if_false, if_true, reduceIte, String.reduceBEq, Bool.true_or, Bool.false_or, Bool.or_false, Bool.and_false, Bool.false_and, Bool.and_true, Bool.true_and, Bool.not_true, Bool.not_false, ne_eq, not_true_eq_false, reduceCtorEq, Bool.true_eq_false, decide_true, decide_false])
    refine ⟨_, rfl, by decide, by decide, fun t t0 t1 => ?_⟩
    obtain ⟨t, rfl⟩ := Int.eq_ofNat_of_zero_le t0
    (try dsimp only [gN, gN2, sNil, sSeq, sExp, sRet, sIf, sPass, sCont, sBrk, sSet, sSetO, sApp, sAppF, sApPop, flatD, sFrz, sAug, sRaise, sAsg, sPut, eV, eC, e1, e2, t2, tBl, tTru, tN, tAn, tOo, tCh, eNot, eAn, eOo, eIf, eTup, eLst, eF, eFld, eIs, eIxO, eLenO, eSl, eRev, eB, eCall, eCallG, eMeth, aN, aC, aV, oNo, oPt, eIsO, oSrtI, oSrtT, oLt, oLe, oReprB, oInI, gN3, eCh, oGt, oGe, oI, oIC, oI1, oAdd, oMul, oIsN, oLen, oList, oTuple, oAbs, oMin2, oInt1, fLst, fListRg1, fList, fRep, fCat, tYs, tru, isS, dats, seqD, seqO, tyS, List.set, List.getElem?_cons_zero, List.getElem?_cons_succ, List.append_eq, List.nil_append, List.cons_append, Option.map_some, Option.bind_some, ng, wipeD, List.length_cons, List.length_nil, Nat.reduceAdd, Nat.reduceSub, List.replicate_succ, List.replicate_zero, eCell, sSetL, bareD,  eCallD, intsS, unS, List.map, oInS, isNumX]; try simp only [decide_eq_true_eq, Bool.not_eq_true', decide_eq_false_iff_not, Bool.false_eq_true, if_false, if_true, reduceIte, String.reduceBEq, Bool.true_or, Bool.false_or, Bool.or_false, Bool.and_false, Bool.false_and, Bool.and_true, Bool.true_and, Bool.not_true, Bool.not_false, ne_eq, not_true_eq_false, reduceCtorEq, Bool.true_eq_false, decide_true, decide_false])
    rw [show (1 : Int) + (t : Int) = ((1 + t : Nat) : Int) from by omega, Int.toNat_natCast, rg_nat]
    refine ⟨by omega, by omega, fun i ρ => ∃ (v : D) (z : Sl), noO v = true ∧ (∀ p : Int, v ≠ .int p) ∧ (0 < i → isLotX m v = false) ∧ ρ = [.src, .dat (.int (m : Int)), .dat (.int k), .dat (.tup (natX (lotN c))), .dat (.int (a : Int)), .dat v, z], ⟨.tup (natX (lotN c)), .un, nn, (fun p e => (by cases e)), fun h => absurd h (Nat.lt_irrefl 0), rfl⟩, ?_, ?_⟩
    · rintro i x ρ hx ⟨v, z, hv, ni, _, rfl⟩
      obtain ⟨p, hp, rfl⟩ := natX_get hx
      unfold r_law_wrong_1
      (try dsimp only [gN, gN2, sNil, sSeq, sExp, sRet, sIf, sPass, sCont, sBrk, sSet, sSetO, sApp, sAppF, sApPop, flatD, sFrz, sAug, sRaise, sAsg, sPut, eV, eC, e1, e2, t2, tBl, tTru, tN, tAn, tOo, tCh, eNot, eAn, eOo, eIf, eTup, eLst, eF, eFld, eIs, eIxO, eLenO, eSl, eRev, eB, eCall, eCallG, eMeth, aN, aC, aV, oNo, oPt, eIsO, oSrtI, oSrtT, oLt, oLe, oReprB, oInI, gN3, eCh, oGt, oGe, oI, oIC, oI1, oAdd, oMul, oIsN, oLen, oList, oTuple, oAbs, oMin2, oInt1, fLst, fListRg1, fList, fRep, fCat, tYs, tru, isS, dats, seqD, seqO, tyS, List.set, List.getElem?_cons_zero, List.getElem?_cons_succ, List.append_eq, List.nil_append, List.cons_append, Option.map_some, Option.bind_some, ng, wipeD, List.length_cons, List.length_nil, Nat.reduceAdd, Nat.reduceSub, List.replicate_succ, List.replicate_zero, eCell, sSetL, bareD,  eCallD, intsS, unS, List.map, oInS, isNumX]; try simp only [decide_eq_true_eq, Bool.not_eq_true', decide_eq_false_iff_not, Bool.false_eq_true, if_false, if_true, reduceIte, String.reduceBEq, Bool.true_or, Bool.false_or, Bool.or_false, Bool.and_false, Bool.false_and, Bool.and_true, Bool.true_and, Bool.not_true, Bool.not_false, ne_eq, not_true_eq_false, reduceCtorEq, Bool.true_eq_false, decide_true, decide_false])
      refine ⟨by omega, ?_⟩
      rcases (by omega : (p : Int) % 2 = 0 ∨ (p : Int) % 2 = 1) with e | e <;> rw [e]
      · refine oIx_l (d := .tup [v]) rfl ?_
        refine ⟨.tup [v], .dat (.int (p : Int)), by simp only [noO, noOs, hv]; rfl, (fun p e => (by cases e)), fun _ => ?_, rfl⟩
        exact not_lot_mem (x := v) (by simp) fun p _ e => ni _ e
      · refine oIx_l (d := .lst [v]) rfl ?_
        exact ⟨.lst [v], .dat (.int (p : Int)), by simp only [noO, noOs, hv]; rfl, (fun p e => (by cases e)), fun _ => rfl, rfl⟩
    · rintro ρ ⟨v, z, hv, ni, hl, rfl⟩
      rw [natX_len, List.length_range] at hl
      unfold r_law_wrong_2
      (try dsimp only [gN, gN2, sNil, sSeq, sExp, sRet, sIf, sPass, sCont, sBrk, sSet, sSetO, sApp, sAppF, sApPop, flatD, sFrz, sAug, sRaise, sAsg, sPut, eV, eC, e1, e2, t2, tBl, tTru, tN, tAn, tOo, tCh, eNot, eAn, eOo, eIf, eTup, eLst, eF, eFld, eIs, eIxO, eLenO, eSl, eRev, eB, eCall, eCallG, eMeth, aN, aC, aV, oNo, oPt, eIsO, oSrtI, oSrtT, oLt, oLe, oReprB, oInI, gN3, eCh, oGt, oGe, oI, oIC, oI1, oAdd, oMul, oIsN, oLen, oList, oTuple, oAbs, oMin2, oInt1, fLst, fListRg1, fList, fRep, fCat, tYs, tru, isS, dats, seqD, seqO, tyS, List.set, List.getElem?_cons_zero, List.getElem?_cons_succ, List.append_eq, List.nil_append, List.cons_append, Option.map_some, Option.bind_some, ng, wipeD, List.length_cons, List.length_nil, Nat.reduceAdd, Nat.reduceSub, List.replicate_succ, List.replicate_zero, eCell, sSetL, bareD,  eCallD, intsS, unS, List.map, oInS, isNumX]; try simp only [decide_eq_true_eq, Bool.not_eq_true', decide_eq_false_iff_not, Bool.false_eq_true, if_false, if_true, reduceIte, String.reduceBEq, Bool.true_or, Bool.false_or, Bool.or_false, Bool.and_false, Bool.false_and, Bool.and_true, Bool.true_and, Bool.not_true, Bool.not_false, ne_eq, not_true_eq_false, reduceCtorEq, Bool.true_eq_false, decide_true, decide_false])
      exact q v hv (hl (by omega))
  (try dsimp only [gN, gN2, sNil, sSeq, sExp, sRet, sIf, sPass, sCont, sBrk, sSet, sSetO, sApp, sAppF, sApPop, flatD, sFrz, sAug, sRaise, sAsg, sPut, eV, eC, e1, e2, t2, tBl, tTru, tN, tAn, tOo, tCh, eNot, eAn, eOo, eIf, eTup, eLst, eF, eFld, eIs, eIxO, eLenO, eSl, eRev, eB, eCall, eCallG, eMeth, aN, aC, aV, oNo, oPt, eIsO, oSrtI, oSrtT, oLt, oLe, oReprB, oInI, gN3, eCh, oGt, oGe, oI, oIC, oI1, oAdd, oMul, oIsN, oLen, oList, oTuple, oAbs, oMin2, oInt1, fLst, fListRg1, fList, fRep, fCat, tYs, tru, isS, dats, seqD, seqO, tyS, List.set, List.getElem?_cons_zero, List.getElem?_cons_succ, List.append_eq, List.nil_append, List.cons_append, Option.map_some, Option.bind_some, ng, wipeD, List.length_cons, List.length_nil, Nat.reduceAdd, Nat.reduceSub, List.replicate_succ, List.replicate_zero, eCell, sSetL, bareD,  eCallD, intsS, unS, List.map, oInS, isNumX]; try simp only [decide_eq_true_eq, Bool.not_eq_true', decide_eq_false_iff_not, Bool.false_eq_true, if_false, if_true, reduceIte, String.reduceBEq, Bool.true_or, Bool.false_or, Bool.or_false, Bool.and_false, Bool.false_and, Bool.and_true, Bool.true_and, Bool.not_true, Bool.not_false, ne_eq, not_true_eq_false, reduceCtorEq, Bool.true_eq_false, decide_true, decide_false])
  by_cases h6 : k = 6
  · refine oEq_iT h6 ?_
    refine ifT rfl ?_
    by_cases ha : 0 < a
    · refine ifT (by omega) ?_
      rw [ct, show ((a : Int) - 1) = ((a - 1 : Nat) : Int) from by omega, cut_from (by omega : a - 1 ≤ (lotN c).length)]
      refine ⟨by simp only [natX_len, List.length_take, List.length_drop]; omega, ?_⟩
      refine q _ (by simp only [noO, noOs_app, nt, nd]; rfl) (not_lot fun c' hc' e => ?_)
      have e : natX ((lotN c).take a ++ (lotN c).drop (a - 1)) = natX (lotN c') := by rw [← e]; exact (List.map_append)
      have e := natX_inj e
      have nd' := asc_nodup (lotN_asc c')
      rw [← e, List.nodup_append] at nd'
      have la1 : a - 1 < (lotN c).length := by omega
      refine nd'.2.2 ((lotN c)[a - 1]) ?_ ((lotN c)[a - 1]) ?_ rfl
      · exact List.mem_take_iff_getElem.mpr ⟨a - 1, by omega, rfl⟩
      · exact List.mem_drop_iff_getElem.mpr ⟨0, by omega, by simp⟩
    · refine ifF (by omega) ?_
      exact rest
  refine oEq_iF h6 ?_
  refine ifF (by decide) ?_
  exact rest
end DL

set_option Elab.async false
set_option linter.all false
set_option maxRecDepth 100000
set_option maxHeartbeats 400000
namespace BT
open PySem PySem.Spec PyProof.Rows L2 DL
/-! ### short data -/
theorem dWA_le {n : Nat} : ∀ {ds : List PyData}, (∀ d ∈ ds, dW d + 2 ≤ n) → dWA ds ≤ n * ds.length
  | [], _ => Nat.le_refl _
  | d :: ds, h => by
    have h1 := h d (List.mem_cons_self ..)
    have h2 := dWA_le (n := n) (ds := ds) fun e he => h e (List.mem_cons_of_mem _ he)
    simp only [dWA, List.length_cons]
    rw [Nat.mul_succ]
    omega
theorem okIA_of : ∀ {ds : List PyData}, (∀ d ∈ ds, okI d = true) → okIA ds = true
  | [], _ => rfl
  | d :: ds, h => by
    simp only [okIA, Bool.and_eq_true]
    exact ⟨h d (List.mem_cons_self ..), okIA_of fun e he => h e (List.mem_cons_of_mem _ he)⟩
theorem depthA_le {n : Nat} : ∀ {ds : List PyData}, (∀ d ∈ ds, d.depth ≤ n) → PyData.depthAll ds ≤ n
  | [], _ => by simp [PyData.depthAll]
  | d :: ds, h => by
    simp only [PyData.depthAll]
    exact Nat.max_le.mpr ⟨h d (List.mem_cons_self ..), depthA_le fun e he => h e (List.mem_cons_of_mem _ he)⟩
theorem hasDictA_no : ∀ {ds : List PyData}, (∀ d ∈ ds, d.hasDict = false) → PyData.hasDictAll ds = false
  | [], _ => by simp [PyData.hasDictAll]
  | d :: ds, h => by
    simp only [PyData.hasDictAll, Bool.or_eq_false_iff]
    exact ⟨h d (List.mem_cons_self ..), hasDictA_no fun e he => h e (List.mem_cons_of_mem _ he)⟩
/-- one item of a short tuple -/
structure It1 (d : PyData) : Prop where
  ok : okI d = true
  w : dW d ≤ 41
  dp : d.depth = 0
  nd : d.hasDict = false
theorem it_int {z : Int} (h : z.natAbs < 10 ^ 40) : It1 (.int z) := ⟨by simp only [okI]; exact decide_eq_true h, by simp [dW], by simp [PyData.depth], by simp [PyData.hasDict]⟩
theorem it_none : It1 .none := ⟨rfl, by decide, by simp [PyData.depth], by simp [PyData.hasDict]⟩
theorem It1.sm {d : PyData} (h : It1 d) : Sm 41 d := ⟨h.ok, h.w, by rw [h.dp]; omega, fun e => by rw [h.nd] at e; cases e⟩
theorem sm_items {ds : List PyData} {n : Nat} (hl : ds.length ≤ n) (h : ∀ d ∈ ds, It1 d) : Sm (43 * n + 3) (.tuple ds) ∧ Sm (43 * n + 3) (.list ds) := by
  have h1 := okIA_of fun d hd => (h d hd).ok
  have h2 := dWA_le (n := 43) fun d hd => by have := (h d hd).w; omega
  have h3 : 43 * ds.length ≤ 43 * n := Nat.mul_le_mul_left _ hl
  have h4 := depthA_le (n := 0) fun d hd => by rw [(h d hd).dp]; omega
  have h5 := hasDictA_no fun d hd => (h d hd).nd
  refine ⟨⟨by simpa only [okI] using h1, by simp only [dW]; omega, by simp only [PyData.depth]; omega, fun e => ?_⟩, ⟨by simpa only [okI] using h1, by simp only [dW]; omega, by simp only [PyData.depth]; omega, fun e => ?_⟩⟩
  · simp only [PyData.hasDict] at e; rw [h5] at e; cases e
  · simp only [PyData.hasDict] at e; rw [h5] at e; cases e
theorem nat_small {p : Nat} (h : p < 1000) : ((p : Int)).natAbs < 10 ^ 40 := Nat.lt_trans (show p < 1000 from h) (by decide)
theorem sm_lot24 {m : Nat} (h : m < 2 ^ 24) : Sm 1035 (lotD (lotN m)) := by
  refine (sm_items (n := 24) (by rw [List.length_map]; exact DL.nodup_len 24 _ (asc_nodup (lotN_asc m)) fun b hb => lotN_lt h b hb) fun d hd => ?_).1
  obtain ⟨p, hp, rfl⟩ := List.mem_map.mp hd
  have := lotN_lt h p hp
  exact it_int (nat_small (by omega))
theorem lotD_nd (l : List Nat) : (lotD l).hasDict = false := by
  unfold lotD
  simp only [PyData.hasDict]
  refine hasDictA_no fun d hd => ?_
  obtain ⟨p, hp, rfl⟩ := List.mem_map.mp hd
  simp only [PyData.hasDict]
end BT

set_option Elab.async false
set_option linter.all false
set_option maxRecDepth 100000
set_option maxHeartbeats 1000000
set_option exponentiation.threshold 2000
namespace DL
open PySem PySem.Spec PyProof.Rows L2 BT
/-! ### logs as texts -/
def optP : Option Nat → PyData
  | none => .none
  | some b => .int (b : Int)
def itP (x : LI) : PyData := .tuple [lotD (lotN x.1), optP x.2]
theorem pyR_opt (o : Option Nat) : pyR (optI o) = some (optP o) := by cases o <;> rfl
theorem pyR_it (x : LI) : pyR (itD x) = some (itP x) := by
  unfold itD itP
  simp only [pyR, pyRs, lotM, pyR_lot, pyR_opt, Option.bind_some, Option.map_some]
theorem pyRs_its : ∀ L : List LI, pyRs (L.map itD) = some (L.map itP)
  | [] => rfl
  | x :: R => by
    rw [List.map_cons, List.map_cons]
    show (pyR (itD x)).bind (fun p => (pyRs (R.map itD)).map (p :: ·)) = _
    rw [pyR_it, pyRs_its R]; rfl
theorem pyR_log (L : List LI) : pyR (.lst (L.map itD)) = some (.list (L.map itP)) := by
  simp only [pyR, pyRs_its]; rfl
theorem opt_ok {o : Option Nat} (h : ∀ b, o = some b → b ≤ 1) : okI (optP o) = true ∧ dW (optP o) ≤ 41 ∧ (optP o).depth = 0 ∧ (optP o).hasDict = false := by
  cases o with
  | none => exact ⟨it_none.ok, it_none.w, it_none.dp, it_none.nd⟩
  | some b =>
    have hb := h b rfl
    have := it_int (z := (b : Int)) (nat_small (by omega))
    exact ⟨this.ok, this.w, this.dp, this.nd⟩
theorem itP_ok {x : LI} (h : x.1 < 2 ^ 24) (hb : ∀ b, x.2 = some b → b ≤ 1) : okI (itP x) = true ∧ dW (itP x) ≤ 1200 ∧ (itP x).depth ≤ 41 ∧ (itP x).hasDict = false := by
  have h1 := sm_lot24 h
  have h2 := opt_ok hb
  unfold itP
  refine ⟨?_, ?_, ?_, ?_⟩
  · simp only [okI, okIA, Bool.and_eq_true]
    exact ⟨h1.ok, h2.1, trivial⟩
  · simp only [dW, dWA]
    have := h1.w
    have := h2.2.1
    omega
  · simp only [PyData.depth, PyData.depthAll]
    have := h1.dp
    have := h2.2.2.1
    omega
  · simp only [PyData.hasDict, PyData.hasDictAll, lotD_nd, h2.2.2.2, Bool.or_false]
theorem sr_log {n : Nat} {L : List LI} (hn : n ≤ 24) (ok : LogOk n L) : Sr (.list (L.map itP)) := by
  have ll := ok.len
  have each : ∀ d ∈ L.map itP, okI d = true ∧ dW d ≤ 1200 ∧ d.depth ≤ 41 ∧ d.hasDict = false := fun d hd => by
    obtain ⟨x, hx, rfl⟩ := List.mem_map.mp hd
    exact itP_ok (Nat.lt_of_lt_of_le (ok.lt x hx) (Nat.pow_le_pow_right (by decide) hn)) (ok.bit x hx)
  have h1 := okIA_of fun d hd => (each d hd).1
  have h2 := dWA_le (n := 1202) fun d hd => by have := (each d hd).2.1; omega
  have h4 := depthA_le (n := 41) fun d hd => (each d hd).2.2.1
  have h5 := hasDictA_no fun d hd => (each d hd).2.2.2
  rw [List.length_map] at h2
  refine ⟨by simpa only [okI] using h1, by simp only [dW]; omega, by simp only [PyData.depth]; omega, fun e => ?_⟩
  simp only [PyData.hasDict] at e; rw [h5] at e; cases e
theorem rp_log {n : Nat} {L : List LI} (hn : n ≤ 24) (ok : LogOk n L) : ∃ s : Str, ∀ Q : D → Prop, Q (.str s) → oReprB [.lst (L.map itD)] Q := ⟨_, fun Q q => ⟨trivial, _, pyR_log L, sr_log hn ok, q⟩⟩
theorem sr_one {x : Str} (h : okI (.str x) = true) (hw : dW (.str x) ≤ 1000) : Sr (.tuple [.str x]) := by
  refine ⟨?_, ?_, ?_, ?_⟩
  · simp only [okI, okIA, Bool.and_eq_true] at h ⊢
    exact ⟨h, trivial⟩
  · simp only [dW, dWA] at hw ⊢; omega
  · simp [PyData.depth, PyData.depthAll]
  · simp [PyData.hasDict, PyData.hasDictAll]
theorem sr_two {x : Str} {i : Nat} (h : okI (.str x) = true) (hw : dW (.str x) ≤ 1000) (hi : i < 1000) : Sr (.tuple [.str x, .int (i : Int)]) := by
  have t := it_int (z := (i : Int)) (nat_small hi)
  refine ⟨?_, ?_, ?_, ?_⟩
  · have := t.ok
    simp only [okI, okIA, Bool.and_eq_true] at h this ⊢
    exact ⟨h, this, trivial⟩
  · have := t.w
    simp only [dW, dWA] at hw this ⊢; omega
  · simp [PyData.depth, PyData.depthAll]
  · simp [PyData.hasDict, PyData.hasDictAll]
theorem rp_af (ms : List Nat) (L : List LI) (is : List Nat) (h : ∀ i ∈ is, i < 1000) : ∃ s : Str, ∀ Q : D → Prop, Q (.str s) → oReprN [afF ms L is] Q := by
  unfold afF
  cases c : unkF L is with
  | some i =>
    have hi := h i (List.mem_of_find?_eq_some c)
    exact ⟨_, fun Q q => ⟨trivial, _, rfl, sr_two (i := i) (by decide +kernel) (by decide +kernel) hi, q⟩⟩
  | none =>
    dsimp only
    split
    · exact ⟨_, fun Q q => ⟨trivial, _, rfl, sr_one (by decide +kernel) (by decide +kernel), q⟩⟩
    · split
      · exact ⟨_, fun Q q => ⟨trivial, _, rfl, sr_one (by decide +kernel) (by decide +kernel), q⟩⟩
      · exact ⟨Str.ofString "None", fun Q q => q⟩
theorem rp_form : ∃ s : Str, ∀ Q : D → Prop, Q (.str s) → oReprN [.tup [.str (Str.ofString "form")]] Q := ⟨_, fun Q q => ⟨trivial, _, rfl, sr_one (by decide +kernel) (by decide +kernel), q⟩⟩
theorem af_red (rs : List Nat) (L : List LI) (is : List Nat) : afF (reduceF rs) L is = afF rs L is := by
  unfold afF
  rw [any_red]
theorem lotM_inj {a b : Nat} (h : lotM a = lotM b) : a = b := by
  unfold lotM lotX at h
  injection h with h
  rw [← maskN_lotN a, ← maskN_lotN b, natX_inj h]
theorem sem_law : r_law { nx := fun _ => False, rt := fun d => d = .bl true } (.un :: .src :: List.replicate 12 .un) (fun _ _ _ => False) := by
  have fin : ∀ n : Nat, 1 ≤ n → n ≤ 24 → r_law_11 { nx := fun _ => False, rt := fun d => d = .bl true } [.un, .src, .dat (.int (n : Int)), .un, .un, .un, .un, .un, .un, .un, .un, .un, .un, .un] (fun _ _ _ => False) := by
    intro n n1 hn
    have p24 := powN24 hn
    have p0 := Nat.two_pow_pos n
    unfold r_law_11
    (try dsimp only [gN, gN2, sNil, sSeq, sExp, sRet, sIf, sPass, sCont, sBrk, sSet, sSetO, sApp, sAppF, sApPop, flatD, sFrz, sAug, sRaise, sAsg, sPut, eV, eC, e1, e2, t2, tBl, tTru, tN, tAn, tOo, tCh, eNot, eAn, eOo, eIf, eTup, eLst, eF, eFld, eIs, eIxO, eLenO, eSl, eRev, eB, eCall, eCallG, eMeth, aN, aC, aV, oNo, oPt, eIsO, oSrtI, oSrtT, oLt, oLe, oReprB, oInI, gN3, eCh, oGt, oGe, oI, oIC, oI1, oAdd, oMul, oIsN, oLen, oList, oTuple, oAbs, oMin2, oInt1, fLst, fListRg1, fList, fRep, fCat, tYs, tru, isS, dats, seqD, seqO, tyS, List.set, List.getElem?_cons_zero, List.getElem?_cons_succ, List.append_eq, List.nil_append, List.cons_append, Option.map_some, Option.bind_some, ng, wipeD, List.length_cons, List.length_nil, Nat.reduceAdd, Nat.reduceSub, List.replicate_succ, List.replicate_zero, eCell, sSetL, bareD,  eCallD, intsS, unS, List.map, oInS, isNumX]; try simp only [decide_eq_true_eq, Bool.not_eq_true', decide_eq_false_iff_not, Bool.false_eq_true, if_false, if_true, reduceIte, String.reduceBEq, Bool.true_or, Bool.false_or, Bool.or_false, Bool.and_false, Bool.false_and, Bool.and_true, Bool.true_and, Bool.not_true, Bool.not_false, ne_eq, not_true_eq_false, reduceCtorEq, Bool.true_eq_false, decide_true, decide_false])
    refine lcRw (k := 6) (n := n) (fun R r => ?_) (by decide) (fun x Q' q' => ?_) (fun rs lr hr => ?_)
    · unfold iRg1
      (try dsimp only [gN, gN2, sNil, sSeq, sExp, sRet, sIf, sPass, sCont, sBrk, sSet, sSetO, sApp, sAppF, sApPop, flatD, sFrz, sAug, sRaise, sAsg, sPut, eV, eC, e1, e2, t2, tBl, tTru, tN, tAn, tOo, tCh, eNot, eAn, eOo, eIf, eTup, eLst, eF, eFld, eIs, eIxO, eLenO, eSl, eRev, eB, eCall, eCallG, eMeth, aN, aC, aV, oNo, oPt, eIsO, oSrtI, oSrtT, oLt, oLe, oReprB, oInI, gN3, eCh, oGt, oGe, oI, oIC, oI1, oAdd, oMul, oIsN, oLen, oList, oTuple, oAbs, oMin2, oInt1, fLst, fListRg1, fList, fRep, fCat, tYs, tru, isS, dats, seqD, seqO, tyS, List.set, List.getElem?_cons_zero, List.getElem?_cons_succ, List.append_eq, List.nil_append, List.cons_append, Option.map_some, Option.bind_some, ng, wipeD, List.length_cons, List.length_nil, Nat.reduceAdd, Nat.reduceSub, List.replicate_succ, List.replicate_zero, eCell, sSetL, bareD,  eCallD, intsS, unS, List.map, oInS, isNumX]; try simp only [decide_eq_true_eq, Bool.not_eq_true', decide_eq_false_iff_not, Bool.false_eq_true, if_false, if_true, reduceIte, String.reduceBEq, Bool.true_or, Bool.false_or, Bool.or_false, Bool.and_false, Bool.false_and, Bool.and_true, Bool.true_and, Bool.not_true, Bool.not_false, ne_eq, not_true_eq_false, reduceCtorEq, Bool.true_eq_false, decide_true, decide_false])
      refine ⟨_, rfl, by decide, by decide, fun k k0 k1 => ?_⟩
      obtain ⟨k, rfl⟩ := Int.eq_ofNat_of_zero_le k0
      exact ⟨by omega, by omega, by rw [Int.toNat_natCast, rg_nat]; exact r k (by omega)⟩
    · (try dsimp only [gN, gN2, sNil, sSeq, sExp, sRet, sIf, sPass, sCont, sBrk, sSet, sSetO, sApp, sAppF, sApPop, flatD, sFrz, sAug, sRaise, sAsg, sPut, eV, eC, e1, e2, t2, tBl, tTru, tN, tAn, tOo, tCh, eNot, eAn, eOo, eIf, eTup, eLst, eF, eFld, eIs, eIxO, eLenO, eSl, eRev, eB, eCall, eCallG, eMeth, aN, aC, aV, oNo, oPt, eIsO, oSrtI, oSrtT, oLt, oLe, oReprB, oInI, gN3, eCh, oGt, oGe, oI, oIC, oI1, oAdd, oMul, oIsN, oLen, oList, oTuple, oAbs, oMin2, oInt1, fLst, fListRg1, fList, fRep, fCat, tYs, tru, isS, dats, seqD, seqO, tyS, List.set, List.getElem?_cons_zero, List.getElem?_cons_succ, List.append_eq, List.nil_append, List.cons_append, Option.map_some, Option.bind_some, ng, wipeD, List.length_cons, List.length_nil, Nat.reduceAdd, Nat.reduceSub, List.replicate_succ, List.replicate_zero, eCell, sSetL, bareD,  eCallD, intsS, unS, List.map, oInS, isNumX]; try simp only [decide_eq_true_eq, Bool.not_eq_true', decide_eq_false_iff_not, Bool.false_eq_true, if_false, if_true, reduceIte, String.reduceBEq, Bool.true_or, Bool.false_or, Bool.or_false, Bool.and_false, Bool.false_and, Bool.and_true, Bool.true_and, Bool.not_true, Bool.not_false, ne_eq, not_true_eq_false, reduceCtorEq, Bool.true_eq_false, decide_true, decide_false])
      exact ⟨n, rfl, hn, q'⟩
    unfold r_law_10
    (try dsimp only [gN, gN2, sNil, sSeq, sExp, sRet, sIf, sPass, sCont, sBrk, sSet, sSetO, sApp, sAppF, sApPop, flatD, sFrz, sAug, sRaise, sAsg, sPut, eV, eC, e1, e2, t2, tBl, tTru, tN, tAn, tOo, tCh, eNot, eAn, eOo, eIf, eTup, eLst, eF, eFld, eIs, eIxO, eLenO, eSl, eRev, eB, eCall, eCallG, eMeth, aN, aC, aV, oNo, oPt, eIsO, oSrtI, oSrtT, oLt, oLe, oReprB, oInI, gN3, eCh, oGt, oGe, oI, oIC, oI1, oAdd, oMul, oIsN, oLen, oList, oTuple, oAbs, oMin2, oInt1, fLst, fListRg1, fList, fRep, fCat, tYs, tru, isS, dats, seqD, seqO, tyS, List.set, List.getElem?_cons_zero, List.getElem?_cons_succ, List.append_eq, List.nil_append, List.cons_append, Option.map_some, Option.bind_some, ng, wipeD, List.length_cons, List.length_nil, Nat.reduceAdd, Nat.reduceSub, List.replicate_succ, List.replicate_zero, eCell, sSetL, bareD,  eCallD, intsS, unS, List.map, oInS, isNumX]; try simp only [decide_eq_true_eq, Bool.not_eq_true', decide_eq_false_iff_not, Bool.false_eq_true, if_false, if_true, reduceIte, String.reduceBEq, Bool.true_or, Bool.false_or, Bool.or_false, Bool.and_false, Bool.false_and, Bool.and_true, Bool.true_and, Bool.not_true, Bool.not_false, ne_eq, not_true_eq_false, reduceCtorEq, Bool.true_eq_false, decide_true, decide_false])
    refine lcMapX rs lotM (fun R r => iSqV rfl rfl r) (by omega) (fun r hr' Q' q' => ?_) ?_
    · (try dsimp only [gN, gN2, sNil, sSeq, sExp, sRet, sIf, sPass, sCont, sBrk, sSet, sSetO, sApp, sAppF, sApPop, flatD, sFrz, sAug, sRaise, sAsg, sPut, eV, eC, e1, e2, t2, tBl, tTru, tN, tAn, tOo, tCh, eNot, eAn, eOo, eIf, eTup, eLst, eF, eFld, eIs, eIxO, eLenO, eSl, eRev, eB, eCall, eCallG, eMeth, aN, aC, aV, oNo, oPt, eIsO, oSrtI, oSrtT, oLt, oLe, oReprB, oInI, gN3, eCh, oGt, oGe, oI, oIC, oI1, oAdd, oMul, oIsN, oLen, oList, oTuple, oAbs, oMin2, oInt1, fLst, fListRg1, fList, fRep, fCat, tYs, tru, isS, dats, seqD, seqO, tyS, List.set, List.getElem?_cons_zero, List.getElem?_cons_succ, List.append_eq, List.nil_append, List.cons_append, Option.map_some, Option.bind_some, ng, wipeD, List.length_cons, List.length_nil, Nat.reduceAdd, Nat.reduceSub, List.replicate_succ, List.replicate_zero, eCell, sSetL, bareD,  eCallD, intsS, unS, List.map, oInS, isNumX]; try simp only [decide_eq_true_eq, Bool.not_eq_true', decide_eq_false_iff_not, Bool.false_eq_true, if_false, if_true, reduceIte, String.reduceBEq, Bool.true_or, Bool.false_or, Bool.or_false, Bool.and_false, Bool.false_and, Bool.and_true, Bool.true_and, Bool.not_true, Bool.not_false, ne_eq, not_true_eq_false, reduceCtorEq, Bool.true_eq_false, decide_true, decide_false])
      exact ⟨r, rfl, by have := hr r hr'; omega, q'⟩
    refine ⟨n, rs, rfl, n1, hn, by omega, hr, ?_⟩
    have R := rows_ok (n := n) (rs := rs) (by omega) (by omega) hr
    unfold r_law_9
    (try dsimp only [gN, gN2, sNil, sSeq, sExp, sRet, sIf, sPass, sCont, sBrk, sSet, sSetO, sApp, sAppF, sApPop, flatD, sFrz, sAug, sRaise, sAsg, sPut, eV, eC, e1, e2, t2, tBl, tTru, tN, tAn, tOo, tCh, eNot, eAn, eOo, eIf, eTup, eLst, eF, eFld, eIs, eIxO, eLenO, eSl, eRev, eB, eCall, eCallG, eMeth, aN, aC, aV, oNo, oPt, eIsO, oSrtI, oSrtT, oLt, oLe, oReprB, oInI, gN3, eCh, oGt, oGe, oI, oIC, oI1, oAdd, oMul, oIsN, oLen, oList, oTuple, oAbs, oMin2, oInt1, fLst, fListRg1, fList, fRep, fCat, tYs, tru, isS, dats, seqD, seqO, tyS, List.set, List.getElem?_cons_zero, List.getElem?_cons_succ, List.append_eq, List.nil_append, List.cons_append, Option.map_some, Option.bind_some, ng, wipeD, List.length_cons, List.length_nil, Nat.reduceAdd, Nat.reduceSub, List.replicate_succ, List.replicate_zero, eCell, sSetL, bareD,  eCallD, intsS, unS, List.map, oInS, isNumX]; try simp only [decide_eq_true_eq, Bool.not_eq_true', decide_eq_false_iff_not, Bool.false_eq_true, if_false, if_true, reduceIte, String.reduceBEq, Bool.true_or, Bool.false_or, Bool.or_false, Bool.and_false, Bool.false_and, Bool.and_true, Bool.true_and, Bool.not_true, Bool.not_false, ne_eq, not_true_eq_false, reduceCtorEq, Bool.true_eq_false, decide_true, decide_false])
    refine ⟨n, rs, rfl, hn, hr, by omega, fun L ok l6 => ?_⟩
    unfold r_law_8
    (try dsimp only [gN, gN2, sNil, sSeq, sExp, sRet, sIf, sPass, sCont, sBrk, sSet, sSetO, sApp, sAppF, sApPop, flatD, sFrz, sAug, sRaise, sAsg, sPut, eV, eC, e1, e2, t2, tBl, tTru, tN, tAn, tOo, tCh, eNot, eAn, eOo, eIf, eTup, eLst, eF, eFld, eIs, eIxO, eLenO, eSl, eRev, eB, eCall, eCallG, eMeth, aN, aC, aV, oNo, oPt, eIsO, oSrtI, oSrtT, oLt, oLe, oReprB, oInI, gN3, eCh, oGt, oGe, oI, oIC, oI1, oAdd, oMul, oIsN, oLen, oList, oTuple, oAbs, oMin2, oInt1, fLst, fListRg1, fList, fRep, fCat, tYs, tru, isS, dats, seqD, seqO, tyS, List.set, List.getElem?_cons_zero, List.getElem?_cons_succ, List.append_eq, List.nil_append, List.cons_append, Option.map_some, Option.bind_some, ng, wipeD, List.length_cons, List.length_nil, Nat.reduceAdd, Nat.reduceSub, List.replicate_succ, List.replicate_zero, eCell, sSetL, bareD,  eCallD, intsS, unS, List.map, oInS, isNumX]; try simp only [decide_eq_true_eq, Bool.not_eq_true', decide_eq_false_iff_not, Bool.false_eq_true, if_false, if_true, reduceIte, String.reduceBEq, Bool.true_or, Bool.false_or, Bool.or_false, Bool.and_false, Bool.false_and, Bool.and_true, Bool.true_and, Bool.not_true, Bool.not_false, ne_eq, not_true_eq_false, reduceCtorEq, Bool.true_eq_false, decide_true, decide_false])
    refine lcPg L (fun z => .int (z.1 : Int)) (fun z => optI z.2) (fun _ => true) itD (fun R r => iSqV rfl rfl r) (by omega) (fun z hz Q' q' => q') (fun z hz _ Q' q' => ?_) ?_
    · (try dsimp only [gN, gN2, sNil, sSeq, sExp, sRet, sIf, sPass, sCont, sBrk, sSet, sSetO, sApp, sAppF, sApPop, flatD, sFrz, sAug, sRaise, sAsg, sPut, eV, eC, e1, e2, t2, tBl, tTru, tN, tAn, tOo, tCh, eNot, eAn, eOo, eIf, eTup, eLst, eF, eFld, eIs, eIxO, eLenO, eSl, eRev, eB, eCall, eCallG, eMeth, aN, aC, aV, oNo, oPt, eIsO, oSrtI, oSrtT, oLt, oLe, oReprB, oInI, gN3, eCh, oGt, oGe, oI, oIC, oI1, oAdd, oMul, oIsN, oLen, oList, oTuple, oAbs, oMin2, oInt1, fLst, fListRg1, fList, fRep, fCat, tYs, tru, isS, dats, seqD, seqO, tyS, List.set, List.getElem?_cons_zero, List.getElem?_cons_succ, List.append_eq, List.nil_append, List.cons_append, Option.map_some, Option.bind_some, ng, wipeD, List.length_cons, List.length_nil, Nat.reduceAdd, Nat.reduceSub, List.replicate_succ, List.replicate_zero, eCell, sSetL, bareD,  eCallD, intsS, unS, List.map, oInS, isNumX]; try simp only [decide_eq_true_eq, Bool.not_eq_true', decide_eq_false_iff_not, Bool.false_eq_true, if_false, if_true, reduceIte, String.reduceBEq, Bool.true_or, Bool.false_or, Bool.or_false, Bool.and_false, Bool.false_and, Bool.and_true, Bool.true_and, Bool.not_true, Bool.not_false, ne_eq, not_true_eq_false, reduceCtorEq, Bool.true_eq_false, decide_true, decide_false])
      exact ⟨z.1, rfl, by have := ok.lt z hz; omega, q'⟩
    rw [List.filter_eq_self.mpr (fun _ _ => rfl)]
    have pL : 2 ^ L.length ≤ 2 ^ 6 := Nat.pow_le_pow_right (by decide) l6
    unfold r_law_7
    (try dsimp only [gN, gN2, sNil, sSeq, sExp, sRet, sIf, sPass, sCont, sBrk, sSet, sSetO, sApp, sAppF, sApPop, flatD, sFrz, sAug, sRaise, sAsg, sPut, eV, eC, e1, e2, t2, tBl, tTru, tN, tAn, tOo, tCh, eNot, eAn, eOo, eIf, eTup, eLst, eF, eFld, eIs, eIxO, eLenO, eSl, eRev, eB, eCall, eCallG, eMeth, aN, aC, aV, oNo, oPt, eIsO, oSrtI, oSrtT, oLt, oLe, oReprB, oInI, gN3, eCh, oGt, oGe, oI, oIC, oI1, oAdd, oMul, oIsN, oLen, oList, oTuple, oAbs, oMin2, oInt1, fLst, fListRg1, fList, fRep, fCat, tYs, tru, isS, dats, seqD, seqO, tyS, List.set, List.getElem?_cons_zero, List.getElem?_cons_succ, List.append_eq, List.nil_append, List.cons_append, Option.map_some, Option.bind_some, ng, wipeD, List.length_cons, List.length_nil, Nat.reduceAdd, Nat.reduceSub, List.replicate_succ, List.replicate_zero, eCell, sSetL, bareD,  eCallD, intsS, unS, List.map, oInS, isNumX]; try simp only [decide_eq_true_eq, Bool.not_eq_true', decide_eq_false_iff_not, Bool.false_eq_true, if_false, if_true, reduceIte, String.reduceBEq, Bool.true_or, Bool.false_or, Bool.or_false, Bool.and_false, Bool.false_and, Bool.and_true, Bool.true_and, Bool.not_true, Bool.not_false, ne_eq, not_true_eq_false, reduceCtorEq, Bool.true_eq_false, decide_true, decide_false])
    refine sForR (2 ^ L.length) (fun R r => ?_) (fun i ρ => ∃ a b : Sl, ρ = [.un, .src, .dat (.int (n : Int)), .dat (.lst (natX rs)), .dat (bookX n (reduceF rs)), .dat (.lst (L.map itL)), .dat (.lst (L.map itD)), a, b, .un, .un, .un, .un, .un]) ⟨_, _, rfl⟩ ?_ ?_
    · unfold iRg1
      (try dsimp only [gN, gN2, sNil, sSeq, sExp, sRet, sIf, sPass, sCont, sBrk, sSet, sSetO, sApp, sAppF, sApPop, flatD, sFrz, sAug, sRaise, sAsg, sPut, eV, eC, e1, e2, t2, tBl, tTru, tN, tAn, tOo, tCh, eNot, eAn, eOo, eIf, eTup, eLst, eF, eFld, eIs, eIxO, eLenO, eSl, eRev, eB, eCall, eCallG, eMeth, aN, aC, aV, oNo, oPt, eIsO, oSrtI, oSrtT, oLt, oLe, oReprB, oInI, gN3, eCh, oGt, oGe, oI, oIC, oI1, oAdd, oMul, oIsN, oLen, oList, oTuple, oAbs, oMin2, oInt1, fLst, fListRg1, fList, fRep, fCat, tYs, tru, isS, dats, seqD, seqO, tyS, List.set, List.getElem?_cons_zero, List.getElem?_cons_succ, List.append_eq, List.nil_append, List.cons_append, Option.map_some, Option.bind_some, ng, wipeD, List.length_cons, List.length_nil, Nat.reduceAdd, Nat.reduceSub, List.replicate_succ, List.replicate_zero, eCell, sSetL, bareD,  eCallD, intsS, unS, List.map, oInS, isNumX]; try simp only [decide_eq_true_eq, Bool.not_eq_true', decide_eq_false_iff_not, Bool.false_eq_true, if_false, if_true, reduceIte, String.reduceBEq, Bool.true_or, Bool.false_or, Bool.or_false, Bool.and_false, Bool.false_and, Bool.and_true, Bool.true_and, Bool.not_true, Bool.not_false, ne_eq, not_true_eq_false, reduceCtorEq, Bool.true_eq_false, decide_true, decide_false])
      rw [List.length_map]
      refine ⟨cpow1 (by omega), ?_⟩
      rw [shl1_nat]
      exact ⟨pi_lo _, pi_hi (by omega), by rw [Int.toNat_natCast, rg_nat]; exact r⟩
    · rintro c ρ hc ⟨a, b, rfl⟩
      unfold r_law_2
      (try dsimp only [gN, gN2, sNil, sSeq, sExp, sRet, sIf, sPass, sCont, sBrk, sSet, sSetO, sApp, sAppF, sApPop, flatD, sFrz, sAug, sRaise, sAsg, sPut, eV, eC, e1, e2, t2, tBl, tTru, tN, tAn, tOo, tCh, eNot, eAn, eOo, eIf, eTup, eLst, eF, eFld, eIs, eIxO, eLenO, eSl, eRev, eB, eCall, eCallG, eMeth, aN, aC, aV, oNo, oPt, eIsO, oSrtI, oSrtT, oLt, oLe, oReprB, oInI, gN3, eCh, oGt, oGe, oI, oIC, oI1, oAdd, oMul, oIsN, oLen, oList, oTuple, oAbs, oMin2, oInt1, fLst, fListRg1, fList, fRep, fCat, tYs, tru, isS, dats, seqD, seqO, tyS, List.set, List.getElem?_cons_zero, List.getElem?_cons_succ, List.append_eq, List.nil_append, List.cons_append, Option.map_some, Option.bind_some, ng, wipeD, List.length_cons, List.length_nil, Nat.reduceAdd, Nat.reduceSub, List.replicate_succ, List.replicate_zero, eCell, sSetL, bareD,  eCallD, intsS, unS, List.map, oInS, isNumX]; try simp only [decide_eq_true_eq, Bool.not_eq_true', decide_eq_false_iff_not, Bool.false_eq_true, if_false, if_true, reduceIte, String.reduceBEq, Bool.true_or, Bool.false_or, Bool.or_false, Bool.and_false, Bool.false_and, Bool.and_true, Bool.true_and, Bool.not_true, Bool.not_false, ne_eq, not_true_eq_false, reduceCtorEq, Bool.true_eq_false, decide_true, decide_false])
      refine ⟨c, rfl, by omega, ?_⟩
      unfold r_law_1
      (try dsimp only [gN, gN2, sNil, sSeq, sExp, sRet, sIf, sPass, sCont, sBrk, sSet, sSetO, sApp, sAppF, sApPop, flatD, sFrz, sAug, sRaise, sAsg, sPut, eV, eC, e1, e2, t2, tBl, tTru, tN, tAn, tOo, tCh, eNot, eAn, eOo, eIf, eTup, eLst, eF, eFld, eIs, eIxO, eLenO, eSl, eRev, eB, eCall, eCallG, eMeth, aN, aC, aV, oNo, oPt, eIsO, oSrtI, oSrtT, oLt, oLe, oReprB, oInI, gN3, eCh, oGt, oGe, oI, oIC, oI1, oAdd, oMul, oIsN, oLen, oList, oTuple, oAbs, oMin2, oInt1, fLst, fListRg1, fList, fRep, fCat, tYs, tru, isS, dats, seqD, seqO, tyS, List.set, List.getElem?_cons_zero, List.getElem?_cons_succ, List.append_eq, List.nil_append, List.cons_append, Option.map_some, Option.bind_some, ng, wipeD, List.length_cons, List.length_nil, Nat.reduceAdd, Nat.reduceSub, List.replicate_succ, List.replicate_zero, eCell, sSetL, bareD,  eCallD, intsS, unS, List.map, oInS, isNumX]; try simp only [decide_eq_true_eq, Bool.not_eq_true', decide_eq_false_iff_not, Bool.false_eq_true, if_false, if_true, reduceIte, String.reduceBEq, Bool.true_or, Bool.false_or, Bool.or_false, Bool.and_false, Bool.false_and, Bool.and_true, Bool.true_and, Bool.not_true, Bool.not_false, ne_eq, not_true_eq_false, reduceCtorEq, Bool.true_eq_false, decide_true, decide_false])
      have im : ∀ i ∈ lotN c, i < 1000 := fun i hi => by have := lotN_lt hc i hi; omega
      obtain ⟨s, hs⟩ := rp_af rs L (lotN c) im
      refine ⟨n, reduceF rs, L, lotM c, rfl, R, hn, ok, noO_lotM c, fun h => ?_, fun c' e lc => ?_⟩
      · rw [lot_ok hc] at h; cases h
      · have := lotM_inj e
        subst this
        rw [af_red]
        refine hs _ ?_
        refine ⟨n, rs, L, c, rfl, hn, hr, by omega, ok, hc, ?_⟩
        refine hs _ ?_
        refine str_same ?_
        refine ifF (by decide) ?_
        exact ⟨_, _, rfl⟩
    · rintro ρ ⟨a, b, rfl⟩
      unfold r_law_6
      (try dsimp only [gN, gN2, sNil, sSeq, sExp, sRet, sIf, sPass, sCont, sBrk, sSet, sSetO, sApp, sAppF, sApPop, flatD, sFrz, sAug, sRaise, sAsg, sPut, eV, eC, e1, e2, t2, tBl, tTru, tN, tAn, tOo, tCh, eNot, eAn, eOo, eIf, eTup, eLst, eF, eFld, eIs, eIxO, eLenO, eSl, eRev, eB, eCall, eCallG, eMeth, aN, aC, aV, oNo, oPt, eIsO, oSrtI, oSrtT, oLt, oLe, oReprB, oInI, gN3, eCh, oGt, oGe, oI, oIC, oI1, oAdd, oMul, oIsN, oLen, oList, oTuple, oAbs, oMin2, oInt1, fLst, fListRg1, fList, fRep, fCat, tYs, tru, isS, dats, seqD, seqO, tyS, List.set, List.getElem?_cons_zero, List.getElem?_cons_succ, List.append_eq, List.nil_append, List.cons_append, Option.map_some, Option.bind_some, ng, wipeD, List.length_cons, List.length_nil, Nat.reduceAdd, Nat.reduceSub, List.replicate_succ, List.replicate_zero, eCell, sSetL, bareD,  eCallD, intsS, unS, List.map, oInS, isNumX]; try simp only [decide_eq_true_eq, Bool.not_eq_true', decide_eq_false_iff_not, Bool.false_eq_true, if_false, if_true, reduceIte, String.reduceBEq, Bool.true_or, Bool.false_or, Bool.or_false, Bool.and_false, Bool.false_and, Bool.and_true, Bool.true_and, Bool.not_true, Bool.not_false, ne_eq, not_true_eq_false, reduceCtorEq, Bool.true_eq_false, decide_true, decide_false])
      refine sForR 6 (fun R r => ?_) (fun i ρ => ∃ c d : Sl, ρ = [.un, .src, .dat (.int (n : Int)), .dat (.lst (natX rs)), .dat (bookX n (reduceF rs)), .dat (.lst (L.map itL)), .dat (.lst (L.map itD)), a, b, c, d, .un, .un, .un]) ⟨_, _, rfl⟩ ?_ ?_
      · unfold iRg1
        (try dsimp only [gN, gN2, sNil, sSeq, sExp, sRet, sIf, sPass, sCont, sBrk, sSet, sSetO, sApp, sAppF, sApPop, flatD, sFrz, sAug, sRaise, sAsg, sPut, eV, eC, e1, e2, t2, tBl, tTru, tN, tAn, tOo, tCh, eNot, eAn, eOo, eIf, eTup, eLst, eF, eFld, eIs, eIxO, eLenO, eSl, eRev, eB, eCall, eCallG, eMeth, aN, aC, aV, oNo, oPt, eIsO, oSrtI, oSrtT, oLt, oLe, oReprB, oInI, gN3, eCh, oGt, oGe, oI, oIC, oI1, oAdd, oMul, oIsN, oLen, oList, oTuple, oAbs, oMin2, oInt1, fLst, fListRg1, fList, fRep, fCat, tYs, tru, isS, dats, seqD, seqO, tyS, List.set, List.getElem?_cons_zero, List.getElem?_cons_succ, List.append_eq, List.nil_append, List.cons_append, Option.map_some, Option.bind_some, ng, wipeD, List.length_cons, List.length_nil, Nat.reduceAdd, Nat.reduceSub, List.replicate_succ, List.replicate_zero, eCell, sSetL, bareD,  eCallD, intsS, unS, List.map, oInS, isNumX]; try simp only [decide_eq_true_eq, Bool.not_eq_true', decide_eq_false_iff_not, Bool.false_eq_true, if_false, if_true, reduceIte, String.reduceBEq, Bool.true_or, Bool.false_or, Bool.or_false, Bool.and_false, Bool.false_and, Bool.and_true, Bool.true_and, Bool.not_true, Bool.not_false, ne_eq, not_true_eq_false, reduceCtorEq, Bool.true_eq_false, decide_true, decide_false])
        exact ⟨by decide, by decide, r⟩
      · rintro i ρ hi ⟨c, d, rfl⟩
        unfold r_law_4
        (try dsimp only [gN, gN2, sNil, sSeq, sExp, sRet, sIf, sPass, sCont, sBrk, sSet, sSetO, sApp, sAppF, sApPop, flatD, sFrz, sAug, sRaise, sAsg, sPut, eV, eC, e1, e2, t2, tBl, tTru, tN, tAn, tOo, tCh, eNot, eAn, eOo, eIf, eTup, eLst, eF, eFld, eIs, eIxO, eLenO, eSl, eRev, eB, eCall, eCallG, eMeth, aN, aC, aV, oNo, oPt, eIsO, oSrtI, oSrtT, oLt, oLe, oReprB, oInI, gN3, eCh, oGt, oGe, oI, oIC, oI1, oAdd, oMul, oIsN, oLen, oList, oTuple, oAbs, oMin2, oInt1, fLst, fListRg1, fList, fRep, fCat, tYs, tru, isS, dats, seqD, seqO, tyS, List.set, List.getElem?_cons_zero, List.getElem?_cons_succ, List.append_eq, List.nil_append, List.cons_append, Option.map_some, Option.bind_some, ng, wipeD, List.length_cons, List.length_nil, Nat.reduceAdd, Nat.reduceSub, List.replicate_succ, List.replicate_zero, eCell, sSetL, bareD,  eCallD, intsS, unS, List.map, oInS, isNumX]; try simp only [decide_eq_true_eq, Bool.not_eq_true', decide_eq_false_iff_not, Bool.false_eq_true, if_false, if_true, reduceIte, String.reduceBEq, Bool.true_or, Bool.false_or, Bool.or_false, Bool.and_false, Bool.false_and, Bool.and_true, Bool.true_and, Bool.not_true, Bool.not_false, ne_eq, not_true_eq_false, reduceCtorEq, Bool.true_eq_false, decide_true, decide_false])
        rw [List.length_map]
        refine ⟨L.length, rfl, l6, fun w hw hl => ?_⟩
        unfold r_law_3
        (try dsimp only [gN, gN2, sNil, sSeq, sExp, sRet, sIf, sPass, sCont, sBrk, sSet, sSetO, sApp, sAppF, sApPop, flatD, sFrz, sAug, sRaise, sAsg, sPut, eV, eC, e1, e2, t2, tBl, tTru, tN, tAn, tOo, tCh, eNot, eAn, eOo, eIf, eTup, eLst, eF, eFld, eIs, eIxO, eLenO, eSl, eRev, eB, eCall, eCallG, eMeth, aN, aC, aV, oNo, oPt, eIsO, oSrtI, oSrtT, oLt, oLe, oReprB, oInI, gN3, eCh, oGt, oGe, oI, oIC, oI1, oAdd, oMul, oIsN, oLen, oList, oTuple, oAbs, oMin2, oInt1, fLst, fListRg1, fList, fRep, fCat, tYs, tru, isS, dats, seqD, seqO, tyS, List.set, List.getElem?_cons_zero, List.getElem?_cons_succ, List.append_eq, List.nil_append, List.cons_append, Option.map_some, Option.bind_some, ng, wipeD, List.length_cons, List.length_nil, Nat.reduceAdd, Nat.reduceSub, List.replicate_succ, List.replicate_zero, eCell, sSetL, bareD,  eCallD, intsS, unS, List.map, oInS, isNumX]; try simp only [decide_eq_true_eq, Bool.not_eq_true', decide_eq_false_iff_not, Bool.false_eq_true, if_false, if_true, reduceIte, String.reduceBEq, Bool.true_or, Bool.false_or, Bool.or_false, Bool.and_false, Bool.false_and, Bool.and_true, Bool.true_and, Bool.not_true, Bool.not_false, ne_eq, not_true_eq_false, reduceCtorEq, Bool.true_eq_false, decide_true, decide_false])
        obtain ⟨s, hs⟩ := rp_form
        refine ⟨n, reduceF rs, L, w, rfl, R, hn, ok, hw, fun _ => ?_, fun c' e lc => ?_⟩
        · refine hs _ ?_
          refine hs _ ?_
          refine str_same ?_
          refine ifF (by decide) ?_
          exact ⟨_, _, rfl⟩
        · subst e
          rw [lot_ok lc] at hl; cases hl
      · rintro ρ ⟨c, d, rfl⟩
        obtain ⟨s, hs⟩ := rp_log hn ok
        unfold r_law_5
        have hs2 : ∀ Q : D → Prop, Q (.str s) → oReprN [.lst (L.map itD)] Q := fun Q q => hs Q q
        (try dsimp only [gN, gN2, sNil, sSeq, sExp, sRet, sIf, sPass, sCont, sBrk, sSet, sSetO, sApp, sAppF, sApPop, flatD, sFrz, sAug, sRaise, sAsg, sPut, eV, eC, e1, e2, t2, tBl, tTru, tN, tAn, tOo, tCh, eNot, eAn, eOo, eIf, eTup, eLst, eF, eFld, eIs, eIxO, eLenO, eSl, eRev, eB, eCall, eCallG, eMeth, aN, aC, aV, oNo, oPt, eIsO, oSrtI, oSrtT, oLt, oLe, oReprB, oInI, gN3, eCh, oGt, oGe, oI, oIC, oI1, oAdd, oMul, oIsN, oLen, oList, oTuple, oAbs, oMin2, oInt1, fLst, fListRg1, fList, fRep, fCat, tYs, tru, isS, dats, seqD, seqO, tyS, List.set, List.getElem?_cons_zero, List.getElem?_cons_succ, List.append_eq, List.nil_append, List.cons_append, Option.map_some, Option.bind_some, ng, wipeD, List.length_cons, List.length_nil, Nat.reduceAdd, Nat.reduceSub, List.replicate_succ, List.replicate_zero, eCell, sSetL, bareD,  eCallD, intsS, unS, List.map, oInS, isNumX]; try simp only [decide_eq_true_eq, Bool.not_eq_true', decide_eq_false_iff_not, Bool.false_eq_true, if_false, if_true, reduceIte, String.reduceBEq, Bool.true_or, Bool.false_or, Bool.or_false, Bool.and_false, Bool.false_and, Bool.and_true, Bool.true_and, Bool.not_true, Bool.not_false, ne_eq, not_true_eq_false, reduceCtorEq, Bool.true_eq_false, decide_true, decide_false])
        refine hs2 _ ?_
        refine lcPg L (fun z => .int (z.1 : Int)) (fun z => optI z.2) (fun _ => true) itD (fun R r => iSqV rfl rfl r) (by omega) (fun z hz Q' q' => q') (fun z hz _ Q' q' => ?_) ?_
        · (try dsimp only [gN, gN2, sNil, sSeq, sExp, sRet, sIf, sPass, sCont, sBrk, sSet, sSetO, sApp, sAppF, sApPop, flatD, sFrz, sAug, sRaise, sAsg, sPut, eV, eC, e1, e2, t2, tBl, tTru, tN, tAn, tOo, tCh, eNot, eAn, eOo, eIf, eTup, eLst, eF, eFld, eIs, eIxO, eLenO, eSl, eRev, eB, eCall, eCallG, eMeth, aN, aC, aV, oNo, oPt, eIsO, oSrtI, oSrtT, oLt, oLe, oReprB, oInI, gN3, eCh, oGt, oGe, oI, oIC, oI1, oAdd, oMul, oIsN, oLen, oList, oTuple, oAbs, oMin2, oInt1, fLst, fListRg1, fList, fRep, fCat, tYs, tru, isS, dats, seqD, seqO, tyS, List.set, List.getElem?_cons_zero, List.getElem?_cons_succ, List.append_eq, List.nil_append, List.cons_append, Option.map_some, Option.bind_some, ng, wipeD, List.length_cons, List.length_nil, Nat.reduceAdd, Nat.reduceSub, List.replicate_succ, List.replicate_zero, eCell, sSetL, bareD,  eCallD, intsS, unS, List.map, oInS, isNumX]; try simp only [decide_eq_true_eq, Bool.not_eq_true', decide_eq_false_iff_not, Bool.false_eq_true, if_false, if_true, reduceIte, String.reduceBEq, Bool.true_or, Bool.false_or, Bool.or_false, Bool.and_false, Bool.false_and, Bool.and_true, Bool.true_and, Bool.not_true, Bool.not_false, ne_eq, not_true_eq_false, reduceCtorEq, Bool.true_eq_false, decide_true, decide_false])
          exact ⟨z.1, rfl, by have := ok.lt z hz; omega, q'⟩
        rw [List.filter_eq_self.mpr (fun _ _ => rfl)]
        refine hs2 _ ?_
        exact str_same rfl
  unfold r_law
  (try dsimp only [gN, gN2, sNil, sSeq, sExp, sRet, sIf, sPass, sCont, sBrk, sSet, sSetO, sApp, sAppF, sApPop, flatD, sFrz, sAug, sRaise, sAsg, sPut, eV, eC, e1, e2, t2, tBl, tTru, tN, tAn, tOo, tCh, eNot, eAn, eOo, eIf, eTup, eLst, eF, eFld, eIs, eIxO, eLenO, eSl, eRev, eB, eCall, eCallG, eMeth, aN, aC, aV, oNo, oPt, eIsO, oSrtI, oSrtT, oLt, oLe, oReprB, oInI, gN3, eCh, oGt, oGe, oI, oIC, oI1, oAdd, oMul, oIsN, oLen, oList, oTuple, oAbs, oMin2, oInt1, fLst, fListRg1, fList, fRep, fCat, tYs, tru, isS, dats, seqD, seqO, tyS, List.set, List.getElem?_cons_zero, List.getElem?_cons_succ, List.append_eq, List.nil_append, List.cons_append, Option.map_some, Option.bind_some, ng, wipeD, List.length_cons, List.length_nil, Nat.reduceAdd, Nat.reduceSub, List.replicate_succ, List.replicate_zero, eCell, sSetL, bareD,  eCallD, intsS, unS, List.map, oInS, isNumX]; try simp only [decide_eq_true_eq, Bool.not_eq_true', decide_eq_false_iff_not, Bool.false_eq_true, if_false, if_true, reduceIte, String.reduceBEq, Bool.true_or, Bool.false_or, Bool.or_false, Bool.and_false, Bool.false_and, Bool.and_true, Bool.true_and, Bool.not_true, Bool.not_false, ne_eq, not_true_eq_false, reduceCtorEq, Bool.true_eq_false, decide_true, decide_false])
  refine ⟨_, rfl, by decide, by decide, fun v v0 v1 => ?_⟩
  obtain ⟨v, rfl⟩ := Int.eq_ofNat_of_zero_le v0
  (try dsimp only [gN, gN2, sNil, sSeq, sExp, sRet, sIf, sPass, sCont, sBrk, sSet, sSetO, sApp, sAppF, sApPop, flatD, sFrz, sAug, sRaise, sAsg, sPut, eV, eC, e1, e2, t2, tBl, tTru, tN, tAn, tOo, tCh, eNot, eAn, eOo, eIf, eTup, eLst, eF, eFld, eIs, eIxO, eLenO, eSl, eRev, eB, eCall, eCallG, eMeth, aN, aC, aV, oNo, oPt, eIsO, oSrtI, oSrtT, oLt, oLe, oReprB, oInI, gN3, eCh, oGt, oGe, oI, oIC, oI1, oAdd, oMul, oIsN, oLen, oList, oTuple, oAbs, oMin2, oInt1, fLst, fListRg1, fList, fRep, fCat, tYs, tru, isS, dats, seqD, seqO, tyS, List.set, List.getElem?_cons_zero, List.getElem?_cons_succ, List.append_eq, List.nil_append, List.cons_append, Option.map_some, Option.bind_some, ng, wipeD, List.length_cons, List.length_nil, Nat.reduceAdd, Nat.reduceSub, List.replicate_succ, List.replicate_zero, eCell, sSetL, bareD,  eCallD, intsS, unS, List.map, oInS, isNumX]; try simp only [decide_eq_true_eq, Bool.not_eq_true', decide_eq_false_iff_not, Bool.false_eq_true, if_false, if_true, reduceIte, String.reduceBEq, Bool.true_or, Bool.false_or, Bool.or_false, Bool.and_false, Bool.false_and, Bool.and_true, Bool.true_and, Bool.not_true, Bool.not_false, ne_eq, not_true_eq_false, reduceCtorEq, Bool.true_eq_false, decide_true, decide_false])
  rw [show (1 : Int) + (v : Int) = ((1 + v : Nat) : Int) from by omega]
  unfold r_law_12
  (try dsimp only [gN, gN2, sNil, sSeq, sExp, sRet, sIf, sPass, sCont, sBrk, sSet, sSetO, sApp, sAppF, sApPop, flatD, sFrz, sAug, sRaise, sAsg, sPut, eV, eC, e1, e2, t2, tBl, tTru, tN, tAn, tOo, tCh, eNot, eAn, eOo, eIf, eTup, eLst, eF, eFld, eIs, eIxO, eLenO, eSl, eRev, eB, eCall, eCallG, eMeth, aN, aC, aV, oNo, oPt, eIsO, oSrtI, oSrtT, oLt, oLe, oReprB, oInI, gN3, eCh, oGt, oGe, oI, oIC, oI1, oAdd, oMul, oIsN, oLen, oList, oTuple, oAbs, oMin2, oInt1, fLst, fListRg1, fList, fRep, fCat, tYs, tru, isS, dats, seqD, seqO, tyS, List.set, List.getElem?_cons_zero, List.getElem?_cons_succ, List.append_eq, List.nil_append, List.cons_append, Option.map_some, Option.bind_some, ng, wipeD, List.length_cons, List.length_nil, Nat.reduceAdd, Nat.reduceSub, List.replicate_succ, List.replicate_zero, eCell, sSetL, bareD,  eCallD, intsS, unS, List.map, oInS, isNumX]; try simp only [decide_eq_true_eq, Bool.not_eq_true', decide_eq_false_iff_not, Bool.false_eq_true, if_false, if_true, reduceIte, String.reduceBEq, Bool.true_or, Bool.false_or, Bool.or_false, Bool.and_false, Bool.false_and, Bool.and_true, Bool.true_and, Bool.not_true, Bool.not_false, ne_eq, not_true_eq_false, reduceCtorEq, Bool.true_eq_false, decide_true, decide_false])
  refine ⟨_, rfl, by decide, by decide, fun k k0 k1 => ?_⟩
  by_cases c : k = 0
  · refine oEq_iT c ?_
    refine ifT rfl ?_
    (try dsimp only [gN, gN2, sNil, sSeq, sExp, sRet, sIf, sPass, sCont, sBrk, sSet, sSetO, sApp, sAppF, sApPop, flatD, sFrz, sAug, sRaise, sAsg, sPut, eV, eC, e1, e2, t2, tBl, tTru, tN, tAn, tOo, tCh, eNot, eAn, eOo, eIf, eTup, eLst, eF, eFld, eIs, eIxO, eLenO, eSl, eRev, eB, eCall, eCallG, eMeth, aN, aC, aV, oNo, oPt, eIsO, oSrtI, oSrtT, oLt, oLe, oReprB, oInI, gN3, eCh, oGt, oGe, oI, oIC, oI1, oAdd, oMul, oIsN, oLen, oList, oTuple, oAbs, oMin2, oInt1, fLst, fListRg1, fList, fRep, fCat, tYs, tru, isS, dats, seqD, seqO, tyS, List.set, List.getElem?_cons_zero, List.getElem?_cons_succ, List.append_eq, List.nil_append, List.cons_append, Option.map_some, Option.bind_some, ng, wipeD, List.length_cons, List.length_nil, Nat.reduceAdd, Nat.reduceSub, List.replicate_succ, List.replicate_zero, eCell, sSetL, bareD,  eCallD, intsS, unS, List.map, oInS, isNumX]; try simp only [decide_eq_true_eq, Bool.not_eq_true', decide_eq_false_iff_not, Bool.false_eq_true, if_false, if_true, reduceIte, String.reduceBEq, Bool.true_or, Bool.false_or, Bool.or_false, Bool.and_false, Bool.false_and, Bool.and_true, Bool.true_and, Bool.not_true, Bool.not_false, ne_eq, not_true_eq_false, reduceCtorEq, Bool.true_eq_false, decide_true, decide_false])
    refine ⟨by decide, ?_⟩
    rw [show (1 : Int) + ((1 + v : Nat) : Int) % 5 = ((1 + (1 + v) % 5 : Nat) : Int) from by omega]
    exact fin _ (by omega) (by omega)
  · refine oEq_iF c ?_
    refine ifF (by decide) ?_
    exact fin _ (by omega) (by omega)
end DL

set_option Elab.async false
set_option linter.all false
set_option maxRecDepth 100000
set_option maxHeartbeats 4000000
namespace DL
open PySem PySem.Spec PyProof.Rows L2 BT
section
variable {P : Program} {w : World} {K : PySem.W.Frag} {mg : Str → Option Value} {base : Heap} {ad : Str → Addr}
theorem ok_lowest {f : Addr} {fd : FuncData} (F : FnP K "lowest" s_lowest f fd) : FnOk P w K mg base (L2.CX P w) 1 f fd ["mask"] (spD ad d_lowest) := fnX F sc_lowest (rd_lowest) sem_lowest
theorem ok_odd {f : Addr} {fd : FuncData} (F : FnP K "odd" s_odd f fd) : FnOk P w K mg base (L2.CX P w) 1 f fd ["mask"] (spD ad d_odd) := fnX F sc_odd (rd_odd) sem_odd
theorem ok_cleared {f : Addr} {fd : FuncData} (D_lowest : DefX P w K mg base ad 1 "lowest" ["mask"] d_lowest) (F : FnP K "cleared" s_cleared f fd) : FnOk P w K mg base (L2.CX P w) 2 f fd ["mask", "rows", "part"] (spD ad d_cleared) := fnX F sc_cleared (rd_cleared D_lowest) sem_cleared
theorem ok_sweep {f : Addr} {fd : FuncData} (D_cleared : DefX P w K mg base ad 2 "cleared" ["mask", "rows", "part"] d_cleared) (D_lowest : DefX P w K mg base ad 1 "lowest" ["mask"] d_lowest) (F : FnP K "sweep" s_sweep f fd) : FnOk P w K mg base (L2.CX P w) 3 f fd ["masks", "part"] (spD ad d_sweep) := fnX F sc_sweep (rd_sweep D_cleared D_lowest) sem_sweep
theorem ok_reduce_rows {f : Addr} {fd : FuncData} {tALL_PLACES : Tok} (T2 : Bi2 mg) (D_sweep : DefX P w K mg base ad 3 "sweep" ["masks", "part"] d_sweep) (K_lowest : DefOk P w K mg base CX0 1 "lowest" ["mask"] spLowG) (h_ALL_PLACES : mg "ALL_PLACES" = some (.int (-1) tALL_PLACES)) (F : FnP K "reduce_rows" s_reduce_rows f fd) : FnOk P w K mg base (L2.CX P w) 4 f fd ["masks"] (spD ad d_reduce_rows) := fnX F sc_reduce_rows (rd_reduce_rows T2 D_sweep K_lowest h_ALL_PLACES) sem_reduce_rows
theorem ok_mask_of {f : Addr} {fd : FuncData} (F : FnP K "mask_of" s_mask_of f fd) : FnOk P w K mg base (L2.CX P w) 1 f fd ["lot"] (spD ad d_mask_of) := fnX F sc_mask_of (rd_mask_of) sem_mask_of
theorem ok_lot_of {f : Addr} {fd : FuncData} (T : Bi mg) (F : FnP K "lot_of" s_lot_of f fd) : FnOk P w K mg base (L2.CX P w) 1 f fd ["mask"] (spD ad d_lot_of) := fnX F sc_lot_of (rd_lot_of T) sem_lot_of
theorem ok_picked {f : Addr} {fd : FuncData} (T : Bi mg) (F : FnP K "picked" s_picked f fd) : FnOk P w K mg base (L2.CX P w) 1 f fd ["mask", "places"] (spD ad d_picked) := fnX F sc_picked (rd_picked T) sem_picked
theorem ok_span {f : Addr} {fd : FuncData} (F : FnP K "span" s_span f fd) : FnOk P w K mg base (L2.CX P w) 1 f fd ["masks"] (spD ad d_span) := fnX F sc_span (rd_span) sem_span
theorem ok_is_number {f : Addr} {fd : FuncData} (T : Bi mg) (F : FnP K "is_number" s_is_number f fd) : FnOk P w K mg base (L2.CX P w) 1 f fd ["value"] (spD ad d_is_number) := fnX F sc_is_number (rd_is_number T) sem_is_number
theorem ok_is_between {f : Addr} {fd : FuncData} (D_is_number : DefX P w K mg base ad 1 "is_number" ["value"] d_is_number) (F : FnP K "is_between" s_is_between f fd) : FnOk P w K mg base (L2.CX P w) 2 f fd ["value", "least", "most"] (spD ad d_is_between) := fnX F sc_is_between (rd_is_between D_is_number) sem_is_between
theorem ok_need_size {f : Addr} {fd : FuncData} {tMOST_PLACES : Tok} (D_is_between : DefX P w K mg base ad 2 "is_between" ["value", "least", "most"] d_is_between) (E_BadSize : ErrC P w K mg base "BadSize" (ad "BadSize")) (h_MOST_PLACES : mg "MOST_PLACES" = some (.int 60 tMOST_PLACES)) (F : FnP K "need_size" s_need_size f fd) : FnOk P w K mg base (L2.CX P w) 3 f fd ["size"] (spD ad d_need_size) := fnX F sc_need_size (rd_need_size D_is_between E_BadSize h_MOST_PLACES) sem_need_size
theorem ok_is_lot {f : Addr} {fd : FuncData} (T : Bi mg) (D_is_number : DefX P w K mg base ad 1 "is_number" ["value"] d_is_number) (D_need_size : DefX P w K mg base ad 3 "need_size" ["size"] d_need_size) (F : FnP K "is_lot" s_is_lot f fd) : FnOk P w K mg base (L2.CX P w) 4 f fd ["value", "size"] (spD ad d_is_lot) := fnX F sc_is_lot (rd_is_lot T D_is_number D_need_size) sem_is_lot
theorem ok_need_lot {f : Addr} {fd : FuncData} (D_is_lot : DefX P w K mg base ad 4 "is_lot" ["value", "size"] d_is_lot) (E_BadLot : ErrC P w K mg base "BadLot" (ad "BadLot")) (F : FnP K "need_lot" s_need_lot f fd) : FnOk P w K mg base (L2.CX P w) 5 f fd ["value", "size"] (spD ad d_need_lot) := fnX F sc_need_lot (rd_need_lot D_is_lot E_BadLot) sem_need_lot
theorem ok_need_each_lot {f : Addr} {fd : FuncData} (T : Bi mg) (D_is_lot : DefX P w K mg base ad 4 "is_lot" ["value", "size"] d_is_lot) (E_BadLots : ErrC P w K mg base "BadLots" (ad "BadLots")) (F : FnP K "need_each_lot" s_need_each_lot f fd) : FnOk P w K mg base (L2.CX P w) 5 f fd ["values", "size"] (spD ad d_need_each_lot) := fnX F sc_need_each_lot (rd_need_each_lot T D_is_lot E_BadLots) sem_need_each_lot
theorem ok_need_lots {f : Addr} {fd : FuncData} (T : Bi mg) (D_need_each_lot : DefX P w K mg base ad 5 "need_each_lot" ["values", "size"] d_need_each_lot) (E_BadLots : ErrC P w K mg base "BadLots" (ad "BadLots")) (F : FunD K "need_lots" "need_lots" (defArgs s_need_lots) (defBody s_need_lots) (defScope s_need_lots) [.int 60] [] f fd) : FnOk P w K mg base (L2.CX P w) 6 f fd ["value", "size", "most"] (spD ad d_need_lots) := fnXD F sc_need_lots (rd_need_lots T D_need_each_lot E_BadLots) sem_need_lots
theorem ok_need_book_size {f : Addr} {fd : FuncData} {tMOST_SIZE : Tok} (D_is_between : DefX P w K mg base ad 2 "is_between" ["value", "least", "most"] d_is_between) (E_BadSize : ErrC P w K mg base "BadSize" (ad "BadSize")) (h_MOST_SIZE : mg "MOST_SIZE" = some (.int 24 tMOST_SIZE)) (F : FnP K "need_book_size" s_need_book_size f fd) : FnOk P w K mg base (L2.CX P w) 3 f fd ["size"] (spD ad d_need_book_size) := fnX F sc_need_book_size (rd_need_book_size D_is_between E_BadSize h_MOST_SIZE) sem_need_book_size
theorem ok_Book_is_check {f : Addr} {fd : FuncData} (T2 : Bi2 mg) (CT : ClsTab K ad tab0) (D_mask_of : DefX P w K mg base ad 1 "mask_of" ["lot"] d_mask_of) (D_need_lot : DefX P w K mg base ad 5 "need_lot" ["value", "size"] d_need_lot) (D_odd : DefX P w K mg base ad 1 "odd" ["mask"] d_odd) (F : FunD K "is_check" "Book.is_check" (defArgs s_Book_is_check) (defBody s_Book_is_check) (defScope s_Book_is_check) [] [] f fd) : FnOk P w K mg base (L2.CX P w) 6 f fd ["self", "lot"] (spD ad d_Book_is_check) := fnX F sc_Book_is_check (rd_Book_is_check T2 CT D_mask_of D_need_lot D_odd) sem_Book_is_check
theorem ok_is_bit {f : Addr} {fd : FuncData} (D_is_between : DefX P w K mg base ad 2 "is_between" ["value", "least", "most"] d_is_between) (F : FnP K "is_bit" s_is_bit f fd) : FnOk P w K mg base (L2.CX P w) 3 f fd ["value"] (spD ad d_is_bit) := fnX F sc_is_bit (rd_is_bit D_is_between) sem_is_bit
theorem ok_is_item {f : Addr} {fd : FuncData} (T : Bi mg) (D_is_bit : DefX P w K mg base ad 3 "is_bit" ["value"] d_is_bit) (D_is_lot : DefX P w K mg base ad 4 "is_lot" ["value", "size"] d_is_lot) (F : FnP K "_is_item" s_is_item f fd) : FnOk P w K mg base (L2.CX P w) 5 f fd ["value", "size"] (spD ad d_is_item) := fnX F sc_is_item (rd_is_item T D_is_bit D_is_lot) sem_is_item
theorem ok_need_log {f : Addr} {fd : FuncData} {tMOST_ITEMS : Tok} (T : Bi mg) (D_is_item : DefX P w K mg base ad 5 "_is_item" ["value", "size"] d_is_item) (E_BadLog : ErrC P w K mg base "BadLog" (ad "BadLog")) (h_MOST_ITEMS : mg "MOST_ITEMS" = some (.int 60 tMOST_ITEMS)) (F : FnP K "need_log" s_need_log f fd) : FnOk P w K mg base (L2.CX P w) 6 f fd ["log", "size"] (spD ad d_need_log) := fnX F sc_need_log (rd_need_log T D_is_item E_BadLog h_MOST_ITEMS) sem_need_log
theorem ok_against_fault {f : Addr} {fd : FuncData} (T : Bi mg) (CT : ClsTab K ad tab0) (D_is_lot : DefX P w K mg base ad 4 "is_lot" ["value", "size"] d_is_lot) (D_lot_of : DefX P w K mg base ad 1 "lot_of" ["mask"] d_lot_of) (D_mask_of : DefX P w K mg base ad 1 "mask_of" ["lot"] d_mask_of) (D_need_log : DefX P w K mg base ad 6 "need_log" ["log", "size"] d_need_log) (M_Book_is_check : MetX P w K mg base ad 6 "Book" "is_check" ["self", "lot"] d_Book_is_check) (F : FnP K "against_fault" s_against_fault f fd) : FnOk P w K mg base (L2.CX P w) 7 f fd ["book", "log", "indexes"] (spD ad d_against_fault) := fnX F sc_against_fault (rd_against_fault T CT D_is_lot D_lot_of D_mask_of D_need_log M_Book_is_check) sem_against_fault
theorem ok_law_lot {f : Addr} {fd : FuncData} (T : Bi mg) (F : FnP K "_law_lot" s_law_lot f fd) : FnOk P w K mg base (L2.CX P w) 1 f fd ["_law_mask_here"] (spD ad d_law_lot_f) := fnX F sc_law_lot (rd_law_lot T) sem_law_lot_f
theorem ok_law_odd {f : Addr} {fd : FuncData} (F : FnP K "_law_odd" s_law_odd f fd) : FnOk P w K mg base (L2.CX P w) 1 f fd ["_law_mask_here"] (spD ad d_law_odd_f) := fnX F sc_law_odd (rd_law_odd) sem_law_odd_f
theorem ok_law_row {f : Addr} {fd : FuncData} (D_law_draw : DefX P w K mg base ad 2 "_law_draw" ["_law_source_here", "_law_many"] d_law_draw) (F : FnP K "_law_row" s_law_row f fd) : FnOk P w K mg base (L2.CX P w) 3 f fd ["_law_source_here", "_law_size"] (spD ad d_law_row_f) := fnX F sc_law_row (rd_law_row D_law_draw) sem_law_row_f
theorem ok_law_check {f : Addr} {fd : FuncData} (T : Bi mg) (D_law_draw : DefX P w K mg base ad 2 "_law_draw" ["_law_source_here", "_law_many"] d_law_draw) (D_law_odd : DefX P w K mg base ad 1 "_law_odd" ["_law_mask_here"] d_law_odd_f) (F : FnP K "_law_check" s_law_check f fd) : FnOk P w K mg base (L2.CX P w) 3 f fd ["_law_source_here", "_law_rows", "_law_size"] (spD ad d_law_check_f) := fnX F sc_law_check (rd_law_check T D_law_draw D_law_odd) sem_law_check_f
theorem ok_law_log {f : Addr} {fd : FuncData} (T : Bi mg) (D_law_check : DefX P w K mg base ad 3 "_law_check" ["_law_source_here", "_law_rows", "_law_size"] d_law_check_f) (D_law_draw : DefX P w K mg base ad 2 "_law_draw" ["_law_source_here", "_law_many"] d_law_draw) (D_law_row : DefX P w K mg base ad 3 "_law_row" ["_law_source_here", "_law_size"] d_law_row_f) (F : FnP K "_law_log" s_law_log f fd) : FnOk P w K mg base (L2.CX P w) 4 f fd ["_law_source_here", "_law_size", "_law_rows"] (spD ad d_law_log_f) := fnX F sc_law_log (rd_law_log T D_law_check D_law_draw D_law_row) sem_law_log_f
theorem ok_law_due {f : Addr} {fd : FuncData} (T2 : Bi2 mg) (D_law_odd : DefX P w K mg base ad 1 "_law_odd" ["_law_mask_here"] d_law_odd_f) (F : FnP K "_law_due" s_law_due f fd) : FnOk P w K mg base (L2.CX P w) 2 f fd ["_law_log_here", "_law_rows", "_law_chosen"] (spD ad d_law_due_f) := fnX F sc_law_due (rd_law_due T2 D_law_odd) sem_law_due_f
theorem ok_law_wrong {f : Addr} {fd : FuncData} (T : Bi mg) (D_law_draw : DefX P w K mg base ad 2 "_law_draw" ["_law_source_here", "_law_many"] d_law_draw) (D_law_lot : DefX P w K mg base ad 1 "_law_lot" ["_law_mask_here"] d_law_lot_f) (F : FnP K "_law_wrong" s_law_wrong f fd) : FnOk P w K mg base (L2.CX P w) 3 f fd ["_law_source_here", "_law_many"] (spD ad d_law_wrong_f) := fnX F sc_law_wrong (rd_law_wrong T D_law_draw D_law_lot) sem_law_wrong_f
theorem ok_law {f : Addr} {fd : FuncData} (T : Bi mg) (D_against_fault : DefX P w K mg base ad 7 "against_fault" ["book", "log", "indexes"] d_against_fault) (D_law_draw : DefX P w K mg base ad 2 "_law_draw" ["_law_source_here", "_law_many"] d_law_draw) (D_law_due : DefX P w K mg base ad 2 "_law_due" ["_law_log_here", "_law_rows", "_law_chosen"] d_law_due_f) (D_law_log : DefX P w K mg base ad 4 "_law_log" ["_law_source_here", "_law_size", "_law_rows"] d_law_log_f) (D_law_lot : DefX P w K mg base ad 1 "_law_lot" ["_law_mask_here"] d_law_lot_f) (D_law_row : DefX P w K mg base ad 3 "_law_row" ["_law_source_here", "_law_size"] d_law_row_f) (D_law_wrong : DefX P w K mg base ad 3 "_law_wrong" ["_law_source_here", "_law_many"] d_law_wrong_f) (Mk_Book : MakX P w K mg base ad 7 "Book" ["self", "size", "rows"] d_Book) (DSrc : DefOk P w K mg base CX0 1 "_law_source" ["_law_script"] (spSource K)) (F : FnP K "law" s_law f fd) : FnG P w K mg base 9 f fd ["_law_script"] (spLaw K) := by
  refine okG_of F sc_law (fun vs H Q E h => ?_) (fun cdv A outer s H vs Q hr gd h => ?_)
  · obtain ⟨a, ns, rfl, _⟩ := h
    rfl
  · obtain ⟨a, ns, rfl, hS, k⟩ := h
    refine ⟨_, pss_cons (ps_set (i := 1) sc_law.nd rfl (by first | exact Or.inl rfl | exact Or.inr rfl) (pe_d DSrc hr rfl (pa_cons (pv 0) pa_nil))) (rd_law T D_against_fault D_law_draw D_law_due D_law_log D_law_lot D_law_row D_law_wrong Mk_Book cdv A outer s H (fun _ _ _ => False) hr gd).ps, ?_⟩
    exact ⟨_, rfl, a, ns, rfl, hS, fun p l G1 hp s1 src => law_go (n := 12) src rfl rfl k sem_law⟩

end
end DL

set_option Elab.async false
set_option linter.all false
set_option maxRecDepth 100000
set_option maxHeartbeats 0
namespace BT
open PySem PySem.Spec PyProof.Rows L2 DL
theorem factsK {P : Program} {w : World} {K : PySem.W.Frag} {h : Heap} {mg : Str → Option Value} {f : Addr} (X : K.In h) (G : h.Ns mainGlobals mg) (hfa : mg ("law" : Str) = some (.ref f)) (ce : (xsK.all (errB K) && owK.all (owB K)) = true) (c : He.SaysD faK fnK K) :
    ∃ fd : FuncData, (∀ (s : Shared) (v : Value), BindsTo s fd ⟨[v], []⟩ [("_law_script", v)]) ∧ ∀ base : Heap, K.In base → base.Ns mainGlobals mg → FnG P w K mg base 9 f fd ["_law_script"] (spLaw K) := by
  obtain ⟨ce, co⟩ := Bool.and_eq_true_iff.mp ce
  have T : Bi mg := ⟨He.free_ok X G (c.fact 0 rfl), He.free_ok X G (c.fact 1 rfl), He.free_ok X G (c.fact 2 rfl), He.free_ok X G (c.fact 3 rfl), He.free_ok X G (c.fact 4 rfl), He.free_ok X G (c.fact 5 rfl), He.free_ok X G (c.fact 6 rfl), He.free_ok X G (c.fact 7 rfl), He.free_ok X G (c.fact 8 rfl), He.free_ok X G (c.fact 9 rfl), He.free_ok X G (c.fact 10 rfl)⟩
  have T2 : Bi2 mg := ⟨He.free_ok X G (c.fact 11 rfl), He.free_ok X G (c.fact 12 rfl), He.free_ok X G (c.fact 13 rfl), He.free_ok X G (c.fact 14 rfl)⟩
  obtain ⟨tALL_PLACES, hALL_PLACES⟩ := He.int_ok X G (c.fact 15 rfl)
  obtain ⟨tMOST_ITEMS, hMOST_ITEMS⟩ := He.int_ok X G (c.fact 16 rfl)
  obtain ⟨tMOST_PLACES, hMOST_PLACES⟩ := He.int_ok X G (c.fact 17 rfl)
  obtain ⟨tMOST_SIZE, hMOST_SIZE⟩ := He.int_ok X G (c.fact 18 rfl)
  obtain ⟨fdI, FI⟩ := c.def_ 0 (d := dI) rfl
  have FI : FunD K "__init__" "BlindError.__init__" (defArgs s_BlindError_init) (defBody s_BlindError_init) (defScope s_BlindError_init) [.non] [] (He.fAd K ("BlindError", some "__init__")) fdI := FI
  have bI : Binds K fdI ["self", "what"] [] := by
    obtain ⟨ds, r, b⟩ := FI.binds1 (ps := ["self", "what"]) 2 1 (by simp) rfl fun _ _ _ _ _ _ _ us its hu hi => match us, its, hu, hi with | [_, _], [_], _, _ => ⟨_, rfl, rfl⟩
    cases r
    exact b
  obtain ⟨fd0, F0⟩ := c.def_ 1 (d := plainD "_law_source" s_law_source) rfl
  have b0 : Binds K fd0 ["_law_script"] [] := FunD.bindsN F0 fun _ _ _ _ _ _ us hl => match us, hl with | [_], _ => rfl
  have g0 := He.glo_ok X G (c.fact 19 rfl)
  obtain ⟨fd1, F1⟩ := c.def_ 2 (d := plainD "_law_open" s_law_open) rfl
  have b1 : Binds K fd1 ["_law_source_here"] [] := FunD.bindsN F1 fun _ _ _ _ _ _ us hl => match us, hl with | [_], _ => rfl
  have g1 := He.glo_ok X G (c.fact 20 rfl)
  obtain ⟨fd2, F2⟩ := c.def_ 3 (d := plainD "_law_draw" s_law_draw) rfl
  have b2 : Binds K fd2 ["_law_source_here", "_law_many"] [] := FunD.bindsN F2 fun _ _ _ _ _ _ us hl => match us, hl with | [_, _], _ => rfl
  have g2 := He.glo_ok X G (c.fact 21 rfl)
  obtain ⟨fd3, F3⟩ := c.def_ 4 (d := plainD "lowest" s_lowest) rfl
  have b3 : Binds K fd3 ["mask"] [] := FunD.bindsN F3 fun _ _ _ _ _ _ us hl => match us, hl with | [_], _ => rfl
  have g3 := He.glo_ok X G (c.fact 22 rfl)
  obtain ⟨fd4, F4⟩ := c.def_ 5 (d := methD "Book" "__init__" "Book.__init__" s_Book_init) rfl
  have b4 : Binds K fd4 ["self", "size", "rows"] [] := FunD.bindsN F4 fun _ _ _ _ _ _ us hl => match us, hl with | [_, _, _], _ => rfl
  obtain ⟨fd5, F5⟩ := c.def_ 6 (d := plainD "lowest" s_lowest) rfl
  have b5 : Binds K fd5 ["mask"] [] := FunD.bindsN F5 fun _ _ _ _ _ _ us hl => match us, hl with | [_], _ => rfl
  have g5 := He.glo_ok X G (c.fact 22 rfl)
  obtain ⟨fd6, F6⟩ := c.def_ 7 (d := plainD "odd" s_odd) rfl
  have b6 : Binds K fd6 ["mask"] [] := FunD.bindsN F6 fun _ _ _ _ _ _ us hl => match us, hl with | [_], _ => rfl
  have g6 := He.glo_ok X G (c.fact 24 rfl)
  obtain ⟨fd7, F7⟩ := c.def_ 8 (d := plainD "cleared" s_cleared) rfl
  have b7 : Binds K fd7 ["mask", "rows", "part"] [] := FunD.bindsN F7 fun _ _ _ _ _ _ us hl => match us, hl with | [_, _, _], _ => rfl
  have g7 := He.glo_ok X G (c.fact 25 rfl)
  obtain ⟨fd8, F8⟩ := c.def_ 9 (d := plainD "sweep" s_sweep) rfl
  have b8 : Binds K fd8 ["masks", "part"] [] := FunD.bindsN F8 fun _ _ _ _ _ _ us hl => match us, hl with | [_, _], _ => rfl
  have g8 := He.glo_ok X G (c.fact 26 rfl)
  obtain ⟨fd9, F9⟩ := c.def_ 10 (d := plainD "reduce_rows" s_reduce_rows) rfl
  have b9 : Binds K fd9 ["masks"] [] := FunD.bindsN F9 fun _ _ _ _ _ _ us hl => match us, hl with | [_], _ => rfl
  have g9 := He.glo_ok X G (c.fact 27 rfl)
  obtain ⟨fd10, F10⟩ := c.def_ 11 (d := plainD "mask_of" s_mask_of) rfl
  have b10 : Binds K fd10 ["lot"] [] := FunD.bindsN F10 fun _ _ _ _ _ _ us hl => match us, hl with | [_], _ => rfl
  have g10 := He.glo_ok X G (c.fact 28 rfl)
  obtain ⟨fd11, F11⟩ := c.def_ 12 (d := plainD "lot_of" s_lot_of) rfl
  have b11 : Binds K fd11 ["mask"] [] := FunD.bindsN F11 fun _ _ _ _ _ _ us hl => match us, hl with | [_], _ => rfl
  have g11 := He.glo_ok X G (c.fact 29 rfl)
  obtain ⟨fd12, F12⟩ := c.def_ 13 (d := plainD "picked" s_picked) rfl
  have b12 : Binds K fd12 ["mask", "places"] [] := FunD.bindsN F12 fun _ _ _ _ _ _ us hl => match us, hl with | [_, _], _ => rfl
  have g12 := He.glo_ok X G (c.fact 30 rfl)
  obtain ⟨fd13, F13⟩ := c.def_ 14 (d := plainD "span" s_span) rfl
  have b13 : Binds K fd13 ["masks"] [] := FunD.bindsN F13 fun _ _ _ _ _ _ us hl => match us, hl with | [_], _ => rfl
  have g13 := He.glo_ok X G (c.fact 31 rfl)
  obtain ⟨fd14, F14⟩ := c.def_ 15 (d := plainD "is_number" s_is_number) rfl
  have b14 : Binds K fd14 ["value"] [] := FunD.bindsN F14 fun _ _ _ _ _ _ us hl => match us, hl with | [_], _ => rfl
  have g14 := He.glo_ok X G (c.fact 32 rfl)
  obtain ⟨fd15, F15⟩ := c.def_ 16 (d := plainD "is_between" s_is_between) rfl
  have b15 : Binds K fd15 ["value", "least", "most"] [] := FunD.bindsN F15 fun _ _ _ _ _ _ us hl => match us, hl with | [_, _, _], _ => rfl
  have g15 := He.glo_ok X G (c.fact 33 rfl)
  obtain ⟨fd16, F16⟩ := c.def_ 17 (d := plainD "need_size" s_need_size) rfl
  have b16 : Binds K fd16 ["size"] [] := FunD.bindsN F16 fun _ _ _ _ _ _ us hl => match us, hl with | [_], _ => rfl
  have g16 := He.glo_ok X G (c.fact 34 rfl)
  obtain ⟨fd17, F17⟩ := c.def_ 18 (d := plainD "is_lot" s_is_lot) rfl
  have b17 : Binds K fd17 ["value", "size"] [] := FunD.bindsN F17 fun _ _ _ _ _ _ us hl => match us, hl with | [_, _], _ => rfl
  have g17 := He.glo_ok X G (c.fact 35 rfl)
  obtain ⟨fd18, F18⟩ := c.def_ 19 (d := plainD "need_lot" s_need_lot) rfl
  have b18 : Binds K fd18 ["value", "size"] [] := FunD.bindsN F18 fun _ _ _ _ _ _ us hl => match us, hl with | [_, _], _ => rfl
  have g18 := He.glo_ok X G (c.fact 36 rfl)
  obtain ⟨fd19, F19⟩ := c.def_ 20 (d := plainD "need_each_lot" s_need_each_lot) rfl
  have b19 : Binds K fd19 ["values", "size"] [] := FunD.bindsN F19 fun _ _ _ _ _ _ us hl => match us, hl with | [_, _], _ => rfl
  have g19 := He.glo_ok X G (c.fact 37 rfl)
  obtain ⟨fd20, F20⟩ := c.def_ 21 (d := dfltD "need_lots" s_need_lots [.int 60]) rfl
  obtain ⟨ds20, v20, b20⟩ := FunD.binds1 (dvs := [V.int 60]) F20 (ps := ["value", "size", "most"]) 2 0 (by simp) rfl fun _ _ _ _ _ _ _ us its hu hi => match us, its, hu, hi with | [_, _], [_], _, _ => ⟨_, rfl, rfl⟩
  have g20 := He.glo_ok X G (c.fact 38 rfl)
  obtain ⟨fd21, F21⟩ := c.def_ 22 (d := plainD "need_book_size" s_need_book_size) rfl
  have b21 : Binds K fd21 ["size"] [] := FunD.bindsN F21 fun _ _ _ _ _ _ us hl => match us, hl with | [_], _ => rfl
  have g21 := He.glo_ok X G (c.fact 39 rfl)
  obtain ⟨fd22, F22⟩ := c.def_ 23 (d := methD "Book" "is_check" "Book.is_check" s_Book_is_check) rfl
  have b22 : Binds K fd22 ["self", "lot"] [] := FunD.bindsN F22 fun _ _ _ _ _ _ us hl => match us, hl with | [_, _], _ => rfl
  obtain ⟨fd23, F23⟩ := c.def_ 24 (d := plainD "is_bit" s_is_bit) rfl
  have b23 : Binds K fd23 ["value"] [] := FunD.bindsN F23 fun _ _ _ _ _ _ us hl => match us, hl with | [_], _ => rfl
  have g23 := He.glo_ok X G (c.fact 40 rfl)
  obtain ⟨fd24, F24⟩ := c.def_ 25 (d := plainD "_is_item" s_is_item) rfl
  have b24 : Binds K fd24 ["value", "size"] [] := FunD.bindsN F24 fun _ _ _ _ _ _ us hl => match us, hl with | [_, _], _ => rfl
  have g24 := He.glo_ok X G (c.fact 41 rfl)
  obtain ⟨fd25, F25⟩ := c.def_ 26 (d := plainD "need_log" s_need_log) rfl
  have b25 : Binds K fd25 ["log", "size"] [] := FunD.bindsN F25 fun _ _ _ _ _ _ us hl => match us, hl with | [_, _], _ => rfl
  have g25 := He.glo_ok X G (c.fact 42 rfl)
  obtain ⟨fd26, F26⟩ := c.def_ 27 (d := plainD "against_fault" s_against_fault) rfl
  have b26 : Binds K fd26 ["book", "log", "indexes"] [] := FunD.bindsN F26 fun _ _ _ _ _ _ us hl => match us, hl with | [_, _, _], _ => rfl
  have g26 := He.glo_ok X G (c.fact 43 rfl)
  obtain ⟨fd27, F27⟩ := c.def_ 28 (d := plainD "_law_lot" s_law_lot) rfl
  have b27 : Binds K fd27 ["_law_mask_here"] [] := FunD.bindsN F27 fun _ _ _ _ _ _ us hl => match us, hl with | [_], _ => rfl
  have g27 := He.glo_ok X G (c.fact 44 rfl)
  obtain ⟨fd28, F28⟩ := c.def_ 29 (d := plainD "_law_odd" s_law_odd) rfl
  have b28 : Binds K fd28 ["_law_mask_here"] [] := FunD.bindsN F28 fun _ _ _ _ _ _ us hl => match us, hl with | [_], _ => rfl
  have g28 := He.glo_ok X G (c.fact 45 rfl)
  obtain ⟨fd29, F29⟩ := c.def_ 30 (d := plainD "_law_row" s_law_row) rfl
  have b29 : Binds K fd29 ["_law_source_here", "_law_size"] [] := FunD.bindsN F29 fun _ _ _ _ _ _ us hl => match us, hl with | [_, _], _ => rfl
  have g29 := He.glo_ok X G (c.fact 46 rfl)
  obtain ⟨fd30, F30⟩ := c.def_ 31 (d := plainD "_law_check" s_law_check) rfl
  have b30 : Binds K fd30 ["_law_source_here", "_law_rows", "_law_size"] [] := FunD.bindsN F30 fun _ _ _ _ _ _ us hl => match us, hl with | [_, _, _], _ => rfl
  have g30 := He.glo_ok X G (c.fact 47 rfl)
  obtain ⟨fd31, F31⟩ := c.def_ 32 (d := plainD "_law_log" s_law_log) rfl
  have b31 : Binds K fd31 ["_law_source_here", "_law_size", "_law_rows"] [] := FunD.bindsN F31 fun _ _ _ _ _ _ us hl => match us, hl with | [_, _, _], _ => rfl
  have g31 := He.glo_ok X G (c.fact 48 rfl)
  obtain ⟨fd32, F32⟩ := c.def_ 33 (d := plainD "_law_due" s_law_due) rfl
  have b32 : Binds K fd32 ["_law_log_here", "_law_rows", "_law_chosen"] [] := FunD.bindsN F32 fun _ _ _ _ _ _ us hl => match us, hl with | [_, _, _], _ => rfl
  have g32 := He.glo_ok X G (c.fact 49 rfl)
  obtain ⟨fd33, F33⟩ := c.def_ 34 (d := plainD "_law_wrong" s_law_wrong) rfl
  have b33 : Binds K fd33 ["_law_source_here", "_law_many"] [] := FunD.bindsN F33 fun _ _ _ _ _ _ us hl => match us, hl with | [_, _], _ => rfl
  have g33 := He.glo_ok X G (c.fact 50 rfl)
  obtain ⟨fd34, F34⟩ := c.def_ 35 (d := plainD "law" s_law) rfl
  have eL := hfa.symm.trans (He.glo_ok X G (c.fact 51 rfl))
  cases eL
  have bL := FunD.bindsA (ps := ["_law_script"]) F34 fun _ _ _ _ _ _ us hl => match us, hl with | [_], _ => rfl
  refine ⟨fd34, fun s v => bL s [v] rfl, fun base hK hN => ?_⟩
  have gCBook := He.glo_ok X G (c.fact 52 rfl)
  have mkBook := He.mkr_ok (c.fact 57 rfl)
  have CT : ClsTab K (He.ga K) tab0 := (tab_one (He.cls_ok (c.fact 53 rfl)) (fun f hf => by simp only [List.mem_cons, List.not_mem_nil, or_false] at hf; rcases hf with rfl | rfl | rfl <;> first | exact He.noat_ok (c.fact 54 rfl) | exact He.noat_ok (c.fact 55 rfl) | exact He.noat_ok (c.fact 56 rfl)))
  have me_is_check := He.meth_ok (c.fact 58 rfl)
  have EBadSize : ErrC P w K mg base "BadSize" (He.ga K "BadSize") := errB_ok X G (err_of ce 0) (ok_init FI) bI
  have EBadLot : ErrC P w K mg base "BadLot" (He.ga K "BadLot") := errB_ok X G (err_of ce 1) (ok_init FI) bI
  have EBadLots : ErrC P w K mg base "BadLots" (He.ga K "BadLots") := errB_ok X G (err_of ce 2) (ok_init FI) bI
  have EBadLog : ErrC P w K mg base "BadLog" (He.ga K "BadLog") := errB_ok X G (err_of ce 3) (ok_init FI) bI
  have D__law_source := DefOk.mk (x := "_law_source") ⟨_, fd0, ok_law_source (P := P) (w := w) (base := base) T T2 F0, g0, F0.kp, b0⟩
  have D__law_open := DefOk.mk (x := "_law_open") ⟨_, fd1, ok_law_open (P := P) (w := w) (base := base) T F1, g1, F1.kp, b1⟩
  have D__law_draw := DefOk.mk (x := "_law_draw") ⟨_, fd2, ok_law_draw (P := P) (w := w) (base := base) T D__law_open F2, g2, F2.kp, b2⟩
  have X__law_draw := cv_law_draw (ad := He.ga K) D__law_draw
  have D_lowest := DefOk.mk (x := "lowest") ⟨_, fd3, ok_lowG (P := P) (w := w) (base := base) F3, g3, F3.kp, b3⟩
  have X_lowest := DefOk.mk (x := "lowest") ⟨_, fd5, DL.ok_lowest (P := P) (w := w) (base := base) (ad := He.ga K) F5, g5, F5.kp, b5⟩
  have X_odd := DefOk.mk (x := "odd") ⟨_, fd6, DL.ok_odd (P := P) (w := w) (base := base) (ad := He.ga K) F6, g6, F6.kp, b6⟩
  have X_cleared := DefOk.mk (x := "cleared") ⟨_, fd7, DL.ok_cleared (P := P) (w := w) (base := base) (ad := He.ga K) X_lowest F7, g7, F7.kp, b7⟩
  have X_sweep := DefOk.mk (x := "sweep") ⟨_, fd8, DL.ok_sweep (P := P) (w := w) (base := base) (ad := He.ga K) X_cleared X_lowest F8, g8, F8.kp, b8⟩
  have X_reduce_rows := DefOk.mk (x := "reduce_rows") ⟨_, fd9, DL.ok_reduce_rows (P := P) (w := w) (base := base) (ad := He.ga K) T2 X_sweep D_lowest hALL_PLACES F9, g9, F9.kp, b9⟩
  have X_mask_of := DefOk.mk (x := "mask_of") ⟨_, fd10, DL.ok_mask_of (P := P) (w := w) (base := base) (ad := He.ga K) F10, g10, F10.kp, b10⟩
  have X_lot_of := DefOk.mk (x := "lot_of") ⟨_, fd11, DL.ok_lot_of (P := P) (w := w) (base := base) (ad := He.ga K) T F11, g11, F11.kp, b11⟩
  have X_picked := DefOk.mk (x := "picked") ⟨_, fd12, DL.ok_picked (P := P) (w := w) (base := base) (ad := He.ga K) T F12, g12, F12.kp, b12⟩
  have X_span := DefOk.mk (x := "span") ⟨_, fd13, DL.ok_span (P := P) (w := w) (base := base) (ad := He.ga K) F13, g13, F13.kp, b13⟩
  have X_is_number := DefOk.mk (x := "is_number") ⟨_, fd14, DL.ok_is_number (P := P) (w := w) (base := base) (ad := He.ga K) T F14, g14, F14.kp, b14⟩
  have X_is_between := DefOk.mk (x := "is_between") ⟨_, fd15, DL.ok_is_between (P := P) (w := w) (base := base) (ad := He.ga K) X_is_number F15, g15, F15.kp, b15⟩
  have X_need_size := DefOk.mk (x := "need_size") ⟨_, fd16, DL.ok_need_size (P := P) (w := w) (base := base) (ad := He.ga K) X_is_between EBadSize hMOST_PLACES F16, g16, F16.kp, b16⟩
  have X_is_lot := DefOk.mk (x := "is_lot") ⟨_, fd17, DL.ok_is_lot (P := P) (w := w) (base := base) (ad := He.ga K) T X_is_number X_need_size F17, g17, F17.kp, b17⟩
  have X_need_lot := DefOk.mk (x := "need_lot") ⟨_, fd18, DL.ok_need_lot (P := P) (w := w) (base := base) (ad := He.ga K) X_is_lot EBadLot F18, g18, F18.kp, b18⟩
  have X_need_each_lot := DefOk.mk (x := "need_each_lot") ⟨_, fd19, DL.ok_need_each_lot (P := P) (w := w) (base := base) (ad := He.ga K) T X_is_lot EBadLots F19, g19, F19.kp, b19⟩
  have XD_need_lots := DefOkD.mk (x := "need_lots") ⟨_, fd20, ds20, DL.ok_need_lots (P := P) (w := w) (base := base) (ad := He.ga K) T X_need_each_lot EBadLots F20, g20, F20.kp, v20, b20⟩
  have X_need_book_size := DefOk.mk (x := "need_book_size") ⟨_, fd21, DL.ok_need_book_size (P := P) (w := w) (base := base) (ad := He.ga K) X_is_between EBadSize hMOST_SIZE F21, g21, F21.kp, b21⟩
  have MX_is_check := MethOk.mk (m := "is_check") ⟨_, fd22, DL.ok_Book_is_check (P := P) (w := w) (base := base) (ad := He.ga K) T2 CT X_mask_of X_need_lot X_odd F22, me_is_check, b22⟩
  have X_is_bit := DefOk.mk (x := "is_bit") ⟨_, fd23, DL.ok_is_bit (P := P) (w := w) (base := base) (ad := He.ga K) X_is_between F23, g23, F23.kp, b23⟩
  have X__is_item := DefOk.mk (x := "_is_item") ⟨_, fd24, DL.ok_is_item (P := P) (w := w) (base := base) (ad := He.ga K) T X_is_bit X_is_lot F24, g24, F24.kp, b24⟩
  have X_need_log := DefOk.mk (x := "need_log") ⟨_, fd25, DL.ok_need_log (P := P) (w := w) (base := base) (ad := He.ga K) T X__is_item EBadLog hMOST_ITEMS F25, g25, F25.kp, b25⟩
  have X_against_fault := DefOk.mk (x := "against_fault") ⟨_, fd26, DL.ok_against_fault (P := P) (w := w) (base := base) (ad := He.ga K) T CT X_is_lot X_lot_of X_mask_of X_need_log MX_is_check F26, g26, F26.kp, b26⟩
  have X__law_lot := DefOk.mk (x := "_law_lot") ⟨_, fd27, DL.ok_law_lot (P := P) (w := w) (base := base) (ad := He.ga K) T F27, g27, F27.kp, b27⟩
  have X__law_odd := DefOk.mk (x := "_law_odd") ⟨_, fd28, DL.ok_law_odd (P := P) (w := w) (base := base) (ad := He.ga K) F28, g28, F28.kp, b28⟩
  have X__law_row := DefOk.mk (x := "_law_row") ⟨_, fd29, DL.ok_law_row (P := P) (w := w) (base := base) (ad := He.ga K) X__law_draw F29, g29, F29.kp, b29⟩
  have X__law_check := DefOk.mk (x := "_law_check") ⟨_, fd30, DL.ok_law_check (P := P) (w := w) (base := base) (ad := He.ga K) T X__law_draw X__law_odd F30, g30, F30.kp, b30⟩
  have X__law_log := DefOk.mk (x := "_law_log") ⟨_, fd31, DL.ok_law_log (P := P) (w := w) (base := base) (ad := He.ga K) T X__law_check X__law_draw X__law_row F31, g31, F31.kp, b31⟩
  have X__law_due := DefOk.mk (x := "_law_due") ⟨_, fd32, DL.ok_law_due (P := P) (w := w) (base := base) (ad := He.ga K) T2 X__law_odd F32, g32, F32.kp, b32⟩
  have X__law_wrong := DefOk.mk (x := "_law_wrong") ⟨_, fd33, DL.ok_law_wrong (P := P) (w := w) (base := base) (ad := He.ga K) T X__law_draw X__law_lot F33, g33, F33.kp, b33⟩
  have MkX_Book := MakeOk.mk (x := "Book") gCBook ⟨_, fd4, DL.ok_Book_init (P := P) (w := w) (base := base) (ad := He.ga K) T CT X_need_book_size XD_need_lots X_mask_of X_reduce_rows F4, mkBook, b4⟩
  exact DL.ok_law (ad := He.ga K) T X_against_fault X__law_draw X__law_due X__law_log X__law_lot X__law_row X__law_wrong MkX_Book D__law_source F34
end BT
open PySem PySem.W PySem.Calls PyProof.Rows
theorem PySem.Challenge.cw_blindtwins_k32_whole_against_fault_holds : PySem.Challenge.rw_blindtwins_k32_whole_against_fault.Holds := by
  w_on; o_law
  refine HandSHeadRun.head_any (r := OpenLaw.row PySem.Challenge.rw_blindtwins_k32_whole_against_fault) (q := view (OpenLaw.row PySem.Challenge.rw_blindtwins_k32_whole_against_fault).prog [53]) (H := BT.hkK) (ob := BT.obK) (M := 9000) (loose := BT.looseK) (d := HandSHeadRun.topDef (OpenLaw.row PySem.Challenge.rw_blindtwins_k32_whole_against_fault).prog 53) (kwd := []) BT.obK_eq
    (by kernel_rfl) (fun s => by kernel_rfl) BT.runK (by kernel_rfl) (by kernel_rfl) (by kernel_rfl) (by rfl) (by first | assumption | decide +kernel) (by decide +kernel) ⟨rfl, rfl, rfl, rfl, rfl, by decide +kernel⟩ ?hw ?hc
  case hw => w_witness2
  case hc =>
    refine BT.walk_G (l := PySem.Challenge.rw_blindtwins_k32_whole_against_fault) (n := 63) (k := 9) (x := "_law_script") rfl (by decide) (by kernel_rfl) ⟨rfl, by decide, by decide⟩ ?F
    intro w mg fa h Y G hmg0
    obtain ⟨K, KX, ce, c⟩ := Y
    have hmg : mg ("law" : PySem.Str) = some (.ref fa) := by
      have e : (HandSHeadRun.topDef (OpenLaw.row PySem.Challenge.rw_blindtwins_k32_whole_against_fault).prog 53).name = ("law" : PySem.Str) := by kernel_rfl
      rw [← e]
      exact hmg0
    obtain ⟨fd, hb, hF⟩ := BT.factsK (P := (PySem.Challenge.rw_blindtwins_k32_whole_against_fault).prog) (w := w) KX G hmg ce c
    exact ⟨K, fd, DL.spLaw K, KX, hb, fun H a ns hl hS => ⟨a, ns, rfl, hS, fun _ => rfl⟩, hF⟩


