import PyProof.Rows.All
import PyVahypa
import Wide.All
import OpenK.AllK
import Wide.FinOn
import PyProof.EqAt
import PyProof.EqKinds
import PyProof.TupleCall
import Open.SpecLaws
import KE.OsGo
import HandS.ForSpec
import HandS.Comp
import HandS.Iter
import HandS.Walk
import HandS.Deep
import HandS.CallLocal
import HandS.ExcInit
import HandS.ExcField
import HandS.TryMany
import KE.KExcInit
import PySem.Challenge.RW_partedwords_s01_answers
set_option Elab.async false
set_option linter.all false
set_option maxRecDepth 100000
set_option maxHeartbeats 4000000
namespace Pw
open VahypBase Vahypa

/-! ### tokens: lex without its fuel -/
theorem token_pos {b : UInt8} {r : Bytes} {x : Tok × Nat} (h : token (b :: r) = some x) : 1 ≤ x.2 ∧ x.2 ≤ (b :: r).length := by
  unfold token at h
  simp only at h
  split at h
  · rename_i hb
    split at h
    · cases h
    · injection h with h
      subst h
      constructor
      · rw [List.takeWhile_cons, if_pos hb]; simp
      · exact (List.takeWhile_prefix _).length_le
  · split at h
    · injection h with h
      subst h
      simp
    · cases h

theorem dropWhile_le {α : Type} (p : α → Bool) : ∀ l : List α, (l.dropWhile p).length ≤ l.length
  | [] => Nat.le_refl _
  | a :: l => by
    rw [List.dropWhile_cons]
    split
    · exact Nat.le_succ_of_le (dropWhile_le p l)
    · exact Nat.le_refl _

theorem lex_fuel : ∀ (n m : Nat) (p : Nat) (l : Bytes), l.length < n → l.length < m → lex n p l = lex m p l
  | 0, _, _, _, h, _ => absurd h (Nat.not_lt_zero _)
  | _ + 1, 0, _, _, _, h => absurd h (Nat.not_lt_zero _)
  | n + 1, m + 1, p, [], _, _ => by rw [lex, lex]
  | n + 1, m + 1, p, b :: r, hn, hm => by
    have hn' : r.length < n := by simpa using hn
    have hm' : r.length < m := by simpa using hm
    rw [lex, lex]
    split
    · exact lex_fuel n m _ r hn' hm'
    · split
      · exact lex_fuel n m _ _ (Nat.lt_of_le_of_lt (dropWhile_le _ r) hn') (Nat.lt_of_le_of_lt (dropWhile_le _ r) hm')
      · cases ht : token (b :: r) with
        | none => rfl
        | some x =>
          have hx := (token_pos ht).1
          have hl : ((b :: r).drop x.2).length ≤ r.length := by rw [List.length_drop, List.length_cons]; omega
          show (lex n (p + x.2) ((b :: r).drop x.2)).map _ = (lex m (p + x.2) ((b :: r).drop x.2)).map _
          rw [lex_fuel n m _ _ (Nat.lt_of_le_of_lt hl hn') (Nat.lt_of_le_of_lt hl hm')]

/-- the tokens from a place on, whatever the fuel -/
def lexAt (p : Nat) (l : Bytes) : Except Fault Toks := lex (l.length + 1) p l
theorem lexAt_nil (p : Nat) : lexAt p [] = .ok [⟨p, .last⟩] := by unfold lexAt; rw [lex]
theorem lexAt_blank {p : Nat} {b : UInt8} {r : Bytes} (h : isBlank b = true) : lexAt p (b :: r) = lexAt (p + 1) r := by
  unfold lexAt
  rw [lex, if_pos h]
  exact lex_fuel _ _ _ _ (by simp) (by simp)
theorem lexAt_remark {p : Nat} {b : UInt8} {r : Bytes} (h : isBlank b = false) (h2 : (b == 35) = true) : lexAt p (b :: r) = lexAt (p + 1 + (r.takeWhile (· != 10)).length) (r.dropWhile (· != 10)) := by
  unfold lexAt
  rw [lex, if_neg (by rw [h]; decide), if_pos h2]
  exact lex_fuel _ _ _ _ (by have := dropWhile_le (· != (10 : UInt8)) r; simp only [List.length_cons]; omega) (by simp)
theorem lexAt_none {p : Nat} {b : UInt8} {r : Bytes} (h : isBlank b = false) (h2 : (b == 35) = false) (h3 : token (b :: r) = none) : lexAt p (b :: r) = .error ⟨2, p⟩ := by
  unfold lexAt
  rw [lex, if_neg (by rw [h]; decide), if_neg (by rw [h2]; decide), h3]
theorem lexAt_some {p : Nat} {b : UInt8} {r : Bytes} {x : Tok × Nat} (h : isBlank b = false) (h2 : (b == 35) = false) (h3 : token (b :: r) = some x) : lexAt p (b :: r) = (lexAt (p + x.2) ((b :: r).drop x.2)).map fun l => ⟨p, x.1⟩ :: l := by
  unfold lexAt
  rw [lex, if_neg (by rw [h]; decide), if_neg (by rw [h2]; decide), h3]
  show (lex _ (p + x.2) ((b :: r).drop x.2)).map _ = _
  have hx := (token_pos h3).1
  rw [lex_fuel _ (((b :: r).drop x.2).length + 1) _ _ (by rw [List.length_drop]; simp only [List.length_cons]; omega) (by simp)]

/-- a token as it stands behind the reader: chunks are not empty and of chunk bytes, the one sign is 59 -/
def TokOk : Tok → Prop
  | .chunk b => b ≠ [] ∧ (∀ u ∈ b, inChunk u = true) ∧ b.length ≤ 40
  | .sign c => c = 59
  | .last => True
/-- a token list: last stands at its end and nowhere else -/
def Fin : Toks → Prop
  | [] => False
  | [t] => t.tok = .last
  | t :: r => t.tok ≠ .last ∧ Fin r
theorem token_ok {b : UInt8} {r : Bytes} {x : Tok × Nat} (h : token (b :: r) = some x) : TokOk x.1 ∧ x.1 ≠ .last := by
  unfold token at h
  simp only at h
  split at h
  · rename_i hb
    split at h
    · cases h
    · injection h with h
      subst h
      rename_i hc
      refine ⟨⟨?_, fun u hu => ?_, Nat.le_of_not_lt hc⟩, by simp⟩
      · rw [List.takeWhile_cons, if_pos hb]; simp
      · have := List.all_takeWhile (p := inChunk) (l := b :: r)
        rw [List.all_eq_true] at this
        exact this u hu
  · split at h
    · injection h with h
      subst h
      exact ⟨rfl, by simp⟩
    · cases h
end Pw

namespace Pw
open VahypBase Vahypa
/-! ### words: the program's way over a chunk -/
def wFrom : Bytes × List Nat → Bytes → Option (Bytes × List Nat)
  | s, [] => some s
  | s, b :: r => if b ≠ 45 then wFrom (s.1 ++ [b], s.2) r else if s.1.length ∈ s.2 then none else wFrom (s.1, s.2 ++ [s.1.length]) r
def isLetters (x : Bytes) : Bool := decide (2 ≤ x.length ∧ x.length ≤ 16) && x.all isLetter
def wEnd (s : Bytes × List Nat) : Option Word := if (!isLetters s.1 || (decide (0 ∈ s.2) || decide (s.1.length ∈ s.2))) = true then none else some ⟨s.1, s.2⟩
def wGo (s : Bytes × List Nat) (l : Bytes) : Option Word := (wFrom s l).bind wEnd
theorem wEnd_bad {s : Bytes × List Nat} (h : s.1.all isLetter = false ∨ 0 ∈ s.2 ∨ s.1.length ∈ s.2) : wEnd s = none := by
  unfold wEnd isLetters
  rw [if_pos]
  rcases h with h | h | h <;> simp [h]
theorem letter_not45 {b : UInt8} (h : isLetter b = true) : b ≠ 45 := fun z => by
  subst z
  revert h
  decide
/-- what is spoilt stays so -/
theorem wGo_bad : ∀ (l : Bytes) (s : Bytes × List Nat), (s.1.all isLetter = false ∨ 0 ∈ s.2) → wGo s l = none
  | [], s, h => wEnd_bad (h.elim .inl fun z => .inr (.inl z))
  | b :: r, s, h => by
    unfold wGo wFrom
    split
    · exact wGo_bad r (s.1 ++ [b], s.2) (h.elim (fun z => .inl (by simp [z])) .inr)
    · split
      · rfl
      · exact wGo_bad r (s.1, s.2 ++ [s.1.length]) (h.elim .inl fun z => .inr (by simp [z]))
/-- letters behind letters: as told ahead of the next byte -/
structure WInv (x : Bytes) (cs : List Nat) : Prop where
  let_ : x.all isLetter = true
  lt : ∀ c ∈ cs, 0 < c ∧ c < x.length
theorem WInv.not_in {x : Bytes} {cs : List Nat} (h : WInv x cs) : x.length ∉ cs := fun m => Nat.lt_irrefl _ (h.lt _ m).2
theorem WInv.no0 {x : Bytes} {cs : List Nat} (h : WInv x cs) : 0 ∉ cs := fun m => Nat.lt_irrefl _ (h.lt _ m).1
theorem WInv.letter {x : Bytes} {cs : List Nat} (h : WInv x cs) {b : UInt8} (hb : isLetter b = true) : WInv (x ++ [b]) cs :=
  ⟨by simp [h.let_, hb], fun c m => ⟨(h.lt c m).1, by have := (h.lt c m).2; simp; omega⟩⟩
theorem WInv.cut {x : Bytes} {cs : List Nat} (h : WInv x cs) (hx : x ≠ []) {b : UInt8} (hb : isLetter b = true) : WInv (x ++ [b]) (cs ++ [x.length]) :=
  ⟨by simp [h.let_, hb], fun c m => by
    have hl : 0 < x.length := List.length_pos_iff.mpr hx
    rcases List.mem_append.mp m with m | m
    · have := h.lt c m
      simp only [List.length_append, List.length_cons, List.length_nil]
      omega
    · rw [List.mem_singleton] at m
      subst m
      simp only [List.length_append, List.length_cons, List.length_nil]
      omega⟩
def lenOk (w : Word) : Option Word := if w.x.length < 2 ∨ LETTERS < w.x.length then none else some w
theorem wEnd_good {x : Bytes} {cs : List Nat} (h : WInv x cs) : wEnd (x, cs) = lenOk ⟨x, cs⟩ := by
  unfold wEnd lenOk isLetters LETTERS
  have h1 := h.no0
  have h2 := h.not_in
  simp only [h.let_, Bool.and_true, h1, h2, decide_false, Bool.or_false, Bool.not_eq_true', decide_eq_false_iff_not]
  by_cases c : 2 ≤ x.length ∧ x.length ≤ 16
  · rw [if_neg (fun z => z c), if_neg (by omega)]
  · rw [if_pos c, if_pos (by omega)]
theorem wordBy_cons (n : Nat) (b : UInt8) (r x : Bytes) (cs : List Nat) : wordBy (n + 1) (b :: r) x cs = if isLetter b = true then wordBy n r (x ++ [b]) cs
    else if b == 45 ∧ x ≠ [] ∧ cs.contains x.length = false then (match r with
      | c :: _ => if isLetter c = true then wordBy n r x (cs ++ [x.length]) else none
      | [] => none)
    else none := by
  rw [wordBy.eq_def]
  rfl
theorem wordBy_go : ∀ (n : Nat) (l x : Bytes) (cs : List Nat), l.length < n → WInv x cs → (wordBy n l x cs).bind lenOk = wGo (x, cs) l
  | 0, _, _, _, h, _ => absurd h (Nat.not_lt_zero _)
  | n + 1, [], x, cs, _, I => by
    rw [wordBy]
    exact (wEnd_good I).symm
  | n + 1, b :: r, x, cs, hn, I => by
    have hr : r.length < n := by simpa using hn
    rw [wordBy_cons]
    by_cases hb : isLetter b = true
    · rw [if_pos hb, wordBy_go n r _ cs hr (I.letter hb)]
      unfold wGo
      rw [wFrom, if_pos (letter_not45 hb)]
    · rw [if_neg hb]
      by_cases h45 : b = 45
      · subst h45
        by_cases hx : x = []
        · subst hx
          rw [if_neg (by simp)]
          unfold wGo
          rw [wFrom, if_neg (by simp), if_neg I.not_in]
          exact (wGo_bad r _ (.inr (by simp))).symm
        · have hc : cs.contains x.length = false := by simpa using I.not_in
          rw [if_pos ⟨rfl, hx, hc⟩]
          unfold wGo
          rw [wFrom, if_neg (by simp), if_neg I.not_in]
          cases r with
          | nil => exact (wEnd_bad (.inr (.inr (by simp)))).symm
          | cons c s =>
            simp only
            by_cases hl : isLetter c = true
            · rw [if_pos hl]
              cases n with
              | zero => simp at hr
              | succ n =>
                rw [wordBy_cons, if_pos hl]
                have := wordBy_go n s (x ++ [c]) (cs ++ [x.length]) (by simpa using hr) (I.cut hx hl)
                rw [this]
                show _ = ((wFrom (x, cs ++ [x.length]) (c :: s))).bind wEnd
                rw [wFrom, if_pos (letter_not45 hl)]
                rfl
            · rw [if_neg hl]
              show none = ((wFrom (x, cs ++ [x.length]) (c :: s))).bind wEnd
              rw [wFrom]
              by_cases c45 : c = 45
              · rw [if_neg (by simpa using c45), if_pos (by simp)]
                rfl
              · rw [if_pos c45]
                exact (wGo_bad s (x ++ [c], cs ++ [x.length]) (.inl (by simp [hl]))).symm
      · rw [if_neg (fun z => h45 (by simpa using z.1))]
        unfold wGo
        rw [wFrom, if_pos h45]
        exact (wGo_bad r _ (.inl (by simp [hb]))).symm
/-- **the program reads a word as the document does** -/
theorem wordOf_go (b : Bytes) : wordOf b = wGo ([], []) b := wordBy_go _ b [] [] (Nat.lt_succ_self _) ⟨rfl, fun _ m => nomatch m⟩
/-! ### what is told of a word that was read -/
theorem hyphened_snoc {x : Bytes} {cs : List Nat} {b : UInt8} (h : x.length ∉ cs) : hyphened (x ++ [b]) cs = hyphened x cs ++ [b] := by
  unfold hyphened
  rw [List.zipIdx_append, List.flatMap_append]
  congr 1
  simp [h]
theorem hyphened_snoc_cut {x : Bytes} {cs : List Nat} {b : UInt8} (hx : x ≠ []) : hyphened (x ++ [b]) (cs ++ [x.length]) = hyphened x cs ++ [45, b] := by
  unfold hyphened
  rw [List.zipIdx_append, List.flatMap_append]
  have hl : 0 < x.length := List.length_pos_iff.mpr hx
  congr 1
  · have key : ∀ c ∈ x.zipIdx, c.2 < x.length := fun c m => by
      have := List.mem_zipIdx m
      omega
    have gen : ∀ l : List (UInt8 × Nat), (∀ c ∈ l, c.2 < x.length) → (l.flatMap fun c => if (cs ++ [x.length]).contains c.2 = true ∧ 0 < c.2 then [45, c.1] else [c.1]) = l.flatMap fun c => if cs.contains c.2 = true ∧ 0 < c.2 then [45, c.1] else [c.1] := by
      intro l
      induction l with
      | nil => intro _; rfl
      | cons a l ih =>
        intro h
        rw [List.flatMap_cons, List.flatMap_cons, ih fun c m => h c (List.mem_cons_of_mem _ m)]
        have := h a (List.mem_cons_self ..)
        have e : (cs ++ [x.length]).contains a.2 = cs.contains a.2 := by
          rw [Bool.eq_iff_iff]
          simp
          intro z
          omega
        rw [e]
    exact gen _ key
  · simp [hl]
structure WordOk (w : Word) (b : Bytes) : Prop where
  letters : w.x.all isLetter = true
  len : 2 ≤ w.x.length ∧ w.x.length ≤ 16
  cuts : ∀ c ∈ w.cuts, 0 < c ∧ c < w.x.length
  nodup : w.cuts.Nodup
  form : hyphened w.x w.cuts = b
theorem wordBy_ok : ∀ (n : Nat) (l x : Bytes) (cs : List Nat) (w : Word), WInv x cs → cs.Nodup → wordBy n l x cs = some w → WInv w.x w.cuts ∧ w.cuts.Nodup ∧ hyphened w.x w.cuts = hyphened x cs ++ l
  | 0, _, _, _, _, _, _, h => by rw [wordBy] at h; cases h
  | n + 1, [], x, cs, w, I, N, h => by
    rw [wordBy] at h
    injection h with h
    subst h
    exact ⟨I, N, by simp⟩
  | n + 1, b :: r, x, cs, w, I, N, h => by
    rw [wordBy_cons] at h
    by_cases hb : isLetter b = true
    · rw [if_pos hb] at h
      have := wordBy_ok n r _ cs w (I.letter hb) N h
      rw [hyphened_snoc I.not_in] at this
      simpa using this
    · rw [if_neg hb] at h
      split at h
      · rename_i hc
        obtain ⟨h45, hx, hcs⟩ := hc
        have h45 : b = 45 := by simpa using h45
        cases r with
        | nil => simp at h
        | cons c s =>
          simp only at h
          split at h
          · rename_i hl
            cases n with
            | zero => rw [wordBy] at h; cases h
            | succ n =>
              rw [wordBy_cons, if_pos hl] at h
              have N' : (cs ++ [x.length]).Nodup := by
                rw [List.nodup_append]
                refine ⟨N, by simp, fun a ha b hb => ?_⟩
                rw [List.mem_singleton] at hb
                subst hb
                exact fun z => I.not_in (z ▸ ha)
              have := wordBy_ok n s _ _ w (I.cut hx hl) N' h
              rw [hyphened_snoc_cut hx] at this
              subst h45
              simpa using this
          · cases h
      · cases h
theorem wordOf_ok {b : Bytes} {w : Word} (h : wordOf b = some w) : WordOk w b := by
  unfold wordOf at h
  obtain ⟨v, h1, h2⟩ := Option.bind_eq_some_iff.mp h
  split at h2
  · cases h2
  · rename_i hc
    injection h2 with h2
    subst h2
    obtain ⟨I, N, e⟩ := wordBy_ok _ b [] [] v ⟨rfl, fun _ m => nomatch m⟩ List.nodup_nil h1
    unfold LETTERS at hc
    exact ⟨I.let_, by omega, I.lt, N, e⟩
end Pw

namespace Pw
open VahypBase Vahypa
/-! ### patterns: the program's way over a chunk -/
def pFrom (x : Bytes) (vs : List Nat) (v : Nat) : Bytes → Option (Bytes × List Nat)
  | [] => some (x, vs ++ [v])
  | b :: r => if isLetter b = true then pFrom (x ++ [b]) (vs ++ [v]) 0 r else if (48 < b.toNat ∧ b.toNat ≤ 57) ∧ v = 0 then pFrom x vs (b.toNat - 48) r else none
theorem patBy_eq (n : Nat) (l x : Bytes) (vs : List Nat) : patBy (n + 1) l x vs =
    (let v : Nat := match l with
      | b :: _ => if isDigit b = true then b.toNat - 48 else 0
      | [] => 0
    let zero : Bool := match l with
      | b :: _ => b == 48
      | [] => false
    let r := match l with
      | b :: r => if isDigit b = true then r else l
      | [] => l
    if zero = true then none else match r with
      | b :: s => if isLetter b = true then patBy n s (x ++ [b]) (vs ++ [v]) else some (x, vs ++ [v], r)
      | [] => some (x, vs ++ [v], [])) := by
  rw [patBy.eq_def]
  rfl
theorem patBy_nil (n : Nat) (x : Bytes) (vs : List Nat) : patBy (n + 1) [] x vs = some (x, vs ++ [0], []) := by
  rw [patBy_eq]
  rfl
theorem letter_range {b : UInt8} (h : isLetter b = true) : 97 ≤ b.toNat ∧ b.toNat ≤ 122 := of_decide_eq_true h
theorem digit_range {b : UInt8} (h : isDigit b = true) : 48 ≤ b.toNat ∧ b.toNat ≤ 57 := of_decide_eq_true h
theorem letter_no_digit {b : UInt8} (h : isLetter b = true) : isDigit b = false := by
  have := letter_range h
  exact decide_eq_false (by omega)
theorem beq48 (b : UInt8) : (b == 48) = decide (b.toNat = 48) := by
  rw [Bool.eq_iff_iff, beq_iff_eq, decide_eq_true_eq]
  constructor
  · intro h
    rw [h]
    rfl
  · intro h
    exact UInt8.toNat_inj.mp h
theorem patBy_letter {b : UInt8} (h : isLetter b = true) (n : Nat) (r x : Bytes) (vs : List Nat) : patBy (n + 1) (b :: r) x vs = patBy n r (x ++ [b]) (vs ++ [0]) := by
  have hr := letter_range h
  rw [patBy_eq]
  simp only [letter_no_digit h, beq48, decide_eq_false (show ¬ b.toNat = 48 by omega), h, if_true, Bool.false_eq_true, if_false]
theorem patBy_stop {b : UInt8} (h : isLetter b = false) (hd : isDigit b = false) (n : Nat) (r x : Bytes) (vs : List Nat) : patBy (n + 1) (b :: r) x vs = some (x, vs ++ [0], b :: r) := by
  have h48 : ¬ b.toNat = 48 := fun z => by
    have : isDigit b = true := decide_eq_true (by omega)
    rw [this] at hd
    cases hd
  rw [patBy_eq]
  simp only [hd, beq48, decide_eq_false h48, h, Bool.false_eq_true, if_false]
theorem patBy_zero {b : UInt8} (h : b.toNat = 48) (n : Nat) (r x : Bytes) (vs : List Nat) : patBy (n + 1) (b :: r) x vs = none := by
  rw [patBy_eq]
  simp only [beq48, decide_eq_true h, if_true]
theorem patBy_digit {b : UInt8} (h : 48 < b.toNat ∧ b.toNat ≤ 57) (n : Nat) (r x : Bytes) (vs : List Nat) : patBy (n + 1) (b :: r) x vs = match r with
      | c :: s => if isLetter c = true then patBy n s (x ++ [c]) (vs ++ [b.toNat - 48]) else some (x, vs ++ [b.toNat - 48], r)
      | [] => some (x, vs ++ [b.toNat - 48], []) := by
  have hd : isDigit b = true := decide_eq_true (by omega)
  rw [patBy_eq]
  simp only [hd, beq48, decide_eq_false (show ¬ b.toNat = 48 by omega), Bool.false_eq_true, if_false, if_true]
  cases r <;> rfl
def upTo (t : Bytes) (p : Bytes × List Nat × Bytes) : Option (Bytes × List Nat) := if p.2.2 = t then some (p.1, p.2.1) else none
theorem upTo_not {t x : Bytes} {vs : List Nat} {c : UInt8} {s : Bytes} : upTo t (x, vs, c :: (s ++ t)) = none := by
  unfold upTo
  rw [if_neg]
  intro h
  have := congrArg List.length h
  simp at this
  omega
theorem patBy_from : ∀ (n : Nat) (l x : Bytes) (vs : List Nat) (t : Bytes), (t = [] ∨ t = [46]) → l.length + t.length < n → (patBy n (l ++ t) x vs).bind (upTo t) = pFrom x vs 0 l
  | 0, _, _, _, _, _, h => absurd h (Nat.not_lt_zero _)
  | n + 1, [], x, vs, t, ht, _ => by
    rcases ht with rfl | rfl
    · rw [List.nil_append, patBy_nil]
      rfl
    · rw [List.nil_append, patBy_stop (by decide) (by decide)]
      rfl
  | n + 1, b :: r, x, vs, t, ht, hn => by
    have hn' : r.length + t.length < n := by
      simp only [List.length_cons] at hn
      omega
    rw [List.cons_append, pFrom]
    by_cases hb : isLetter b = true
    · rw [patBy_letter hb, if_pos hb]
      exact patBy_from n r _ _ t ht hn'
    · have hb' : isLetter b = false := by simpa using hb
      rw [if_neg hb]
      by_cases hd : isDigit b = true
      · have hr := digit_range hd
        by_cases h48 : b.toNat = 48
        · rw [patBy_zero h48, if_neg (by omega)]
          rfl
        · have hr' : 48 < b.toNat ∧ b.toNat ≤ 57 := by omega
          rw [patBy_digit hr', if_pos ⟨hr', rfl⟩]
          cases r with
          | nil =>
            rcases ht with rfl | rfl
            · rfl
            · rfl
          | cons c s =>
            rw [List.cons_append]
            simp only
            rw [pFrom]
            by_cases hc : isLetter c = true
            · rw [if_pos hc, if_pos hc]
              exact patBy_from n s _ _ t ht (by simp only [List.length_cons] at hn'; omega)
            · rw [if_neg hc, if_neg hc, if_neg (by omega)]
              exact upTo_not
      · have hd' : isDigit b = false := by simpa using hd
        rw [patBy_stop hb' hd', if_neg (fun z => hd (decide_eq_true (by omega)))]
        exact upTo_not
theorem patBy_suffix : ∀ (n : Nat) (l x : Bytes) (vs : List Nat) (p : Bytes × List Nat × Bytes), patBy n l x vs = some p → ∃ q, l = q ++ p.2.2 ∧ ∀ u ∈ q, u ≠ 46
  | 0, _, _, _, _, h => by rw [patBy] at h; cases h
  | n + 1, [], x, vs, p, h => by
    rw [patBy_nil] at h
    injection h with h
    subst h
    exact ⟨[], rfl, fun _ m => nomatch m⟩
  | n + 1, b :: r, x, vs, p, h => by
    by_cases hb : isLetter b = true
    · rw [patBy_letter hb] at h
      obtain ⟨q, e, k⟩ := patBy_suffix n r _ _ p h
      refine ⟨b :: q, by rw [e]; rfl, fun u m => ?_⟩
      rcases List.mem_cons.mp m with m | m
      · subst m
        intro z
        subst z
        revert hb
        decide
      · exact k u m
    · by_cases hd : isDigit b = true
      · by_cases h48 : b.toNat = 48
        · rw [patBy_zero h48] at h
          cases h
        · have hr := digit_range hd
          rw [patBy_digit (by omega)] at h
          have nb : b ≠ 46 := fun z => by
            subst z
            revert hd
            decide
          cases r with
          | nil =>
            injection h with h
            subst h
            exact ⟨[b], rfl, fun u m => by rw [List.mem_singleton] at m; exact m ▸ nb⟩
          | cons c s =>
            simp only at h
            split at h
            · rename_i hc
              obtain ⟨q, e, k⟩ := patBy_suffix n s _ _ p h
              refine ⟨b :: c :: q, by rw [e]; rfl, fun u m => ?_⟩
              rcases List.mem_cons.mp m with m | m
              · exact m ▸ nb
              · rcases List.mem_cons.mp m with m | m
                · subst m
                  intro z
                  subst z
                  revert hc
                  decide
                · exact k u m
            · injection h with h
              subst h
              exact ⟨[b], rfl, fun u m => by rw [List.mem_singleton] at m; exact m ▸ nb⟩
      · rw [patBy_stop (by simpa using hb) (by simpa using hd)] at h
        injection h with h
        subst h
        exact ⟨[], rfl, fun _ m => nomatch m⟩
/-- a pattern that the loop gave -/
def pEnd (f h : Bool) (s : Bytes × List Nat) : Option Pat := if ¬ (1 ≤ s.1.length ∧ s.1.length ≤ 6) ∨ s.2.all (fun v => v == 0) = true then none else some ⟨f, s.1, h, s.2⟩
/-- the program's way over a pattern's chunk -/
def pGo (b : Bytes) : Option Pat :=
  let f := b.head? == some 46
  let h := b.getLast? == some 46
  let i := if f = true then 1 else 0
  let j := if h = true then b.length - 1 else b.length
  (pFrom [] [] 0 ((b.drop i).take (j - i))).bind (pEnd f h)
theorem patOf_rest (b : Bytes) : patOf b = (patBy (b.length + 1) (if (b.head? == some 46) = true then b.drop 1 else b) [] []).bind fun p =>
    if p.1.length < 1 ∨ 6 < p.1.length ∨ (p.2.2 ≠ [] ∧ (p.2.2 == [46]) = false) ∨ p.2.1.all (fun v => v == 0) = true then none else some ⟨b.head? == some 46, p.1, p.2.2 == [46], p.2.1⟩ := rfl
theorem bind_upTo {o : Option (Bytes × List Nat × Bytes)} {t : Bytes} {f : Bool} (ht : t = [] ∨ t = [46]) (h : ∀ p, o = some p → p.2.2 ≠ t → p.2.2 ≠ [] ∧ p.2.2 ≠ [46]) :
    (o.bind fun p => if p.1.length < 1 ∨ 6 < p.1.length ∨ (p.2.2 ≠ [] ∧ (p.2.2 == [46]) = false) ∨ p.2.1.all (fun v => v == 0) = true then none else some (⟨f, p.1, p.2.2 == [46], p.2.1⟩ : Pat))
      = (o.bind (upTo t)).bind (pEnd f (t == [46])) := by
  cases o with
  | none => rfl
  | some p =>
    obtain ⟨x, vs, r⟩ := p
    show (if x.length < 1 ∨ 6 < x.length ∨ (r ≠ [] ∧ (r == [46]) = false) ∨ vs.all (fun v => v == 0) = true then none else some (⟨f, x, r == [46], vs⟩ : Pat)) = (upTo t (x, vs, r)).bind _
    by_cases e : r = t
    · subst e
      unfold upTo
      rw [if_pos rfl]
      show _ = pEnd f (r == [46]) (x, vs)
      unfold pEnd
      have c1 : ¬ (r ≠ [] ∧ (r == [46]) = false) := by
        rcases ht with rfl | rfl
        · exact fun z => z.1 rfl
        · exact fun z => by simp at z
      by_cases c : 1 ≤ x.length ∧ x.length ≤ 6
      · by_cases c2 : vs.all (fun v => v == 0) = true
        · rw [if_pos (.inr (.inr (.inr c2))), if_pos (.inr c2)]
        · rw [if_neg, if_neg]
          · exact fun z => z.elim (fun z => z c) c2
          · rintro (z | z | z | z)
            · omega
            · omega
            · exact c1 z
            · exact c2 z
      · rw [if_pos, if_pos (.inl c)]
        by_cases z : x.length < 1
        · exact .inl z
        · exact .inr (.inl (by omega))
    · obtain ⟨n1, n2⟩ := h (x, vs, r) rfl e
      rw [if_pos (.inr (.inr (.inl ⟨n1, by simpa using n2⟩)))]
      unfold upTo
      rw [if_neg e]
      rfl
/-- **the program reads a pattern as the document does** -/
theorem patOf_go (b : Bytes) (hb : b ≠ []) : patOf b = pGo b := by
  rw [patOf_rest]
  unfold pGo
  simp only
  -- the part behind the front point
  have main : ∀ (f : Bool) (rest : Bytes) (n : Nat), rest.length < n → ∀ (h : Bool) (mid : Bytes), (rest = mid ++ (if h = true then [46] else [])) → (h = false → rest.getLast? ≠ some 46) →
      ((patBy n rest [] []).bind fun p => if p.1.length < 1 ∨ 6 < p.1.length ∨ (p.2.2 ≠ [] ∧ (p.2.2 == [46]) = false) ∨ p.2.1.all (fun v => v == 0) = true then none else some (⟨f, p.1, p.2.2 == [46], p.2.1⟩ : Pat))
        = (pFrom [] [] 0 mid).bind (pEnd f h) := by
    intro f rest n hn h mid e hl
    have ht : (if h = true then [46] else [] : Bytes) = [] ∨ (if h = true then [46] else [] : Bytes) = [46] := by cases h <;> simp
    rw [bind_upTo ht, e, patBy_from n mid [] [] _ ht (by rw [e, List.length_append] at hn; exact hn)]
    · congr 1
      cases h <;> rfl
    · intro p hp hne
      obtain ⟨q, eq, kq⟩ := patBy_suffix _ _ _ _ _ hp
      cases h with
      | true =>
        refine ⟨fun z => ?_, fun z => hne z⟩
        rw [z, List.append_nil] at eq
        have : (46 : UInt8) ∈ q := by rw [← eq, e]; simp
        exact kq _ this rfl
      | false =>
        refine ⟨fun z => hne z, fun z => ?_⟩
        refine hl rfl ?_
        rw [eq, z]
        simp
  by_cases hf : (b.head? == some 46) = true
  · rw [hf, if_pos rfl, if_pos rfl]
    obtain ⟨c, r, rfl⟩ : ∃ c r, b = c :: r := by
      cases b with
      | nil => exact absurd rfl hb
      | cons c r => exact ⟨c, r, rfl⟩
    show ((patBy _ r [] []).bind _) = _
    cases r with
    | nil =>
      rw [patBy_nil]
      have : c = 46 := by simpa using hf
      subst this
      rfl
    | cons d s =>
      have gl : (c :: d :: s).getLast? = (d :: s).getLast? := by simp [List.getLast?_cons]
      rw [gl]
      cases hh : ((d :: s).getLast? == some 46) with
      | true =>
        refine main true (d :: s) _ (by simp) true _ ?_ (by simp)
        have e1 : (d :: s).getLast? = some 46 := by simpa using hh
        obtain ⟨m, em⟩ := List.getLast?_eq_some_iff.mp e1
        have hl : (d :: s).length = m.length + 1 := by rw [em]; simp
        rw [if_pos rfl, if_pos rfl]
        show d :: s = ((d :: s).take ((c :: d :: s).length - 1 - 1)) ++ [46]
        have : (c :: d :: s).length - 1 - 1 = m.length := by
          rw [List.length_cons, hl]
          omega
        rw [this, em, List.take_left]
      | false =>
        refine main true (d :: s) _ (by simp) false _ ?_ (fun _ => by simpa using hh)
        rw [if_neg (by decide), if_neg (by decide), List.append_nil]
        show d :: s = (d :: s).take ((c :: d :: s).length - 1)
        exact (List.take_of_length_le (by simp)).symm
  · have hf' : (b.head? == some 46) = false := by simpa using hf
    rw [hf']
    show ((patBy _ b [] []).bind _) = (pFrom [] [] 0 ((b.drop 0).take ((if (b.getLast? == some 46) = true then b.length - 1 else b.length) - 0))).bind (pEnd false (b.getLast? == some 46))
    rw [List.drop_zero]
    cases hh : (b.getLast? == some 46) with
    | true =>
      refine main false b _ (by simp) true _ ?_ (by simp)
      have e1 : b.getLast? = some 46 := by simpa using hh
      obtain ⟨m, em⟩ := List.getLast?_eq_some_iff.mp e1
      rw [if_pos rfl, if_pos rfl]
      have : b.length - 1 - 0 = m.length := by rw [em]; simp
      rw [this, em, List.take_left]
    | false =>
      refine main false b _ (by simp) false _ ?_ (fun _ => by simpa using hh)
      rw [if_neg (by decide), if_neg (by decide), List.append_nil]
      exact (List.take_of_length_le (by simp)).symm
/-! ### what is told of a pattern that was read -/
theorem digit_zero : digit 0 = [] := rfl
theorem digit_byte {b : UInt8} (h : 48 < b.toNat ∧ b.toNat ≤ 57) : digit (b.toNat - 48) = [b] := by
  have key : ∀ k : _root_.Fin 10, 0 < k.val → digit k.val = [UInt8.ofNat (48 + k.val)] := by decide +kernel
  have := key ⟨b.toNat - 48, by omega⟩ (by show 0 < b.toNat - 48; omega)
  rw [this]
  congr 1
  refine UInt8.toNat_inj.mp ?_
  show (UInt8.ofNat (48 + (b.toNat - 48))).toNat = b.toNat
  rw [show 48 + (b.toNat - 48) = b.toNat by omega]
  simp
def pBody (x : Bytes) (ds : List Nat) : Bytes := x.zipIdx.flatMap (fun c => digit (ds[c.2]?.getD 0) ++ [c.1]) ++ digit (ds[x.length]?.getD 0)
theorem pBody_flat {x : Bytes} {ds es : List Nat} (h : ∀ i, i < x.length → ds[i]?.getD 0 = es[i]?.getD 0) : x.zipIdx.flatMap (fun c => digit (ds[c.2]?.getD 0) ++ [c.1]) = x.zipIdx.flatMap (fun c => digit (es[c.2]?.getD 0) ++ [c.1]) := by
  have key : ∀ l : List (UInt8 × Nat), (∀ c ∈ l, c.2 < x.length) → l.flatMap (fun c => digit (ds[c.2]?.getD 0) ++ [c.1]) = l.flatMap (fun c => digit (es[c.2]?.getD 0) ++ [c.1]) := by
    intro l
    induction l with
    | nil => intro _; rfl
    | cons a l ih =>
      intro hl
      rw [List.flatMap_cons, List.flatMap_cons, ih fun c m => hl c (List.mem_cons_of_mem _ m), h a.2 (hl a (List.mem_cons_self ..))]
  exact key _ fun c m => by
    have := List.mem_zipIdx m
    omega
theorem pBody_digit {x : Bytes} {vs : List Nat} {b : UInt8} (hl : vs.length = x.length) (h : 48 < b.toNat ∧ b.toNat ≤ 57) : pBody x (vs ++ [b.toNat - 48]) = pBody x (vs ++ [0]) ++ [b] := by
  unfold pBody
  rw [pBody_flat (ds := vs ++ [b.toNat - 48]) (es := vs ++ [0]) fun i hi => by rw [List.getElem?_append_left (by omega), List.getElem?_append_left (by omega)]]
  rw [← hl]
  simp [digit_byte h, digit_zero]
theorem pBody_letter {x : Bytes} {vs : List Nat} {v : Nat} {b : UInt8} (hl : vs.length = x.length) : pBody (x ++ [b]) (vs ++ [v] ++ [0]) = pBody x (vs ++ [v]) ++ [b] := by
  unfold pBody
  rw [List.zipIdx_append, List.flatMap_append, pBody_flat (ds := vs ++ [v] ++ [0]) (es := vs ++ [v]) fun i hi => by rw [List.getElem?_append_left (by simp; omega)]]
  have e1 : (vs ++ [v] ++ [0])[(x ++ [b]).length]?.getD 0 = 0 := by
    rw [List.getElem?_append_right (by simp; omega)]
    simp [hl]
  have e2 : (vs ++ [v] ++ [0])[x.length]?.getD 0 = v := by
    rw [List.getElem?_append_left (by simp; omega), List.getElem?_append_right (by omega)]
    simp [hl]
  have e3 : (vs ++ [v])[x.length]?.getD 0 = v := by
    rw [List.getElem?_append_right (by omega)]
    simp [hl]
  rw [e1, e3, digit_zero]
  simp only [List.zipIdx_cons, List.zipIdx_nil, List.flatMap_cons, List.flatMap_nil, List.append_nil, Nat.zero_add, e2]
  rw [List.append_assoc]
structure PInv (x : Bytes) (ds : List Nat) : Prop where
  letters : x.all isLetter = true
  len : ds.length = x.length + 1
  small : ∀ d ∈ ds, d ≤ 9
theorem pFrom_ok : ∀ (l x : Bytes) (vs : List Nat) (v : Nat) (s : Bytes × List Nat), PInv x (vs ++ [v]) → pFrom x vs v l = some s → PInv s.1 s.2 ∧ pBody s.1 s.2 = pBody x (vs ++ [v]) ++ l
  | [], x, vs, v, s, I, h => by
    injection h with h
    subst h
    exact ⟨I, by simp⟩
  | b :: r, x, vs, v, s, I, h => by
    have hl : vs.length = x.length := by have := I.len; simpa using this
    rw [pFrom] at h
    split at h
    · rename_i hb
      have := pFrom_ok r (x ++ [b]) (vs ++ [v]) 0 s ⟨by simp [I.letters, hb], by simp [hl], fun d m => (List.mem_append.mp m).elim (I.small d) fun m => by rw [List.mem_singleton] at m; omega⟩ h
      rw [pBody_letter hl] at this
      simpa using this
    · split at h
      · rename_i hd
        obtain ⟨hd, rfl⟩ := hd
        have := pFrom_ok r x vs (b.toNat - 48) s ⟨I.letters, by simp [hl], fun d m => (List.mem_append.mp m).elim (fun m => I.small d (List.mem_append_left _ m)) fun m => by rw [List.mem_singleton] at m; omega⟩ h
        rw [pBody_digit hl hd] at this
        simpa using this
      · cases h
structure PatOk (p : Pat) (b : Bytes) : Prop where
  letters : p.x.all isLetter = true
  len : 1 ≤ p.x.length ∧ p.x.length ≤ 6
  levels : p.levels.length = p.x.length + 1
  small : ∀ d ∈ p.levels, d ≤ 9
  form : showPat p = b
theorem pGo_ok {b : Bytes} (hb : b ≠ []) {p : Pat} (h : pGo b = some p) : PatOk p b := by
  unfold pGo at h
  simp only at h
  obtain ⟨s, h1, h2⟩ := Option.bind_eq_some_iff.mp h
  obtain ⟨I, e⟩ := pFrom_ok _ [] [] 0 s ⟨rfl, rfl, fun d m => by simp at m; omega⟩ h1
  unfold pEnd at h2
  split at h2
  · cases h2
  · rename_i c
    injection h2 with h2
    subst h2
    refine ⟨I.letters, Decidable.not_not.mp fun z => c (.inl z), I.len, I.small, ?_⟩
    have e' : pBody s.1 s.2 = _ := e.trans (by show _ = _; rw [show pBody [] ([] ++ [0]) = [] from rfl, List.nil_append])
    show (if (b.head? == some 46) = true then [46] else []) ++ (s.1.zipIdx.flatMap (fun c => digit (s.2[c.2]?.getD 0) ++ [c.1]) ++ (digit (s.2[s.1.length]?.getD 0) ++ (if (b.getLast? == some 46) = true then [46] else []))) = b
    rw [← List.append_assoc (s.1.zipIdx.flatMap _)]
    show (if (b.head? == some 46) = true then [46] else []) ++ (pBody s.1 s.2 ++ (if (b.getLast? == some 46) = true then [46] else [])) = b
    rw [e']
    -- a single point is no pattern
    have ne : s.1 ≠ [] := fun z => by
      rw [z] at c
      simp at c
    by_cases hf : (b.head? == some 46) = true
    · rw [if_pos hf, if_pos hf]
      obtain ⟨c1, r, rfl⟩ : ∃ c r, b = c :: r := by
        cases b with
        | nil => exact absurd rfl hb
        | cons c r => exact ⟨c, r, rfl⟩
      have hc : c1 = 46 := by simpa using hf
      subst hc
      cases r with
      | nil =>
        exfalso
        rw [if_pos hf] at h1
        have : s = ([], [0]) := by
          have h1' : pFrom [] [] 0 ((([46] : Bytes).drop 1).take _) = some s := h1
          simp [pFrom] at h1'
          exact h1'.symm
        exact ne (by rw [this])
      | cons d r =>
        have gl : (46 :: d :: r : Bytes).getLast? = (d :: r).getLast? := by simp [List.getLast?_cons]
        rw [gl]
        by_cases hh : ((d :: r).getLast? == some 46) = true
        · rw [if_pos hh, if_pos hh]
          obtain ⟨m, em⟩ := List.getLast?_eq_some_iff.mp (by simpa using hh)
          have hl : (d :: r).length = m.length + 1 := by rw [em]; simp
          show 46 :: (((d :: r).take ((46 :: d :: r).length - 1 - 1)) ++ [46]) = 46 :: d :: r
          rw [show (46 :: d :: r : Bytes).length - 1 - 1 = m.length by rw [List.length_cons, hl]; omega, em, List.take_left]
        · rw [if_neg hh, if_neg hh]
          show 46 :: (((d :: r).take ((46 :: d :: r).length - 1)) ++ []) = 46 :: d :: r
          rw [List.append_nil, List.take_of_length_le (by simp)]
    · rw [if_neg hf, if_neg hf, List.drop_zero, List.nil_append]
      by_cases hh : (b.getLast? == some 46) = true
      · rw [if_pos hh, if_pos hh]
        obtain ⟨m, em⟩ := List.getLast?_eq_some_iff.mp (by simpa using hh)
        rw [show b.length - 1 - 0 = m.length by rw [em]; simp, em, List.take_left]
      · rw [if_neg hh, if_neg hh, List.append_nil]
        exact List.take_of_length_le (by simp)
end Pw

namespace Pw
open VahypBase Vahypa
/-! ### reading, token by token -/
/-- the bytes by which a token's content is told -/
def tokB : VahypBase.Tok → Bytes
  | .chunk b => b
  | .sign c => [UInt8.ofNat c]
  | .last => []
def isChunkTok : VahypBase.Tok → Bool
  | .chunk _ => true
  | _ => false
theorem not59 {b : Bytes} (h : ∀ u ∈ b, inChunk u = true) : (b == [59]) = false := by
  rw [beq_eq_false_iff_ne]
  intro e
  subst e
  have := h 59 (by simp)
  revert this
  decide
theorem takeChunk_cons {t : PTok} {r : Toks} : takeChunk (t :: r) = if isChunkTok t.tok = true then .ok (t.place, tokB t.tok, r) else .error ⟨3, t.place⟩ := by
  obtain ⟨p, tok⟩ := t
  cases tok <;> rfl
theorem takeSign_cons {t : PTok} {r : Toks} (h : TokOk t.tok) : takeSign 59 (t :: r) = if (tokB t.tok == [59]) = true then .ok r else .error ⟨3, t.place⟩ := by
  obtain ⟨p, tok⟩ := t
  cases tok with
  | chunk b =>
    have e := not59 h.2.1
    show (if (tokEq (.chunk b) (.sign 59)) = true then (Except.ok r : Except Fault Toks) else Except.error ⟨3, p⟩) = (if (b == [59]) = true then Except.ok r else Except.error ⟨3, p⟩)
    rw [e]
    rfl
  | sign c =>
    have e : c = 59 := h
    subst e
    rfl
  | last => rfl
theorem nextTok_word {w : Bytes} (hw : w ≠ [] ∧ w ≠ [59]) {t : PTok} {r : Toks} (h : TokOk t.tok) : next (.chunk w) (t :: r) = (tokB t.tok == w) := by
  obtain ⟨p, tok⟩ := t
  cases tok with
  | chunk b => rfl
  | sign c =>
    have e : c = 59 := h
    subst e
    show false = ([UInt8.ofNat 59] == w)
    exact (beq_eq_false_iff_ne.mpr fun z => hw.2 z.symm).symm
  | last =>
    show false = ([] == w)
    exact (beq_eq_false_iff_ne.mpr fun z => hw.1 z.symm).symm
theorem nextTok_last {t : PTok} {r : Toks} (h : TokOk t.tok) : next .last (t :: r) = (tokB t.tok == []) := by
  obtain ⟨p, tok⟩ := t
  cases tok with
  | chunk b =>
    show false = (b == [])
    exact (beq_eq_false_iff_ne.mpr h.1).symm
  | sign c => rfl
  | last => rfl
theorem takeWord_cons {s : String} (hw : word s ≠ [] ∧ word s ≠ [59]) {t : PTok} {r : Toks} (h : TokOk t.tok) : takeWord s (t :: r) = if (tokB t.tok == word s) = true then .ok r else .error ⟨3, t.place⟩ := by
  unfold takeWord taken
  rw [nextTok_word hw h]
  rfl
theorem w_margins : word "margins" ≠ [] ∧ word "margins" ≠ [59] := by decide +kernel
theorem w_word : word "word" ≠ [] ∧ word "word" ≠ [59] := by decide +kernel
theorem w_pattern : word "pattern" ≠ [] ∧ word "pattern" ≠ [59] := by decide +kernel
theorem takeMargin_cons {t : PTok} {r : Toks} : takeMargin (t :: r) = if isChunkTok t.tok = true then (match tokB t.tok with
      | [b] => if isDigit b = true ∧ b.toNat - 48 ≤ 5 then .ok (b.toNat - 48, r) else .error ⟨7, t.place⟩
      | _ => .error ⟨7, t.place⟩) else .error ⟨3, t.place⟩ := by
  unfold takeMargin
  rw [takeChunk_cons]
  cases isChunkTok t.tok with
  | true =>
    rw [if_pos rfl, if_pos rfl]
    rfl
  | false =>
    rw [if_neg (by decide), if_neg (by decide)]
    rfl
/-! ### words and patterns alike -/
section
variable {α : Type} (parse : Bytes → Option α) (like : α → α → Bool)
/-- the chunk of an entry, behind the keyword -/
def entOf (xs : List α) (l : Toks) : Except Fault (α × Toks) := (takeChunk l).bind fun x => match parse x.2.1 with
  | none => .error ⟨7, x.1⟩
  | some w => if (xs.any fun v => like v w) = true then .error ⟨5, x.1⟩ else .ok (w, x.2.2)
def entLoop (kw : Bytes) (most : Nat) : Nat → List α → Toks → Except Fault (List α × Toks)
  | 0, _, l => wrong l
  | n + 1, xs, l => if next (.chunk kw) l = true then (if most ≤ xs.length then .error ⟨4, here l⟩ else (entOf parse like xs (l.drop 1)).bind fun x => (takeSign 59 x.2).bind fun m => entLoop kw most n (xs ++ [x.1]) m)
    else .ok (xs, l)
end
def likeW (v w : Word) : Bool := v.x == w.x
def likeP (q p : Pat) : Bool := q.x == p.x && (q.front == p.front && q.halt_ == p.halt_)
theorem bind_assoc {ε α β γ : Type} (x : Except ε α) (f : α → Except ε β) (g : β → Except ε γ) : (x.bind f).bind g = x.bind fun a => (f a).bind g := by
  cases x <;> rfl
theorem bind_ok {ε α β : Type} (x : α) (f : α → Except ε β) : (Except.ok x : Except ε α).bind f = f x := rfl
theorem bind_congr {ε α β : Type} {x : Except ε α} {f g : α → Except ε β} (h : ∀ a, f a = g a) : x.bind f = x.bind g := by
  rw [show f = g from funext h]
theorem takeWords_loop : ∀ (n : Nat) (ws : List Word) (l : Toks), takeWords n ws l = entLoop wordOf likeW (word "word") 24 n ws l
  | 0, _, _ => rfl
  | n + 1, ws, l => by
    rw [takeWords, entLoop]
    unfold nextWord
    split
    · split
      · rename_i h
        rw [if_pos (show 24 ≤ ws.length from h)]
      · rename_i h
        rw [if_neg (show ¬ 24 ≤ ws.length from h)]
        unfold entOf
        rw [bind_assoc]
        refine bind_congr fun x => ?_
        cases wordOf x.2.1 with
        | none => rfl
        | some w =>
          simp only
          have e : (ws.any fun v => v.x == w.x) = ws.any fun v => likeW v w := rfl
          rw [e]
          by_cases c : (ws.any fun v => likeW v w) = true
          · rw [if_pos c, if_pos c]
            rfl
          · rw [if_neg c, if_neg c]
            show (takeSign 59 x.2.2).bind _ = (takeSign 59 x.2.2).bind _
            exact bind_congr fun m => takeWords_loop n _ m
    · rfl
theorem takePats_loop : ∀ (n : Nat) (ps : List Pat) (l : Toks), (∀ t ∈ l, TokOk t.tok) → takePats n ps l = (entLoop patOf likeP (word "pattern") 40 n ps l).bind fun x => if next .last x.2 = true then .ok x.1 else wrong x.2
  | 0, _, _, _ => rfl
  | n + 1, ps, l, hl => by
    rw [takePats, entLoop]
    by_cases c1 : next .last l = true
    · rw [if_pos c1]
      have c2 : ¬ next (.chunk (word "pattern")) l = true := by
        cases l with
        | nil => exact fun z => nomatch z
        | cons t r =>
          have ht := hl t (List.mem_cons_self ..)
          rw [nextTok_last ht] at c1
          rw [nextTok_word w_pattern ht]
          intro z
          have a := eq_of_beq c1
          have b := eq_of_beq z
          exact w_pattern.1 (b.symm.trans a)
      rw [if_neg c2]
      show _ = if next .last l = true then _ else _
      rw [if_pos c1]
    · rw [if_neg c1]
      unfold takeWord taken
      by_cases c2 : next (.chunk (word "pattern")) l = true
      · rw [if_pos c2, if_pos c2]
        show (if PATS ≤ ps.length then _ else _) = _
        by_cases c3 : 40 ≤ ps.length
        · rw [if_pos (show PATS ≤ ps.length from c3), if_pos c3]
          rfl
        · rw [if_neg (show ¬ PATS ≤ ps.length from c3), if_neg c3, bind_assoc]
          unfold entOf
          rw [bind_assoc]
          cases hx : takeChunk (l.drop 1) with
          | error f => rfl
          | ok x =>
            rw [bind_ok, bind_ok]
            have sub : ∀ t ∈ x.2.2, TokOk t.tok := by
              intro t ht
              cases hl2 : l.drop 1 with
              | nil => rw [hl2] at hx; cases hx
              | cons t1 r1 =>
                rw [hl2, takeChunk_cons] at hx
                split at hx
                · injection hx with hx
                  subst hx
                  exact hl t (List.mem_of_mem_drop (i := 1) (by rw [hl2]; exact List.mem_cons_of_mem _ ht))
                · cases hx
            cases hp : patOf x.2.1 with
            | none => rfl
            | some p =>
              simp only
              have e : (ps.any fun q => q.x == p.x && (q.front == p.front && q.halt_ == p.halt_)) = (ps.any fun v => likeP v p) := rfl
              rw [e]
              by_cases c : (ps.any fun v => likeP v p) = true
              · rw [if_pos c, if_pos c]
                rfl
              · rw [if_neg c, if_neg c]
                show (takeSign 59 x.2.2).bind _ = ((takeSign 59 x.2.2).bind _).bind _
                rw [bind_assoc]
                cases hm : takeSign 59 x.2.2 with
                | error f => rfl
                | ok m =>
                  have sub2 : ∀ t ∈ m, TokOk t.tok := by
                    cases hx2 : x.2.2 with
                    | nil => rw [hx2] at hm; cases hm
                    | cons t1 r1 =>
                      rw [hx2] at hm sub
                      rw [takeSign_cons (sub t1 (List.mem_cons_self ..))] at hm
                      split at hm
                      · injection hm with hm
                        subst hm
                        exact fun t ht => sub t (List.mem_cons_of_mem _ ht)
                      · cases hm
                  exact takePats_loop n _ m sub2
      · rw [if_neg c2, if_neg c2]
        show _ = if next .last l = true then _ else _
        rw [if_neg c1]
        rfl
end Pw

namespace Pw
open VahypBase (Bytes)
open Vahypa (Call Obj)
/-! ### the line of calls -/
def toI (b : Bytes) : List Int := b.map fun u => (u.toNat : Int)
def num : Call → Nat
  | .load _ => 0
  | .shown => 1
  | .levels _ => 2
  | .part _ => 3
  | .score => 4
  | .why _ _ => 5
  | .fits _ => 6
  | .spell _ => 7
def handed : Call → List Int
  | .load b => toI b
  | .shown => []
  | .levels b => toI b
  | .part i => [i]
  | .score => []
  | .why i g => [i, g]
  | .fits p => [p]
  | .spell b => toI b
def isRow : Call → Bool
  | .load _ => true
  | .levels _ => true
  | .spell _ => true
  | _ => false
def rawC (c : Call) : List (List Int) := if isRow c = true then [[(num c : Int)], handed c] else [(num c : Int) :: handed c]
def flatC (c : Call) : List Int := if isRow c = true then (num c : Int) :: ((handed c).length : Int) :: handed c else (num c : Int) :: handed c
def okC (c : Call) : Prop := (handed c).length ≤ 8192
theorem toI_bytesOf {l : List Int} (h : ∀ z ∈ l, 0 ≤ z ∧ z < 256) : toI (VahypaNeutral.bytesOf l) = l := by
  unfold toI VahypaNeutral.bytesOf
  rw [List.map_map]
  have : l.map ((fun u : UInt8 => (u.toNat : Int)) ∘ fun b => UInt8.ofNat b.toNat) = l.map id := List.map_congr_left fun z m => by
    have := h z m
    show ((UInt8.ofNat z.toNat).toNat : Int) = z
    have e : (UInt8.ofNat z.toNat).toNat = z.toNat := by
      rw [UInt8.toNat_ofNat']
      omega
    rw [e]
    omega
  rw [this, List.map_id]
theorem bytesOf_toI (b : Bytes) : VahypaNeutral.bytesOf (toI b) = b := by
  unfold toI VahypaNeutral.bytesOf
  rw [List.map_map]
  have : b.map ((fun z : Int => UInt8.ofNat z.toNat) ∘ fun u => (u.toNat : Int)) = b.map id := List.map_congr_left fun u _ => by
    show UInt8.ofNat ((u.toNat : Int)).toNat = u
    rw [Int.toNat_natCast]
    exact UInt8.ofNat_toNat
  rw [this, List.map_id]
theorem bytes_toI (b : Bytes) : NeutralIO.bytes (toI b) = true := by
  unfold NeutralIO.bytes toI
  rw [List.all_eq_true]
  intro z m
  obtain ⟨u, _, rfl⟩ := List.mem_map.mp m
  have := u.toNat_lt
  simp
  omega
theorem callOf_raw (c : Call) : VahypaNeutral.callOf (rawC c) = some c := by
  cases c with
  | load b =>
    show (if NeutralIO.bytes (toI b) = true then some (Call.load (VahypaNeutral.bytesOf (toI b))) else none) = _
    rw [if_pos (bytes_toI b), bytesOf_toI]
  | levels b =>
    show (if NeutralIO.bytes (toI b) = true then some (Call.levels (VahypaNeutral.bytesOf (toI b))) else none) = _
    rw [if_pos (bytes_toI b), bytesOf_toI]
  | spell b =>
    show (if NeutralIO.bytes (toI b) = true then some (Call.spell (VahypaNeutral.bytesOf (toI b))) else none) = _
    rw [if_pos (bytes_toI b), bytesOf_toI]
  | shown => rfl
  | part i => rfl
  | score => rfl
  | why i g => rfl
  | fits p => rfl
theorem whole_raw (c : Call) : PyVahypa.whole (rawC c) = rawC c := by
  cases c <;> rfl
/-- one asked call is one of these -/
theorem asked_raw {c : List (List Int)} (h : VahypaNeutral.asked1 c = true) : ∃ k, c = rawC k ∧ okC k := by
  have row : ∀ (b : List Int), ((b.all fun z => VahypaNeutral.natural z 8) && decide (b.length ≤ 8192)) = true → toI (VahypaNeutral.bytesOf b) = b ∧ b.length ≤ 8192 := by
    intro b hb
    rw [Bool.and_eq_true] at hb
    refine ⟨toI_bytesOf fun z m => ?_, of_decide_eq_true hb.2⟩
    have := List.all_eq_true.mp hb.1 z m
    unfold VahypaNeutral.natural at this
    rw [Bool.and_eq_true, decide_eq_true_eq, decide_eq_true_eq] at this
    exact ⟨this.1, by have := this.2; omega⟩
  unfold VahypaNeutral.asked1 at h
  split at h
  · rename_i b
    obtain ⟨e, l⟩ := row b h
    exact ⟨.load (VahypaNeutral.bytesOf b), by show _ = [[0], toI (VahypaNeutral.bytesOf b)]; rw [e], by show (toI _).length ≤ _; rw [e]; exact l⟩
  · exact ⟨.shown, rfl, Nat.zero_le _⟩
  · rename_i b
    obtain ⟨e, l⟩ := row b h
    exact ⟨.levels (VahypaNeutral.bytesOf b), by show _ = [[2], toI (VahypaNeutral.bytesOf b)]; rw [e], by show (toI _).length ≤ _; rw [e]; exact l⟩
  · rename_i i
    exact ⟨.part i, rfl, by show 1 ≤ 8192; decide⟩
  · exact ⟨.score, rfl, Nat.zero_le _⟩
  · rename_i i g
    exact ⟨.why i g, rfl, by show 2 ≤ 8192; decide⟩
  · rename_i p
    exact ⟨.fits p, rfl, by show 1 ≤ 8192; decide⟩
  · rename_i b
    obtain ⟨e, l⟩ := row b h
    exact ⟨.spell (VahypaNeutral.bytesOf b), by show _ = [[7], toI (VahypaNeutral.bytesOf b)]; rw [e], by show (toI _).length ≤ _; rw [e]; exact l⟩
  · cases h
/-- a raw call was told so -/
theorem call_flat {l : List Int} {c : List (List Int)} {t : List Int} (h : PyFlat.call PyVahypa.shape l = some (c, t)) : ∃ p xs rows, c = (p :: xs) :: rows ∧ l = p :: (xs ++ (rows.flatMap fun r => (r.length : Int) :: r) ++ t) := by
  have rowsL : ∀ (k : Nat) (r : List Int) (xs : List (List Int)) (t : List Int), PyFlat.rows k r = some (xs, t) → r = (xs.flatMap fun r => (r.length : Int) :: r) ++ t := by
    intro k
    induction k with
    | zero =>
      intro r xs t h
      injection h with h
      cases h
      rfl
    | succ k ih =>
      intro r xs t h
      rw [PyFlat.rows] at h
      cases hr : PyFlat.row r with
      | none => rw [hr] at h; cases h
      | some q =>
        obtain ⟨x, s⟩ := q
        rw [hr] at h
        simp only at h
        cases hs : PyFlat.rows k s with
        | none => rw [hs] at h; cases h
        | some q2 =>
          obtain ⟨ys, u⟩ := q2
          rw [hs] at h
          have h' : some (x :: ys, u) = some (xs, t) := h
          injection h' with h'
          obtain ⟨rfl, rfl⟩ := Prod.mk.inj h'
          have e := ih s ys u hs
          cases r with
          | nil => cases hr
          | cons n r =>
            have hr' : (if 0 ≤ n ∧ n.toNat ≤ r.length then some (r.take n.toNat, r.drop n.toNat) else none) = some (x, s) := hr
            by_cases hc : 0 ≤ n ∧ n.toNat ≤ r.length
            · rw [if_pos hc] at hr'
              injection hr' with hr'
              obtain ⟨rfl, rfl⟩ := Prod.mk.inj hr'
              rw [List.flatMap_cons, List.append_assoc, ← e, List.length_take, Nat.min_eq_left hc.2]
              show n :: r = (n.toNat : Int) :: (r.take n.toNat ++ r.drop n.toNat)
              rw [List.take_append_drop, Int.toNat_of_nonneg hc.1]
            · rw [if_neg hc] at hr'
              cases hr'
  cases l with
  | nil => cases h
  | cons p r =>
    rw [PyFlat.call] at h
    cases hs : PyVahypa.shape p with
    | none => rw [hs] at h; cases h
    | some nk =>
      obtain ⟨n, k⟩ := nk
      rw [hs] at h
      simp only at h
      split at h
      · cases h
      · cases hr : PyFlat.rows k (r.drop n) with
        | none => rw [hr] at h; cases h
        | some q =>
          obtain ⟨xs, u⟩ := q
          rw [hr] at h
          have h' : some ((p :: r.take n) :: xs, u) = some (c, t) := h
          injection h' with h'
          obtain ⟨rfl, rfl⟩ := Prod.mk.inj h'
          refine ⟨p, r.take n, xs, rfl, ?_⟩
          have e := rowsL k _ _ _ hr
          rw [List.append_assoc, ← e, List.take_append_drop]
theorem flat_raw (c : Call) {p : Int} {xs : List Int} {rows : List (List Int)} (h : rawC c = (p :: xs) :: rows) : p :: (xs ++ (rows.flatMap fun r => (r.length : Int) :: r)) = flatC c := by
  unfold rawC at h
  unfold flatC
  split at h
  · rename_i hr
    rw [if_pos hr]
    cases h
    simp
  · rename_i hr
    rw [if_neg hr]
    cases h
    simp
/-- what the calls answer, one behind another -/
def ansOf : Obj → List Call → List Int
  | _, [] => []
  | o, c :: r => ((VahypaNeutral.encode (Vahypa.step o c).2).length : Int) :: (VahypaNeutral.encode (Vahypa.step o c).2 ++ ansOf (Vahypa.step o c).1 r)
theorem calls_split : ∀ (f : Nat) (l : List Int) (raw : List (List (List Int))), PyFlat.calls PyVahypa.shape f l = some raw → (raw.map PyVahypa.whole).all VahypaNeutral.asked1 = true → ∃ cs : List Call, l = cs.flatMap flatC ∧ raw = cs.map rawC ∧ ∀ c ∈ cs, okC c
  | f, [], raw, h, _ => by
    have : raw = [] := by
      cases f <;> · rw [PyFlat.calls] at h; injection h with h; exact h.symm
    subst this
    exact ⟨[], rfl, rfl, fun _ m => nomatch m⟩
  | 0, _ :: _, raw, h, _ => by rw [PyFlat.calls] at h; cases h
  | f + 1, p :: r, raw, h, ha => by
    rw [PyFlat.calls] at h
    cases hc : PyFlat.call PyVahypa.shape (p :: r) with
    | none => rw [hc] at h; cases h
    | some q =>
      obtain ⟨c, t⟩ := q
      rw [hc] at h
      simp only at h
      cases ht : PyFlat.calls PyVahypa.shape f t with
      | none => rw [ht] at h; cases h
      | some cs =>
        rw [ht] at h
        injection h with h
        subst h
        rw [List.map_cons, List.all_cons, Bool.and_eq_true] at ha
        obtain ⟨p', xs, rows, ec, el⟩ := call_flat hc
        -- the counts put in change nothing
        have wh : PyVahypa.whole c = c := by
          unfold PyVahypa.whole
          split <;> rfl
        rw [wh] at ha
        obtain ⟨k, ek, ok⟩ := asked_raw ha.1
        obtain ⟨cs', e1, e2, e3⟩ := calls_split f t cs ht ha.2
        refine ⟨k :: cs', ?_, by rw [List.map_cons, ← ek, ← e2], fun c m => ?_⟩
        · rw [el, List.flatMap_cons, ← e1, ← flat_raw k (ek.symm.trans ec)]
          simp
        · rcases List.mem_cons.mp m with m | m
          · exact m ▸ ok
          · exact e3 c m
theorem told_ans : ∀ (cs : List Call) (o : Obj), PyFlat.told (PyFlat.played VahypaNeutral.step o (cs.map rawC)) = ansOf o cs
  | [], _ => rfl
  | c :: r, o => by
    have st : VahypaNeutral.step o (rawC c) = ((Vahypa.step o c).1, VahypaNeutral.encode (Vahypa.step o c).2) := by
      unfold VahypaNeutral.step
      rw [callOf_raw]
    rw [List.map_cons, PyFlat.played, st]
    have ih := told_ans r (Vahypa.step o c).1
    unfold PyFlat.told at ih ⊢
    rw [List.flatMap_cons, ih]
    rfl
/-- **what is asked and due, call by call** -/
theorem line_split {l : List Int} (h : PyVahypa.answers_asked l = true) : ∃ cs : List Call, l = cs.flatMap flatC ∧ PyVahypa.answers l = ansOf none cs ∧ (∀ c ∈ cs, okC c) ∧ cs.length ≤ 100 ∧ (ansOf none cs).length ≤ 10000000 := by
  unfold PyVahypa.answers_asked at h
  cases hc : PyFlat.calls PyVahypa.shape l.length l with
  | none => rw [hc] at h; cases h
  | some raw =>
    rw [hc] at h
    simp only [Bool.and_eq_true] at h
    obtain ⟨⟨⟨⟨h1, h2⟩, h3⟩, h4⟩, h5⟩ := h
    unfold VahypaNeutral.asked at h4
    simp only [Bool.and_eq_true] at h4
    obtain ⟨cs, e1, e2, e3⟩ := calls_split _ l raw hc h4.1
    have ea : PyVahypa.answers l = ansOf none cs := by
      unfold PyVahypa.answers PyVahypa.calls
      rw [hc]
      show PyFlat.told (PyFlat.played VahypaNeutral.step VahypaNeutral.start (raw.map PyVahypa.whole)) = _
      have : raw.map PyVahypa.whole = cs.map rawC := by
        rw [e2, List.map_map]
        exact List.map_congr_left fun c _ => whole_raw c
      rw [this]
      exact told_ans cs none
    refine ⟨cs, e1, ea, e3, ?_, ?_⟩
    · have := of_decide_eq_true h2
      rw [e2, List.length_map] at this
      exact this
    · rw [← ea]
      exact of_decide_eq_true h5
end Pw

namespace Pw
open PySem PySem.Spec PyProof.Rows L2
open VahypBase (Bytes)
/-- the i-th statement of the program -/
def top (i : Nat) : Stmt := PySem.Challenge.pw_partedwords_s01_answers.main.body.getD i (.Pass ⟨0, 0, 0, 0⟩)
/-- a byte as a value -/
def bV (u : UInt8) : V := .int (u.toNat : Int)
/-- a module's constant -/
def Con (mg : Str → Option Value) (x : Str) (v : V) : Prop := ∃ u, mg x = some u ∧ RelV v u
theorem pe_con1 {X : Cx} {x : Str} {pos : Pos} {v : V} (h : Con X.mg x v) (hg : Gl X x := by rfl) (hd : (x == ("__debug__" : Str)) = false := by decide) : PE X (.Name x pos) (tC v) := by
  obtain ⟨u, hm, r⟩ := h
  exact pe_glob hg hm r hd
/-- a def that raises nothing, as its callers know it -/
structure C0 (P : Program) (w : World) (K : PySem.W.Frag) (mg : Str → Option Value) (base : Heap) (k : Nat) (x : Str) (sp : Sp) : Prop where
  ex : ∃ (f : Addr) (fd : FuncData) (ps : List Str), FnOk P w K mg base CX0 k f fd ps sp ∧ mg x = some (.ref f) ∧ PySem.W.keepIn K (.ref f) = true ∧ Binds K fd ps []
/-- a def that may raise -/
structure C1 (P : Program) (w : World) (K : PySem.W.Frag) (mg : Str → Option Value) (base : Heap) (k : Nat) (x : Str) (sp : Sp) : Prop where
  ex : ∃ (f : Addr) (fd : FuncData) (ps : List Str), FnOk P w K mg base (L2.CX P w) k f fd ps sp ∧ mg x = some (.ref f) ∧ PySem.W.keepIn K (.ref f) = true ∧ Binds K fd ps []
section
variable {X : Cx} {k j : Nat} {x m : Str} {sp : Sp} {p pos apos : Pos} {e o : Expr} {es : List Expr} {ta : TE} {t : TA}
theorem pe_c0 (c : C0 X.prog X.w X.K X.mg X.base k x sp) (hr : Room j X.A) (hk : k ≤ j) (ha : PA X (e :: es) t) (hg : Gl X x := by rfl)
    (hdb : (x == ("__debug__" : Str)) = false := by decide) (he : starEach (e :: es) X.env = (false, eval e X.env) :: starEach es X.env := by rfl) (hpl : (backTo pos (starEach es X.env)).any (·.1) = false := by rfl) :
    PE X (.Call (.Name x p) (e :: es) [] pos) (tCall sp [] E0 t) := by
  obtain ⟨f, fd, ps, F, hm, kp, b⟩ := c.ex
  exact pe_call F (hr.mono hk) hg hm kp b .nil pass0 ha hdb he hpl
theorem pe_c1 {W : WX} (c : C1 X.prog X.w X.K X.mg X.base k x sp) (hr : Room j X.A) (hk : k ≤ j) (tk : Takes X W) (ha : PA X (e :: es) t) (hg : Gl X x := by rfl)
    (hdb : (x == ("__debug__" : Str)) = false := by decide) (he : starEach (e :: es) X.env = (false, eval e X.env) :: starEach es X.env := by rfl) (hpl : (backTo pos (starEach es X.env)).any (·.1) = false := by rfl) :
    PE X (.Call (.Name x p) (e :: es) [] pos) (tCallS sp (WE W) t) := by
  obtain ⟨f, fd, ps, F, hm, kp, b⟩ := c.ex
  exact pe_callS F (hr.mono hk) hg hm kp b (fun σ => passAt tk σ) ha hdb he hpl
end
end Pw
namespace Pw
open PySem PySem.Spec PyProof.Rows L2
/-! ### small words about heaps and lists -/
theorem same_new {H H1 : Hp} {D : Addr} {o : HO} (s : Same H H1) (n : H D = none) : Same H (upd H1 D o) := fun b u e => by
  rw [upd_ne (ne_of_none e n)]
  exact s b u e
theorem same_upd {H : Hp} {D : Addr} {o : HO} (n : H D = none) : Same H (upd H D o) := same_new (Same.refl H) n
/-- what is there in the later heap beside the former one is new in the former -/
theorem free_of {H H1 : Hp} {p : Addr} (s : Same H H1) (n : H1 p = none) : H p = none := s.free n
theorem take_more {α : Type} : ∀ {l : List α} {i : Nat} {x : α}, l[i]? = some x → l.take (i + 1) = l.take i ++ [x]
  | [], i, x, h => by simp at h
  | a :: l, 0, x, h => by
    have e : a = x := by simpa using h
    subst e
    rfl
  | a :: l, i + 1, x, h => by
    have ih := take_more (l := l) (i := i) (x := x) (by simpa using h)
    show a :: l.take (i + 1) = a :: l.take i ++ [x]
    rw [ih]
    rfl
theorem map_more {α β : Type} {f : α → β} {l : List α} {i : Nat} {x : α} (h : l[i]? = some x) : (l.take i).map f ++ [f x] = (l.take (i + 1)).map f := by
  rw [take_more h, List.map_append]
  rfl
theorem size_small {n : Nat} (h : n ≤ 20000) : n < sizeLine := by
  rw [sizeLine_eq]
  omega
theorem size_small' {n : Nat} (h : n ≤ 20000) : n ≤ sizeLine := Nat.le_of_lt (size_small h)
theorem map_take_len {α β : Type} {f : α → β} {l : List α} {i : Nat} : ((l.take i).map f).length ≤ l.length := by
  rw [List.length_map, List.length_take]
  omega
theorem map_get {α β : Type} {f : α → β} {l : List α} {i : Nat} {y : β} (h : (l.map f)[i]? = some y) : ∃ z, l[i]? = some z ∧ y = f z := by
  rw [List.getElem?_map] at h
  cases e : l[i]? with
  | none => rw [e] at h; cases h
  | some z => rw [e] at h; exact ⟨z, rfl, (Option.some.inj h).symm⟩
end Pw
namespace Pw
open PySem PySem.Spec PyProof.Rows L2
/-! ### classes and methods, as their callers know them -/
structure M0 (P : Program) (w : World) (K : PySem.W.Frag) (mg : Str → Option Value) (base : Heap) (k : Nat) (x : Str) (C : Addr) (sp : Sp) : Prop where
  ex : ∃ (f : Addr) (fd : FuncData) (ps : List Str), Mk K C f ∧ FnOk P w K mg base CX0 k f fd ps sp ∧ mg x = some (.ref C) ∧ Binds K fd ps []
structure Me0 (P : Program) (w : World) (K : PySem.W.Frag) (mg : Str → Option Value) (base : Heap) (k : Nat) (C : Addr) (m : Str) (sp : Sp) : Prop where
  ex : ∃ (f : Addr) (fd : FuncData) (ps : List Str), Cls K C ∧ Meth K C m f ∧ FnOk P w K mg base CX0 k f fd ps sp ∧ Binds K fd ps []
/-- a method that may raise -/
structure Me1 (P : Program) (w : World) (K : PySem.W.Frag) (mg : Str → Option Value) (base : Heap) (k : Nat) (C : Addr) (m : Str) (sp : Sp) : Prop where
  ex : ∃ (f : Addr) (fd : FuncData) (ps : List Str), Cls K C ∧ Meth K C m f ∧ FnOk P w K mg base (L2.CX P w) k f fd ps sp ∧ Binds K fd ps []
/-- o.m(e, ..), what it raises wished for at the slots as they stand -/
def tMethS (C : Addr) (m : Str) (sp : Sp) (E : L2.St → XK) (ta : TE) (t : TA) : TE := fun σ H Q => ta σ H fun x H1 => ∃ a dx fs, x = .ref a ∧ H1 a = some (.ins C dx fs) ∧ fs.lookup m = none ∧ t σ H1 fun vs H2 => sp (x :: vs) H2 Q (E σ)
section
variable {X : Cx} {k j : Nat} {C : Addr} {x m : Str} {sp : Sp} {p pos apos : Pos} {e o : Expr} {es : List Expr} {ta : TE} {t : TA} {W : WX}
theorem pe_m0 (c : M0 X.prog X.w X.K X.mg X.base k x C sp) (hr : Room j X.A) (hk : k + 1 ≤ j) (ha : PA X (e :: es) t) (hg : Gl X x := by rfl)
    (hdb : (x == ("__debug__" : Str)) = false := by decide) (he : starEach (e :: es) X.env = (false, eval e X.env) :: starEach es X.env := by rfl) (hpl : (backTo pos (starEach es X.env)).any (·.1) = false := by rfl) :
    PE X (.Call (.Name x p) (e :: es) [] pos) (tMake C sp [] E0 t) := by
  obtain ⟨f, fd, ps, M, F, hm, b⟩ := c.ex
  exact pe_make M F (hr.mono hk) hg hm b .nil pass0 ha hdb he hpl
theorem pe_m00 (c : M0 X.prog X.w X.K X.mg X.base k x C sp) (hr : Room j X.A) (hk : k + 1 ≤ j) (hg : Gl X x := by rfl)
    (hdb : (x == ("__debug__" : Str)) = false := by decide) : PE X (.Call (.Name x p) [] [] pos) (tMake C sp [] E0 tNil) := by
  obtain ⟨f, fd, ps, M, F, hm, b⟩ := c.ex
  exact pe_make0 M F (hr.mono hk) hg hm b .nil pass0 hdb
theorem pe_me0 {pl : Sem Bool} (c : Me0 X.prog X.w X.K X.mg X.base k C m sp) (hr : Room j X.A) (hk : k ≤ j) (he : PE X o ta) (ha : PA X (e :: es) t)
    (hst : starEach (e :: es) X.env = (false, eval e X.env) :: starEach es X.env := by rfl) (hpl : (backTo pos (starEach es X.env)).any (·.1) = false := by rfl)
    (ht : eval (.Call (.Attribute o m apos) (e :: es) [] pos) X.env = (do
      let ov ← eval o X.env
      standAt apos.atName
      let (f, first) ← holding [ov] (getMethod ov m pl)
      callWith pos f first (backTo pos (starEach (e :: es) X.env)) (backToKw pos (keywordEach [] X.env))) := by rfl) :
    PE X (.Call (.Attribute o m apos) (e :: es) [] pos) (tMeth C m sp [] E0 ta t) := by
  obtain ⟨f, fd, ps, hc, hm, F, b⟩ := c.ex
  exact pe_meth (pl := pl) he hc hm F (hr.mono hk) b .nil pass0 ha hst hpl ht
theorem pe_me00 {pl : Sem Bool} (c : Me0 X.prog X.w X.K X.mg X.base k C m sp) (hr : Room j X.A) (hk : k ≤ j) (he : PE X o ta)
    (ht : eval (.Call (.Attribute o m apos) [] [] pos) X.env = (do
      let ov ← eval o X.env
      standAt apos.atName
      let (f, first) ← holding [ov] (getMethod ov m pl)
      callWith pos f first (backTo pos (starEach [] X.env)) (backToKw pos (keywordEach [] X.env))) := by rfl) :
    PE X (.Call (.Attribute o m apos) [] [] pos) (tMeth C m sp [] E0 ta tNil) := by
  obtain ⟨f, fd, ps, hc, hm, F, b⟩ := c.ex
  exact pe_meth0 (pl := pl) he hc hm F (hr.mono hk) b .nil pass0 ht
theorem pe_me1 {pl : Sem Bool} (c1 : Me1 X.prog X.w X.K X.mg X.base k C m sp) (hr : Room j X.A) (hk : k ≤ j) (tk : Takes X W) (he : PE X o ta) (ha : PA X (e :: es) t)
    (hst : starEach (e :: es) X.env = (false, eval e X.env) :: starEach es X.env := by rfl) (hpl : (backTo pos (starEach es X.env)).any (·.1) = false := by rfl)
    (ht : eval (.Call (.Attribute o m apos) (e :: es) [] pos) X.env = (do
      let ov ← eval o X.env
      standAt apos.atName
      let (f, first) ← holding [ov] (getMethod ov m pl)
      callWith pos f first (backTo pos (starEach (e :: es) X.env)) (backToKw pos (keywordEach [] X.env))) := by rfl) :
    PE X (.Call (.Attribute o m apos) (e :: es) [] pos) (tMethS C m sp (WE W) ta t) := by
  obtain ⟨f, fd, ps, c, hm, F, hb⟩ := c1.ex
  refine ⟨fun pins s σ H Q I h => ?_⟩
  refine PySem.W.methodCall_KW (pl := pl) (thn (he.run pins s σ H _ I h) fun u s1 ⟨x, H1, I1, rx, a, dx, fs, ex, ea, l, q⟩ => ?_) ht
  subst ex
  obtain rfl : u = Value.ref a := rx
  refine getmeth_ok I1 ea c hm l ?_
  refine PySem.W.callWith_K (first := [.ref a]) (h₀ := X.base) I.ok.mod.kin hm.kp (thn (ha.run pos pins s1 σ H1 _ I1 q) fun us s2 ⟨vs, H2, I2, r, q2⟩ => ⟨I2.kIn, ?_⟩) hst hpl
  exact run_fnS (us := .ref a :: us) (vs := .ref a :: vs) F (hr.mono hk) hb (passAt tk σ) I2 (.cons rfl r) q2
theorem pe_me10 {pl : Sem Bool} (c1 : Me1 X.prog X.w X.K X.mg X.base k C m sp) (hr : Room j X.A) (hk : k ≤ j) (tk : Takes X W) (he : PE X o ta)
    (ht : eval (.Call (.Attribute o m apos) [] [] pos) X.env = (do
      let ov ← eval o X.env
      standAt apos.atName
      let (f, first) ← holding [ov] (getMethod ov m pl)
      callWith pos f first (backTo pos (starEach [] X.env)) (backToKw pos (keywordEach [] X.env))) := by rfl) :
    PE X (.Call (.Attribute o m apos) [] [] pos) (tMethS C m sp (WE W) ta tNil) := by
  obtain ⟨f, fd, ps, c, hm, F, hb⟩ := c1.ex
  refine ⟨fun pins s σ H Q I h => ?_⟩
  refine PySem.W.methodCall_KW (pl := pl) (thn (he.run pins s σ H _ I h) fun u s1 ⟨x, H1, I1, rx, a, dx, fs, ex, ea, l, q⟩ => ?_) ht
  subst ex
  obtain rfl : u = Value.ref a := rx
  refine getmeth_ok I1 ea c hm l ?_
  refine PySem.W.callWith_K0 (first := [.ref a]) I1.kIn hm.kp ?_
  exact run_fnS (us := [.ref a]) (vs := [.ref a]) F (hr.mono hk) hb (passAt tk σ) I1 (.cons rfl .nil) q
end
end Pw
namespace Pw
open PySem PySem.Spec PyProof.Rows L2
/-! ### parts of heaps: what is new in H' beside H, joined with a part G of H -/
def ext (G H H' : Hp) : Hp := fun b => match H b with
  | none => H' b
  | some _ => G b
def nil0 : Hp := fun _ => none
abbrev nu (H H' : Hp) : Hp := ext nil0 H H'
theorem nil_same {H : Hp} : Same nil0 H := fun _ _ e => nomatch e
theorem ext_new {G H H' : Hp} {b : Addr} (n : H b = none) : ext G H H' b = H' b := by
  unfold ext
  rw [n]
theorem ext_old {G H H' : Hp} {b : Addr} {o : HO} (n : H b = some o) : ext G H H' b = G b := by
  unfold ext
  rw [n]
theorem ext_l {G H H' : Hp} (s : Same G H) : Same G (ext G H H') := fun b o e => by
  rw [ext_old (s b o e)]
  exact e
theorem ext_r {G H H' : Hp} (s : Same G H) (t : Same H H') : Same (ext G H H') H' := fun b o e => by
  cases h : H b with
  | none => rw [ext_new h] at e; exact e
  | some u =>
    rw [ext_old h] at e
    exact t _ _ (s _ _ e)
theorem ext_nu {G H H' : Hp} : Same (nu H H') (ext G H H') := fun b o (e : ext nil0 H H' b = some o) => by
  cases h : H b with
  | none => rw [ext_new h] at e ⊢; exact e
  | some u => rw [ext_old h] at e; cases e
/-- a later heap has more new things -/
theorem ext_more {G H H1 H2 : Hp} (s : Same H1 H2) : Same (ext G H H1) (ext G H H2) := fun b o e => by
  cases h : H b with
  | none => rw [ext_new h] at e ⊢; exact s _ _ e
  | some u => rw [ext_old h] at e ⊢; exact e
theorem del_self {H : Hp} {L : Addr} : (del H L) L = none := del_same
theorem same_del {H H' : Hp} {L : Addr} (s : Same H H') (n : H L = none) : Same H (del H' L) := fun b o e => by
  rw [del_ne (ne_of_none e n)]
  exact s _ _ e
theorem del_le {H : Hp} {L : Addr} : Same (del H L) H := fun b o e => by
  by_cases z : b = L
  · rw [z, del_same] at e; cases e
  · rw [del_ne z] at e; exact e
theorem del_mono {H H' : Hp} {L : Addr} (s : Same H H') : Same (del H L) (del H' L) := fun b o e => by
  by_cases z : b = L
  · rw [z, del_same] at e; cases e
  · rw [del_ne z] at e ⊢; exact s _ _ e
theorem del_upd {H : Hp} {L : Addr} {o : HO} : del (upd H L o) L = del H L := by
  funext b
  by_cases z : b = L
  · rw [z, del_same, del_same]
  · rw [del_ne z, del_ne z, upd_ne z]
theorem ext_del {H H' : Hp} {L : Addr} {u : HO} (s : Same H H') (hL : H L = some u) : Same (ext (del H L) H H') (del H' L) := fun b o e => by
  cases h : H b with
  | none =>
    rw [ext_new h] at e
    rw [del_ne (fun z => by rw [z, hL] at h; cases h)]
    exact e
  | some v =>
    rw [ext_old h] at e
    exact del_mono s _ _ e
end Pw
namespace Pw
open PySem PySem.Spec PyProof.Rows L2
theorem ext_r' {G H H' : Hp} (s : Same G H') : Same (ext G H H') H' := fun b o e => by
  cases h : H b with
  | none => rw [ext_new h] at e; exact e
  | some u =>
    rw [ext_old h] at e
    exact s _ _ e
theorem ext_step {G H H1 H2 : Hp} {L : Addr} (w : ∀ b o, b ≠ L → H b = none → H1 b = some o → H2 b = some o) : Same (del (ext G H H1) L) (del (ext G H H2) L) := fun b o e => by
  by_cases z : b = L
  · rw [z, del_same] at e
    cases e
  · rw [del_ne z] at e ⊢
    cases h : H b with
    | none =>
      rw [ext_new h] at e ⊢
      exact w b o z h e
    | some u =>
      rw [ext_old h] at e ⊢
      exact e
theorem ext_widen {G H H1 H2 : Hp} (w : ∀ b, H1 b = none → H b = none) (s : Same G H) : Same (ext G H1 H2) (ext G H H2) := fun b o e => by
  cases h1 : H1 b with
  | none =>
    rw [ext_new h1] at e
    rw [ext_new (w b h1)]
    exact e
  | some u =>
    rw [ext_old h1] at e
    rw [ext_old (s b o e)]
    exact e
end Pw

namespace Pw
open PySem PySem.Spec PyProof.Rows L2
open VahypBase (Bytes)
abbrev s_bytes_of : Stmt := top 21
abbrev s_is_letter : Stmt := top 22
abbrev s_is_chunk_byte : Stmt := top 23
abbrev s_remark_end : Stmt := top 24
abbrev s_chunk_end : Stmt := top 25
section
variable {P : Program} {w : World} {K : PySem.W.Frag} {mg : Str → Option Value} {base : Heap}
/-- the constants of tokens.py -/
structure TokC (K : PySem.W.Frag) (mg : Str → Option Value) : Prop where
  cROW_END : Con mg "ROW_END" (.int 10)
  cSMALL_A : Con mg "SMALL_A" (.int 97)
  cSMALL_Z : Con mg "SMALL_Z" (.int 122)
  cZERO : Con mg "ZERO" (.int 48)
  cNINE : Con mg "NINE" (.int 57)
  cHYPHEN : Con mg "HYPHEN" (.int 45)
  cPOINT : Con mg "POINT" (.int 46)
  nlen : mg "len" = none
  nord : mg "ord" = none

/-! ### bytes_of -/
def spBytesOf : Sp := fun vs H Q _ => ∃ z : Str, vs = [.str z] ∧ z.cps.size ≤ 1000 ∧ ∀ H' p, Same H H' → H p = none → H' p = some (.lst (z.cps.toList.map fun c => V.int (c : Nat))) → Q (.ref p) H'
theorem sc_bytes_of : FnScope ["written", "sign"] ["written"] (defScope s_bytes_of) := ⟨rfl, rfl, rfl, by decide +kernel, rfl, by decide +kernel, by decide +kernel⟩
theorem ok_bytes_of {f : Addr} {fd : FuncData} (F : Fun K "bytes_of" "bytes_of" s_bytes_of f fd) (T : TokC K mg) : FnOk P w K mg base CX0 1 f fd ["written"] spBytesOf := by
  refine F.ok sc_bytes_of (fun vs H Q E h => ?_) (fun cdv A outer s H vs Q E hr h => ?_)
  · obtain ⟨z, rfl, _⟩ := h
    rfl
  obtain ⟨z, rfl, hz, k⟩ := h
  refine ⟨_, pss_one (ps_ret (pe_lc (own := [("sign", 1)]) (g := gName 1) (tt := tYes) rfl sc_bytes_of.nd (pi_str (pv 0)) (blkOk_by (N := ["written", "sign"]) (sc := defScope s_bytes_of) (by decide +kernel))
    (fun _ _ _ _ _ => pg_name (i := 1) sc_bytes_of.nd rfl (Or.inl rfl)) (fun _ _ _ _ _ => pts_nil) (fun _ _ _ _ _ => pe_callB call_ord (by rfl) T.nord (by decide +kernel) (pa_cons (pv 1) pa_nil)))), ?_⟩
  refine ⟨_, rfl, z, rfl, fun D hD => ?_⟩
  refine lc_it walk_str (fun i H' => Same H H' ∧ H' D = some (.lst ((z.cps.toList.take i).map fun c => V.int (c : Nat)))) ⟨fun b o e => by rw [upd_ne (ne_of_none e hD)]; exact e, upd_same⟩ (fun _ _ _ _ => trivial) ?_ ?_
  · rintro i x H1 H2 hi ⟨sm, hd⟩ ⟨rfl, c, hc, rfl⟩
    refine ⟨rfl, ?_⟩
    refine ⟨_, rfl, _, rfl, rfl, ?_⟩
    refine ⟨_, hd, size_small (Nat.le_trans map_take_len (by rw [Array.length_toList]; omega)), same_new sm hD, ?_⟩
    rw [upd_same]
    have hc' : z.cps.toList[i]? = some c := by rw [Array.getElem?_toList]; exact hc
    exact congrArg (fun q => some (HO.lst q)) (map_more (f := fun c : Nat => V.int (c : Nat)) hc')
  · rintro H2 ⟨sm, hd⟩
    rw [List.take_of_length_le (by rw [Array.length_toList]; exact Nat.le_refl _)] at hd
    exact k H2 D sm hD hd
/-! ### is_letter, is_chunk_byte -/
def spIsLetter : Sp := fun vs H Q _ => ∃ i : Int, vs = [.int i] ∧ Q (.bl (decide (97 ≤ i ∧ i ≤ 122))) H
theorem sc_is_letter : FnScope ["byte"] ["byte"] (defScope s_is_letter) := ⟨rfl, rfl, rfl, by decide +kernel, rfl, by decide +kernel, by decide +kernel⟩
theorem ok_is_letter {f : Addr} {fd : FuncData} (F : Fun K "is_letter" "is_letter" s_is_letter f fd) (T : TokC K mg) : FnOk P w K mg base CX0 1 f fd ["byte"] spIsLetter := by
  refine F.ok sc_is_letter (fun vs H Q E h => ?_) (fun cdv A outer s H vs Q E hr h => ?_)
  · obtain ⟨z, rfl, _⟩ := h
    rfl
  obtain ⟨i, rfl, k⟩ := h
  refine ⟨_, pss_one (ps_ret (pe_chain op_le op_le (pe_con1 T.cSMALL_A) (pv 0) (pe_con1 T.cSMALL_Z))), ?_⟩
  refine ⟨_, rfl, _, _, rfl, rfl, _, rfl, ?_⟩
  show ite _ _ _
  by_cases c : (97 : Int) ≤ i
  · rw [if_pos (decide_eq_true c)]
    refine ⟨_, _, rfl, rfl, ?_⟩
    have e : decide (97 ≤ i ∧ i ≤ 122) = decide (i ≤ 122) := by simp [c]
    rw [e] at k
    exact k
  · rw [if_neg (by simpa using c)]
    have e : decide (97 ≤ i ∧ i ≤ 122) = false := by simp [c]
    rw [e] at k
    exact k
theorem isLetter_int (u : UInt8) : decide ((97 : Int) ≤ (u.toNat : Int) ∧ (u.toNat : Int) ≤ 122) = VahypBase.isLetter u := by
  unfold VahypBase.isLetter
  rw [decide_eq_decide]
  omega
def spIsChunkByte : Sp := fun vs H Q _ => ∃ u : UInt8, vs = [bV u] ∧ Q (.bl (VahypBase.inChunk u)) H
theorem sc_is_chunk_byte : FnScope ["byte"] ["byte"] (defScope s_is_chunk_byte) := ⟨rfl, rfl, rfl, by decide +kernel, rfl, by decide +kernel, by decide +kernel⟩
theorem u8_eq (u : UInt8) (n : Nat) (h : n < 256) : decide ((V.int (u.toNat : Int)) = V.int (n : Int)) = (u == UInt8.ofNat n) := by
  rw [Bool.eq_iff_iff, decide_eq_true_eq, beq_iff_eq]
  constructor
  · intro e
    injection e with e
    have e' : u.toNat = n := by omega
    exact UInt8.toNat_inj.mp (by rw [e']; simp [Nat.mod_eq_of_lt h])
  · intro e
    rw [e]
    simp [Nat.mod_eq_of_lt h]
theorem ok_is_chunk_byte {f : Addr} {fd : FuncData} (F : Fun K "is_chunk_byte" "is_chunk_byte" s_is_chunk_byte f fd) (T : TokC K mg) (GL : C0 P w K mg base 1 "is_letter" spIsLetter) : FnOk P w K mg base CX0 2 f fd ["byte"] spIsChunkByte := by
  refine F.ok sc_is_chunk_byte (fun vs H Q E h => ?_) (fun cdv A outer s H vs Q E hr h => ?_)
  · obtain ⟨z, rfl, _⟩ := h
    rfl
  obtain ⟨u, rfl, k⟩ := h
  refine ⟨_, pss_one (ps_ret (pe_or (pe_c0 GL hr (Nat.le_refl _) (pa_cons (pv 0) pa_nil)) (pe_or (pe_chain op_le op_le (pe_con1 T.cZERO) (pv 0) (pe_con1 T.cNINE))
    (pe_or (pe_cmpR op_eq (pv 0) (pe_con1 T.cHYPHEN) (nomark _)) (pe_one (pe_cmpR op_eq (pv 0) (pe_con1 T.cPOINT) (nomark _))))))), ?_⟩
  refine ⟨_, rfl, (u.toNat : Int), rfl, _, rfl, ?_⟩
  have q : VahypBase.inChunk u = (VahypBase.isLetter u || (VahypBase.isDigit u || (u == 45 || u == 46))) := rfl
  rw [isLetter_int]
  show ite _ _ _
  cases c1 : VahypBase.isLetter u with
  | true =>
    rw [if_pos rfl]
    rw [q, c1] at k
    exact k
  | false =>
    rw [if_neg (by decide)]
    refine ⟨_, rfl, _, _, rfl, rfl, _, rfl, ?_⟩
    show ite _ _ _
    have d : VahypBase.isDigit u = (decide ((48 : Int) ≤ (u.toNat : Int)) && decide ((u.toNat : Int) ≤ 57)) := by
      unfold VahypBase.isDigit
      rw [Bool.eq_iff_iff, decide_eq_true_eq, Bool.and_eq_true, decide_eq_true_eq, decide_eq_true_eq]
      omega
    rw [q, c1, d] at k
    have rest : ∀ b : Bool, (b = false → Q (.bl (u == 45 || u == 46)) H) → (b = true → Q (.bl true) H) → (∃ c, V.bl b = .bl c ∧ if c = true then Q (.bl true) H else
        tOrV (tOp rEq (tVar 0) (tC (.int 45))) (tOp rEq (tVar 0) (tC (.int 46))) (L2.start ["byte"] [bV u]) H Q) := by
      intro b h1 h2
      refine ⟨b, rfl, ?_⟩
      cases b with
      | true => rw [if_pos rfl]; exact h2 rfl
      | false =>
        rw [if_neg (by decide)]
        have h1 := h1 rfl
        refine ⟨_, rfl, rfl, ?_⟩
        refine ⟨decide (V.int (u.toNat : Int) = V.int 45), rfl, ?_⟩
        have e45 : decide (V.int (u.toNat : Int) = V.int 45) = (u == 45) := u8_eq u 45 (by decide)
        have e46 : decide (V.int (u.toNat : Int) = V.int 46) = (u == 46) := u8_eq u 46 (by decide)
        rw [e45]
        cases c3 : (u == 45) with
        | true =>
          rw [if_pos rfl]
          rw [c3] at h1
          exact h1
        | false =>
          rw [if_neg (by decide)]
          refine ⟨_, rfl, rfl, ?_⟩
          rw [c3] at h1
          show Q (.bl (decide (V.int (u.toNat : Int) = V.int 46))) H
          rw [e46]
          exact h1
    cases c2 : decide ((48 : Int) ≤ (u.toNat : Int)) with
    | true =>
      rw [if_pos rfl]
      rw [c2] at k
      refine ⟨_, _, rfl, rfl, ?_⟩
      exact rest _ (fun e => by rw [e] at k; exact k) (fun e => by rw [e] at k; exact k)
    | false =>
      rw [if_neg (by decide)]
      rw [c2] at k
      exact rest false (fun _ => k) (fun e => by cases e)
end
end Pw

namespace Pw
open PySem PySem.Spec PyProof.Rows L2
open VahypBase (Bytes)
/-! ### scanning: the place behind the longest run of bytes with p -/
def runEnd (p : UInt8 → Bool) (bs : Bytes) (n : Nat) : Nat := n + ((bs.drop n).takeWhile p).length
theorem runEnd_le (p : UInt8 → Bool) (bs : Bytes) (n : Nat) (h : n ≤ bs.length) : runEnd p bs n ≤ bs.length := by
  have := (List.takeWhile_prefix (p := p) (l := bs.drop n)).length_le
  rw [List.length_drop] at this
  unfold runEnd
  omega
theorem drop_get {α : Type} {l : List α} {n : Nat} {b : α} (h : l[n]? = some b) : l.drop n = b :: l.drop (n + 1) := by
  obtain ⟨hn, e⟩ := List.getElem?_eq_some_iff.mp h
  rw [List.drop_eq_getElem_cons hn, e]
theorem runEnd_yes {p : UInt8 → Bool} {bs : Bytes} {n : Nat} {b : UInt8} (h : bs[n]? = some b) (hp : p b = true) : runEnd p bs n = runEnd p bs (n + 1) := by
  unfold runEnd
  rw [drop_get h, List.takeWhile_cons, if_pos hp, List.length_cons]
  omega
theorem runEnd_no {p : UInt8 → Bool} {bs : Bytes} {n : Nat} {b : UInt8} (h : bs[n]? = some b) (hp : p b = false) : runEnd p bs n = n := by
  unfold runEnd
  rw [drop_get h, List.takeWhile_cons, if_neg (by rw [hp]; decide)]
  rfl
theorem runEnd_end {p : UInt8 → Bool} {bs : Bytes} {n : Nat} (h : bs.length ≤ n) : runEnd p bs n = n := by
  unfold runEnd
  rw [List.drop_eq_nil_of_le h]
  rfl
section
variable {P : Program} {w : World} {K : PySem.W.Frag} {mg : Str → Option Value} {base : Heap}
/-- the promise of remark_end and chunk_end -/
def spRun (K : PySem.W.Frag) (p : UInt8 → Bool) : Sp := fun vs H Q _ => ∃ (a : Addr) (bs : Bytes) (n : Nat), vs = [.ref a, .int (n : Nat)] ∧ SqL K H a (bs.map bV) ∧ n ≤ bs.length ∧ Q (.int (runEnd p bs n : Nat)) H
theorem sc_remark_end : FnScope ["text", "start", "place"] ["text", "start"] (defScope s_remark_end) := ⟨rfl, rfl, rfl, by decide +kernel, rfl, by decide +kernel, by decide +kernel⟩
theorem get_bV {bs : Bytes} {n : Nat} {b : UInt8} (h : bs[n]? = some b) : atI (bs.map bV) ((n : Nat) : Int) = some (bV b) := atI_nat (by rw [List.getElem?_map, h]; rfl)
theorem ok_remark_end {f : Addr} {fd : FuncData} (F : Fun K "remark_end" "remark_end" s_remark_end f fd) (T : TokC K mg) : FnOk P w K mg base CX0 1 f fd ["text", "start"] (spRun K (· != 10)) := by
  refine F.ok sc_remark_end (fun vs H Q E h => ?_) (fun cdv A outer s H vs Q E hr h => ?_)
  · obtain ⟨a, bs, n, rfl, _⟩ := h
    rfl
  obtain ⟨a, bs, n, rfl, hS, hn, k⟩ := h
  refine ⟨_, pss_cons (ps_set (i := 2) sc_remark_end.nd rfl (Or.inl rfl) (pv 1))
    (pss_cons (ps_while PassesOwn.never (PW.pt (pw_and (pt_cmpR op_lt (pv 2) (pe_callB call_len_seq (by rfl) T.nlen PySem.boot_len (pa_cons (pv 0) pa_nil)) (nomark _))
      (pw_and1 (pt_cmpR op_ne (pe_ix ix_list (pv 0) (pv 2) (fun _ _ => rfl)) (pe_con1 T.cROW_END) (nomark _))))) (pss_one (ps_aug (i := 2) sc_remark_end.nd rfl (Or.inl rfl) pe_int ip_add)))
    (pss_one (ps_ret (pv 2)))), ?_⟩
  refine ⟨_, rfl, ?_⟩
  refine ⟨fun m σ H' => H' = H ∧ ∃ j : Nat, σ = [some (.ref a), some (.int (n : Nat)), some (.int (j : Nat))] ∧ m = bs.length - j ∧ j ≤ bs.length ∧ runEnd (· != 10) bs j = runEnd (· != 10) bs n, ⟨_, rfl, n, rfl, rfl, hn, rfl⟩, ?_⟩
  rintro m σ H' ⟨rfl, j, rfl, rfl, hj, e⟩
  refine ⟨_, rfl, _, rfl, _, _, rfl, .inl hS, ?_⟩
  refine ⟨_, _, rfl, rfl, _, rfl, ?_⟩
  show ite _ _ _
  rw [List.length_map]
  by_cases c : j < bs.length
  · rw [if_pos (decide_eq_true (by omega))]
    have hb : bs[j]? = some bs[j] := List.getElem?_eq_getElem c
    refine ⟨_, rfl, _, rfl, _, _, _, _, rfl, rfl, hS, get_bV hb, ?_⟩
    refine ⟨rfl, _, rfl, ?_⟩
    have e10 : decide (V.int (bs[j].toNat : Int) = V.int 10) = (bs[j] == 10) := u8_eq _ 10 (by decide)
    show ite (((!decide (V.int (bs[j].toNat : Int) = V.int 10))) = true) _ _
    rw [e10]
    by_cases c2 : (bs[j] == 10) = true
    · rw [c2, if_neg (by decide)]
      refine ⟨_, rfl, ?_⟩
      rw [runEnd_no hb (by rw [bne, c2]; rfl)] at e
      rw [e]
      exact k
    · have c2' : (bs[j] == 10) = false := by simpa using c2
      rw [c2', if_pos (by decide)]
      refine ⟨fun σ' H2 => ∃ m', m' < bs.length - j ∧ H2 = H' ∧ ∃ j : Nat, σ' = [some (.ref a), some (.int (n : Nat)), some (.int (j : Nat))] ∧ m' = bs.length - j ∧ j ≤ bs.length ∧ runEnd (· != 10) bs j = runEnd (· != 10) bs n, fun _ _ z => z, ?_⟩
      refine ⟨_, rfl, _, _, rfl, rfl, ?_⟩
      refine ⟨bs.length - (j + 1), by omega, rfl, j + 1, rfl, rfl, c, ?_⟩
      rw [← e]
      exact (runEnd_yes hb (by rw [bne, c2']; rfl)).symm
  · rw [if_neg (by simpa using c)]
    show ite (false = true) _ _
    rw [if_neg (by decide)]
    refine ⟨_, rfl, ?_⟩
    rw [runEnd_end (by omega)] at e
    rw [e]
    exact k
theorem sc_chunk_end : FnScope ["text", "start", "place"] ["text", "start"] (defScope s_chunk_end) := ⟨rfl, rfl, rfl, by decide +kernel, rfl, by decide +kernel, by decide +kernel⟩
theorem ok_chunk_end {f : Addr} {fd : FuncData} (F : Fun K "chunk_end" "chunk_end" s_chunk_end f fd) (T : TokC K mg) (GC : C0 P w K mg base 2 "is_chunk_byte" spIsChunkByte) : FnOk P w K mg base CX0 3 f fd ["text", "start"] (spRun K VahypBase.inChunk) := by
  refine F.ok sc_chunk_end (fun vs H Q E h => ?_) (fun cdv A outer s H vs Q E hr h => ?_)
  · obtain ⟨a, bs, n, rfl, _⟩ := h
    rfl
  obtain ⟨a, bs, n, rfl, hS, hn, k⟩ := h
  refine ⟨_, pss_cons (ps_set (i := 2) sc_chunk_end.nd rfl (Or.inl rfl) (pv 1))
    (pss_cons (ps_while PassesOwn.never (PW.pt (pw_and (pt_cmpR op_lt (pv 2) (pe_callB call_len_seq (by rfl) T.nlen PySem.boot_len (pa_cons (pv 0) pa_nil)) (nomark _))
      (pw_and1 (pt_val (pe_c0 GC hr (Nat.le_refl _) (pa_cons (pe_ix ix_list (pv 0) (pv 2) (fun _ _ => rfl)) pa_nil)))))) (pss_one (ps_aug (i := 2) sc_chunk_end.nd rfl (Or.inl rfl) pe_int ip_add)))
    (pss_one (ps_ret (pv 2)))), ?_⟩
  refine ⟨_, rfl, ?_⟩
  refine ⟨fun m σ H' => H' = H ∧ ∃ j : Nat, σ = [some (.ref a), some (.int (n : Nat)), some (.int (j : Nat))] ∧ m = bs.length - j ∧ j ≤ bs.length ∧ runEnd VahypBase.inChunk bs j = runEnd VahypBase.inChunk bs n, ⟨_, rfl, n, rfl, rfl, hn, rfl⟩, ?_⟩
  rintro m σ H' ⟨rfl, j, rfl, rfl, hj, e⟩
  refine ⟨_, rfl, _, rfl, _, _, rfl, .inl hS, ?_⟩
  refine ⟨_, _, rfl, rfl, _, rfl, ?_⟩
  show ite _ _ _
  rw [List.length_map]
  by_cases c : j < bs.length
  · rw [if_pos (decide_eq_true (by omega))]
    have hb : bs[j]? = some bs[j] := List.getElem?_eq_getElem c
    refine ⟨_, rfl, _, rfl, _, _, _, _, rfl, rfl, hS, get_bV hb, ?_⟩
    refine ⟨_, rfl, _, rfl, ?_⟩
    cases c2 : VahypBase.inChunk bs[j] with
    | false =>
      rw [if_neg (by decide)]
      refine ⟨_, rfl, ?_⟩
      rw [runEnd_no hb c2] at e
      rw [e]
      exact k
    | true =>
      rw [if_pos rfl]
      refine ⟨fun σ' H2 => ∃ m', m' < bs.length - j ∧ H2 = H' ∧ ∃ j : Nat, σ' = [some (.ref a), some (.int (n : Nat)), some (.int (j : Nat))] ∧ m' = bs.length - j ∧ j ≤ bs.length ∧ runEnd VahypBase.inChunk bs j = runEnd VahypBase.inChunk bs n, fun _ _ z => z, ?_⟩
      refine ⟨_, rfl, _, _, rfl, rfl, ?_⟩
      refine ⟨bs.length - (j + 1), by omega, rfl, j + 1, rfl, rfl, c, ?_⟩
      rw [← e]
      exact (runEnd_yes hb c2).symm
  · rw [if_neg (by simpa using c)]
    show ite (false = true) _ _
    rw [if_neg (by decide)]
    refine ⟨_, rfl, ?_⟩
    rw [runEnd_end (by omega)] at e
    rw [e]
    exact k
end
end Pw

namespace Pw
open PySem PySem.Spec PyProof.Rows L2
/-! ### an own error class over Exception whose __init__ is walked as a def -/
abbrev exBm : List Value := [.type "Exception", .type "BaseException", .type "object"]
/-- what the top has written of the class at C -/
structure ErrC (K : PySem.W.Frag) (C : Addr) : Prop where
  shape : ∃ nm q N bs bm sn sub ab col dd k0 k1 k2 k3 k5,
    K.lookup C = some (excClassObj nm q C N bs bm true sn sub ab col dd k0 k1 k2 k3 k5 "Exception.__new__") ∧ PySem.W.excTail exBm bm = true
  stores : PySem.W.findIn K (.ref C) "__setattr__" = some (some (.builtin "object.__setattr__"))
  isExc : PySem.W.subIn K (.ref C) (.type "BaseException") = some true
  isTy : PySem.W.typeIn K (.ref C) = some (.type "type")
  keep : PySem.W.keepIn K (.ref C) = true
theorem ErrC.data {K : PySem.W.Frag} {C : Addr} (T : ErrC K C) : ∃ cd : ClassData, PySem.W.clsIn K C = some cd ∧ cd.hasDict = true ∧ PySem.W.excOver K C exBm = true := by
  obtain ⟨n1, n2, n3, n4, bm, n5, n6, n7, n8, n9, m0, m1, m2, m3, m5, hl, hb⟩ := T.shape
  have e : PySem.W.clsIn K C = some { name := n1, bases := n4, mro := .ref C :: bm, ns := n3, qualname := n2, hasDict := true, slotNames := n5, subclasses := n6, abstract := n7, collection := n8, hasDel := false } := by
    unfold PySem.W.clsIn
    rw [hl] <;> rfl
  refine ⟨_, e, rfl, ?_⟩
  unfold PySem.W.excOver
  rw [e]
  show (C == C && PySem.W.excTail exBm bm) = true
  rw [hb, Bool.and_true]
  exact beq_self_eq_true C
abbrev errO (C : Addr) (d : Option Addr) (t1 : Addr) : Obj := { cls := .ref C, dict := d, data := .fields #[.ref t1, .none, .none, .none, .bool false, .none] }
section
variable {prog : Program} {w : World} {A : Around} {R : Result → Shared → Prop} {hp : Heap} {g : Array GenState} {d : Drawn} {t : Nat} {os : OsState} {K : PySem.W.Frag} {x C : Addr} {name : Str} {tk : Tok} {v : Value} {fv : Array Value} {cd : ClassData}
theorem taker_none (ha : PySem.W.findIn K (.ref C) name = some none) : PySem.W.takerIn K C name = some none := by
  unfold PySem.W.takerIn
  rw [ha] <;> rfl
theorem put_first (X : K.In hp) (hx : hp.get? x = some { cls := .ref C, data := .fields fv }) (hcd : PySem.W.clsIn K C = some cd) (hh : cd.hasDict = true) (ho : PySem.W.excOver K C exBm = true) (ha : PySem.W.findIn K (.ref C) name = some none)
    (hq : ∀ h' tk' dx, (∀ b o, b ≠ x → hp.get? b = some o → h'.get? b = some o) → hp.objs.size ≤ dx → dx ≠ x → h'.get? x = some { cls := .ref C, dict := some dx, data := .fields fv } →
      h'.Ns1 dx (fun y => if y = name then some v else none) → R (.ok (.ret .none)) ⟨h', g, d, tk', os⟩) :
    codeAny (model prog w) A (.call (.builtin "object.__setattr__") ⟨[.ref x, .str name tk, v], []⟩) R ⟨hp, g, d, t, os⟩ := by
  have room : x ≠ hp.objs.size := fun z => Nat.lt_irrefl _ (z ▸ Heap.lt_size hx)
  refine PySem.W.osa_openX (s := ⟨hp, g, d, t, os⟩) (od := none) PySem.F.store_Exception X ⟨hx, rfl, rfl, trivial⟩ ho (taker_none ha) fun b => ?_
  have hcls : W.Looks (model prog w) hp (classData C) cd := W.looks_clsIn X hcd
  obtain ⟨k1, k2, k3, k4, k5, k6, k7, k8, k9, k10, k11⟩ := cd
  dsimp only at hh
  subst hh
  show wpAny _ _ (Builtin.ObjectAttr.storeInOwnDict (.ref x) (.ref C) (.str name tk) name v b) _ _ _
  unfold Builtin.ObjectAttr.storeInOwnDict Builtin.ObjectAttr.ownDictForStores
  repeat (first | with_reducible refine PySem.HandSPX.store_in_new ?_ ?_ | with_reducible refine wpAny_loadPart_at hx ?_ | with_reducible refine hcls.at ?_ | wp_step)
  · exact ⟨_, #[], _, (Heap.get?_update_ne _ _ _ _ room.symm).trans (Heap.get?_push_at rfl rfl), rfl, fun e he => absurd he (by simp), fun _ => rfl⟩
  · intro h' tk' hn' hs
    have at1 : (hp.push { cls := .type "dict", data := .dict #[] }).get? x = some { cls := .ref C, data := .fields fv } := Heap.get?_push_of_some _ hx
    have was : ∀ b o, b ≠ x → hp.get? b = some o → h'.get? b = some o := fun b o nb q =>
      (hs.2 b fun z => Nat.lt_irrefl _ (z ▸ Heap.lt_size q)).trans ((Heap.get?_update_ne _ _ _ _ nb).trans (Heap.get?_push_of_some _ q))
    exact hq h' tk' _ was (Nat.le_refl _) room.symm ((hs.2 x room).trans (Heap.get?_update_self _ at1 rfl)) hn'
theorem put_next {dx : Addr} {m0 : Str → Option Value} {nl : List Str} (X : K.In hp) (hx : hp.get? x = some { cls := .ref C, dict := some dx, data := .fields fv }) (hns : hp.Ns1 dx m0) (hw : Within m0 nl) (hz : nl.length ≤ 1000)
    (hcd : PySem.W.clsIn K C = some cd) (hh : cd.hasDict = true) (ho : PySem.W.excOver K C exBm = true) (ha : PySem.W.findIn K (.ref C) name = some none)
    (hq : ∀ h' tk', (∀ b o, b ≠ dx → hp.get? b = some o → h'.get? b = some o) → h'.Ns1 dx (fun y => if y = name then some v else m0 y) → R (.ok (.ret .none)) ⟨h', g, d, tk', os⟩) :
    codeAny (model prog w) A (.call (.builtin "object.__setattr__") ⟨[.ref x, .str name tk, v], []⟩) R ⟨hp, g, d, t, os⟩ := by
  obtain ⟨oD, _, _, hoD, _, _⟩ := hns.count hw
  refine PySem.W.osa_openX (s := ⟨hp, g, d, t, os⟩) (od := some oD) PySem.F.store_Exception X ⟨hx, rfl, rfl, hoD⟩ ho (taker_none ha) fun b => ?_
  have hcls : W.Looks (model prog w) hp (classData C) cd := W.looks_clsIn X hcd
  obtain ⟨k1, k2, k3, k4, k5, k6, k7, k8, k9, k10, k11⟩ := cd
  dsimp only at hh
  subst hh
  show wpAny _ _ (Builtin.ObjectAttr.storeInOwnDict (.ref x) (.ref C) (.str name tk) name v b) _ _ _
  unfold Builtin.ObjectAttr.storeInOwnDict Builtin.ObjectAttr.ownDictForStores
  repeat (first | with_reducible refine PySem.OEX.store_in_old hns hw hz ?_ | with_reducible refine wpAny_loadPart_at hx ?_ | with_reducible refine hcls.at ?_ | wp_step)
  intro h' tk' hn' hs
  exact hq h' tk' (fun b o hb ho => (hs.2 b hb).trans ho) hn'
end
section
variable {X : Cx} {pins : List (Addr × Obj)} {σ : L2.St} {H : Hp} {s : Shared} {a C dx : Addr} {f : Str} {y : V} {u : Value} {fs : List (Str × V)} {Qu : Unit → Shared → Prop} {E : Value → Shared → Prop} {A : Around}
/-- the first field that is stored makes the error's own dict -/
theorem store_first (T : ErrC X.K C) (I : Inv X pins σ H s) (ha : H a = some (exo a C none)) (hno : PySem.W.findIn X.K (.ref C) f = some none) (ry : RelV y u)
    (go : ∀ dx s', H dx = none → dx ≠ a → Inv X pins σ (upd (upd H dx (exd dx [(f, y)])) a (exo a C (some dx))) s' → Qu () s') : wpAny (model X.prog X.w) A (setAttr (.ref a) f u) Qu E s := by
  obtain ⟨cd, hcd, hdict, hov⟩ := T.data
  obtain ⟨t1, ho⟩ := exo_at I.hok ha
  obtain ⟨hp, gg, dd, tt, oo⟩ := s
  refine PySem.W.set_plain I.kIn (ox := errO C none t1) (od := none) ⟨ho, rfl, rfl, trivial⟩ T.stores ?_
  refine put_first I.kIn ho hcd hdict hov hno (fun h' tk' dx kp big ne hx hn => ?_)
  have fresh : H dx = none := I.hok.fresh big
  have old : ∀ {b : Addr} {o : Obj}, hp.get? b = some o → b ≠ dx := fun q z => Nat.lt_irrefl _ (Nat.lt_of_lt_of_le (z ▸ Heap.lt_size q) big)
  have nota : ∀ {b : Addr}, H b = none → b ≠ a := fun n z => by
    rw [z, ha] at n
    cases n
  have un : Un X.fs [] H (upd (upd H dx (exd dx [(f, y)])) a (exo a C (some dx))) hp h' := {
    keep := fun b o q n _ _ => kp b o (nota n) q
    slot := fun b o q n _ _ => ⟨o.slots, kp b o (nota n) q⟩
    free := fun b o q n _ => (upd_ne (nota n)).trans ((upd_ne (old q)).trans n)
    there := fun b o q _ => by
      by_cases z : b = a
      · exact z ▸ ⟨_, hx⟩
      · exact ⟨o, kp b o z q⟩
    tups := fun b xs q => (upd_ne (at_ne ha q exo_tup)).trans ((upd_ne (ne_of_none q fresh)).trans q)
    frzs := fun b o v q => (upd_ne (at_ne ha q exo_frz)).trans ((upd_ne (ne_of_none q fresh)).trans q)
    tbls := fun b ps q => ⟨#[], by rw [upd_ne (at_ne ha q exo_tbl), upd_ne (ne_of_none q fresh), q, Array.append_empty]⟩ }
  refine go dx _ fresh ne (I.un (t' := tk') un fun b o q => ?_)
  by_cases hba : b = a
  · subst hba
    cases (upd_same.symm.trans q)
    exact exo_ok hx
  · replace q := (upd_ne hba).symm.trans q
    by_cases hbd : b = dx
    · subst hbd
      cases (upd_same.symm.trans q)
      exact exd_ok hn (relO_put (fs := []) ry fun _ => trivial)
    · replace q := (upd_ne hbd).symm.trans q
      refine (I.hok b o q).stay (fun c v hc z => kp c v ?_ z) (fun c hc => ?_) (fun c xs hc => ?_)
      · exact hc.elim (fun e => e ▸ hba) (fun hc => at_ne ha hc exo_own)
      · exact (upd_ne (at_ne ha hc exo_own)).trans ((upd_ne (ne_of_none hc fresh)).trans hc)
      · exact (upd_ne (at_ne ha hc exo_tup)).trans ((upd_ne (ne_of_none hc fresh)).trans hc)
/-- a further field -/
theorem store_next (T : ErrC X.K C) (I : Inv X pins σ H s) (ha : H a = some (exo a C (some dx))) (hd : H dx = some (exd dx fs)) (hz : fs.length ≤ 900) (hno : PySem.W.findIn X.K (.ref C) f = some none) (ry : RelV y u)
    (go : ∀ s', Inv X pins σ (upd H dx (exd dx ((f, y) :: fs))) s' → Qu () s') : wpAny (model X.prog X.w) A (setAttr (.ref a) f u) Qu E s := by
  obtain ⟨cd, hcd, hdict, hov⟩ := T.data
  obtain ⟨t1, ho⟩ := exo_at I.hok ha
  obtain ⟨mA, hns, rel⟩ := exd_at I.hok hd
  obtain ⟨hp, gg, dd, tt, oo⟩ := s
  obtain ⟨oD, _, _, hoD, _, _⟩ := hns.count (within_of rel)
  refine PySem.W.set_plain I.kIn (ox := errO C (some dx) t1) (od := some oD) ⟨ho, rfl, rfl, hoD⟩ T.stores ?_
  refine put_next I.kIn ho hns (within_of rel) ?_ hcd hdict hov hno (fun h' tk' kp hn => ?_)
  · rw [List.length_map]
    omega
  · have there : ∃ o, h'.get? dx = some o := by
      obtain ⟨o, _, _, e, _⟩ := hn
      exact ⟨o, e⟩
    refine go _ (I.write (t' := tk') (x := dx) (e := dx) (o := exd dx ((f, y) :: fs)) ?_ (.inl rfl) kp there (exd_ok hn (relO_put ry rel)))
    rw [hd]
    exact trivial
/-- Exception.__init__(self, ..) -/
theorem base_init {us : List Value} {Qv : Value → Shared → Prop} (T : ErrC X.K C) (I : Inv X pins σ H s) (ha : H a = some (exo a C none)) (hz : us.length ≤ sizeLine) (go : ∀ s', Inv X pins σ H s' → Qv .none s') :
    wpAny (model X.prog X.w) A (call (.builtin "Exception.__init__") (.ref a :: us)) Qv E s := by
  obtain ⟨n1, n2, n3, n4, bm, n5, n6, n7, n8, n9, m0, m1, m2, m3, m5, hl, hb⟩ := T.shape
  obtain ⟨t1, ho⟩ := exo_at I.hok ha
  obtain ⟨hp, gg, dd, tt, oo⟩ := s
  refine wpAny_call (PySem.HandSPX.init_base PySem.F.excBase_Exception (fun Y => PySem.W.excTail_contains Y bm hb) (I.kIn _ _ hl) ho hz fun h' t2 kp hx => ?_)
  have J := I.write (t' := tt) (x := a) (e := a) (o := exo a C none) (by rw [ha]; exact trivial) (.inl rfl) kp ⟨_, hx⟩ (exo_ok hx)
  have same : upd H a (exo a C none) = H := funext fun b => by
    by_cases z : b = a
    · rw [z, upd_same, ha]
    · exact upd_ne z
  rw [same] at J
  exact go _ J
end
/-! ### readings and rules -/
/-- Exception.__init__(self, ..) -/
def tXinit (K : PySem.W.Frag) (ta : TA) : TE := fun σ H Q => ta σ H fun vs H1 => ∃ (a C : Addr) (ws : List V), vs = .ref a :: ws ∧ ws.length ≤ 1000 ∧ ErrC K C ∧ H1 a = some (exo a C none) ∧ Q .non H1
/-- self.f = e on an error that is being made -/
def tXset (K : PySem.W.Frag) (f : Str) (to te : TE) : TS := fun D σ H => te σ H fun y H1 => to σ H1 fun x H2 => ∃ a C : Addr, x = .ref a ∧ ErrC K C ∧ PySem.W.findIn K (.ref C) f = some none ∧
  ((H2 a = some (exo a C none) ∧ ∀ dx, H2 dx = none → dx ≠ a → D.nx σ (upd (upd H2 dx (exd dx [(f, y)])) a (exo a C (some dx)))) ∨
    (∃ (dx : Addr) (fs : List (Str × V)), H2 a = some (exo a C (some dx)) ∧ H2 dx = some (exd dx fs) ∧ fs.length ≤ 900 ∧ D.nx σ (upd H2 dx (exd dx ((f, y) :: fs)))))
/-- C(e, ..) whose own __init__ keeps sp -/
def tXmake (C : Addr) (sp : Sp) (ta : TA) : L2.St → Hp → XK → Prop := fun σ H Q => ta σ H fun vs H1 => vs.length ≤ 1000 ∧ ∀ a, H1 a = none →
  sp (.ref a :: vs) (upd H1 a (exo a C none)) (fun v H2 => v = .non ∧ ∃ (d : Addr) (fs : List (Str × V)), H2 a = some (exo a C (some d)) ∧ H2 d = some (exd d fs) ∧ H1 d = none ∧ Q (.ref C) (some d) (upd (del H2 a) d (.xd fs))) E0
theorem typ_Ex : typeOf (.type "Exception") = pure (.type "type") := by kernel_rfl
section
variable {X : Cx} {o e : Expr} {es : List Expr} {to te : TE} {ta : TA} {f : Str} {p p' p1 p2 pos : Pos}
theorem pe_xinit {pl : Sem Bool} (hm : X.mg "Exception" = none) (vE : PySem.W.findCls X.K (.type "Exception") (.type "type") "__init__" = some (.val (.builtin "Exception.__init__"))) (ha : PA X (e :: es) ta) (hg : Gl X "Exception" := by rfl)
    (hc : eval (.Call (.Attribute (.Name "Exception" p1) "__init__" p2) (e :: es) [] pos) X.env = (do
      let base ← eval (.Name "Exception" p1) X.env
      standAt p2.atName
      let (fn, first) ← holding [base] (getMethod base "__init__" pl)
      callWith pos fn first (backTo pos (starEach (e :: es) X.env)) (backToKw pos (keywordEach [] X.env))) := by rfl)
    (he : starEach (e :: es) X.env = (false, eval e X.env) :: starEach es X.env := by rfl) (hpl : (backTo pos (starEach es X.env)).any (·.1) = false := by rfl) :
    PE X (.Call (.Attribute (.Name "Exception" p1) "__init__" p2) (e :: es) [] pos) (tXinit X.K ta) := by
  refine ⟨fun pins s σ H Q I h => PySem.W.methodCall_KW (ld_blt I hg hm PyProof.Rows.Boot.«Exception» ?_ (by decide) (by decide)) hc⟩
  obtain ⟨m, fr⟩ := I.fr
  refine PySem.W.method_type fr I.ok.mod.kin typ_Ex (by decide +kernel) vE (by decide +kernel) ?_
  show wpAny _ _ (callWith pos (Value.builtin "Exception.__init__") [] (backTo pos (starEach (e :: es) X.env)) []) _ _ _
  refine PyProof.Rows.callWith_method1 (thn (ha.run pos pins _ σ H _ (I.tok _) h) fun us s1 z => ?_) he hpl
  obtain ⟨vs, H1, I1, r1, a, C, ws, rfl, hl, T, ea, q⟩ := z
  cases r1 with
  | @cons _ u0 _ ur ra rt =>
    have e0 : u0 = Value.ref a := ra
    subst e0
    refine base_init T I1 ea (size_small' ?_) fun s' J => ⟨.non, H1, J, rfl, q⟩
    have := Paired.length rt
    omega
theorem ps_xset (ho : PE X o to) (he : PE X e te) (hs : swapsWith e (some (.Attribute o f p')) pos.line X.env = pure false := by rfl) : PS X (.Assign [.Attribute o f p'] e pos) (tXset X.K f to te) := by
  refine ⟨fun pins s σ H D I h => plainObj_wpAny_Assign_Attribute (thn (he.run pins s σ H _ I h) fun v s1 z1 => ?_) hs⟩
  obtain ⟨y, H1, I1, r1, q1⟩ := z1
  refine thn (ho.run pins s1 σ H1 _ I1 q1) fun u s2 z2 => ?_
  obtain ⟨x, H2, I2, r2, a, C, rfl, T, hno, q⟩ := z2
  have e0 : u = Value.ref a := r2
  subst e0
  cases q with
  | inl q => exact store_first T I2 q.1 hno r1 fun dx s' n ne J => ⟨σ, _, J, q.2 dx n ne⟩
  | inr q =>
    obtain ⟨dx, fs, ea, ed, hl, q⟩ := q
    exact store_next T I2 ea ed hl hno r1 fun s' J => ⟨σ, _, J, q⟩
theorem pmk_err {x : Str} {C fI : Addr} {k j : Nat} {fd : FuncData} {ps : List Str} {sp : Sp} (T : ErrC X.K C) (iC : PySem.W.findIn X.K (.ref C) "__init__" = some (some (.ref fI))) (tI : PySem.W.typeIn X.K (.ref fI) = some (.type "function"))
    (G : FnOk X.prog X.w X.K X.mg X.base CX0 k fI fd ps sp) (hr : Room j X.A) (hk : k + 1 ≤ j) (hb : Binds X.K fd ps []) (hm : X.mg x = some (.ref C)) (ha : PA X (e :: es) ta) (hg : Gl X x := by rfl)
    (hdb : (x == ("__debug__" : Str)) = false := by decide) (he : starEach (e :: es) X.env = (false, eval e X.env) :: starEach es X.env := by rfl) (hpl : (backTo pos (starEach es X.env)).any (·.1) = false := by rfl) :
    PMk X (.Call (.Name x p) (e :: es) [] pos) (tXmake C sp ta) := by
  intro pins s σ H Q I h
  obtain ⟨n1, n2, n3, n4, bm, n5, n6, n7, n8, n9, m0, m1, m2, m3, m5, hC, hbm⟩ := T.shape
  refine wpAny_Call_Name_kw (ld_glob I hg hm (PySem.W.callWith_K (h₀ := X.base) I.ok.mod.kin T.keep (thn (ha.run pos pins s σ H _ I h) fun us s1 z => ?_) he hpl) hdb)
  obtain ⟨vs, H1, I1, r1, hz, q1⟩ := z
  refine ⟨I1.kIn, ?_⟩
  show wpAny _ _ (call (.ref C) us) _ _ _
  obtain ⟨hp, g, dr, tk, os⟩ := s1
  have far : hp.objs.size ≤ hp.objs.size + 1 := Nat.le_succ _
  have q2 := q1 _ (I1.hok.fresh far)
  have kk : ∀ b o, hp.get? b = some o → ((hp.push (PySem.W.kdv_tup us)).push (PySem.HandSPX.excO C hp.objs.size)).get? b = some o := fun b o z => Heap.get?_push_of_some _ (Heap.get?_push_of_some _ z)
  have here : ((hp.push (PySem.W.kdv_tup us)).push (PySem.HandSPX.excO C hp.objs.size)).get? (hp.objs.size + 1) = some (PySem.HandSPX.excO C hp.objs.size) := by heap_get
  have I2 : Inv X pins σ (upd H1 (hp.objs.size + 1) (exo (hp.objs.size + 1) C none)) ⟨(hp.push (PySem.W.kdv_tup us)).push (PySem.HandSPX.excO C hp.objs.size), g, dr, tk, os⟩ :=
    I1.laid (t' := tk) (a := hp.objs.size + 1) (o := exo (hp.objs.size + 1) C none) kk far (exo_ok here)
  have r2 : Vals (V.ref (hp.objs.size + 1) :: vs) (Value.ref (hp.objs.size + 1) :: us) := .cons rfl r1
  have r3 : Vals (V.ref (hp.objs.size + 1) :: vs) (Value.ref (hp.objs.size + 1) :: us ++ []) := by rw [List.append_nil]; exact r2
  have len : (Value.ref (hp.objs.size + 1) :: us ++ []).length = ps.length := by rw [List.append_nil]; exact (r2.length).symm.trans (G.len _ _ _ _ q2)
  have short : us.length ≤ sizeLine := size_small' (by rw [← Paired.length r1]; omega)
  have hr' : Room (k + 1) X.A := hr.mono hk
  have body := G.run _ X.stack _ _ ⟨Value.ref (hp.objs.size + 1) :: us, []⟩ (Value.ref (hp.objs.size + 1) :: us ++ []) _ _ E0 (hr'.make C us []) (I2.env0.make C us []) (hb _ (Value.ref (hp.objs.size + 1) :: us) I2.kIn len) r3 q2
  refine wpAny_call (PySem.HandSPX.call_own PySem.F.excBase_Exception (fun Y => PySem.W.excTail_contains Y bm hbm) (I1.kIn _ _ hC) (PySem.W.looks_findIn I1.kIn iC) (fun self => PySem.W.bind_fn I1.kIn self tI) short (codeAny_mono body fun r s2 out => ?_))
  match r, out with
  | .error er, out => exact (out : False).elim
  | .ok (.ret u), out =>
    obtain ⟨v, H2, os2, bare2, un2, hok2, rv, ev, d, fs, ea, ed, hd1, q3⟩ := out
    subst ev
    obtain ⟨h2, g2, d2, t2, os'⟩ := s2
    exact ⟨rv, mk_end (raises_own T.isExc T.isTy) I1 far kk un2 hok2 os2 bare2 ea ed hd1 q3⟩
  | .ok .next, out => exact (out : False).elim
  | .ok .brk, out => exact (out : False).elim
  | .ok .cont, out => exact (out : False).elim
/-- raise C(e, ..) -/
theorem ps_xraise {W : WX} {x : Str} {C fI : Addr} {k j : Nat} {fd : FuncData} {ps : List Str} {sp : Sp} {pos2 : Pos} (hcalm : X.calm = true) (tk : Takes X W) (T : ErrC X.K C) (iC : PySem.W.findIn X.K (.ref C) "__init__" = some (some (.ref fI)))
    (tI : PySem.W.typeIn X.K (.ref fI) = some (.type "function")) (G : FnOk X.prog X.w X.K X.mg X.base CX0 k fI fd ps sp) (hr : Room j X.A) (hk : k + 1 ≤ j) (hb : Binds X.K fd ps []) (hm : X.mg x = some (.ref C)) (ha : PA X (e :: es) ta) (hg : Gl X x := by rfl)
    (hdb : (x == ("__debug__" : Str)) = false := by decide) (he : starEach (e :: es) X.env = (false, eval e X.env) :: starEach es X.env := by rfl) (hpl : (backTo pos (starEach es X.env)).any (·.1) = false := by rfl) :
    PS X (.Raise (some (.Call (.Name x p) (e :: es) [] pos)) none pos2) (fun _ σ H => tXmake C sp ta σ H fun cls d H' => W cls d σ H') :=
  ps_raise hcalm tk (pmk_err T iC tI G hr hk hb hm ha hg hdb he hpl)
end
end Pw

namespace Pw
open PySem PySem.Spec PyProof.Rows L2
open VahypBase (Bytes PTok)
abbrev s_fault_init : Stmt := inClass (top 19) 0
abbrev s_token_init : Stmt := inClass (top 20) 0
abbrev s_is_chunk : Stmt := inClass (top 20) 1
abbrev s_token_at : Stmt := top 26
abbrev s_tokens_of : Stmt := top 27
/-! ### fields -/
theorem lk_here {k : Str} {v : V} {r : List (Str × V)} : List.lookup k ((k, v) :: r) = some v := by
  have e : (k == k) = true := beq_self_eq_true k
  simp only [List.lookup, e]
theorem lk_past {k g : Str} {v : V} {r : List (Str × V)} (h : (k == g) = false) : List.lookup k ((g, v) :: r) = List.lookup k r := by
  simp only [List.lookup, h]
theorem put_nil {f : Str} {v : V} : putF f v [] = [(f, v)] := rfl
theorem put_here {f : Str} {v x : V} {r : List (Str × V)} : putF f v ((f, x) :: r) = (f, v) :: r := if_pos rfl
theorem put_past {f g : Str} {v x : V} {r : List (Str × V)} (h : (g == f) = false) : putF f v ((g, x) :: r) = (g, x) :: putF f v r := if_neg (by simpa using h)
section
variable {P : Program} {w : World} {K : PySem.W.Frag} {mg : Str → Option Value} {base : Heap} {CF CT : Addr}
/-! ### TextFault -/
def faultF (c p : Nat) : List (Str × V) := [("place", .int (p : Nat)), ("code", .int (c : Nat))]
/-- what the top has written of TextFault; fI: where its __init__ stands -/
structure FaultC (K : PySem.W.Frag) (mg : Str → Option Value) (CF fI : Addr) : Prop where
  err : ErrC K CF
  g : mg "TextFault" = some (.ref CF)
  init : PySem.W.findIn K (.ref CF) "__init__" = some (some (.ref fI))
  ity : PySem.W.typeIn K (.ref fI) = some (.type "function")
  nCode : PySem.W.findIn K (.ref CF) "code" = some none
  nPlace : PySem.W.findIn K (.ref CF) "place" = some none
  nEx : mg "Exception" = none
  vE : PySem.W.findCls K (.type "Exception") (.type "type") "__init__" = some (.val (.builtin "Exception.__init__"))
def spFaultInit (CF : Addr) : Sp := fun vs H Q _ => ∃ (a : Addr) (c p : Nat), vs = [.ref a, .int (c : Nat), .int (p : Nat)] ∧ H a = some (exo a CF none) ∧
  ∀ d, H d = none → d ≠ a → Q .non (upd (upd (upd H d (exd d [("code", .int (c : Nat))])) a (exo a CF (some d))) d (exd d (faultF c p)))
theorem sc_fault_init : FnScope ["self", "code", "place"] ["self", "code", "place"] (defScope s_fault_init) := ⟨rfl, rfl, rfl, by decide +kernel, rfl, by decide +kernel, by decide +kernel⟩
theorem ok_fault_init {fI f : Addr} {fd : FuncData} (F : Fun K "__init__" "TextFault.__init__" s_fault_init f fd) (T : FaultC K mg CF fI) : FnOk P w K mg base CX0 1 f fd ["self", "code", "place"] (spFaultInit CF) := by
  refine F.ok sc_fault_init (fun vs H Q E h => ?_) (fun cdv A outer s H vs Q E hr h => ?_)
  · obtain ⟨a, c, p, rfl, _⟩ := h
    rfl
  obtain ⟨a, c, p, rfl, ha, k⟩ := h
  refine ⟨_, pss_cons (ps_expr (pe_xinit T.nEx T.vE (pa_cons (pv 0) (pa_cons (pv 1) (pa_cons (pv 2) pa_nil)))))
    (pss_cons (ps_xset (pv 0) (pv 1)) (pss_one (ps_xset (pv 0) (pv 2)))), ?_⟩
  refine ⟨_, rfl, _, rfl, _, rfl, a, CF, _, rfl, (by show 2 ≤ 1000; decide), T.err, ha, ?_⟩
  refine ⟨_, rfl, _, rfl, a, CF, rfl, T.err, T.nCode, .inl ⟨ha, fun dx hd ne => ?_⟩⟩
  refine ⟨_, rfl, _, rfl, a, CF, rfl, T.err, T.nPlace, .inr ⟨dx, _, upd_same, (upd_ne ne).trans upd_same, by show 1 ≤ 900; decide, ?_⟩⟩
  exact k dx hd ne
/-- the heap behind a raise -/
theorem fault_heap {H : Hp} {a d : Addr} {c p : Nat} (ha : H a = none) : upd (del (upd (upd (upd (upd H a (exo a CF none)) d (exd d [("code", .int (c : Nat))])) a (exo a CF (some d))) d (exd d (faultF c p))) a) d (.xd (faultF c p)) = upd H d (.xd (faultF c p)) := by
  funext b
  by_cases hb : b = d
  · rw [hb, upd_same, upd_same]
  · rw [upd_ne hb, upd_ne hb]
    by_cases hba : b = a
    · rw [hba, del_same, ha]
    · rw [del_ne hba, upd_ne hb, upd_ne hba, upd_ne hb, upd_ne hba]
/-- TextFault, as those know it who raise it -/
structure Flt (P : Program) (w : World) (K : PySem.W.Frag) (mg : Str → Option Value) (base : Heap) (CF : Addr) : Prop where
  ex : ∃ (fI : Addr) (fd : FuncData) (ps : List Str), FaultC K mg CF fI ∧ FnOk P w K mg base CX0 1 fI fd ps (spFaultInit CF) ∧ Binds K fd ps []
/-- raise TextFault(c, p): the caller's way out, at any new dict -/
def tFlt (CF : Addr) (W : WX) (ta : TA) : TS := fun _ σ H => ta σ H fun vs H1 => ∃ c p : Nat, vs = [.int (c : Nat), .int (p : Nat)] ∧ ∀ d, H1 d = none → W (.ref CF) (some d) σ (upd H1 d (.xd (faultF c p)))
def tMonoA (ta : TA) : TA := fun σ H Q => ∃ Q0 : List V → Hp → Prop, ta σ H Q0 ∧ ∀ v h, Q0 v h → Q v h
theorem pa_mono {X : Cx} {es : List Expr} {ta : TA} (ha : PA X es ta) : PA X es (tMonoA ta) := by
  refine ⟨fun pos pins s σ H Q I ⟨Q0, h, m⟩ => thn (ha.run pos pins s σ H Q0 I h) fun us s1 z => ?_⟩
  obtain ⟨vs, H1, I1, r, q⟩ := z
  exact ⟨vs, H1, I1, r, m _ _ q⟩
theorem ps_flt {X : Cx} {W : WX} {j : Nat} {e : Expr} {es : List Expr} {ta : TA} {p pos pos2 : Pos} (T : Flt X.prog X.w X.K X.mg X.base CF) (hr : Room j X.A) (hk : 2 ≤ j) (tk : Takes X W) (ha : PA X (e :: es) ta) (hcalm : X.calm = true := by rfl) (hg : Gl X "TextFault" := by rfl)
    (he : starEach (e :: es) X.env = (false, eval e X.env) :: starEach es X.env := by rfl) (hpl : (backTo pos (starEach es X.env)).any (·.1) = false := by rfl) :
    PS X (.Raise (some (.Call (.Name "TextFault" p) (e :: es) [] pos)) none pos2) (tFlt CF W ta) := by
  obtain ⟨fI, fd, ps, T, G, b⟩ := T.ex
  refine ⟨fun pins s σ H D I h => (ps_xraise hcalm tk T.err T.init T.ity G hr hk b T.g (pa_mono ha) hg (by decide) he hpl).run pins s σ H D I ?_⟩
  refine ⟨_, h, fun v H1 z => ?_⟩
  obtain ⟨c, p, rfl, k⟩ := z
  refine ⟨(by show 2 ≤ 1000; decide), fun a ha => ⟨a, c, p, rfl, upd_same, fun d hd ne => ⟨rfl, d, faultF c p, ?_, upd_same, ?_, ?_⟩⟩⟩
  · exact (upd_ne (Ne.symm ne)).trans upd_same
  · exact (upd_ne ne).symm.trans hd
  · rw [fault_heap ha]
    exact k d ((upd_ne ne).symm.trans hd)
/-! ### byte lists as data -/
def dB (b : Bytes) : PyData := .list (b.map fun u => PyData.int (u.toNat : Int))
theorem dpAll_bytes {H : Hp} : ∀ b : Bytes, DpAll K H (b.map bV) (b.map fun u => PyData.int (u.toNat : Int))
  | [] => .nil
  | u :: r => .cons (.int _) (dpAll_bytes r)
theorem dp_bytes {H : Hp} {a : Addr} {b : Bytes} (h : SqL K H a (b.map bV)) : Dp K H (.ref a) (dB b) := .lst h (dpAll_bytes b)
theorem lay_bytes : ∀ b : Bytes, PyData.canLayAll0 (b.map fun u => PyData.int (u.toNat : Int)) = true ∧ PyData.depthAll (b.map fun u => PyData.int (u.toNat : Int)) = 0
  | [] => by simp [PyData.canLayAll0, PyData.depthAll]
  | u :: r => by
    have := lay_bytes r
    simp [PyData.canLayAll0, PyData.depthAll, PyData.canLay0, PyData.depth, this.1, this.2]
theorem shaped_bytes (b : Bytes) : SeqAt.shaped (dB b) = true := by
  have := lay_bytes b
  simp [SeqAt.shaped, dB, PyData.canLay0, PyData.depth, this.1, this.2]
theorem eqv_bytesAll : ∀ x y : Bytes, PyData.eqvAll (x.map fun u => PyData.int (u.toNat : Int)) (y.map fun u => PyData.int (u.toNat : Int)) = (x == y)
  | [], [] => by simp [PyData.eqvAll]
  | [], _ :: _ => by simp [PyData.eqvAll]
  | _ :: _, [] => by simp [PyData.eqvAll]
  | a :: r, b :: t => by
    simp only [List.map_cons, PyData.eqvAll, PyData.eqv, eqv_bytesAll r t, List.cons_beq_cons]
    congr 1
    rw [Bool.eq_iff_iff, beq_iff_eq, beq_iff_eq]
    constructor
    · intro h
      exact UInt8.toNat_inj.mp (by omega)
    · intro h
      rw [h]
theorem eqv_bytes (x y : Bytes) : PyData.eqv (dB x) (dB y) = (x == y) := by
  simp only [dB, PyData.eqv, eqv_bytesAll]
/-! ### Token -/
/-- a class whose __init__ stands at fI, its fields fs -/
structure OwnC (K : PySem.W.Frag) (mg : Str → Option Value) (x : Str) (C fI : Addr) (fs : List Str) : Prop where
  cl : Cls K C
  g : mg x = some (.ref C)
  made : Mk K C fI
  no : ∀ f ∈ fs, NoAttr K C f
def tokF (p : Nat) (c : Addr) : List (Str × V) := [("place", .int (p : Nat)), ("content", .ref c)]
def TokAt (K : PySem.W.Frag) (CT : Addr) (H : Hp) (a : Addr) (t : PTok) : Prop := ∃ dx c, H a = some (.ins CT dx (tokF t.place c)) ∧ H c = some (.lst ((tokB t.tok).map bV))
def spTokenInit (CT : Addr) : Sp := fun vs H Q _ => ∃ (x dx c : Addr) (p : Nat), vs = [.ref x, .int (p : Nat), .ref c] ∧ H x = some (.ins CT dx []) ∧ ∀ H' : Hp, H' x = some (.ins CT dx (tokF p c)) → (∀ b, b ≠ x → H' b = H b) → Q .non H'
theorem sc_token_init : FnScope ["self", "place", "content"] ["self", "place", "content"] (defScope s_token_init) := ⟨rfl, rfl, rfl, by decide +kernel, rfl, by decide +kernel, by decide +kernel⟩
theorem ok_token_init {fI f : Addr} {fd : FuncData} (F : Fun K "__init__" "Token.__init__" s_token_init f fd) (T : OwnC K mg "Token" CT fI ["place", "content"]) : FnOk P w K mg base CX0 1 f fd ["self", "place", "content"] (spTokenInit CT) := by
  refine F.ok sc_token_init (fun vs H Q E h => ?_) (fun cdv A outer s H vs Q E hr h => ?_)
  · obtain ⟨a, dx, c, p, rfl, _⟩ := h
    rfl
  obtain ⟨x, dx, c, p, rfl, hx, k⟩ := h
  refine ⟨_, pss_cons (ps_fld (pv 0) (pv 1) rfl) (pss_one (ps_fld (pv 0) (pv 2) rfl)), ?_⟩
  refine ⟨_, rfl, _, rfl, x, CT, dx, [], rfl, hx, T.cl, T.no _ (by simp), (by show 0 < 1000; decide), ?_⟩
  refine ⟨_, rfl, _, rfl, x, CT, dx, _, rfl, upd_same, T.cl, T.no _ (by simp), (by show 1 < 1000; decide), ?_⟩
  refine k _ ?_ fun b hb => by rw [upd_ne hb, upd_ne hb]
  rw [upd_same]
  rfl
/-- self.content != [] and self.content != [SEMICOLON] -/
def spIsChunk (K : PySem.W.Frag) (CT : Addr) : Sp := fun vs H Q _ => ∃ (x : Addr) (t : PTok), vs = [.ref x] ∧ TokAt K CT H x t ∧ TokOk t.tok ∧ ∀ H', Same H H' → Q (.bl (isChunkTok t.tok)) H'
theorem sc_is_chunk : FnScope ["self"] ["self"] (defScope s_is_chunk) := ⟨rfl, rfl, rfl, by decide +kernel, rfl, by decide +kernel, by decide +kernel⟩
theorem tokB_nil {t : VahypBase.Tok} (h : TokOk t) : (!(tokB t == [])) = true ∧ (!(tokB t == [59])) = isChunkTok t ∨ (!(tokB t == [])) = false ∧ isChunkTok t = false := by
  cases t with
  | chunk b =>
    refine .inl ⟨?_, ?_⟩
    · cases b with
      | nil => exact absurd rfl h.1
      | cons _ _ => rfl
    · show (!(b == [59])) = true
      rw [Bool.not_eq_true', beq_eq_false_iff_ne]
      intro e
      subst e
      have := h.2.1 59 (by simp)
      revert this
      decide
  | sign c =>
    have e : c = 59 := h
    subst e
    exact .inl ⟨rfl, rfl⟩
  | last => exact .inr ⟨rfl, rfl⟩
theorem ok_is_chunk {fI f : Addr} {fd : FuncData} (F : Fun K "is_chunk" "Token.is_chunk" s_is_chunk f fd) (T : OwnC K mg "Token" CT fI ["place", "content"]) (cS : Con mg "SEMICOLON" (.int 59)) : FnOk P w K mg base CX0 1 f fd ["self"] (spIsChunk K CT) := by
  refine F.ok sc_is_chunk (fun vs H Q E h => ?_) (fun cdv A outer s H vs Q E hr h => ?_)
  · obtain ⟨a, t, rfl, _⟩ := h
    rfl
  obtain ⟨x, t, rfl, ⟨dx, c, hx, hc⟩, ht, k⟩ := h
  refine ⟨_, pss_one (ps_ret (pe_and (pe_cmpR (op_neD hr.units) (pe_fld (pv 0) rfl) (pe_lst pa_nil) (nomark _)) (pe_one (pe_cmpR (op_neD hr.units) (pe_fld (pv 0) rfl) (pe_lst (pa_cons (pe_con1 cS) pa_nil)) (nomark _))))), ?_⟩
  refine ⟨_, rfl, x, CT, dx, _, _, rfl, hx, T.cl, T.no _ (by simp), (lk_past (by decide +kernel)).trans lk_here, (by show 0 ≤ sizeLine; decide), fun p hp => ?_⟩
  have s1 : Same H (upd H p (.lst [])) := same_upd hp
  refine ⟨dB (tokB t.tok), dB [], dp_bytes (SqL.of (s1 _ _ hc)), .lst (SqL.of upd_same) .nil, shaped_bytes _, shaped_bytes _, ?_⟩
  refine ⟨_, rfl, ?_⟩
  rw [eqv_bytes]
  rcases tokB_nil ht with ⟨e1, e2⟩ | ⟨e1, e2⟩
  · rw [e1, if_pos rfl]
    refine ⟨_, rfl, x, CT, dx, _, _, rfl, s1 _ _ hx, T.cl, T.no _ (by simp), (lk_past (by decide +kernel)).trans lk_here, (by show 1 ≤ sizeLine; decide), fun p2 hp2 => ?_⟩
    have s2 : Same H (upd (upd H p (.lst [])) p2 (.lst [.int 59])) := same_new s1 (s1.free hp2)
    refine ⟨dB (tokB t.tok), dB [59], dp_bytes (SqL.of (s2 _ _ hc)), dp_bytes (b := [59]) (SqL.of upd_same), shaped_bytes _, shaped_bytes _, ?_⟩
    rw [eqv_bytes, e2]
    exact k _ s2
  · rw [e1, if_neg (by decide)]
    rw [e2] at k
    exact k _ s1
end
end Pw

namespace Pw
open PySem PySem.Spec PyProof.Rows L2
open VahypBase (Bytes PTok Toks)
/-! ### two lists, item by item -/
def All2 {α β : Type} (R : α → β → Prop) : List α → List β → Prop
  | [], [] => True
  | a :: as, b :: bs => R a b ∧ All2 R as bs
  | _, _ => False
theorem All2.mono {α β : Type} {R S : α → β → Prop} (h : ∀ a b, R a b → S a b) : ∀ {as : List α} {bs : List β}, All2 R as bs → All2 S as bs
  | [], [], _ => trivial
  | _ :: _, _ :: _, ⟨r, t⟩ => ⟨h _ _ r, All2.mono h t⟩
  | [], _ :: _, z => z.elim
  | _ :: _, [], z => z.elim
theorem All2.len {α β : Type} {R : α → β → Prop} : ∀ {as : List α} {bs : List β}, All2 R as bs → as.length = bs.length
  | [], [], _ => rfl
  | _ :: _, _ :: _, ⟨_, t⟩ => congrArg (· + 1) (All2.len t)
  | [], _ :: _, z => z.elim
  | _ :: _, [], z => z.elim
theorem All2.snoc {α β : Type} {R : α → β → Prop} {a : α} {b : β} (r : R a b) : ∀ {as : List α} {bs : List β}, All2 R as bs → All2 R (as ++ [a]) (bs ++ [b])
  | [], [], _ => ⟨r, trivial⟩
  | _ :: _, _ :: _, ⟨q, t⟩ => ⟨q, All2.snoc r t⟩
  | [], _ :: _, z => z.elim
  | _ :: _, [], z => z.elim
theorem All2.get {α β : Type} {R : α → β → Prop} : ∀ {as : List α} {bs : List β} {i : Nat} {b : β}, All2 R as bs → bs[i]? = some b → ∃ a, as[i]? = some a ∧ R a b
  | [], [], _, _, _, h => by simp at h
  | a :: _, b :: _, 0, x, ⟨r, _⟩, h => by
    have e : b = x := by simpa using h
    subst e
    exact ⟨a, rfl, r⟩
  | _ :: as, _ :: bs, i + 1, x, ⟨_, t⟩, h => All2.get (as := as) (bs := bs) (i := i) t (by simpa using h)
  | [], _ :: _, _, _, z, _ => z.elim
  | _ :: _, [], _, _, z, _ => z.elim
theorem All2.get' {α β : Type} {R : α → β → Prop} : ∀ {as : List α} {bs : List β} {i : Nat} {a : α}, All2 R as bs → as[i]? = some a → ∃ b, bs[i]? = some b ∧ R a b
  | [], [], _, _, _, h => by simp at h
  | a :: _, b :: _, 0, x, ⟨r, _⟩, h => by
    have e : a = x := by simpa using h
    subst e
    exact ⟨b, rfl, r⟩
  | _ :: as, _ :: bs, i + 1, x, ⟨_, t⟩, h => All2.get' (as := as) (bs := bs) (i := i) t (by simpa using h)
  | [], _ :: _, _, _, z, _ => z.elim
  | _ :: _, [], _, _, z, _ => z.elim
section
variable {P : Program} {w : World} {K : PySem.W.Frag} {mg : Str → Option Value} {base : Heap} {CF CT : Addr}
theorem TokAt.same {H H' : Hp} {a : Addr} {t : PTok} (s : Same H H') (h : TokAt K CT H a t) : TokAt K CT H' a t := by
  obtain ⟨dx, c, h1, h2⟩ := h
  exact ⟨dx, c, s _ _ h1, s _ _ h2⟩
/-- a cut of a list -/
theorem cut_map {α : Type} (f : α → V) (l : List α) (i j : Nat) : cutV (l.map f) (some (i : Int)) (some (j : Int)) = ((l.drop i).take (j - i)).map f := by
  unfold cutV
  rw [HT.sIx_nat, HT.sIx_nat, List.length_map, ← List.map_drop, ← List.map_take]
  congr 1
  by_cases h : i ≤ l.length
  · rw [Nat.min_eq_left h]
    by_cases h2 : j ≤ l.length
    · rw [Nat.min_eq_left h2]
    · rw [Nat.min_eq_right (by omega), List.take_of_length_le (by rw [List.length_drop]; omega), List.take_of_length_le (by rw [List.length_drop]; omega)]
  · rw [Nat.min_eq_right (by omega : l.length ≤ i), List.drop_eq_nil_of_le (Nat.le_refl l.length), List.drop_eq_nil_of_le (by omega : l.length ≤ i), List.take_nil, List.take_nil]
/-- what a class's making leaves as it was -/
theorem same_made {H1 H2 : Hp} {x dx C : Addr} (nx : H1 x = none) (nd : H1 dx = none) (kp : ∀ b, b ≠ x → H2 b = upd (upd H1 dx (.own x)) x (.ins C dx []) b) : Same H1 H2 := fun q o e => by
  have hq : q ≠ x := ne_of_none e nx
  rw [kp q hq, upd_ne hq, upd_ne (ne_of_none e nd)]
  exact e
theorem token_len {b : UInt8} {r : Bytes} {x : VahypBase.Tok × Nat} (h : VahypBase.token (b :: r) = some x) : (tokB x.1).length = x.2 := by
  unfold VahypBase.token at h
  simp only at h
  split at h
  · split at h
    · cases h
    · injection h with h
      subst h
      rfl
  · split at h
    · injection h with h
      subst h
      rfl
    · cases h
/-! ### token_at -/
def spTokenAt (K : PySem.W.Frag) (CF CT : Addr) : Sp := fun vs H Q E => ∃ (a : Addr) (bs : Bytes) (n : Nat) (b : UInt8) (r : Bytes), vs = [.ref a, .int (n : Nat)] ∧ SqL K H a (bs.map bV) ∧ bs.drop n = b :: r ∧
  (VahypBase.token (b :: r) = none → ∀ d H', Same H H' → H' d = some (.xd (faultF 2 n)) → E (.ref CF) (some d) H') ∧
  (∀ x, VahypBase.token (b :: r) = some x → ∀ H' p, Same H H' → H p = none → TokAt K CT (nu H H') p ⟨n, x.1⟩ → Q (.ref p) H')
structure TokD (K : PySem.W.Frag) (mg : Str → Option Value) : Prop where
  cSEMI : Con mg "SEMICOLON" (.int 59)
  cNO : Con mg "NO_TOKEN" (.int 2)
  cMOST : Con mg "MOST_CHUNK_BYTES" (.int 40)
  cREM : Con mg "REMARK" (.int 35)
  cBL : ∃ aB, Con mg "BLANKS" (.ref aB) ∧ ∀ H, SqT K H aB [.int 32, .int 9, .int 10]
  nlen : mg "len" = none
theorem sc_token_at : FnScope ["text", "place", "end"] ["text", "place"] (defScope s_token_at) := ⟨rfl, rfl, rfl, by decide +kernel, rfl, by decide +kernel, by decide +kernel⟩
theorem ok_token_at {f : Addr} {fd : FuncData} (F : Fun K "token_at" "token_at" s_token_at f fd) (T : TokD K mg) (GT : M0 P w K mg base 1 "Token" CT (spTokenInit CT)) (GE : C0 P w K mg base 3 "chunk_end" (spRun K VahypBase.inChunk)) (GF : Flt P w K mg base CF) :
    FnOk P w K mg base (L2.CX P w) 4 f fd ["text", "place"] (spTokenAt K CF CT) := by
  refine F.okX sc_token_at (fun vs H Q E h => ?_) (fun cdv A outer s H vs Q E hr h => ?_)
  · obtain ⟨a, bs, n, b, r, rfl, _⟩ := h
    rfl
  obtain ⟨a, bs, n, b, r, rfl, hS, hb, kN, kS⟩ := h
  refine ⟨_, pss_cons (ps_if (pt_cmpR op_eq (pe_ix ix_list (pv 0) (pv 1) (fun _ _ => rfl)) (pe_con1 T.cSEMI) (nomark _)) (pss_one (ps_ret (pe_m0 GT hr (by decide) (pa_cons (pv 1) (pa_cons (pe_lst (pa_cons (pe_con1 T.cSEMI) pa_nil)) pa_nil))))) pss_nil)
    (pss_cons (ps_set (i := 2) sc_token_at.nd rfl (Or.inl rfl) (pe_c0 GE hr (by decide) (pa_cons (pv 0) (pa_cons (pv 1) pa_nil))))
    (pss_cons (ps_if (PW.pt (pw_or (pt_cmpR op_eq (pv 2) (pv 1) (nomark _)) (pw_or1 (pt_cmpR op_gt (pe_op op_sub (pv 2) (pv 1)) (pe_con1 T.cMOST) (nomark _)))))
      (pss_one (ps_flt GF hr (by decide) (takes_of rfl rfl rfl rfl) (pa_cons (pe_con1 T.cNO) (pa_cons (pv 1) pa_nil)))) pss_nil)
    (pss_one (ps_ret (pe_m0 GT hr (by decide) (pa_cons (pv 1) (pa_cons (pe_slice sl_list (pv 0) (po_some (pv 1)) (po_some (pv 2))) pa_nil))))))), ?_⟩
  have hn : bs[n]? = some b := by
    have := congrArg (·[0]?) hb
    simpa [List.getElem?_drop] using this
  have hlt : n < bs.length := (List.getElem?_eq_some_iff.mp hn).1
  refine ⟨_, rfl, _, rfl, _, _, _, _, rfl, rfl, hS, get_bV hn, ?_⟩
  refine ⟨rfl, _, rfl, ?_⟩
  have e59 : decide (V.int (b.toNat : Int) = V.int 59) = (b == 59) := u8_eq b 59 (by decide)
  show ite (decide (V.int (b.toNat : Int) = V.int 59) = true) _ _
  rw [e59]
  by_cases c : (b == 59) = true
  · rw [if_pos c]
    have tk : VahypBase.token (b :: r) = some (.sign 59, 1) := by
      have e : b = 59 := by simpa using c
      subst e
      rfl
    refine ⟨_, rfl, (by show 1 ≤ sizeLine; decide), fun l hl => ?_⟩
    intro x dx nx nd ne
    refine ⟨x, dx, l, n, rfl, upd_same, fun H2 h2 kp => ⟨rfl, ?_⟩⟩
    have s2 := same_made nx nd kp
    have nx' := (same_upd hl).free nx
    exact kS _ tk H2 x ((same_upd hl).trans s2) nx' ⟨dx, l, (ext_new nx').trans h2, (ext_new hl).trans (s2 _ _ upd_same)⟩
  · rw [if_neg c]
    have c' : (b == 59) = false := by simpa using c
    refine ⟨_, rfl, _, rfl, a, bs, n, rfl, hS, Nat.le_of_lt hlt, ?_⟩
    refine ⟨_, rfl, _, rfl, rfl, _, rfl, ?_⟩
    have run : runEnd VahypBase.inChunk bs n = n + ((b :: r).takeWhile VahypBase.inChunk).length := by unfold runEnd; rw [hb]
    have cmp : decide (V.int ((runEnd VahypBase.inChunk bs n : Nat) : Int) = V.int ((n : Nat) : Int)) = !(VahypBase.inChunk b) := by
      rw [run, List.takeWhile_cons]
      cases VahypBase.inChunk b with
      | true =>
        rw [if_pos rfl, List.length_cons]
        refine decide_eq_false fun z => ?_
        injection z with z
        omega
      | false =>
        rw [if_neg (by decide)]
        exact decide_eq_true rfl
    show ite (decide (V.int ((runEnd VahypBase.inChunk bs n : Nat) : Int) = V.int ((n : Nat) : Int)) = true) _ _
    rw [cmp]
    cases cb : VahypBase.inChunk b with
    | false =>
      rw [if_pos (by decide)]
      show ite (true = true) _ _
      rw [if_pos rfl]
      have tk : VahypBase.token (b :: r) = none := by
        unfold VahypBase.token
        simp only [cb, c']
        rfl
      exact ⟨_, rfl, 2, n, rfl, fun d hd => kN tk d _ (same_upd hd) upd_same⟩
    | true =>
      rw [if_neg (by decide)]
      have tk : VahypBase.token (b :: r) = if 40 < ((b :: r).takeWhile VahypBase.inChunk).length then none else some (.chunk ((b :: r).takeWhile VahypBase.inChunk), ((b :: r).takeWhile VahypBase.inChunk).length) := by
        unfold VahypBase.token
        simp only [cb]
        rfl
      refine ⟨_, rfl, _, rfl, _, _, rfl, rfl, _, _, rfl, rfl, _, rfl, ?_⟩
      rw [run]
      show ite (decide ((40 : Int) < ((n + ((b :: r).takeWhile VahypBase.inChunk).length : Nat) : Int) - ((n : Nat) : Int)) = true) _ _
      by_cases cl : 40 < ((b :: r).takeWhile VahypBase.inChunk).length
      · rw [if_pos (decide_eq_true (by omega))]
        rw [if_pos cl] at tk
        exact ⟨_, rfl, 2, n, rfl, fun d hd => kN tk d _ (same_upd hd) upd_same⟩
      · rw [if_neg (by intro z; have := of_decide_eq_true z; omega)]
        rw [if_neg cl] at tk
        refine ⟨_, rfl, _, rfl, _, rfl, _, rfl, _, rfl, _, rfl, a, _, rfl, hS, fun l hl => ?_⟩
        intro x dx nx nd ne
        refine ⟨x, dx, l, n, rfl, upd_same, fun H2 h2 kp => ⟨rfl, ?_⟩⟩
        have s2 := same_made nx nd kp
        have nx' := (same_upd hl).free nx
        refine kS _ tk H2 x ((same_upd hl).trans s2) nx' ⟨dx, l, (ext_new nx').trans h2, (ext_new hl).trans (s2 _ _ ?_)⟩
        rw [upd_same, cut_map, hb, Nat.add_sub_cancel_left]
        have e : (b :: r).take ((b :: r).takeWhile VahypBase.inChunk).length = (b :: r).takeWhile VahypBase.inChunk := (List.prefix_iff_eq_take.mp (List.takeWhile_prefix _)).symm
        rw [e]
        rfl
end
end Pw

namespace Pw
open PySem PySem.Spec PyProof.Rows L2
open VahypBase (Bytes PTok Toks)
theorem fin_snoc : ∀ {ts : Toks} {t : PTok}, (∀ x ∈ ts, x.tok ≠ .last) → t.tok = .last → Fin (ts ++ [t])
  | [], t, _, h => h
  | [a], t, h1, h => ⟨h1 a (by simp), h⟩
  | a :: b :: r, t, h1, h => ⟨h1 a (by simp), fin_snoc (ts := b :: r) (fun x hx => h1 x (List.mem_cons_of_mem _ hx)) h⟩
section
variable {P : Program} {w : World} {K : PySem.W.Frag} {mg : Str → Option Value} {base : Heap} {CF CT : Addr}
def spTokensOf (K : PySem.W.Frag) (CF CT : Addr) : Sp := fun vs H Q E => ∃ (a : Addr) (bs : Bytes), vs = [.ref a] ∧ SqL K H a (bs.map bV) ∧ bs.length ≤ 10000 ∧
  (∀ f, lexAt 0 bs = .error f → ∀ d H', Same H H' → H' d = some (.xd (faultF f.code f.place)) → E (.ref CF) (some d) H') ∧
  (∀ ts, lexAt 0 bs = .ok ts → ∀ H' p as, Same H H' → H p = none → H' p = some (.lst (as.map V.ref)) → All2 (TokAt K CT (nu H H')) as ts → (∀ t ∈ ts, TokOk t.tok) → Fin ts → Q (.ref p) H')
theorem sc_tokens_of : FnScope ["text", "found", "place", "token"] ["text"] (defScope s_tokens_of) := ⟨rfl, rfl, rfl, by decide +kernel, rfl, by decide +kernel, by decide +kernel⟩
theorem blank_in (u : UInt8) : inV (bV u) [.int 32, .int 9, .int 10] = VahypBase.isBlank u := by
  have key : ∀ n : Nat, n < 256 → eqV (.int (n : Int)) (bV u) = (u == UInt8.ofNat n) := fun n hn => by
    show ((n : Int) == (u.toNat : Int)) = _
    rw [← u8_eq u n hn, Bool.eq_iff_iff, beq_iff_eq, decide_eq_true_eq]
    constructor
    · intro e
      rw [e]
    · intro e
      injection e with e
      exact e.symm
  show (eqV (.int 32) (bV u) || (eqV (.int 9) (bV u) || (eqV (.int 10) (bV u) || false))) = _
  have a := key 32 (by decide)
  have b := key 9 (by decide)
  have c := key 10 (by decide)
  rw [show (.int (32 : Int) : V) = .int ((32 : Nat) : Int) from rfl, show (.int (9 : Int) : V) = .int ((9 : Nat) : Int) from rfl, show (.int (10 : Int) : V) = .int ((10 : Nat) : Int) from rfl, a, b, c, Bool.or_false]
  rfl
theorem dropWhile_drop {α : Type} (p : α → Bool) : ∀ l : List α, l.dropWhile p = l.drop (l.takeWhile p).length
  | [] => rfl
  | a :: l => by
    rw [List.dropWhile_cons, List.takeWhile_cons]
    split
    · rw [dropWhile_drop p l, List.length_cons, List.drop_succ_cons]
    · rfl
theorem map_comp {α β ε : Type} (f g : α → β) (x : Except ε α) : x.map f = x.map g ↔ (∀ a, x = .ok a → f a = g a) := by
  cases x with
  | error e => simp [Except.map]
  | ok a => simp [Except.map]
theorem except_map_map {α β γ ε : Type} (f : α → β) (g : β → γ) (x : Except ε α) : (x.map f).map g = x.map fun a => g (f a) := by
  cases x <;> rfl
/-- the loop of tokens_of: behind it stands what is left to be lexed -/
structure Lexed (K : PySem.W.Frag) (CT : Addr) (H H' : Hp) (L : Addr) (bs : Bytes) (as : List Addr) (acc : Toks) (n : Nat) : Prop where
  same : Same H H'
  free : H L = none
  lst : H' L = some (.lst (as.map V.ref))
  toks : All2 (TokAt K CT (del (nu H H') L)) as acc
  ok : ∀ t ∈ acc, TokOk t.tok ∧ t.tok ≠ .last
  le : n ≤ bs.length
  few : as.length ≤ n
  eq : lexAt 0 bs = (lexAt n (bs.drop n)).map (acc ++ ·)
theorem ok_tokens_of {f : Addr} {fd : FuncData} (F : Fun K "tokens_of" "tokens_of" s_tokens_of f fd) (T : TokD K mg) (GT : M0 P w K mg base 1 "Token" CT (spTokenInit CT)) (OT : ∃ fI, OwnC K mg "Token" CT fI ["place", "content"]) (GR : C0 P w K mg base 1 "remark_end" (spRun K (· != 10)))
    (GA : C1 P w K mg base 4 "token_at" (spTokenAt K CF CT)) : FnOk P w K mg base (L2.CX P w) 5 f fd ["text"] (spTokensOf K CF CT) := by
  obtain ⟨fI, OT⟩ := OT
  obtain ⟨aB, cB, hB⟩ := T.cBL
  refine F.okX sc_tokens_of (fun vs H Q E h => ?_) (fun cdv A outer s H vs Q E hr h => ?_)
  · obtain ⟨a, bs, rfl, _⟩ := h
    rfl
  obtain ⟨a, bs, rfl, hS, hz, kE, kS⟩ := h
  refine ⟨_, pss_cons (ps_set (i := 1) sc_tokens_of.nd rfl (Or.inl rfl) (pe_lst pa_nil))
    (pss_cons (ps_set (i := 2) sc_tokens_of.nd rfl (Or.inl rfl) pe_int)
    (pss_cons (ps_while (passes_of rfl) (pt_cmpR op_lt (pv 2) (pe_callB call_len_seq (by rfl) T.nlen PySem.boot_len (pa_cons (pv 0) pa_nil)) (nomark _))
      (pss_one (ps_if (pt_cmpR op_in_seq (pe_ix ix_list (pv 0) (pv 2) (fun _ _ => rfl)) (pe_con1 cB) (by rfl))
        (pss_one (ps_aug (i := 2) sc_tokens_of.nd rfl (Or.inl rfl) pe_int ip_add))
        (pss_one (ps_if (pt_cmpR op_eq (pe_ix ix_list (pv 0) (pv 2) (fun _ _ => rfl)) (pe_con1 T.cREM) (nomark _))
          (pss_one (ps_set (i := 2) sc_tokens_of.nd rfl (Or.inl rfl) (pe_c0 GR hr (by decide) (pa_cons (pv 0) (pa_cons (pv 2) pa_nil)))))
          (pss_cons (ps_set (i := 3) sc_tokens_of.nd rfl (Or.inl rfl) (pe_c1 GA hr (Nat.le_refl _) (takes_of rfl rfl rfl rfl) (pa_cons (pv 0) (pa_cons (pv 2) pa_nil))))
            (pss_cons (ps_expr (pe_bm PySem.F.plainAttrs_list PySem.F.slot_list_append PySem.F.type_list_append mt_append (pv 1) (pa_cons (pv 3) pa_nil)))
            (pss_one (ps_aug (i := 2) sc_tokens_of.nd rfl (Or.inl rfl) (pe_callB call_len_seq (by rfl) T.nlen PySem.boot_len (pa_cons (pe_fld (pv 3) rfl) pa_nil)) ip_add)))))))))
    (pss_cons (ps_expr (pe_bm PySem.F.plainAttrs_list PySem.F.slot_list_append PySem.F.type_list_append mt_append (pv 1) (pa_cons (pe_m0 GT hr (by decide) (pa_cons (pe_callB call_len_seq (by rfl) T.nlen PySem.boot_len (pa_cons (pv 0) pa_nil)) (pa_cons (pe_lst pa_nil) pa_nil))) pa_nil)))
    (pss_one (ps_ret (pv 1)))))), ?_⟩
  refine ⟨(by show 0 ≤ sizeLine; decide), fun L hL => ?_⟩
  refine ⟨fun m σ H' => ∃ (n : Nat) (as : List Addr) (acc : Toks) (v : Option V), σ = [some (.ref a), some (.ref L), some (.int (n : Nat)), v] ∧ m = bs.length - n ∧ Lexed K CT H H' L bs as acc n,
    ⟨_, 0, [], [], none, rfl, rfl, ⟨same_upd hL, hL, upd_same, trivial, (fun _ z => nomatch z), Nat.zero_le _, Nat.le_refl _, by rw [List.drop_zero]; cases lexAt 0 bs <;> rfl⟩⟩, ?_⟩
  rintro m σ H' ⟨n, as, acc, v, rfl, rfl, I⟩
  refine ⟨_, rfl, _, rfl, _, _, rfl, .inl (I.same.seq hS), ?_⟩
  refine ⟨_, _, rfl, rfl, _, rfl, ?_⟩
  show ite _ _ _
  rw [List.length_map]
  by_cases c : n < bs.length
  · rw [if_pos (decide_eq_true (by omega))]
    have hb : bs[n]? = some bs[n] := List.getElem?_eq_getElem c
    have hd := drop_get hb
    -- what a turn has to bring about
    refine ⟨fun σ' H2 => ∃ m', m' < bs.length - n ∧ ∃ (n : Nat) (as : List Addr) (acc : Toks) (v : Option V), σ' = [some (.ref a), some (.ref L), some (.int (n : Nat)), v] ∧ m' = bs.length - n ∧ Lexed K CT H H2 L bs as acc n, fun _ _ z => z, ?_⟩
    have I1 := I
    refine ⟨_, rfl, _, rfl, _, _, _, _, rfl, rfl, I.same.seq hS, get_bV hb, ?_⟩
    refine ⟨aB, _, rfl, .inr (hB _), rfl, by decide, ?_⟩
    refine ⟨_, rfl, ?_⟩
    show ite (inV (bV bs[n]) [.int 32, .int 9, .int 10] = true) _ _
    rw [blank_in]
    cases cb : VahypBase.isBlank bs[n] with
    | true =>
      rw [if_pos rfl]
      refine ⟨_, rfl, _, _, rfl, rfl, ?_⟩
      refine ⟨bs.length - (n + 1), by omega, n + 1, as, acc, v, rfl, rfl, { I with le := c, few := Nat.le_succ_of_le I.few, eq := ?_ }⟩
      rw [I.eq, hd, lexAt_blank cb]
    | false =>
      rw [if_neg (by decide)]
      refine ⟨_, rfl, _, rfl, _, _, _, _, rfl, rfl, I.same.seq hS, get_bV hb, ?_⟩
      refine ⟨rfl, _, rfl, ?_⟩
      have e35 : decide (V.int (bs[n].toNat : Int) = V.int 35) = (bs[n] == 35) := u8_eq _ 35 (by decide)
      show ite (decide (V.int (bs[n].toNat : Int) = V.int 35) = true) _ _
      rw [e35]
      cases cr : (bs[n] == 35) with
      | true =>
        rw [if_pos rfl]
        refine ⟨_, rfl, _, rfl, a, bs, n, rfl, I.same.seq hS, I.le, ?_⟩
        have e1 : runEnd (· != 10) bs n = n + 1 + ((bs.drop (n + 1)).takeWhile (· != 10)).length := by
          have : bs[n] = 35 := by simpa using cr
          rw [runEnd_yes hb (by rw [this]; rfl)]
          rfl
        have le2 : runEnd (· != 10) bs n ≤ bs.length := runEnd_le _ _ _ I.le
        refine ⟨bs.length - runEnd (· != 10) bs n, by omega, runEnd (· != 10) bs n, as, acc, v, rfl, rfl, { I with le := le2, few := Nat.le_trans I.few (by omega), eq := ?_ }⟩
        rw [I.eq, hd, lexAt_remark cb cr, e1]
        have e2 : (bs.drop (n + 1)).dropWhile (· != 10) = bs.drop (n + 1 + ((bs.drop (n + 1)).takeWhile (· != 10)).length) := by
          rw [dropWhile_drop, List.drop_drop]
        rw [e2]
      | false =>
        rw [if_neg (by decide)]
        refine ⟨_, rfl, _, rfl, a, bs, n, bs[n], bs.drop (n + 1), rfl, I.same.seq hS, hd, fun tk d H2 s2 hd2 => ?_, fun x tk H2 p s2 np ht => ?_⟩
        · exact kE ⟨2, n⟩ (by rw [I.eq, hd, lexAt_none cb cr tk]; rfl) d H2 (I.same.trans s2) hd2
        · have hL2 := s2 _ _ I.lst
          have part : Same (nu H' H2) (del H2 L) := ext_nu.trans (ext_del s2 I.lst)
          have up : Same (del H2 L) (upd H2 L (.lst (as.map V.ref ++ [.ref p]))) := by
            rw [← del_upd (H := H2) (L := L) (o := .lst (as.map V.ref ++ [.ref p]))]
            exact del_le
          have few : as.length < sizeLine := size_small (Nat.le_trans I.few (Nat.le_trans I.le (by omega)))
          refine ⟨_, rfl, .inl ⟨rfl, _, SqL.of hL2⟩, _, rfl, L, _, _, rfl, rfl, hL2, by rw [List.length_map]; exact few, ?_⟩
          obtain ⟨dx, c, h1, h2⟩ := id ht
          refine ⟨_, rfl, _, rfl, p, CT, dx, _, _, rfl, up _ _ (part _ _ h1), OT.cl, OT.no _ (by simp), (lk_past (by decide +kernel)).trans lk_here, _, _, rfl, .inl (SqL.of ((part.trans up) _ _ h2)), ?_⟩
          refine ⟨_, _, rfl, rfl, ?_⟩
          have tp := token_pos tk
          rw [List.length_cons, List.length_drop] at tp
          rw [List.length_map, token_len tk]
          refine ⟨bs.length - (n + x.2), by omega, n + x.2, as ++ [p], acc ++ [⟨n, x.1⟩], some (.ref p), rfl, rfl, ?_⟩
          refine ⟨same_new (I.same.trans s2) I.free, I.free, by rw [upd_same, List.map_append]; rfl, ?_, ?_, by omega, ?_, ?_⟩
          · have x1 : Same (nu H' H2) (del (nu H H2) L) := same_del (ext_widen (fun b e => I.same.free e) nil_same) ((ext_old I.lst).trans rfl)
            exact All2.snoc (ht.same (x1.trans (ext_step fun b o z1 z2 e => (upd_ne z1).trans e))) (I.toks.mono fun _ _ z => z.same (ext_step fun b o z1 z2 e => (upd_ne z1).trans (s2 _ _ e)))
          · intro t mt
            rcases List.mem_append.mp mt with mt | mt
            · exact I.ok t mt
            · rw [List.mem_singleton] at mt
              subst mt
              exact token_ok tk
          · rw [List.length_append]
            have := I.few
            show as.length + 1 ≤ n + x.2
            omega
          · rw [I.eq, hd, lexAt_some cb cr tk, except_map_map, ← hd, List.drop_drop]
            congr 1
            funext l
            rw [List.append_assoc]
            rfl
  · rw [if_neg (by simpa using c)]
    have en : n = bs.length := Nat.le_antisymm I.le (by omega)
    have done : lexAt 0 bs = .ok (acc ++ [⟨n, .last⟩]) := by rw [I.eq, List.drop_eq_nil_of_le (by omega), lexAt_nil]; rfl
    refine ⟨_, rfl, .inl ⟨rfl, _, SqL.of I.lst⟩, _, rfl, _, _, rfl, .inl (I.same.seq hS), (by show 0 ≤ sizeLine; decide), fun l hl => ?_⟩
    intro x dx nx nd ne
    refine ⟨x, dx, l, (bs.map bV).length, rfl, upd_same, fun H2 h2 kp => ⟨rfl, ?_⟩⟩
    have s1 : Same H' (upd H' l (.lst [])) := same_upd hl
    have s2 := same_made nx nd kp
    have s3 := s1.trans s2
    have hL2 := s3 _ _ I.lst
    have few : as.length < sizeLine := size_small (Nat.le_trans I.few (Nat.le_trans I.le (by omega)))
    refine ⟨L, _, _, rfl, rfl, hL2, by rw [List.length_map]; exact few, ?_⟩
    refine ⟨_, rfl, ?_⟩
    have part : Same (nu H' H2) (del H2 L) := ext_nu.trans (ext_del s3 I.lst)
    have up : Same (del H2 L) (upd H2 L (.lst (as.map V.ref ++ [.ref x]))) := by
      rw [← del_upd (H := H2) (L := L) (o := .lst (as.map V.ref ++ [.ref x]))]
      exact del_le
    have ht : TokAt K CT (nu H' H2) x ⟨n, .last⟩ := by
      refine ⟨dx, l, (ext_new (s1.free nx)).trans (h2.trans ?_), (ext_new hl).trans (s2 _ _ upd_same)⟩
      rw [List.length_map, en]
    refine kS _ done _ L (as ++ [x]) (same_new (I.same.trans s3) I.free) I.free (by rw [upd_same, List.map_append]; rfl) ?_ ?_ (fin_snoc (fun t mt => (I.ok t mt).2) rfl)
    · have x1 : Same (nu H' H2) (del (nu H H2) L) := same_del (ext_widen (fun b e => I.same.free e) nil_same) ((ext_old I.lst).trans rfl)
      exact All2.snoc (ht.same ((x1.trans (ext_step fun b o z1 z2 e => (upd_ne z1).trans e)).trans del_le)) (I.toks.mono fun _ _ z => z.same ((ext_step fun b o z1 z2 e => (upd_ne z1).trans (s3 _ _ e)).trans del_le))
    · intro t mt
      rcases List.mem_append.mp mt with mt | mt
      · exact (I.ok t mt).1
      · rw [List.mem_singleton] at mt
        subst mt
        exact trivial
end
end Pw

namespace Pw
open PySem PySem.Spec PyProof.Rows L2
open VahypBase (Bytes)
open Vahypa (Pat Lst hyphened showPat wordOf patOf)
abbrev s_word_init : Stmt := inClass (top 32) 0
abbrev s_word_like : Stmt := inClass (top 32) 1
abbrev s_pat_init : Stmt := inClass (top 33) 0
abbrev s_pat_like : Stmt := inClass (top 33) 1
abbrev s_list_init : Stmt := inClass (top 34) 0
abbrev s_is_word_letters : Stmt := top 35
abbrev s_word_of : Stmt := top 36
abbrev s_pattern_of : Stmt := top 37
abbrev s_row_of : Stmt := top 38
abbrev s_one_form : Stmt := top 39
def nV (n : Nat) : V := .int (n : Int)
section
variable {P : Program} {w : World} {K : PySem.W.Frag} {mg : Str → Option Value} {base : Heap} {CW CP CL : Addr}
/-! ### words, patterns, lists as objects -/
def wordF (c l al : Addr) : List (Str × V) := [("chunk", .ref c), ("letters", .ref l), ("allowed", .ref al)]
def patF (c l ds : Addr) (f e : Bool) : List (Str × V) := [("chunk", .ref c), ("letters", .ref l), ("digits", .ref ds), ("at_front", .bl f), ("at_end", .bl e)]
def WordAt (K : PySem.W.Frag) (CW : Addr) (H : Hp) (a : Addr) (x : Vahypa.Word) : Prop := (WordOk x (hyphened x.x x.cuts) ∧ (hyphened x.x x.cuts).length ≤ 40) ∧ ∃ dx c l al, H a = some (.ins CW dx (wordF c l al)) ∧
  H c = some (.lst ((hyphened x.x x.cuts).map bV)) ∧ H l = some (.lst (x.x.map bV)) ∧ H al = some (.lst (x.cuts.map nV))
def PatAt (K : PySem.W.Frag) (CP : Addr) (H : Hp) (a : Addr) (p : Pat) : Prop := (PatOk p (showPat p) ∧ (showPat p).length ≤ 40) ∧ ∃ dx c l ds, H a = some (.ins CP dx (patF c l ds p.front p.halt_)) ∧
  H c = some (.lst ((showPat p).map bV)) ∧ H l = some (.lst (p.x.map bV)) ∧ H ds = some (.lst (p.levels.map nV))
theorem WordAt.same {H H' : Hp} {a : Addr} {x : Vahypa.Word} (s : Same H H') (h : WordAt K CW H a x) : WordAt K CW H' a x := by
  obtain ⟨k, dx, c, l, al, h1, h2, h3, h4⟩ := h
  exact ⟨k, dx, c, l, al, s _ _ h1, s _ _ h2, s _ _ h3, s _ _ h4⟩
theorem PatAt.same {H H' : Hp} {a : Addr} {p : Pat} (s : Same H H') (h : PatAt K CP H a p) : PatAt K CP H' a p := by
  obtain ⟨k, dx, c, l, ds, h1, h2, h3, h4⟩ := h
  exact ⟨k, dx, c, l, ds, s _ _ h1, s _ _ h2, s _ _ h3, s _ _ h4⟩
/-! ### the classes -/
def spWordInit (CW : Addr) : Sp := fun vs H Q _ => ∃ (x dx c l al : Addr), vs = [.ref x, .ref c, .ref l, .ref al] ∧ H x = some (.ins CW dx []) ∧ ∀ H' : Hp, H' x = some (.ins CW dx (wordF c l al)) → (∀ b, b ≠ x → H' b = H b) → Q .non H'
theorem sc_word_init : FnScope ["self", "chunk", "letters", "allowed"] ["self", "chunk", "letters", "allowed"] (defScope s_word_init) := ⟨rfl, rfl, rfl, by decide +kernel, rfl, by decide +kernel, by decide +kernel⟩
theorem ok_word_init {fI f : Addr} {fd : FuncData} (F : Fun K "__init__" "Word.__init__" s_word_init f fd) (T : OwnC K mg "Word" CW fI ["chunk", "letters", "allowed"]) : FnOk P w K mg base CX0 1 f fd ["self", "chunk", "letters", "allowed"] (spWordInit CW) := by
  refine F.ok sc_word_init (fun vs H Q E h => ?_) (fun cdv A outer s H vs Q E hr h => ?_)
  · obtain ⟨x, dx, c, l, al, rfl, _⟩ := h
    rfl
  obtain ⟨x, dx, c, l, al, rfl, hx, k⟩ := h
  refine ⟨_, pss_cons (ps_fld (pv 0) (pv 1) rfl) (pss_cons (ps_fld (pv 0) (pv 2) rfl) (pss_one (ps_fld (pv 0) (pv 3) rfl))), ?_⟩
  refine ⟨_, rfl, _, rfl, x, CW, dx, [], rfl, hx, T.cl, T.no _ (by simp), (by show 0 < 1000; decide), ?_⟩
  refine ⟨_, rfl, _, rfl, x, CW, dx, _, rfl, upd_same, T.cl, T.no _ (by simp), (by show 1 < 1000; decide), ?_⟩
  refine ⟨_, rfl, _, rfl, x, CW, dx, _, rfl, upd_same, T.cl, T.no _ (by simp), (by show 2 < 1000; decide), ?_⟩
  refine k _ ?_ fun b hb => by rw [upd_ne hb, upd_ne hb, upd_ne hb]
  rw [upd_same]
  rfl
/-- likeness of a word: its letters -/
def spWordLike (CW : Addr) : Sp := fun vs H Q _ => ∃ (x dx c l al : Addr), vs = [.ref x] ∧ H x = some (.ins CW dx (wordF c l al)) ∧ Q (.ref l) H
theorem sc_word_like : FnScope ["self"] ["self"] (defScope s_word_like) := ⟨rfl, rfl, rfl, by decide +kernel, rfl, by decide +kernel, by decide +kernel⟩
theorem ok_word_like {fI f : Addr} {fd : FuncData} (F : Fun K "likeness" "Word.likeness" s_word_like f fd) (T : OwnC K mg "Word" CW fI ["chunk", "letters", "allowed"]) : FnOk P w K mg base CX0 1 f fd ["self"] (spWordLike CW) := by
  refine F.ok sc_word_like (fun vs H Q E h => ?_) (fun cdv A outer s H vs Q E hr h => ?_)
  · obtain ⟨x, dx, c, l, al, rfl, _⟩ := h
    rfl
  obtain ⟨x, dx, c, l, al, rfl, hx, k⟩ := h
  exact ⟨_, pss_one (ps_ret (pe_fld (pv 0) rfl)), _, rfl, x, CW, dx, _, _, rfl, hx, T.cl, T.no _ (by simp), (lk_past (by decide +kernel)).trans lk_here, k⟩
def spPatInit (K : PySem.W.Frag) (CP : Addr) : Sp := fun vs H Q _ => ∃ (x dx c l ds t : Addr) (f e : Bool), vs = [.ref x, .ref c, .ref l, .ref ds, .ref t] ∧ SqT K H t [.bl f, .bl e] ∧ H x = some (.ins CP dx []) ∧
  ∀ H' : Hp, H' x = some (.ins CP dx (patF c l ds f e)) → (∀ b, b ≠ x → H' b = H b) → Q .non H'
theorem sc_pat_init : FnScope ["self", "chunk", "letters", "digits", "points"] ["self", "chunk", "letters", "digits", "points"] (defScope s_pat_init) := ⟨rfl, rfl, rfl, by decide +kernel, rfl, by decide +kernel, by decide +kernel⟩
theorem sqT_but {H H' : Hp} {t x C dx : Addr} {fs : List (Str × V)} {vs : List V} (hx : H x = some (.ins C dx fs)) (k : ∀ b, b ≠ x → H' b = H b) (h : SqT K H t vs) : SqT K H' t vs := by
  rcases h with (h | ⟨o, h⟩) | h
  · exact .inl (.inl ((k t (fun z => by rw [z, hx] at h; cases h)).trans h))
  · exact .inl (.inr ⟨o, (k t (fun z => by rw [z, hx] at h; cases h)).trans h⟩)
  · exact .inr h
theorem ok_pat_init {fI f : Addr} {fd : FuncData} (F : Fun K "__init__" "Pattern.__init__" s_pat_init f fd) (T : OwnC K mg "Pattern" CP fI ["chunk", "letters", "digits", "at_front", "at_end"]) :
    FnOk P w K mg base CX0 1 f fd ["self", "chunk", "letters", "digits", "points"] (spPatInit K CP) := by
  refine F.ok sc_pat_init (fun vs H Q E h => ?_) (fun cdv A outer s H vs Q E hr h => ?_)
  · obtain ⟨x, dx, c, l, ds, t, f, e, rfl, _⟩ := h
    rfl
  obtain ⟨x, dx, c, l, ds, t, f, e, rfl, ht, hx, k⟩ := h
  refine ⟨_, pss_cons (ps_fld (pv 0) (pv 1) rfl) (pss_cons (ps_fld (pv 0) (pv 2) rfl) (pss_cons (ps_fld (pv 0) (pv 3) rfl)
    (pss_cons (ps_fld (pv 0) (pe_ix ix_tup (pv 4) pe_int (fun _ _ => rfl)) rfl) (pss_one (ps_fld (pv 0) (pe_ix ix_tup (pv 4) pe_int (fun _ _ => rfl)) rfl))))), ?_⟩
  refine ⟨_, rfl, _, rfl, x, CP, dx, [], rfl, hx, T.cl, T.no _ (by simp), (by show 0 < 1000; decide), ?_⟩
  refine ⟨_, rfl, _, rfl, x, CP, dx, _, rfl, upd_same, T.cl, T.no _ (by simp), (by show 1 < 1000; decide), ?_⟩
  refine ⟨_, rfl, _, rfl, x, CP, dx, _, rfl, upd_same, T.cl, T.no _ (by simp), (by show 2 < 1000; decide), ?_⟩
  have t3 := fun (H3 : Hp) (z : ∀ b, b ≠ x → H3 b = H b) => sqT_but (K := K) hx z ht
  refine ⟨_, rfl, t, _, _, _, rfl, rfl, t3 _ (fun b hb => by rw [upd_ne hb, upd_ne hb, upd_ne hb]), rfl, ?_⟩
  refine ⟨_, rfl, x, CP, dx, _, rfl, upd_same, T.cl, T.no _ (by simp), (by show 3 < 1000; decide), ?_⟩
  refine ⟨_, rfl, t, _, _, _, rfl, rfl, t3 _ (fun b hb => by rw [upd_ne hb, upd_ne hb, upd_ne hb, upd_ne hb]), rfl, ?_⟩
  refine ⟨_, rfl, x, CP, dx, _, rfl, upd_same, T.cl, T.no _ (by simp), (by show 4 < 1000; decide), ?_⟩
  refine k _ ?_ fun b hb => by rw [upd_ne hb, upd_ne hb, upd_ne hb, upd_ne hb, upd_ne hb]
  rw [upd_same]
  rfl
/-- likeness of a pattern: a new tuple of its letters and its points -/
def spPatLike (CP : Addr) : Sp := fun vs H Q _ => ∃ (x dx c l ds : Addr) (f e : Bool), vs = [.ref x] ∧ H x = some (.ins CP dx (patF c l ds f e)) ∧ ∀ H' p, Same H H' → H p = none → H' p = some (.tup [.ref l, .bl f, .bl e]) → Q (.ref p) H'
theorem sc_pat_like : FnScope ["self"] ["self"] (defScope s_pat_like) := ⟨rfl, rfl, rfl, by decide +kernel, rfl, by decide +kernel, by decide +kernel⟩
theorem ok_pat_like {fI f : Addr} {fd : FuncData} (F : Fun K "likeness" "Pattern.likeness" s_pat_like f fd) (T : OwnC K mg "Pattern" CP fI ["chunk", "letters", "digits", "at_front", "at_end"]) : FnOk P w K mg base CX0 1 f fd ["self"] (spPatLike CP) := by
  refine F.ok sc_pat_like (fun vs H Q E h => ?_) (fun cdv A outer s H vs Q E hr h => ?_)
  · obtain ⟨x, dx, c, l, ds, f, e, rfl, _⟩ := h
    rfl
  obtain ⟨x, dx, c, l, ds, f, e, rfl, hx, k⟩ := h
  refine ⟨_, pss_one (ps_ret (pe_tup (pa_cons (pe_fld (pv 0) rfl) (pa_cons (pe_fld (pv 0) rfl) (pa_cons (pe_fld (pv 0) rfl) pa_nil))))), ?_⟩
  refine ⟨_, rfl, x, CP, dx, _, _, rfl, hx, T.cl, T.no _ (by simp), (lk_past (by decide +kernel)).trans lk_here, ?_⟩
  refine ⟨_, rfl, x, CP, dx, _, _, rfl, hx, T.cl, T.no _ (by simp), (lk_past (by decide +kernel)).trans ((lk_past (by decide +kernel)).trans ((lk_past (by decide +kernel)).trans lk_here)), ?_⟩
  refine ⟨_, rfl, x, CP, dx, _, _, rfl, hx, T.cl, T.no _ (by simp), (lk_past (by decide +kernel)).trans ((lk_past (by decide +kernel)).trans ((lk_past (by decide +kernel)).trans ((lk_past (by decide +kernel)).trans lk_here))), ?_⟩
  exact ⟨(by show 3 ≤ sizeLine; decide), fun p hp => k _ p (same_upd hp) hp upd_same⟩
/-! ### the list -/
def listF (l r : Nat) (ws ps : Addr) : List (Str × V) := [("left", .int (l : Nat)), ("right", .int (r : Nat)), ("words", .ref ws), ("patterns", .ref ps)]
def ListAt (K : PySem.W.Frag) (CL CW CP : Addr) (H : Hp) (a : Addr) (s : Lst) : Prop := ∃ dx wl pl was pas, H a = some (.ins CL dx (listF s.l s.r wl pl)) ∧ H wl = some (.lst (was.map V.ref)) ∧ H pl = some (.lst (pas.map V.ref)) ∧
  All2 (WordAt K CW H) was s.words ∧ All2 (PatAt K CP H) pas s.pats ∧ s.l ≤ 5 ∧ s.r ≤ 5 ∧ s.words.length ≤ 24 ∧ s.pats.length ≤ 40
def spListInit (K : PySem.W.Frag) (CL : Addr) : Sp := fun vs H Q _ => ∃ (x dx t ws ps : Addr) (l r : Nat), vs = [.ref x, .ref t, .ref ws, .ref ps] ∧ SqT K H t [.int (l : Nat), .int (r : Nat)] ∧ H x = some (.ins CL dx []) ∧
  ∀ H' : Hp, H' x = some (.ins CL dx (listF l r ws ps)) → (∀ b, b ≠ x → H' b = H b) → Q .non H'
theorem sc_list_init : FnScope ["self", "margins", "words", "patterns"] ["self", "margins", "words", "patterns"] (defScope s_list_init) := ⟨rfl, rfl, rfl, by decide +kernel, rfl, by decide +kernel, by decide +kernel⟩
theorem ok_list_init {fI f : Addr} {fd : FuncData} (F : Fun K "__init__" "WordList.__init__" s_list_init f fd) (T : OwnC K mg "WordList" CL fI ["left", "right", "words", "patterns"]) :
    FnOk P w K mg base CX0 1 f fd ["self", "margins", "words", "patterns"] (spListInit K CL) := by
  refine F.ok sc_list_init (fun vs H Q E h => ?_) (fun cdv A outer s H vs Q E hr h => ?_)
  · obtain ⟨x, dx, t, ws, ps, l, r, rfl, _⟩ := h
    rfl
  obtain ⟨x, dx, t, ws, ps, l, r, rfl, ht, hx, k⟩ := h
  refine ⟨_, pss_cons (ps_fld (pv 0) (pe_ix ix_tup (pv 1) pe_int (fun _ _ => rfl)) rfl) (pss_cons (ps_fld (pv 0) (pe_ix ix_tup (pv 1) pe_int (fun _ _ => rfl)) rfl) (pss_cons (ps_fld (pv 0) (pv 2) rfl) (pss_one (ps_fld (pv 0) (pv 3) rfl)))), ?_⟩
  have t3 := fun (H3 : Hp) (z : ∀ b, b ≠ x → H3 b = H b) => sqT_but (K := K) hx z ht
  refine ⟨_, rfl, t, _, _, _, rfl, rfl, t3 _ (fun b hb => rfl), rfl, ?_⟩
  refine ⟨_, rfl, x, CL, dx, [], rfl, hx, T.cl, T.no _ (by simp), (by show 0 < 1000; decide), ?_⟩
  refine ⟨_, rfl, t, _, _, _, rfl, rfl, t3 _ (fun b hb => by rw [upd_ne hb]), rfl, ?_⟩
  refine ⟨_, rfl, x, CL, dx, _, rfl, upd_same, T.cl, T.no _ (by simp), (by show 1 < 1000; decide), ?_⟩
  refine ⟨_, rfl, _, rfl, x, CL, dx, _, rfl, upd_same, T.cl, T.no _ (by simp), (by show 2 < 1000; decide), ?_⟩
  refine ⟨_, rfl, _, rfl, x, CL, dx, _, rfl, upd_same, T.cl, T.no _ (by simp), (by show 3 < 1000; decide), ?_⟩
  refine k _ ?_ fun b hb => by rw [upd_ne hb, upd_ne hb, upd_ne hb, upd_ne hb]
  rw [upd_same]
  rfl
end
end Pw

namespace Pw
open PySem PySem.Spec PyProof.Rows L2
open VahypBase (Bytes)
open Vahypa (Pat Lst hyphened showPat wordOf patOf)
section
variable {P : Program} {w : World} {K : PySem.W.Frag} {mg : Str → Option Value} {base : Heap} {CW CP CL : Addr}
structure LstC (mg : Str → Option Value) : Prop where
  cFEW : Con mg "FEWEST_WORD_LETTERS" (.int 2)
  cMOST : Con mg "MOST_WORD_LETTERS" (.int 16)
  cHYPHEN : Con mg "HYPHEN" (.int 45)
  cPOINT : Con mg "POINT" (.int 46)
  cZERO : Con mg "ZERO" (.int 48)
  cNINE : Con mg "NINE" (.int 57)
  cMOSTP : Con mg "MOST_PATTERN_LETTERS" (.int 6)
  nlen : mg "len" = none
  nall : mg "all" = none
  nmax : mg "max" = none
/-! ### is_word_letters -/
def spIsWordLetters (K : PySem.W.Frag) : Sp := fun vs H Q _ => ∃ (a : Addr) (bs : Bytes), vs = [.ref a] ∧ SqL K H a (bs.map bV) ∧ ∀ H', Same H H' → Q (.bl (isLetters bs)) H'
theorem sc_is_word_letters : FnScope ["letters", "byte"] ["letters"] (defScope s_is_word_letters) := ⟨rfl, rfl, rfl, by decide +kernel, rfl, by decide +kernel, by decide +kernel⟩
theorem ok_is_word_letters {f : Addr} {fd : FuncData} (F : Fun K "is_word_letters" "is_word_letters" s_is_word_letters f fd) (T : LstC mg) (GL : C0 P w K mg base 1 "is_letter" spIsLetter) : FnOk P w K mg base CX0 2 f fd ["letters"] (spIsWordLetters K) := by
  refine F.ok sc_is_word_letters (fun vs H Q E h => ?_) (fun cdv A outer s H vs Q E hr h => ?_)
  · obtain ⟨a, bs, rfl, _⟩ := h
    rfl
  obtain ⟨a, bs, rfl, hS, k⟩ := h
  refine ⟨_, pss_cons (ps_if (pt_not (pt_chain op_le op_le (pe_con1 T.cFEW) (pe_callB call_len_seq (by rfl) T.nlen PySem.boot_len (pa_cons (pv 0) pa_nil)) (pe_con1 T.cMOST))) (pss_one (ps_ret pe_bl)) pss_nil)
    (pss_one (ps_ret (pe_callB (cr_all rfl) (by rfl) T.nall (by decide +kernel) (pa_cons (pe_lc (own := [("byte", 1)]) (g := gName 1) (tt := tYes) rfl sc_is_word_letters.nd (pi_list (pv 0))
      (blkOk_by (N := ["letters", "byte"]) (sc := defScope s_is_word_letters) (by decide +kernel)) (fun _ _ _ _ _ => pg_name (i := 1) sc_is_word_letters.nd rfl (Or.inl rfl)) (fun _ _ _ _ _ => pts_nil)
      (fun _ _ _ _ _ => pe_c0 GL hr (Nat.le_refl _) (pa_cons (pv 1) pa_nil))) pa_nil)))), ?_⟩
  refine ⟨_, rfl, _, _, rfl, .inl hS, ?_⟩
  refine ⟨_, _, rfl, rfl, _, rfl, ?_⟩
  rw [List.length_map]
  show ite _ _ _
  -- the end where the lengths are as asked
  have e0 : isLetters bs = (decide (2 ≤ bs.length ∧ bs.length ≤ 16) && bs.all VahypBase.isLetter) := rfl
  by_cases c1 : 2 ≤ bs.length
  · rw [if_pos (decide_eq_true (by omega))]
    refine ⟨_, _, rfl, rfl, _, rfl, ?_⟩
    show ite ((!decide ((bs.length : Int) ≤ 16)) = true) _ _
    by_cases c2 : bs.length ≤ 16
    · rw [if_neg (by rw [decide_eq_true (by omega)]; decide)]
      refine ⟨_, rfl, a, rfl, ⟨_, hS⟩, fun D hD => ?_⟩
      refine lc_it walk_list (fun i H' => Same H H' ∧ H' D = some (.lst ((bs.take i).map fun u => V.bl (VahypBase.isLetter u)))) ⟨same_upd hD, upd_same⟩ (fun _ _ _ z => z.1.seq hS) ?_ ?_
      · rintro i x H1 H2 hi ⟨sm, hd⟩ ⟨rfl, hx⟩
        obtain ⟨u, hu, rfl⟩ := map_get hx
        refine ⟨rfl, _, rfl, (u.toNat : Int), rfl, _, hd, size_small (Nat.le_trans map_take_len (by omega)), same_new sm hD, ?_⟩
        rw [upd_same, isLetter_int]
        exact congrArg (fun q => some (HO.lst q)) (map_more (f := fun u => V.bl (VahypBase.isLetter u)) hu)
      · rintro H2 ⟨sm, hd⟩
        rw [List.take_of_length_le (by rw [List.length_map]; exact Nat.le_refl _)] at hd
        refine ⟨D, bs.map VahypBase.isLetter, rfl, SqL.of (by rw [hd, List.map_map]; rfl), ?_⟩
        have e1 : (bs.map VahypBase.isLetter).all id = isLetters bs := by
          rw [e0, List.all_map]
          have : decide (2 ≤ bs.length ∧ bs.length ≤ 16) = true := decide_eq_true ⟨c1, c2⟩
          rw [this, Bool.true_and]
          rfl
        rw [e1]
        exact k H2 sm
    · rw [if_pos (by rw [decide_eq_false (by omega)]; rfl)]
      have e1 : isLetters bs = false := by
        rw [e0, decide_eq_false (by omega), Bool.false_and]
      rw [e1] at k
      exact k H (Same.refl H)
  · rw [if_neg (by intro z; have := of_decide_eq_true z; omega)]
    refine ⟨_, rfl, ?_⟩
    show ite (true = true) _ _
    rw [if_pos rfl]
    have e1 : isLetters bs = false := by
      rw [e0, decide_eq_false (by omega), Bool.false_and]
    rw [e1] at k
    exact k H (Same.refl H)
/-! ### word_of -/
theorem flat_nats : ∀ cs : List Nat, (cs.map nV).all flatV = true
  | [] => rfl
  | _ :: r => flat_nats r
theorem inV_nat (n : Nat) : ∀ cs : List Nat, inV (nV n) (cs.map nV) = decide (n ∈ cs)
  | [] => rfl
  | c :: r => by
    have ih := inV_nat n r
    show (((c : Int) == (n : Int)) || inV (nV n) (r.map nV)) = _
    rw [ih, Bool.eq_iff_iff, Bool.or_eq_true, beq_iff_eq, decide_eq_true_eq, decide_eq_true_eq, List.mem_cons]
    constructor
    · rintro (h | h)
      · exact .inl (by omega)
      · exact .inr h
    · rintro (h | h)
      · exact .inl (by omega)
      · exact .inr h
def spWordOf (K : PySem.W.Frag) (CW : Addr) : Sp := fun vs H Q _ => ∃ (c : Addr) (bs : Bytes), vs = [.ref c] ∧ SqL K H c (bs.map bV) ∧ bs.length ≤ 40 ∧
  (wordOf bs = none → ∀ H', Same H H' → Q .non H') ∧
  (∀ x, wordOf bs = some x → ∀ H' p, Same H H' → H p = none → (∀ G, Same G H → G c = some (.lst (bs.map bV)) → WordAt K CW (ext G H H') p x) → Q (.ref p) H')
theorem sc_word_of : FnScope ["chunk", "letters", "allowed", "byte"] ["chunk"] (defScope s_word_of) := ⟨rfl, rfl, rfl, by decide +kernel, rfl, by decide +kernel, by decide +kernel⟩
structure Wording (H H' : Hp) (L1 L2 : Addr) (bs x : Bytes) (cs : List Nat) (i : Nat) : Prop where
  same : Same H H'
  n1 : H L1 = none
  n2 : H L2 = none
  ne : L1 ≠ L2
  l1 : H' L1 = some (.lst (x.map bV))
  l2 : H' L2 = some (.lst (cs.map nV))
  few : x.length + cs.length ≤ i
  eq : wFrom ([], []) bs = wFrom (x, cs) (bs.drop i)
theorem ok_word_of {f : Addr} {fd : FuncData} (F : Fun K "word_of" "word_of" s_word_of f fd) (T : LstC mg) (GI : C0 P w K mg base 2 "is_word_letters" (spIsWordLetters K)) (GW : M0 P w K mg base 1 "Word" CW (spWordInit CW)) :
    FnOk P w K mg base CX0 3 f fd ["chunk"] (spWordOf K CW) := by
  refine F.ok sc_word_of (fun vs H Q E h => ?_) (fun cdv A outer s H vs Q E hr h => ?_)
  · obtain ⟨a, bs, rfl, _⟩ := h
    rfl
  obtain ⟨c, bs, rfl, hS, hz, kN, kS⟩ := h
  rw [wordOf_go] at kN
  have kS' : ∀ x, wGo ([], []) bs = some x → _ := fun x e => kS x (by rw [wordOf_go]; exact e)
  refine ⟨_, pss_cons (ps_set (i := 1) sc_word_of.nd rfl (Or.inl rfl) (pe_lst pa_nil))
    (pss_cons (ps_set (i := 2) sc_word_of.nd rfl (Or.inl rfl) (pe_lst pa_nil))
    (pss_cons (ps_for PassesOwn.never rfl (pi_list (pv 0)) (pg_name (i := 3) sc_word_of.nd rfl (Or.inl rfl))
      (pss_one (ps_if (pt_cmpR op_ne (pv 3) (pe_con1 T.cHYPHEN) (nomark _))
        (pss_one (ps_expr (pe_bm PySem.F.plainAttrs_list PySem.F.slot_list_append PySem.F.type_list_append mt_append (pv 1) (pa_cons (pv 3) pa_nil))))
        (pss_one (ps_if (pt_cmpR op_in_seq (pe_callB call_len_seq (by rfl) T.nlen PySem.boot_len (pa_cons (pv 1) pa_nil)) (pv 2) (by rfl)) (pss_one (ps_ret pe_non))
          (pss_one (ps_expr (pe_bm PySem.F.plainAttrs_list PySem.F.slot_list_append PySem.F.type_list_append mt_append (pv 2) (pa_cons (pe_callB call_len_seq (by rfl) T.nlen PySem.boot_len (pa_cons (pv 1) pa_nil)) pa_nil)))))))))
    (pss_cons (ps_if (PW.pt (pw_or (pt_not (pt_val (pe_c0 GI hr (Nat.le_refl _) (pa_cons (pv 1) pa_nil)))) (pw_or (pt_cmpR op_in_seq pe_int (pv 2) (by rfl))
        (pw_or1 (pt_cmpR op_in_seq (pe_callB call_len_seq (by rfl) T.nlen PySem.boot_len (pa_cons (pv 1) pa_nil)) (pv 2) (by rfl)))))) (pss_one (ps_ret pe_non)) pss_nil)
    (pss_one (ps_ret (pe_m0 GW hr (Nat.le_refl _) (pa_cons (pv 0) (pa_cons (pv 1) (pa_cons (pv 2) pa_nil))))))))), ?_⟩
  refine ⟨(by show 0 ≤ sizeLine; decide), fun L1 h1 => ⟨(by show 0 ≤ sizeLine; decide), fun L2 h2 => ?_⟩⟩
  have s2 : Same H (upd (upd H L1 (.lst [])) L2 (.lst [])) := same_new (same_upd h1) ((same_upd h1).free h2)
  have ne : L1 ≠ L2 := fun z => by rw [z, upd_same] at h2; cases h2
  refine ⟨_, rfl, c, rfl, ⟨_, s2.seq hS⟩, for_list (K := K) (a := c) (xs := bs.map bV) (fun i σ H' => ∃ (x : Bytes) (cs : List Nat) (v : Option V), σ = [some (.ref c), some (.ref L1), some (.ref L2), v] ∧ Wording H H' L1 L2 bs x cs i)
    ⟨[], [], none, rfl, s2, h1, (same_upd h1).free h2, ne, (upd_ne ne).trans upd_same, upd_same, Nat.le_refl _, rfl⟩ (fun i σ H' _ ⟨_, _, _, _, I⟩ => I.same.seq hS) ?_ ?_⟩
  · rintro i y σ H' hi ⟨x, cs, v, rfl, I⟩
    obtain ⟨u, hu, rfl⟩ := map_get hi
    have hd := drop_get hu
    have ilt : i < bs.length := (List.getElem?_eq_some_iff.mp hu).1
    refine ⟨_, rfl, rfl, _, rfl, ?_⟩
    have e45 : decide (V.int (u.toNat : Int) = V.int 45) = (u == 45) := u8_eq u 45 (by decide)
    show ite ((!decide (V.int (u.toNat : Int) = V.int 45)) = true) _ _
    rw [e45]
    by_cases c45 : u = 45
    · subst c45
      rw [if_neg (by decide)]
      refine ⟨_, rfl, _, _, rfl, .inl (SqL.of I.l1), ?_⟩
      refine ⟨_, rfl, L2, _, rfl, .inl (SqL.of I.l2), rfl, flat_nats cs, ?_⟩
      refine ⟨_, rfl, ?_⟩
      rw [List.length_map]
      show ite (inV (nV x.length) (cs.map nV) = true) _ _
      rw [inV_nat]
      by_cases cm : x.length ∈ cs
      · rw [if_pos (decide_eq_true cm)]
        refine kN ?_ H' I.same
        unfold wGo
        rw [I.eq, hd, wFrom, if_neg (by simp), if_pos cm]
        rfl
      · rw [if_neg (by simpa using cm)]
        have few := I.few
        refine ⟨_, rfl, .inl ⟨rfl, _, SqL.of I.l2⟩, _, rfl, _, _, rfl, .inl (SqL.of I.l1), L2, _, _, rfl, rfl, I.l2, by rw [List.length_map]; exact size_small (by omega), ?_⟩
        refine ⟨x, cs ++ [x.length], some (bV 45), rfl, { I with same := same_new I.same I.n2, l1 := (upd_ne I.ne).trans I.l1, l2 := ?_, few := by simp; omega, eq := ?_ }⟩
        · rw [upd_same, List.length_map, List.map_append]
          rfl
        · rw [I.eq, hd, wFrom, if_neg (by simp), if_neg cm]
    · rw [if_pos (by simp [c45])]
      have few := I.few
      refine ⟨_, rfl, .inl ⟨rfl, _, SqL.of I.l1⟩, _, rfl, L1, _, _, rfl, rfl, I.l1, by rw [List.length_map]; exact size_small (by omega), ?_⟩
      refine ⟨x ++ [u], cs, some (bV u), rfl, { I with same := same_new I.same I.n1, l1 := ?_, l2 := (upd_ne (Ne.symm I.ne)).trans I.l2, few := by simp; omega, eq := ?_ }⟩
      · rw [upd_same, List.map_append]
        rfl
      · rw [I.eq, hd, wFrom, if_pos c45]
  · rintro σ H' ⟨x, cs, v, rfl, I⟩
    have eqE : wGo ([], []) bs = wEnd (x, cs) := by
      unfold wGo
      rw [I.eq, List.length_map, List.drop_length]
      rfl
    refine ⟨_, rfl, L1, x, rfl, SqL.of I.l1, fun H2 sm => ⟨_, rfl, ?_⟩⟩
    show ite ((!isLetters x) = true) _ _
    -- the three tests
    have bad : (isLetters x = false ∨ 0 ∈ cs ∨ x.length ∈ cs) → wGo ([], []) bs = none := fun z => by
      rw [eqE]
      unfold wEnd
      rw [if_pos]
      rcases z with z | z | z <;> simp [z]
    have i1 := sm _ _ I.l1
    have i2 := sm _ _ I.l2
    have sH := I.same.trans sm
    cases c1 : isLetters x with
    | false =>
      rw [if_pos (by rfl)]
      show ite (true = true) _ _
      rw [if_pos rfl]
      exact kN (bad (.inl c1)) H2 sH
    | true =>
      rw [if_neg (by decide)]
      refine ⟨_, rfl, L2, _, rfl, .inl (SqL.of i2), rfl, flat_nats cs, ?_⟩
      refine ⟨_, rfl, ?_⟩
      show ite (inV (nV 0) (cs.map nV) = true) _ _
      rw [inV_nat]
      by_cases c2 : 0 ∈ cs
      · rw [if_pos (decide_eq_true c2)]
        show ite (true = true) _ _
        rw [if_pos rfl]
        exact kN (bad (.inr (.inl c2))) H2 sH
      · rw [if_neg (by simpa using c2)]
        refine ⟨_, rfl, _, _, rfl, .inl (SqL.of i1), _, rfl, L2, _, rfl, .inl (SqL.of i2), rfl, flat_nats cs, ?_⟩
        refine ⟨_, rfl, ?_⟩
        rw [List.length_map]
        show ite (inV (nV x.length) (cs.map nV) = true) _ _
        rw [inV_nat]
        by_cases c3 : x.length ∈ cs
        · rw [if_pos (decide_eq_true c3)]
          exact kN (bad (.inr (.inr c3))) H2 sH
        · rw [if_neg (by simpa using c3)]
          have good : wGo ([], []) bs = some ⟨x, cs⟩ := by
            rw [eqE]
            unfold wEnd
            rw [if_neg]
            simp [c1, c2, c3]
          refine ⟨_, rfl, _, rfl, _, rfl, ?_⟩
          intro p dx np nd ne
          refine ⟨p, dx, c, L1, L2, rfl, upd_same, fun H3 h3 kp => ⟨rfl, ?_⟩⟩
          have s3 := same_made np nd kp
          refine kS' _ good H3 p (sH.trans s3) (sH.free np) fun G sG hc => ?_
          have wo := wordOf_ok (b := bs) (w := ⟨x, cs⟩) (by rw [wordOf_go]; exact good)
          have eG : Same G (ext G H H3) := ext_l sG
          have fm : hyphened x cs = bs := wo.form
          refine ⟨⟨⟨wo.letters, wo.len, wo.cuts, wo.nodup, rfl⟩, by show (hyphened x cs).length ≤ 40; rw [fm]; exact hz⟩, dx, c, L1, L2, (ext_new (sH.free np)).trans h3, ?_, ?_, ?_⟩
          · show ext G H H3 c = some (.lst ((hyphened x cs).map bV))
            rw [fm]
            exact eG _ _ hc
          · exact (ext_new I.n1).trans (s3 _ _ i1)
          · exact (ext_new I.n2).trans (s3 _ _ i2)
end
end Pw

namespace Pw
open PySem PySem.Spec PyProof.Rows L2
open VahypBase (Bytes)
open Vahypa (Pat Lst hyphened showPat wordOf patOf)
section
variable {P : Program} {w : World} {K : PySem.W.Frag} {mg : Str → Option Value} {base : Heap} {CW CP CL : Addr}
def spPatternOf (K : PySem.W.Frag) (CP : Addr) : Sp := fun vs H Q _ => ∃ (c : Addr) (bs : Bytes), vs = [.ref c] ∧ SqL K H c (bs.map bV) ∧ bs ≠ [] ∧ bs.length ≤ 40 ∧
  (patOf bs = none → ∀ H', Same H H' → Q .non H') ∧
  (∀ x, patOf bs = some x → ∀ H' p, Same H H' → H p = none → (∀ G, Same G H → G c = some (.lst (bs.map bV)) → PatAt K CP (ext G H H') p x) → Q (.ref p) H')
theorem sc_pattern_of : FnScope ["chunk", "at_front", "at_end", "start", "end", "letters", "digits", "byte"] ["chunk"] (defScope s_pattern_of) := ⟨rfl, rfl, rfl, by decide +kernel, rfl, by decide +kernel, by decide +kernel⟩
structure Patting (H H' : Hp) (L1 L2 M : Addr) (mid x : Bytes) (vs : List Nat) (v : Nat) (i : Nat) : Prop where
  same : Same H H'
  n1 : H L1 = none
  n2 : H L2 = none
  ne : L1 ≠ L2
  m1 : M ≠ L1
  m2 : M ≠ L2
  lm : H' M = some (.lst (mid.map bV))
  l1 : H' L1 = some (.lst (x.map bV))
  l2 : H' L2 = some (.lst ((vs ++ [v]).map nV))
  len : vs.length = x.length
  few : x.length ≤ i
  eq : pFrom [] [] 0 mid = pFrom x vs v (mid.drop i)
theorem last_digit (vs : List Nat) (v : Nat) : atI ((vs ++ [v]).map nV) (-1) = some (nV v) := by
  rw [List.map_append]
  exact atI_last _ _
theorem set_last (vs : List Nat) (v u : Nat) : ixN ((vs ++ [v]).map nV).length (-1) = some vs.length ∧ ((vs ++ [v]).map nV).set vs.length (nV u) = (vs ++ [u]).map nV := by
  constructor
  · unfold ixN
    rw [if_neg (by decide), if_pos (by simp; omega)]
    simp
    omega
  · rw [List.map_append, List.map_append]
    rw [List.set_append_right _ _ (by simp)]
    simp
theorem first_byte {bs : Bytes} (h : bs ≠ []) : ∃ b, atI (bs.map bV) ((0 : Nat) : Int) = some (bV b) ∧ bs.head? = some b := by
  cases bs with
  | nil => exact absurd rfl h
  | cons b r => exact ⟨b, atI_nat rfl, rfl⟩
theorem last_byte {bs : Bytes} (h : bs ≠ []) : ∃ b, atI (bs.map bV) (-1) = some (bV b) ∧ bs.getLast? = some b := by
  have : bs.dropLast ++ [bs.getLast h] = bs := List.dropLast_concat_getLast h
  refine ⟨bs.getLast h, ?_, List.getLast?_eq_some_getLast h⟩
  conv => lhs; rw [← this, List.map_append]
  exact atI_last _ _
theorem sel {c : Bool} {ta tb : TE} {σ : L2.St} {H : Hp} {Q : VK} {a b : V} (v : V) (hv : v = if c = true then a else b) (ha : Q a H → ta σ H Q) (hb : Q b H → tb σ H Q) (h : Q v H) : if c = true then ta σ H Q else tb σ H Q := by
  subst hv
  cases c with
  | true => exact ha h
  | false => exact hb h
theorem ok_pattern_of {f : Addr} {fd : FuncData} (F : Fun K "pattern_of" "pattern_of" s_pattern_of f fd) (T : LstC mg) (GL : C0 P w K mg base 1 "is_letter" spIsLetter) (GP : M0 P w K mg base 1 "Pattern" CP (spPatInit K CP)) :
    FnOk P w K mg base CX0 3 f fd ["chunk"] (spPatternOf K CP) := by
  refine F.ok sc_pattern_of (fun vs H Q E h => ?_) (fun cdv A outer s H vs Q E hr h => ?_)
  · obtain ⟨a, bs, rfl, _⟩ := h
    rfl
  obtain ⟨c, bs, rfl, hS, hne, hz, kN, kS⟩ := h
  rw [patOf_go bs hne] at kN
  have kS' : ∀ x, pGo bs = some x → _ := fun x e => kS x (by rw [patOf_go bs hne]; exact e)
  refine ⟨_, pss_cons (ps_set (i := 1) sc_pattern_of.nd rfl (Or.inl rfl) (pe_cmpR op_eq (pe_ix ix_list (pv 0) pe_int (fun _ _ => rfl)) (pe_con1 T.cPOINT) (nomark _)))
    (pss_cons (ps_set (i := 2) sc_pattern_of.nd rfl (Or.inl rfl) (pe_cmpR op_eq (pe_ix ix_list (pv 0) (pe_un un_neg pe_int) (fun _ _ => rfl)) (pe_con1 T.cPOINT) (nomark _)))
    (pss_cons (ps_set (i := 3) sc_pattern_of.nd rfl (Or.inl rfl) (pe_ifExp (pt_val (pv 1)) pe_int pe_int))
    (pss_cons (ps_set (i := 4) sc_pattern_of.nd rfl (Or.inl rfl) (pe_ifExp (pt_val (pv 2)) (pe_op op_sub (pe_callB call_len_seq (by rfl) T.nlen PySem.boot_len (pa_cons (pv 0) pa_nil)) pe_int) (pe_callB call_len_seq (by rfl) T.nlen PySem.boot_len (pa_cons (pv 0) pa_nil))))
    (pss_cons (ps_set (i := 5) sc_pattern_of.nd rfl (Or.inl rfl) (pe_lst pa_nil))
    (pss_cons (ps_set (i := 6) sc_pattern_of.nd rfl (Or.inl rfl) (pe_lst (pa_cons pe_int pa_nil)))
    (pss_cons (ps_for PassesOwn.never rfl (pi_list (pe_slice sl_list (pv 0) (po_some (pv 3)) (po_some (pv 4)))) (pg_name (i := 7) sc_pattern_of.nd rfl (Or.inl rfl))
      (pss_one (ps_if (pt_val (pe_c0 GL hr (by decide) (pa_cons (pv 7) pa_nil)))
        (pss_cons (ps_expr (pe_bm PySem.F.plainAttrs_list PySem.F.slot_list_append PySem.F.type_list_append mt_append (pv 5) (pa_cons (pv 7) pa_nil)))
          (pss_one (ps_expr (pe_bm PySem.F.plainAttrs_list PySem.F.slot_list_append PySem.F.type_list_append mt_append (pv 6) (pa_cons pe_int pa_nil)))))
        (pss_one (ps_if (PW.pt (pw_and (pt_chain op_lt op_le (pe_con1 T.cZERO) (pv 7) (pe_con1 T.cNINE)) (pw_and1 (pt_cmpR op_eq (pe_ix ix_list (pv 6) (pe_un un_neg pe_int) (fun _ _ => rfl)) pe_int (nomark _)))))
          (pss_one (ps_asg (pe_op op_sub (pv 7) (pe_con1 T.cZERO)) (pg_sub (pv 6) (pe_un un_neg pe_int) set_list)))
          (pss_one (ps_ret pe_non)))))))
    (pss_cons (ps_if (PW.pt (pw_or (pt_not (pt_chain op_le op_le pe_int (pe_callB call_len_seq (by rfl) T.nlen PySem.boot_len (pa_cons (pv 5) pa_nil)) (pe_con1 T.cMOSTP)))
        (pw_or1 (pt_cmpR op_eq (pe_callB (cr_max rfl) (by rfl) T.nmax (by decide +kernel) (pa_cons (pv 6) pa_nil)) pe_int (nomark _))))) (pss_one (ps_ret pe_non)) pss_nil)
    (pss_one (ps_ret (pe_m0 GP hr (by decide) (pa_cons (pv 0) (pa_cons (pv 5) (pa_cons (pv 6) (pa_cons (pe_tup (pa_cons (pv 1) (pa_cons (pv 2) pa_nil))) pa_nil)))))))))))))), ?_⟩
  obtain ⟨b0, a0, g0⟩ := first_byte hne
  obtain ⟨b1, a1, g1⟩ := last_byte hne
  have e0 : decide (bV b0 = V.int 46) = (bs.head? == some 46) := by
    rw [g0]
    exact u8_eq b0 46 (by decide)
  have e1 : decide (bV b1 = V.int 46) = (bs.getLast? == some 46) := by
    rw [g1]
    exact u8_eq b1 46 (by decide)
  have hlen : 0 < bs.length := List.length_pos_iff.mpr hne
  refine ⟨_, rfl, c, _, _, _, rfl, rfl, hS, a0, rfl, ?_⟩
  rw [e0]
  refine ⟨_, rfl, _, rfl, c, _, _, _, rfl, rfl, hS, a1, rfl, ?_⟩
  rw [e1]
  unfold pGo at kN kS'
  simp only at kN kS'
  generalize hf : (bs.head? == some 46) = fr at kN kS' ⊢
  generalize hh : (bs.getLast? == some 46) = en at kN kS' ⊢
  generalize hi : (if fr = true then 1 else 0) = i0 at kN kS'
  generalize hj : (if en = true then bs.length - 1 else bs.length) = j0 at kN kS'
  refine ⟨_, rfl, _, rfl, sel (a := .int 1) (b := .int 0) (.int (i0 : Nat)) (by rw [← hi]; cases fr <;> rfl) id id ?_⟩
  refine ⟨_, rfl, _, rfl, sel (a := .int (((bs.map bV).length : Nat) - 1 : Int)) (b := .int ((bs.map bV).length : Nat)) (.int (j0 : Nat)) ?_ (fun z => ⟨_, rfl, c, _, rfl, .inl hS, _, _, rfl, rfl, z⟩) (fun z => ⟨_, rfl, c, _, rfl, .inl hS, z⟩) ?_⟩
  · rw [← hj, List.length_map]
    cases en with
    | true =>
      show V.int ((bs.length - 1 : Nat) : Int) = V.int ((bs.length : Int) - 1)
      congr 1
      omega
    | false => rfl
  refine ⟨(by show 0 ≤ sizeLine; decide), fun L1 h1 => ⟨(by show 1 ≤ sizeLine; decide), fun L2 h2 => ?_⟩⟩
  have s2 : Same H (upd (upd H L1 (.lst [])) L2 (.lst [.int 0])) := same_new (same_upd h1) ((same_upd h1).free h2)
  have ne : L1 ≠ L2 := fun z => by rw [z, upd_same] at h2; cases h2
  refine ⟨_, rfl, _, rfl, _, rfl, _, rfl, _, rfl, c, _, rfl, s2.seq hS, fun M hM => ?_⟩
  rw [cut_map]
  generalize hm : (bs.drop i0).take (j0 - i0) = mid at kN kS' ⊢
  have midle : mid.length ≤ 1000 := by rw [← hm, List.length_take, List.length_drop]; omega
  have m1 : M ≠ L1 := fun z => by rw [z, upd_ne ne, upd_same] at hM; cases hM
  have m2 : M ≠ L2 := fun z => by rw [z, upd_same] at hM; cases hM
  refine ⟨M, rfl, ⟨_, SqL.of upd_same⟩, for_list (K := K) (a := M) (xs := mid.map bV) (fun i σ H' => ∃ (x : Bytes) (vs : List Nat) (v : Nat) (y : Option V), σ = [some (.ref c), some (.bl fr), some (.bl en), some (.int (i0 : Nat)), some (.int (j0 : Nat)), some (.ref L1), some (.ref L2), y] ∧ Patting H H' L1 L2 M mid x vs v i)
    ⟨[], [], 0, none, rfl, same_new s2 (s2.free hM), h1, (same_upd h1).free h2, ne, m1, m2, upd_same, (upd_ne (Ne.symm m1)).trans ((upd_ne ne).trans upd_same), (upd_ne (Ne.symm m2)).trans upd_same, rfl, Nat.le_refl _, rfl⟩ (fun i σ H' _ ⟨_, _, _, _, _, I⟩ => SqL.of I.lm) ?_ ?_⟩
  · rintro i y0 σ H' hi2 ⟨x, vs, v, y, rfl, I⟩
    obtain ⟨u, hu, rfl⟩ := map_get hi2
    have hd := drop_get hu
    have ilt : i < mid.length := (List.getElem?_eq_some_iff.mp hu).1
    have few := I.few
    have len := I.len
    refine ⟨_, rfl, (u.toNat : Int), rfl, _, rfl, ?_⟩
    rw [isLetter_int]
    show ite _ _ _
    have eq := I.eq
    rw [hd, pFrom] at eq
    cases cl : VahypBase.isLetter u with
    | true =>
      rw [if_pos rfl]
      rw [if_pos cl] at eq
      refine ⟨_, rfl, .inl ⟨rfl, _, SqL.of I.l1⟩, _, rfl, L1, _, _, rfl, rfl, I.l1, by rw [List.length_map]; exact size_small (by omega), ?_⟩
      have l2' : upd H' L1 (.lst (x.map bV ++ [bV u])) L2 = some (.lst ((vs ++ [v]).map nV)) := (upd_ne (Ne.symm I.ne)).trans I.l2
      refine ⟨_, rfl, .inl ⟨rfl, _, SqL.of l2'⟩, L2, _, _, rfl, rfl, l2', by rw [List.length_map, List.length_append]; exact size_small (by simp; omega), ?_⟩
      refine ⟨x ++ [u], vs ++ [v], 0, some (bV u), rfl, ⟨same_new (same_new I.same I.n1) I.n2, I.n1, I.n2, I.ne, I.m1, I.m2, (upd_ne I.m2).trans ((upd_ne I.m1).trans I.lm), ?_, ?_, by simp [len], by simp; omega, eq⟩⟩
      · rw [upd_ne I.ne, upd_same, List.map_append]
        rfl
      · rw [upd_same, List.map_append (l₁ := vs ++ [v])]
        rfl
    | false =>
      rw [if_neg (by decide)]
      rw [if_neg (by rw [cl]; decide)] at eq
      have gone : ¬ ((48 < u.toNat ∧ u.toNat ≤ 57) ∧ v = 0) → Q .non H' := fun z => by
        rw [if_neg z] at eq
        refine kN ?_ H' I.same
        rw [eq]
        rfl
      refine ⟨_, rfl, _, _, rfl, rfl, _, rfl, ?_⟩
      show ite (decide ((48 : Int) < (u.toNat : Int)) = true) _ _
      by_cases c1 : 48 < u.toNat
      · rw [if_pos (decide_eq_true (by omega))]
        refine ⟨_, _, rfl, rfl, _, rfl, ?_⟩
        show ite (decide ((u.toNat : Int) ≤ 57) = true) _ _
        by_cases c2 : u.toNat ≤ 57
        · rw [if_pos (decide_eq_true (by omega))]
          refine ⟨_, rfl, _, rfl, L2, _, _, _, rfl, rfl, SqL.of I.l2, last_digit vs v, rfl, _, rfl, ?_⟩
          have e3 : decide (nV v = V.int 0) = decide (v = 0) := by
            rw [decide_eq_decide]
            constructor
            · intro z
              injection z with z
              omega
            · intro z
              rw [z]
              rfl
          show ite (decide (nV v = V.int 0) = true) _ _
          rw [e3]
          by_cases c3 : v = 0
          · subst c3
            rw [if_pos (decide_eq_true rfl)]
            rw [if_pos ⟨⟨c1, c2⟩, rfl⟩] at eq
            refine ⟨_, rfl, _, _, rfl, rfl, _, rfl, _, rfl, L2, _, _, _, rfl, rfl, I.l2, (set_last vs 0 0).1, ?_⟩
            have e4 : (V.int ((u.toNat : Int) - 48)) = nV (u.toNat - 48) := by
              show V.int _ = V.int _
              congr 1
              omega
            exact ⟨x, vs, u.toNat - 48, some (bV u), rfl, ⟨same_new I.same I.n2, I.n1, I.n2, I.ne, I.m1, I.m2, (upd_ne I.m2).trans I.lm, (upd_ne I.ne).trans I.l1, upd_same.trans (congrArg (fun q => some (HO.lst q)) ((congrArg (List.set ((vs ++ [0]).map nV) vs.length) e4).trans (set_last vs 0 (u.toNat - 48)).2)), len, by omega, eq⟩⟩
          · rw [if_neg (by simpa using c3)]
            exact gone fun z => c3 z.2
        · rw [if_neg (by intro z; have := of_decide_eq_true z; omega)]
          exact gone fun z => c2 z.1.2
      · rw [if_neg (by intro z; have := of_decide_eq_true z; omega)]
        refine ⟨_, rfl, ?_⟩
        show ite (false = true) _ _
        rw [if_neg (by decide)]
        exact gone fun z => c1 z.1.1
  · rintro σ H' ⟨x, vs, v, y, rfl, I⟩
    have eqE : (pFrom [] [] 0 mid).bind (Pw.pEnd fr en) = Pw.pEnd fr en (x, vs ++ [v]) := by
      rw [I.eq, List.length_map, List.drop_length]
      rfl
    rw [eqE] at kN kS'
    have len := I.len
    have bad : ¬ (1 ≤ x.length ∧ x.length ≤ 6) ∨ (vs ++ [v]).all (fun v => v == 0) = true → Q .non H' := fun z => by
      refine kN ?_ H' I.same
      unfold Pw.pEnd
      rw [if_pos z]
    refine ⟨_, rfl, _, _, rfl, .inl (SqL.of I.l1), ?_⟩
    refine ⟨_, _, rfl, rfl, _, rfl, ?_⟩
    rw [List.length_map]
    show ite (decide ((1 : Int) ≤ (x.length : Int)) = true) _ _
    by_cases c1 : 1 ≤ x.length
    · rw [if_pos (decide_eq_true (by omega))]
      refine ⟨_, _, rfl, rfl, _, rfl, ?_⟩
      show ite ((!decide ((x.length : Int) ≤ 6)) = true) _ _
      by_cases c2 : x.length ≤ 6
      · rw [if_neg (by rw [decide_eq_true (by omega)]; decide)]
        refine ⟨_, rfl, L2, (vs ++ [v]).map (fun n : Nat => (n : Int)), rfl, SqL.of (by rw [I.l2, List.map_map]; rfl), by simp, fun m hin hmax => ?_⟩
        refine ⟨rfl, _, rfl, ?_⟩
        have e5 : decide (V.int m = V.int 0) = (vs ++ [v]).all (fun v => v == 0) := by
          rw [Bool.eq_iff_iff, decide_eq_true_eq, List.all_eq_true]
          constructor
          · intro z n hn
            injection z with z
            have := hmax (n : Int) (List.mem_map_of_mem hn)
            rw [beq_iff_eq]
            omega
          · intro z
            obtain ⟨n, hn, e⟩ := List.mem_map.mp hin
            have := z n hn
            rw [beq_iff_eq] at this
            rw [← e, this]
            rfl
        show ite (decide (V.int m = V.int 0) = true) _ _
        rw [e5]
        cases c3 : (vs ++ [v]).all (fun v => v == 0) with
        | true =>
          rw [if_pos rfl]
          exact bad (.inr c3)
        | false =>
          rw [if_neg (by decide)]
          have good : Pw.pEnd fr en (x, vs ++ [v]) = some ⟨fr, x, en, vs ++ [v]⟩ := by
            unfold Pw.pEnd
            rw [if_neg]
            rintro (z | z)
            · exact z ⟨c1, c2⟩
            · rw [c3] at z
              cases z
          refine ⟨_, rfl, _, rfl, _, rfl, _, rfl, _, rfl, (by show 2 ≤ sizeLine; decide), fun t ht => ?_⟩
          intro p dx np nd ne2
          have st : Same H' (upd H' t (.tup [.bl fr, .bl en])) := same_upd ht
          have t1 : SqT K (upd (upd (upd H' t (.tup [.bl fr, .bl en])) dx (.own p)) p (.ins CP dx [])) t [.bl fr, .bl en] := by
            refine .inl (.inl ?_)
            rw [upd_ne (fun z => by rw [z, upd_same] at np; cases np), upd_ne (fun z => by rw [z, upd_same] at nd; cases nd), upd_same]
          refine ⟨p, dx, c, L1, L2, t, fr, en, rfl, t1, upd_same, fun H3 h3 kp => ⟨rfl, ?_⟩⟩
          have s3 := st.trans (same_made np nd kp)
          have np' := st.free np
          refine kS' _ good H3 p (I.same.trans s3) (I.same.free np') fun G sG hc => ?_
          have po : PatOk ⟨fr, x, en, vs ++ [v]⟩ bs := pGo_ok hne (by
            unfold pGo
            simp only
            rw [hf, hh, hi, hj, hm, eqE]
            exact good)
          have fm : showPat ⟨fr, x, en, vs ++ [v]⟩ = bs := po.form
          refine ⟨⟨⟨po.letters, po.len, po.levels, po.small, rfl⟩, by rw [fm]; exact hz⟩, dx, c, L1, L2, (ext_new (I.same.free np')).trans h3, ?_, ?_, ?_⟩
          · rw [fm]
            exact ext_l sG _ _ hc
          · exact (ext_new I.n1).trans (s3 _ _ I.l1)
          · exact (ext_new I.n2).trans (s3 _ _ I.l2)
      · rw [if_pos (by rw [decide_eq_false (by omega)]; rfl)]
        show ite (true = true) _ _
        rw [if_pos rfl]
        exact bad (.inl fun z => c2 z.2)
    · rw [if_neg (by intro z; have := of_decide_eq_true z; omega)]
      refine ⟨_, rfl, ?_⟩
      show ite (true = true) _ _
      rw [if_pos rfl]
      exact bad (.inl fun z => c1 z.1)
end
end Pw

namespace Pw
open PySem PySem.Spec PyProof.Rows L2
open VahypBase (Bytes)
open Vahypa (Pat Lst hyphened showPat wordOf patOf)
/-! ### one row of the one form -/
def blanked (bss : List Bytes) : Bytes := bss.flatMap fun b => 32 :: b
def rowB (kw : Bytes) (bss : List Bytes) : Bytes := kw ++ blanked bss ++ [32, 59, 10]
theorem flat_len {α : Type} (f : α → Bytes) (m : Nat) : ∀ l : List α, (∀ a ∈ l, (f a).length ≤ m) → (l.flatMap f).length ≤ m * l.length
  | [], _ => Nat.zero_le _
  | a :: l, h => by
    rw [List.flatMap_cons, List.length_append, List.length_cons, Nat.mul_succ]
    have h1 := h a (List.mem_cons_self ..)
    have h2 := flat_len f m l fun b hb => h b (List.mem_cons_of_mem _ hb)
    omega
theorem flat_more {α : Type} (f : α → Bytes) {l : List α} {i : Nat} {a : α} (h : l[i]? = some a) : (l.take (i + 1)).flatMap f = (l.take i).flatMap f ++ f a := by
  rw [take_more h, List.flatMap_append]
  simp
theorem mem_of_get {α : Type} {l : List α} {i : Nat} {a : α} (h : l[i]? = some a) : a ∈ l := List.mem_of_getElem? h
section
variable {P : Program} {w : World} {K : PySem.W.Frag} {mg : Str → Option Value} {base : Heap} {CW CP CL : Addr}
structure FormC (mg : Str → Option Value) : Prop where
  cBLANK : Con mg "BLANK" (.int 32)
  cSEMI : Con mg "SEMICOLON" (.int 59)
  cROW : Con mg "ROW_END" (.int 10)
  cZERO : Con mg "ZERO" (.int 48)
def BytesAt (H : Hp) (a : Addr) (b : Bytes) : Prop := H a = some (.lst (b.map bV))
def spRowOf (K : PySem.W.Frag) : Sp := fun vs H Q _ => ∃ (z : Str) (kw : Bytes) (cs : Addr) (as : List Addr) (bss : List Bytes), vs = [.str z, .ref cs] ∧ z.cps.size ≤ 20 ∧ (z.cps.toList.map fun c => V.int (c : Nat)) = kw.map bV ∧
  SqL K H cs (as.map V.ref) ∧ All2 (BytesAt H) as bss ∧ as.length ≤ 20 ∧ (∀ b ∈ bss, b.length ≤ 40) ∧
  ∀ H' p, Same H H' → H p = none → H' p = some (.lst ((rowB kw bss).map bV)) → Q (.ref p) H'
theorem sc_row_of : FnScope ["keyword", "chunks", "row", "chunk"] ["keyword", "chunks"] (defScope s_row_of) := ⟨rfl, rfl, rfl, by decide +kernel, rfl, by decide +kernel, by decide +kernel⟩
theorem ok_row_of {f : Addr} {fd : FuncData} (F : Fun K "row_of" "row_of" s_row_of f fd) (T : FormC mg) (GB : C0 P w K mg base 1 "bytes_of" spBytesOf) : FnOk P w K mg base CX0 2 f fd ["keyword", "chunks"] (spRowOf K) := by
  refine F.ok sc_row_of (fun vs H Q E h => ?_) (fun cdv A outer s H vs Q E hr h => ?_)
  · obtain ⟨z, kw, cs, as, bss, rfl, _⟩ := h
    rfl
  obtain ⟨z, kw, cs, as, bss, rfl, hz, hkw, hS, hb, hal, hbl, k⟩ := h
  refine ⟨_, pss_cons (ps_set (i := 2) sc_row_of.nd rfl (Or.inl rfl) (pe_c0 GB hr (Nat.le_refl _) (pa_cons (pv 0) pa_nil)))
    (pss_cons (ps_for PassesOwn.never rfl (pi_list (pv 1)) (pg_name (i := 3) sc_row_of.nd rfl (Or.inl rfl))
      (pss_cons (ps_expr (pe_bm PySem.F.plainAttrs_list PySem.F.slot_list_append PySem.F.type_list_append mt_append (pv 2) (pa_cons (pe_con1 T.cBLANK) pa_nil)))
        (pss_one (ps_expr (pe_bm PySem.F.plainAttrs_list PySem.F.slot_list_extend PySem.F.type_list_extend mt_extend (pv 2) (pa_cons (pv 3) pa_nil))))))
    (pss_cons (ps_expr (pe_bm PySem.F.plainAttrs_list PySem.F.slot_list_extend PySem.F.type_list_extend mt_extend (pv 2) (pa_cons (pe_lst (pa_cons (pe_con1 T.cBLANK) (pa_cons (pe_con1 T.cSEMI) (pa_cons (pe_con1 T.cROW) pa_nil)))) pa_nil)))
    (pss_one (ps_ret (pv 2))))), ?_⟩
  refine ⟨_, rfl, z, rfl, by omega, fun H1 R s1 nR hR => ?_⟩
  rw [hkw] at hR
  have len := hb.len
  have kwl : kw.length ≤ 20 := by
    have := congrArg List.length hkw
    rw [List.length_map, List.length_map, Array.length_toList] at this
    omega
  refine ⟨_, rfl, cs, rfl, ⟨_, s1.seq hS⟩, for_list (K := K) (a := cs) (xs := as.map V.ref) (fun i σ H' => ∃ (v : Option V), σ = [some (.str z), some (.ref cs), some (.ref R), v] ∧ Same H H' ∧ H' R = some (.lst ((kw ++ blanked (bss.take i)).map bV)))
    ⟨none, rfl, s1, by rw [hR, List.take_zero]; simp [blanked]⟩ (fun i σ H' _ ⟨_, _, s2, _⟩ => s2.seq hS) ?_ ?_⟩
  · rintro i y σ H' hi ⟨v, rfl, s2, hR2⟩
    obtain ⟨a, ha, rfl⟩ := map_get hi
    obtain ⟨b, hbi, hab⟩ := hb.get' ha
    have hi' : i < as.length := (List.getElem?_eq_some_iff.mp ha).1
    have blen := flat_len (fun b : Bytes => 32 :: b) 41 (bss.take i) fun b m => by have := hbl b (List.mem_of_mem_take m); simp; omega
    have bl2 : (blanked (bss.take i)).length ≤ 41 * 20 := Nat.le_trans blen (Nat.mul_le_mul_left _ (by rw [List.length_take]; omega))
    have hb40 := hbl b (mem_of_get hbi)
    have ne : a ≠ R := ne_of_none hab nR
    refine ⟨_, rfl, .inl ⟨rfl, _, SqL.of hR2⟩, R, _, _, rfl, rfl, hR2, by rw [List.length_map, List.length_append]; exact size_small (by omega), ?_⟩
    refine ⟨_, rfl, .inl ⟨rfl, _, SqL.of upd_same⟩, _, rfl, R, a, _, _, rfl, rfl, upd_same, (upd_ne ne).trans (s2 _ _ hab), by simp only [List.length_map, List.length_append, List.length_cons, List.length_nil]; exact size_small' (by omega), ?_⟩
    refine ⟨some (.ref a), rfl, same_new (same_new s2 nR) nR, ?_⟩
    rw [upd_same]
    refine congrArg (fun q => some (HO.lst q)) ?_
    unfold blanked
    rw [flat_more _ hbi, List.map_append, List.map_append, List.map_append, List.map_cons, List.append_assoc, List.append_assoc]
    rfl
  · rintro σ H' ⟨v, rfl, s2, hR2⟩
    have blen := flat_len (fun b : Bytes => 32 :: b) 41 bss fun b m => by have := hbl b m; simp; omega
    have bl2 : (blanked bss).length ≤ 41 * 20 := Nat.le_trans blen (Nat.mul_le_mul_left _ (by omega))
    rw [List.length_map, List.take_of_length_le (by omega)] at hR2
    refine ⟨_, rfl, .inl ⟨rfl, _, SqL.of hR2⟩, (by show 3 ≤ sizeLine; decide), fun q hq => ?_⟩
    have ne : R ≠ q := fun z => by rw [z, hq] at hR2; cases hR2
    refine ⟨R, q, _, _, rfl, rfl, (upd_ne ne).trans hR2, upd_same, by simp only [List.length_map, List.length_append, List.length_cons, List.length_nil]; exact size_small' (by omega), ?_⟩
    refine ⟨_, rfl, k _ R (same_new (same_new s2 (s2.free hq)) nR) nR ?_⟩
    rw [upd_same]
    refine congrArg (fun q => some (HO.lst q)) ?_
    unfold rowB
    rw [List.map_append (l₁ := kw ++ blanked bss)]
    rfl
end
/-! ### the one form -/
theorem digit_row {n : Nat} (h : n ≤ 5) : [V.int (48 + (n : Int))] = (VahypBase.showNat n).map bV := by
  have key : ∀ k : _root_.Fin 6, [V.int (48 + (k.val : Int))] = (VahypBase.showNat k.val).map bV := by decide +kernel
  exact key ⟨n, by omega⟩
theorem digit_len {n : Nat} (h : n ≤ 5) : (VahypBase.showNat n).length ≤ 40 := by
  have key : ∀ k : _root_.Fin 6, (VahypBase.showNat k.val).length ≤ 40 := by decide +kernel
  exact key ⟨n, by omega⟩
theorem row_margins (l r : Bytes) : rowB (VahypBase.word "margins") [l, r] = Vahypa.line (VahypBase.word "margins " ++ (l ++ (VahypBase.word " " ++ (r ++ VahypBase.word " ;")))) := by
  rw [show VahypBase.word "margins " = VahypBase.word "margins" ++ [32] from by decide +kernel, show VahypBase.word " " = [32] from by decide +kernel, show VahypBase.word " ;" = [32, 59] from by decide +kernel]
  simp [rowB, blanked, Vahypa.line]
theorem row_word (c : Bytes) : rowB (VahypBase.word "word") [c] = Vahypa.line (VahypBase.word "word " ++ (c ++ VahypBase.word " ;")) := by
  rw [show VahypBase.word "word " = VahypBase.word "word" ++ [32] from by decide +kernel, show VahypBase.word " ;" = [32, 59] from by decide +kernel]
  simp [rowB, blanked, Vahypa.line]
theorem row_pat (c : Bytes) : rowB (VahypBase.word "pattern") [c] = Vahypa.line (VahypBase.word "pattern " ++ (c ++ VahypBase.word " ;")) := by
  rw [show VahypBase.word "pattern " = VahypBase.word "pattern" ++ [32] from by decide +kernel, show VahypBase.word " ;" = [32, 59] from by decide +kernel]
  simp [rowB, blanked, Vahypa.line]
theorem shown_rows (s : Lst) : Vahypa.shown s = rowB (VahypBase.word "margins") [VahypBase.showNat s.l, VahypBase.showNat s.r] ++ ((s.words.flatMap fun x => rowB (VahypBase.word "word") [hyphened x.x x.cuts]) ++ s.pats.flatMap fun p => rowB (VahypBase.word "pattern") [showPat p]) := by
  unfold Vahypa.shown
  simp only [row_margins, row_word, row_pat]
theorem row_len {kw c : Bytes} (hk : kw.length ≤ 8) (hc : c.length ≤ 40) : (rowB kw [c]).length ≤ 60 := by
  simp [rowB, blanked]
  omega
section
variable {P : Program} {w : World} {K : PySem.W.Frag} {mg : Str → Option Value} {base : Heap} {CW CP CL : Addr}
def spOneForm (K : PySem.W.Frag) (CL CW CP : Addr) : Sp := fun vs H Q _ => ∃ (a : Addr) (s : Lst), vs = [.ref a] ∧ ListAt K CL CW CP H a s ∧ ∀ H' p, Same H H' → H p = none → H' p = some (.lst ((Vahypa.shown s).map bV)) → Q (.ref p) H'
theorem sc_one_form : FnScope ["held", "form", "word", "pattern"] ["held"] (defScope s_one_form) := ⟨rfl, rfl, rfl, by decide +kernel, rfl, by decide +kernel, by decide +kernel⟩
theorem ok_one_form {fL fW fP f : Addr} {fd : FuncData} (F : Fun K "one_form" "one_form" s_one_form f fd) (T : FormC mg) (TL : OwnC K mg "WordList" CL fL ["left", "right", "words", "patterns"]) (TW : OwnC K mg "Word" CW fW ["chunk", "letters", "allowed"])
    (TP : OwnC K mg "Pattern" CP fP ["chunk", "letters", "digits", "at_front", "at_end"]) (GR : C0 P w K mg base 2 "row_of" (spRowOf K)) : FnOk P w K mg base CX0 3 f fd ["held"] (spOneForm K CL CW CP) := by
  refine F.ok sc_one_form (fun vs H Q E h => ?_) (fun cdv A outer s H vs Q E hr h => ?_)
  · obtain ⟨a, x, rfl, _⟩ := h
    rfl
  obtain ⟨a, x, rfl, ⟨dx, wl, pl, was, pas, hL, hwl, hpl, hws, hps, l5, r5, w24, p40⟩, k⟩ := h
  refine ⟨_, pss_cons (ps_set (i := 1) sc_one_form.nd rfl (Or.inl rfl) (pe_c0 GR hr (Nat.le_refl _) (pa_cons pe_str (pa_cons (pe_lst (pa_cons (pe_lst (pa_cons (pe_op op_add (pe_con1 T.cZERO) (pe_fld (pv 0) rfl)) pa_nil))
      (pa_cons (pe_lst (pa_cons (pe_op op_add (pe_con1 T.cZERO) (pe_fld (pv 0) rfl)) pa_nil)) pa_nil))) pa_nil))))
    (pss_cons (ps_for PassesOwn.never rfl (pi_list (pe_fld (pv 0) rfl)) (pg_name (i := 2) sc_one_form.nd rfl (Or.inl rfl))
      (pss_one (ps_expr (pe_bm PySem.F.plainAttrs_list PySem.F.slot_list_extend PySem.F.type_list_extend mt_extend (pv 1) (pa_cons (pe_c0 GR hr (Nat.le_refl _) (pa_cons pe_str (pa_cons (pe_lst (pa_cons (pe_fld (pv 2) rfl) pa_nil)) pa_nil))) pa_nil)))))
    (pss_cons (ps_for PassesOwn.never rfl (pi_list (pe_fld (pv 0) rfl)) (pg_name (i := 3) sc_one_form.nd rfl (Or.inl rfl))
      (pss_one (ps_expr (pe_bm PySem.F.plainAttrs_list PySem.F.slot_list_extend PySem.F.type_list_extend mt_extend (pv 1) (pa_cons (pe_c0 GR hr (Nat.le_refl _) (pa_cons pe_str (pa_cons (pe_lst (pa_cons (pe_fld (pv 3) rfl) pa_nil)) pa_nil))) pa_nil)))))
    (pss_one (ps_ret (pv 1))))), ?_⟩
  have lkL : List.lookup ("left" : Str) (listF x.l x.r wl pl) = some (.int (x.l : Nat)) := lk_here
  have lkR : List.lookup ("right" : Str) (listF x.l x.r wl pl) = some (.int (x.r : Nat)) := (lk_past (by decide +kernel)).trans lk_here
  have lkW : List.lookup ("words" : Str) (listF x.l x.r wl pl) = some (.ref wl) := (lk_past (by decide +kernel)).trans ((lk_past (by decide +kernel)).trans lk_here)
  have lkP : List.lookup ("patterns" : Str) (listF x.l x.r wl pl) = some (.ref pl) := (lk_past (by decide +kernel)).trans ((lk_past (by decide +kernel)).trans ((lk_past (by decide +kernel)).trans lk_here))
  -- the margins' row
  refine ⟨_, rfl, a, CL, dx, _, _, rfl, hL, TL.cl, TL.no _ (by simp), lkL, _, _, rfl, rfl, (by show 1 ≤ sizeLine; decide), fun q1 h1 => ?_⟩
  have s1 : Same H (upd H q1 (.lst [.int (48 + (x.l : Int))])) := same_upd h1
  refine ⟨_, rfl, a, CL, dx, _, _, rfl, s1 _ _ hL, TL.cl, TL.no _ (by simp), lkR, _, _, rfl, rfl, (by show 1 ≤ sizeLine; decide), fun q2 h2 => ?_⟩
  have s2 : Same H (upd (upd H q1 (.lst [.int (48 + (x.l : Int))])) q2 (.lst [.int (48 + (x.r : Int))])) := same_new s1 (s1.free h2)
  refine ⟨(by show 2 ≤ sizeLine; decide), fun q3 h3 => ?_⟩
  have s3 := same_new (o := HO.lst [.ref q1, .ref q2]) s2 (s2.free h3)
  have n12 : q1 ≠ q2 := fun z => by rw [z, upd_same] at h2; cases h2
  have n13 : q1 ≠ q3 := fun z => by rw [z, upd_ne (z ▸ n12), upd_same] at h3; cases h3
  have n23 : q2 ≠ q3 := fun z => by rw [z, upd_same] at h3; cases h3
  refine ⟨_, VahypBase.word "margins", q3, [q1, q2], [VahypBase.showNat x.l, VahypBase.showNat x.r], rfl, by decide +kernel, by decide +kernel, SqL.of upd_same, ⟨?_, ?_, trivial⟩, (by show 2 ≤ 20; decide), ?_, fun H4 R s4 nR hR => ?_⟩
  · show upd _ _ _ q1 = _
    rw [upd_ne n13, upd_ne n12, upd_same, digit_row l5]
  · show upd _ _ _ q2 = _
    rw [upd_ne n23, upd_same, digit_row r5]
  · intro b m
    simp only [List.mem_cons, List.not_mem_nil, or_false] at m
    rcases m with rfl | rfl
    · exact digit_len l5
    · exact digit_len r5
  have s5 := s3.trans s4
  have nR' := s3.free nR
  have marg : (rowB (VahypBase.word "margins") [VahypBase.showNat x.l, VahypBase.showNat x.r]).length ≤ 100 := by
    have a1 := digit_len l5
    have a2 := digit_len r5
    have a3 : (VahypBase.word "margins").length = 7 := by decide +kernel
    simp [rowB, blanked, a3]
    omega
  have wlen : (VahypBase.word "word").length ≤ 8 := by decide +kernel
  have plen : (VahypBase.word "pattern").length ≤ 8 := by decide +kernel
  -- the words
  refine ⟨_, rfl, a, CL, dx, _, _, rfl, s5 _ _ hL, TL.cl, TL.no _ (by simp), lkW, wl, rfl, ⟨_, SqL.of (s5 _ _ hwl)⟩, for_list (K := K) (a := wl) (xs := was.map V.ref) (fun i σ H' => ∃ (v : Option V), σ = [some (.ref a), some (.ref R), v, none] ∧ Same H H' ∧
      H' R = some (.lst ((rowB (VahypBase.word "margins") [VahypBase.showNat x.l, VahypBase.showNat x.r] ++ (x.words.take i).flatMap fun y => rowB (VahypBase.word "word") [hyphened y.x y.cuts]).map bV)))
    ⟨none, rfl, s5, by rw [hR, List.take_zero]; simp⟩ (fun i σ H' _ ⟨_, _, sm, _⟩ => SqL.of (sm _ _ hwl)) ?_ ?_⟩
  · rintro i y0 σ H' hi ⟨v, rfl, sm, hF⟩
    obtain ⟨ad, ha, rfl⟩ := map_get hi
    obtain ⟨y, hy, ⟨_, c40⟩, dy, c, l, al, e1, e2, e3, e4⟩ := hws.get' ha
    have i24 : i < x.words.length := (List.getElem?_eq_some_iff.mp hy).1
    have blen := flat_len (fun y : Vahypa.Word => rowB (VahypBase.word "word") [hyphened y.x y.cuts]) 60 (x.words.take i) fun b m => by
      obtain ⟨j, hj⟩ := List.getElem?_of_mem (List.mem_of_mem_take m)
      obtain ⟨_, _, ⟨_, q⟩, _⟩ := hws.get hj
      exact row_len wlen q
    have bl2 : ((x.words.take i).flatMap fun y => rowB (VahypBase.word "word") [hyphened y.x y.cuts]).length ≤ 60 * 24 := Nat.le_trans blen (Nat.mul_le_mul_left _ (by rw [List.length_take]; omega))
    have rl := row_len (c := hyphened y.x y.cuts) wlen c40
    refine ⟨_, rfl, .inl ⟨rfl, _, SqL.of hF⟩, _, rfl, ad, CW, dy, _, _, rfl, sm _ _ e1, TW.cl, TW.no _ (by simp), lk_here, (by show 1 ≤ sizeLine; decide), fun q hq => ?_⟩
    have s6 := same_new (o := HO.lst [.ref c]) sm (sm.free hq)
    refine ⟨_, VahypBase.word "word", q, [c], [hyphened y.x y.cuts], rfl, by decide +kernel, by decide +kernel, SqL.of upd_same, ⟨s6 _ _ e2, trivial⟩, (by show 1 ≤ 20; decide), ?_, fun H5 q2 s7 nq hq2 => ?_⟩
    · intro b m
      rw [List.mem_singleton] at m
      subst m
      exact c40
    have s8 := (same_upd (o := HO.lst [.ref c]) hq).trans s7
    refine ⟨R, q2, _, _, rfl, rfl, s8 _ _ hF, hq2, by simp only [List.length_map, List.length_append]; exact size_small' (by omega), ?_⟩
    refine ⟨some (.ref ad), rfl, same_new (sm.trans s8) nR', ?_⟩
    rw [upd_same, flat_more _ hy, ← List.append_assoc, List.map_append (l₂ := rowB (VahypBase.word "word") [hyphened y.x y.cuts])]
  · rintro σ H' ⟨v, rfl, sm, hF⟩
    have wall : x.words.take (was.map V.ref).length = x.words := List.take_of_length_le (by rw [List.length_map, hws.len]; exact Nat.le_refl _)
    rw [wall] at hF
    have blen := flat_len (fun y : Vahypa.Word => rowB (VahypBase.word "word") [hyphened y.x y.cuts]) 60 x.words fun b m => by
      obtain ⟨j, hj⟩ := List.getElem?_of_mem m
      obtain ⟨_, _, ⟨_, q⟩, _⟩ := hws.get hj
      exact row_len wlen q
    have bl2 : (x.words.flatMap fun y => rowB (VahypBase.word "word") [hyphened y.x y.cuts]).length ≤ 60 * 24 := Nat.le_trans blen (Nat.mul_le_mul_left _ (by omega))
    generalize hpre : rowB (VahypBase.word "margins") [VahypBase.showNat x.l, VahypBase.showNat x.r] ++ (x.words.flatMap fun y => rowB (VahypBase.word "word") [hyphened y.x y.cuts]) = pre at hF
    have prel : pre.length ≤ 100 + 60 * 24 := by rw [← hpre, List.length_append]; omega
    refine ⟨_, rfl, a, CL, dx, _, _, rfl, sm _ _ hL, TL.cl, TL.no _ (by simp), lkP, pl, rfl, ⟨_, SqL.of (sm _ _ hpl)⟩, for_list (K := K) (a := pl) (xs := pas.map V.ref) (fun i σ H' => ∃ (v2 : Option V), σ = [some (.ref a), some (.ref R), v, v2] ∧ Same H H' ∧
        H' R = some (.lst ((pre ++ (x.pats.take i).flatMap fun y => rowB (VahypBase.word "pattern") [showPat y]).map bV)))
      ⟨none, rfl, sm, by rw [hF, List.take_zero]; simp⟩ (fun i σ H' _ ⟨_, _, sm, _⟩ => SqL.of (sm _ _ hpl)) ?_ ?_⟩
    · rintro i y0 σ H' hi ⟨v2, rfl, sm, hF⟩
      obtain ⟨ad, ha, rfl⟩ := map_get hi
      obtain ⟨y, hy, ⟨_, c40⟩, dy, c, l, al, e1, e2, e3, e4⟩ := hps.get' ha
      have i40 : i < x.pats.length := (List.getElem?_eq_some_iff.mp hy).1
      have blen := flat_len (fun y : Pat => rowB (VahypBase.word "pattern") [showPat y]) 60 (x.pats.take i) fun b m => by
        obtain ⟨j, hj⟩ := List.getElem?_of_mem (List.mem_of_mem_take m)
        obtain ⟨_, _, ⟨_, q⟩, _⟩ := hps.get hj
        exact row_len plen q
      have bl2 : ((x.pats.take i).flatMap fun y => rowB (VahypBase.word "pattern") [showPat y]).length ≤ 60 * 40 := Nat.le_trans blen (Nat.mul_le_mul_left _ (by rw [List.length_take]; omega))
      have rl := row_len (c := showPat y) plen c40
      refine ⟨_, rfl, .inl ⟨rfl, _, SqL.of hF⟩, _, rfl, ad, CP, dy, _, _, rfl, sm _ _ e1, TP.cl, TP.no _ (by simp), lk_here, (by show 1 ≤ sizeLine; decide), fun q hq => ?_⟩
      have s6 := same_new (o := HO.lst [.ref c]) sm (sm.free hq)
      refine ⟨_, VahypBase.word "pattern", q, [c], [showPat y], rfl, by decide +kernel, by decide +kernel, SqL.of upd_same, ⟨s6 _ _ e2, trivial⟩, (by show 1 ≤ 20; decide), ?_, fun H5 q2 s7 nq hq2 => ?_⟩
      · intro b m
        rw [List.mem_singleton] at m
        subst m
        exact c40
      have s8 := (same_upd (o := HO.lst [.ref c]) hq).trans s7
      refine ⟨R, q2, _, _, rfl, rfl, s8 _ _ hF, hq2, by simp only [List.length_map, List.length_append]; exact size_small' (by omega), ?_⟩
      refine ⟨some (.ref ad), rfl, same_new (sm.trans s8) nR', ?_⟩
      rw [upd_same, flat_more _ hy, ← List.append_assoc, List.map_append (l₂ := rowB (VahypBase.word "pattern") [showPat y])]
    · rintro σ H' ⟨v2, rfl, sm, hF⟩
      have wall : x.pats.take (pas.map V.ref).length = x.pats := List.take_of_length_le (by rw [List.length_map, hps.len]; exact Nat.le_refl _)
      rw [wall, ← hpre] at hF
      refine ⟨_, rfl, k _ R sm nR' ?_⟩
      rw [hF, shown_rows, List.append_assoc]
end
end Pw

namespace Pw
open PySem PySem.Spec PyProof.Rows L2
open VahypBase (Bytes PTok Toks)
open Vahypa (Pat Lst hyphened showPat wordOf patOf)
abbrev s_rd_init : Stmt := inClass (top 56) 0
abbrev s_rd_here : Stmt := inClass (top 56) 1
abbrev s_rd_stands : Stmt := inClass (top 56) 2
abbrev s_rd_take : Stmt := inClass (top 56) 3
abbrev s_rd_chunk : Stmt := inClass (top 56) 4
abbrev s_read_margin : Stmt := top 57
abbrev s_read_entry : Stmt := top 58
abbrev s_read_entries : Stmt := top 59
abbrev s_read_list : Stmt := top 60
/-- all that was tracked stands but at r -/
def SameBut (r : Addr) (H H' : Hp) : Prop := ∀ b o, b ≠ r → H b = some o → H' b = some o
theorem SameBut.of {r : Addr} {H H' : Hp} (s : Same H H') : SameBut r H H' := fun b o _ e => s b o e
theorem SameBut.trans {r : Addr} {H H1 H2 : Hp} (a : SameBut r H H1) (b : SameBut r H1 H2) : SameBut r H H2 := fun c o n e => b c o n (a c o n e)
theorem SameBut.upd {r : Addr} {H : Hp} {o : HO} : SameBut r H (upd H r o) := fun b u n e => by rw [upd_ne n]; exact e
theorem SameBut.part {r : Addr} {G H H' : Hp} (s : SameBut r H H') (p : Same G H) (n : G r = none) : Same G H' := fun b o e => s b o (ne_of_none e n) (p b o e)
theorem SameBut.same {r : Addr} {H H1 H' : Hp} (s : SameBut r H1 H') (p : Same H H1) (n : H r = none) : Same H H' := s.part p n
theorem SameBut.none {r : Addr} {H H' : Hp} (s : SameBut r H H') (hr : ∃ o, H' r = some o) : ∀ b, H' b = none → H b = none := fun b e => by
  cases h : H b with
  | none => rfl
  | some o =>
    by_cases z : b = r
    · obtain ⟨u, hu⟩ := hr
      rw [z, hu] at e
      cases e
    · rw [s b o z h] at e
      cases e
section
variable {P : Program} {w : World} {K : PySem.W.Frag} {mg : Str → Option Value} {base : Heap} {CF CT CR : Addr}
def rdF (L : Addr) (n : Nat) : List (Str × V) := [("tokens", .ref L), ("taken", .int (n : Nat))]
/-- a reader at r, its tokens in the part G of the heap -/
structure RdAt (K : PySem.W.Frag) (CR CT : Addr) (G H : Hp) (r L : Addr) (as : List Addr) (ts : Toks) (n : Nat) : Prop where
  obj : ∃ dx, H r = some (.ins CR dx (rdF L n))
  part : Same G H
  nr : G r = none
  lst : G L = some (.lst (as.map V.ref))
  toks : All2 (TokAt K CT G) as ts
  ok : ∀ t ∈ ts, TokOk t.tok
theorem RdAt.same {G H H' : Hp} {r L : Addr} {as : List Addr} {ts : Toks} {n : Nat} (R : RdAt K CR CT G H r L as ts n) (s : Same H H') : RdAt K CR CT G H' r L as ts n := by
  obtain ⟨dx, h⟩ := R.obj
  exact { R with obj := ⟨dx, s _ _ h⟩, part := R.part.trans s }
theorem lkTokens {L : Addr} {n : Nat} : List.lookup ("tokens" : Str) (rdF L n) = some (.ref L) := lk_here
theorem lkTaken {L : Addr} {n : Nat} : List.lookup ("taken" : Str) (rdF L n) = some (.int (n : Nat)) := (lk_past (by decide +kernel)).trans lk_here
theorem lkPlace {p : Nat} {c : Addr} : List.lookup ("place" : Str) (tokF p c) = some (.int (p : Nat)) := lk_here
theorem lkContent {p : Nat} {c : Addr} : List.lookup ("content" : Str) (tokF p c) = some (.ref c) := (lk_past (by decide +kernel)).trans lk_here
/-! ### Reader -/
def spRdInit (CR : Addr) : Sp := fun vs H Q _ => ∃ (x dx L : Addr), vs = [.ref x, .ref L] ∧ H x = some (.ins CR dx []) ∧ ∀ H' : Hp, H' x = some (.ins CR dx (rdF L 0)) → (∀ b, b ≠ x → H' b = H b) → Q .non H'
theorem sc_rd_init : FnScope ["self", "tokens"] ["self", "tokens"] (defScope s_rd_init) := ⟨rfl, rfl, rfl, by decide +kernel, rfl, by decide +kernel, by decide +kernel⟩
theorem ok_rd_init {fI f : Addr} {fd : FuncData} (F : Fun K "__init__" "Reader.__init__" s_rd_init f fd) (T : OwnC K mg "Reader" CR fI ["tokens", "taken"]) : FnOk P w K mg base CX0 1 f fd ["self", "tokens"] (spRdInit CR) := by
  refine F.ok sc_rd_init (fun vs H Q E h => ?_) (fun cdv A outer s H vs Q E hr h => ?_)
  · obtain ⟨x, dx, L, rfl, _⟩ := h
    rfl
  obtain ⟨x, dx, L, rfl, hx, k⟩ := h
  refine ⟨_, pss_cons (ps_fld (pv 0) (pv 1) rfl) (pss_one (ps_fld (pv 0) pe_int rfl)), ?_⟩
  refine ⟨_, rfl, _, rfl, x, CR, dx, [], rfl, hx, T.cl, T.no _ (by simp), (by show 0 < 1000; decide), ?_⟩
  refine ⟨_, rfl, x, CR, dx, _, rfl, upd_same, T.cl, T.no _ (by simp), (by show 1 < 1000; decide), ?_⟩
  refine k _ ?_ fun b hb => by rw [upd_ne hb, upd_ne hb]
  rw [upd_same]
  rfl
def spHere (K : PySem.W.Frag) (CR CT : Addr) : Sp := fun vs H Q _ => ∃ (G : Hp) (r L : Addr) (as : List Addr) (ts : Toks) (n : Nat) (t : PTok), vs = [.ref r] ∧ RdAt K CR CT G H r L as ts n ∧ ts[n]? = some t ∧
  ∀ a, as[n]? = some a → TokAt K CT G a t → Q (.ref a) H
theorem sc_rd_here : FnScope ["self"] ["self"] (defScope s_rd_here) := ⟨rfl, rfl, rfl, by decide +kernel, rfl, by decide +kernel, by decide +kernel⟩
theorem ok_rd_here {fI f : Addr} {fd : FuncData} (F : Fun K "here" "Reader.here" s_rd_here f fd) (T : OwnC K mg "Reader" CR fI ["tokens", "taken"]) : FnOk P w K mg base CX0 1 f fd ["self"] (spHere K CR CT) := by
  refine F.ok sc_rd_here (fun vs H Q E h => ?_) (fun cdv A outer s H vs Q E hr h => ?_)
  · obtain ⟨G, r, L, as, ts, n, t, rfl, _⟩ := h
    rfl
  obtain ⟨G, r, L, as, ts, n, t, rfl, R, ht, k⟩ := h
  obtain ⟨dx, ho⟩ := R.obj
  obtain ⟨a, ha, hta⟩ := R.toks.get ht
  refine ⟨_, pss_one (ps_ret (pe_ix ix_list (pe_fld (pv 0) rfl) (pe_fld (pv 0) rfl) (fun _ _ => rfl))), ?_⟩
  refine ⟨_, rfl, r, CR, dx, _, _, rfl, ho, T.cl, T.no _ (by simp), lkTokens, _, rfl, r, CR, dx, _, _, rfl, ho, T.cl, T.no _ (by simp), lkTaken, L, _, _, _, rfl, rfl, SqL.of (R.part _ _ R.lst), atI_nat (by rw [List.getElem?_map, ha]; rfl), ?_⟩
  exact k a ha hta
def spStands (K : PySem.W.Frag) (CR CT : Addr) : Sp := fun vs H Q _ => ∃ (G : Hp) (r L : Addr) (as : List Addr) (ts : Toks) (n : Nat) (t : PTok) (c : Addr) (cb : Bytes), vs = [.ref r, .ref c] ∧ RdAt K CR CT G H r L as ts n ∧ ts[n]? = some t ∧ SqL K H c (cb.map bV) ∧
  Q (.bl (tokB t.tok == cb)) H
theorem sc_rd_stands : FnScope ["self", "content"] ["self", "content"] (defScope s_rd_stands) := ⟨rfl, rfl, rfl, by decide +kernel, rfl, by decide +kernel, by decide +kernel⟩
theorem ok_rd_stands {fI f : Addr} {fd : FuncData} (F : Fun K "stands_at" "Reader.stands_at" s_rd_stands f fd) (OT : OwnC K mg "Token" CT fI ["place", "content"]) (GH : Me0 P w K mg base 1 CR "here" (spHere K CR CT)) : FnOk P w K mg base CX0 2 f fd ["self", "content"] (spStands K CR CT) := by
  refine F.ok sc_rd_stands (fun vs H Q E h => ?_) (fun cdv A outer s H vs Q E hr h => ?_)
  · obtain ⟨G, r, L, as, ts, n, t, c, cb, rfl, _⟩ := h
    rfl
  obtain ⟨G, r, L, as, ts, n, t, c, cb, rfl, R, ht, hc, k⟩ := h
  obtain ⟨dx, ho⟩ := R.obj
  refine ⟨_, pss_one (ps_ret (pe_cmpR (op_eqD hr.units) (pe_fld (pe_me00 GH hr (Nat.le_refl _) (pv 0)) rfl) (pv 1) (nomark _))), ?_⟩
  refine ⟨_, rfl, r, dx, _, rfl, ho, (lk_past (by decide +kernel)).trans ((lk_past (by decide +kernel)).trans rfl), G, r, L, as, ts, n, t, rfl, R, ht, fun a ha hta => ?_⟩
  obtain ⟨da, ca, h1, h2⟩ := hta
  refine ⟨a, CT, da, _, _, rfl, R.part _ _ h1, OT.cl, OT.no _ (by simp), lkContent, _, rfl, dB (tokB t.tok), dB cb, dp_bytes (SqL.of (R.part _ _ h2)), dp_bytes hc, shaped_bytes _, shaped_bytes _, ?_⟩
  rw [eqv_bytes]
  exact k
def spTake (K : PySem.W.Frag) (CF CR CT : Addr) : Sp := fun vs H Q E => ∃ (G : Hp) (r L : Addr) (as : List Addr) (ts : Toks) (n : Nat) (t : PTok) (c : Addr) (cb : Bytes), vs = [.ref r, .ref c] ∧ RdAt K CR CT G H r L as ts n ∧ ts[n]? = some t ∧ SqL K H c (cb.map bV) ∧
  ((tokB t.tok == cb) = true → ∀ H', SameBut r H H' → RdAt K CR CT G H' r L as ts (n + 1) → Q .non H') ∧
  ((tokB t.tok == cb) = false → ∀ d H', Same H H' → H' d = some (.xd (faultF 3 t.place)) → E (.ref CF) (some d) H')
theorem sc_rd_take : FnScope ["self", "content"] ["self", "content"] (defScope s_rd_take) := ⟨rfl, rfl, rfl, by decide +kernel, rfl, by decide +kernel, by decide +kernel⟩
/-- a step forward -/
theorem RdAt.step {G H : Hp} {r L dx : Addr} {as : List Addr} {ts : Toks} {n : Nat} (R : RdAt K CR CT G H r L as ts n) : RdAt K CR CT G (upd H r (.ins CR dx (rdF L (n + 1)))) r L as ts (n + 1) :=
  { R with obj := ⟨dx, upd_same⟩, part := SameBut.upd.part R.part R.nr }
theorem put_taken {L : Addr} {n : Nat} : putF ("taken" : Str) (.int ((n : Int) + 1)) (rdF L n) = rdF L (n + 1) := (put_past (by decide +kernel)).trans (congrArg _ put_here)
theorem ok_rd_take {fI fJ f : Addr} {fd : FuncData} (F : Fun K "take" "Reader.take" s_rd_take f fd) (T : OwnC K mg "Reader" CR fI ["tokens", "taken"]) (OT : OwnC K mg "Token" CT fJ ["place", "content"]) (c3 : Con mg "NOT_ALLOWED_HERE" (.int 3))
    (GH : Me0 P w K mg base 1 CR "here" (spHere K CR CT)) (GS : Me0 P w K mg base 2 CR "stands_at" (spStands K CR CT)) (GF : Flt P w K mg base CF) : FnOk P w K mg base (L2.CX P w) 3 f fd ["self", "content"] (spTake K CF CR CT) := by
  refine F.okX sc_rd_take (fun vs H Q E h => ?_) (fun cdv A outer s H vs Q E hr h => ?_)
  · obtain ⟨G, r, L, as, ts, n, t, c, cb, rfl, _⟩ := h
    rfl
  obtain ⟨G, r, L, as, ts, n, t, c, cb, rfl, R, ht, hc, kS, kE⟩ := h
  obtain ⟨dx, ho⟩ := R.obj
  refine ⟨_, pss_cons (ps_if (pt_not (pt_val (pe_me0 GS hr (Nat.le_refl _) (pv 0) (pa_cons (pv 1) pa_nil)))) (pss_one (ps_flt GF hr (by decide) (takes_of rfl rfl rfl rfl) (pa_cons (pe_con1 c3) (pa_cons (pe_fld (pe_me00 GH hr (by decide) (pv 0)) rfl) pa_nil)))) pss_nil)
    (pss_one (ps_fldaug (pv 0) pe_int in_add)), ?_⟩
  refine ⟨_, rfl, r, dx, _, rfl, ho, (lk_past (by decide +kernel)).trans ((lk_past (by decide +kernel)).trans rfl), _, rfl, G, r, L, as, ts, n, t, c, cb, rfl, R, ht, hc, _, rfl, ?_⟩
  show ite ((!(tokB t.tok == cb)) = true) _ _
  cases e : (tokB t.tok == cb) with
  | false =>
    rw [if_pos (by decide)]
    refine ⟨_, rfl, r, dx, _, rfl, ho, (lk_past (by decide +kernel)).trans ((lk_past (by decide +kernel)).trans rfl), G, r, L, as, ts, n, t, rfl, R, ht, fun a ha hta => ?_⟩
    obtain ⟨da, ca, h1, h2⟩ := hta
    refine ⟨a, CT, da, _, _, rfl, R.part _ _ h1, OT.cl, OT.no _ (by simp), lkPlace, 3, t.place, rfl, fun d hd => kE e d _ (same_upd hd) upd_same⟩
  | true =>
    rw [if_neg (by decide)]
    refine ⟨_, rfl, r, CR, dx, _, _, rfl, ho, T.cl, T.no _ (by simp), lkTaken, _, _, rfl, rfl, dx, _, ho, (by show 2 < 1000; decide), ?_⟩
    have e2 : (upd H r (.ins CR dx (putF ("taken" : Str) (.int ((n : Int) + 1)) (rdF L n)))) = upd H r (.ins CR dx (rdF L (n + 1))) := by rw [put_taken]
    refine kS e _ ?_ ?_
    · exact SameBut.upd
    · exact e2 ▸ R.step
def spChunk (K : PySem.W.Frag) (CF CR CT : Addr) : Sp := fun vs H Q E => ∃ (G : Hp) (r L : Addr) (as : List Addr) (ts : Toks) (n : Nat) (t : PTok), vs = [.ref r] ∧ RdAt K CR CT G H r L as ts n ∧ ts[n]? = some t ∧
  (isChunkTok t.tok = true → ∀ H' a, SameBut r H H' → RdAt K CR CT G H' r L as ts (n + 1) → TokAt K CT G a t → Q (.ref a) H') ∧
  (isChunkTok t.tok = false → ∀ d H', Same H H' → H' d = some (.xd (faultF 3 t.place)) → E (.ref CF) (some d) H')
theorem sc_rd_chunk : FnScope ["self", "token"] ["self"] (defScope s_rd_chunk) := ⟨rfl, rfl, rfl, by decide +kernel, rfl, by decide +kernel, by decide +kernel⟩
theorem ok_rd_chunk {fI fJ f : Addr} {fd : FuncData} (F : Fun K "take_chunk" "Reader.take_chunk" s_rd_chunk f fd) (T : OwnC K mg "Reader" CR fI ["tokens", "taken"]) (OT : OwnC K mg "Token" CT fJ ["place", "content"]) (c3 : Con mg "NOT_ALLOWED_HERE" (.int 3))
    (GH : Me0 P w K mg base 1 CR "here" (spHere K CR CT)) (GI : Me0 P w K mg base 1 CT "is_chunk" (spIsChunk K CT)) (GF : Flt P w K mg base CF) : FnOk P w K mg base (L2.CX P w) 3 f fd ["self"] (spChunk K CF CR CT) := by
  refine F.okX sc_rd_chunk (fun vs H Q E h => ?_) (fun cdv A outer s H vs Q E hr h => ?_)
  · obtain ⟨G, r, L, as, ts, n, t, rfl, _⟩ := h
    rfl
  obtain ⟨G, r, L, as, ts, n, t, rfl, R, ht, kS, kE⟩ := h
  obtain ⟨dx, ho⟩ := R.obj
  refine ⟨_, pss_cons (ps_set (i := 1) sc_rd_chunk.nd rfl (Or.inl rfl) (pe_me00 GH hr (by decide) (pv 0)))
    (pss_cons (ps_if (pt_not (pt_val (pe_me00 GI hr (by decide) (pv 1)))) (pss_one (ps_flt GF hr (by decide) (takes_of rfl rfl rfl rfl) (pa_cons (pe_con1 c3) (pa_cons (pe_fld (pv 1) rfl) pa_nil)))) pss_nil)
    (pss_cons (ps_fldaug (pv 0) pe_int in_add) (pss_one (ps_ret (pv 1))))), ?_⟩
  refine ⟨_, rfl, r, dx, _, rfl, ho, (lk_past (by decide +kernel)).trans ((lk_past (by decide +kernel)).trans rfl), G, r, L, as, ts, n, t, rfl, R, ht, fun a ha hta => ?_⟩
  obtain ⟨da, ca, h1, h2⟩ := id hta
  have i1 := R.part _ _ h1
  refine ⟨_, rfl, a, da, _, rfl, i1, (lk_past (by decide +kernel)).trans ((lk_past (by decide +kernel)).trans rfl), a, t, rfl, hta.same R.part, R.ok t (mem_of_get ht), fun H1 s1 => ⟨_, rfl, ?_⟩⟩
  have R1 := R.same s1
  show ite ((!isChunkTok t.tok) = true) _ _
  cases e : isChunkTok t.tok with
  | false =>
    rw [if_pos (by decide)]
    exact ⟨_, rfl, a, CT, da, _, _, rfl, s1 _ _ i1, OT.cl, OT.no _ (by simp), lkPlace, 3, t.place, rfl, fun d hd => kE e d _ (s1.trans (same_upd hd)) upd_same⟩
  | true =>
    rw [if_neg (by decide)]
    have ho1 := s1 _ _ ho
    refine ⟨_, rfl, r, CR, dx, _, _, rfl, ho1, T.cl, T.no _ (by simp), lkTaken, _, _, rfl, rfl, dx, _, ho1, (by show 2 < 1000; decide), ?_⟩
    have e2 : (upd H1 r (.ins CR dx (putF ("taken" : Str) (.int ((n : Int) + 1)) (rdF L n)))) = upd H1 r (.ins CR dx (rdF L (n + 1))) := by rw [put_taken]
    refine ⟨_, rfl, kS e _ a ?_ ?_ hta⟩
    · exact (SameBut.of s1).trans SameBut.upd
    · exact e2 ▸ R1.step
end
end Pw

namespace Pw
open PySem PySem.Spec PyProof.Rows L2
open VahypBase (Bytes PTok Toks Fault takeChunk takeSign)
open Vahypa (Pat Lst hyphened showPat wordOf patOf takeMargin)
section
variable {P : Program} {w : World} {K : PySem.W.Frag} {mg : Str → Option Value} {base : Heap} {CF CT CR : Addr}
structure ReadC (mg : Str → Option Value) : Prop where
  c4 : Con mg "TOO_MANY" (.int 4)
  c5 : Con mg "TOLD_BEFORE" (.int 5)
  c7 : Con mg "NOT_AS_TOLD" (.int 7)
  c1 : Con mg "TEXT_TOO_LONG" (.int 1)
  cZERO : Con mg "ZERO" (.int 48)
  cG : Con mg "GREATEST_MARGIN" (.int 5)
  cSEMI : Con mg "SEMICOLON" (.int 59)
  cTEXT : Con mg "MOST_TEXT_BYTES" (.int 4096)
  cW : Con mg "MOST_WORDS" (.int 24)
  cP : Con mg "MOST_PATTERNS" (.int 40)
  nlen : mg "len" = none
def spMargin (K : PySem.W.Frag) (CF CR CT : Addr) : Sp := fun vs H Q E => ∃ (G : Hp) (r L : Addr) (as : List Addr) (ts : Toks) (n : Nat) (t : PTok), vs = [.ref r] ∧ RdAt K CR CT G H r L as ts n ∧ ts[n]? = some t ∧
  (∀ f, takeMargin (ts.drop n) = .error f → ∀ d H', SameBut r H H' → H' d = some (.xd (faultF f.code f.place)) → E (.ref CF) (some d) H') ∧
  (∀ v, takeMargin (ts.drop n) = .ok (v, ts.drop (n + 1)) → v ≤ 5 → ∀ H', SameBut r H H' → RdAt K CR CT G H' r L as ts (n + 1) → Q (.int (v : Nat)) H')
theorem sc_read_margin : FnScope ["reader", "token", "margin"] ["reader"] (defScope s_read_margin) := ⟨rfl, rfl, rfl, by decide +kernel, rfl, by decide +kernel, by decide +kernel⟩
theorem noRd {L : Addr} {n : Nat} {m : Str} (h1 : (m == ("tokens" : Str)) = false) (h2 : (m == ("taken" : Str)) = false) : List.lookup m (rdF L n) = none := (lk_past h1).trans ((lk_past h2).trans rfl)
theorem ok_read_margin {fJ f : Addr} {fd : FuncData} (F : Fun K "read_margin" "read_margin" s_read_margin f fd) (T : ReadC mg) (OT : OwnC K mg "Token" CT fJ ["place", "content"]) (GC : Me1 P w K mg base 3 CR "take_chunk" (spChunk K CF CR CT)) (GF : Flt P w K mg base CF) :
    FnOk P w K mg base (L2.CX P w) 4 f fd ["reader"] (spMargin K CF CR CT) := by
  refine F.okX sc_read_margin (fun vs H Q E h => ?_) (fun cdv A outer s H vs Q E hr h => ?_)
  · obtain ⟨G, r, L, as, ts, n, t, rfl, _⟩ := h
    rfl
  obtain ⟨G, r, L, as, ts, n, t, rfl, R, ht, kE, kS⟩ := h
  obtain ⟨dx, ho⟩ := R.obj
  rw [drop_get ht, takeMargin_cons] at kE kS
  refine ⟨_, pss_cons (ps_set (i := 1) sc_read_margin.nd rfl (Or.inl rfl) (pe_me10 GC hr (Nat.le_refl _) (takes_of rfl rfl rfl rfl) (pv 0)))
    (pss_cons (ps_set (i := 2) sc_read_margin.nd rfl (Or.inl rfl) (pe_op op_sub (pe_ix ix_list (pe_fld (pv 1) rfl) pe_int (fun _ _ => rfl)) (pe_con1 T.cZERO)))
    (pss_cons (ps_if (PW.pt (pw_or (pt_cmpR op_gt (pe_callB call_len_seq (by rfl) T.nlen PySem.boot_len (pa_cons (pe_fld (pv 1) rfl) pa_nil)) pe_int (nomark _)) (pw_or1 (pt_not (pt_chain op_le op_le pe_int (pv 2) (pe_con1 T.cG))))))
      (pss_one (ps_flt GF hr (by decide) (takes_of rfl rfl rfl rfl) (pa_cons (pe_con1 T.c7) (pa_cons (pe_fld (pv 1) rfl) pa_nil)))) pss_nil)
    (pss_one (ps_ret (pv 2))))), ?_⟩
  refine ⟨_, rfl, r, dx, _, rfl, ho, noRd (by decide +kernel) (by decide +kernel), G, r, L, as, ts, n, t, rfl, R, ht, fun e H1 a sb R1 hta => ?_, fun e d H' s1 hd => ?_⟩
  · rw [e, if_pos rfl] at kE kS
    obtain ⟨da, ca, h1, h2⟩ := id hta
    have i1 := R1.part _ _ h1
    have i2 := R1.part _ _ h2
    have tok := R.ok t (mem_of_get ht)
    have ne : tokB t.tok ≠ [] := by
      cases hk : t.tok with
      | chunk b => rw [hk] at tok; exact tok.1
      | sign c => rw [hk] at e; cases e
      | last => rw [hk] at e; cases e
    obtain ⟨b0, a0, g0⟩ := first_byte ne
    refine ⟨_, rfl, a, CT, da, _, _, rfl, i1, OT.cl, OT.no _ (by simp), lkContent, ca, _, _, _, rfl, rfl, SqL.of i2, a0, _, _, rfl, rfl, ?_⟩
    refine ⟨_, rfl, a, CT, da, _, _, rfl, i1, OT.cl, OT.no _ (by simp), lkContent, _, _, rfl, .inl (SqL.of i2), _, _, rfl, rfl, _, rfl, ?_⟩
    show ite (decide ((1 : Int) < (((tokB t.tok).map bV).length : Nat)) = true) _ _
    rw [List.length_map]
    cases hb : tokB t.tok with
    | nil => exact absurd hb ne
    | cons b1 r1 =>
      rw [hb] at g0 kE kS
      have eb : b1 = b0 := by simpa using g0
      subst eb
      cases r1 with
      | cons b2 r2 =>
        rw [if_pos (decide_eq_true (by simp only [List.length_cons]; omega))]
        show ite (true = true) _ _
        rw [if_pos rfl]
        exact ⟨_, rfl, a, CT, da, _, _, rfl, i1, OT.cl, OT.no _ (by simp), lkPlace, 7, t.place, rfl, fun d hd => kE ⟨7, t.place⟩ rfl d _ (sb.trans (SameBut.of (same_upd hd))) upd_same⟩
      | nil =>
        rw [if_neg (by show ¬ decide ((1 : Int) < ((1 : Nat) : Int)) = true; decide)]
        simp only at kE kS
        have dig : (VahypBase.isDigit b1 = true ∧ b1.toNat - 48 ≤ 5) ↔ ((0 : Int) ≤ (b1.toNat : Int) - 48 ∧ (b1.toNat : Int) - 48 ≤ 5) := by
          unfold VahypBase.isDigit
          rw [decide_eq_true_eq]
          omega
        refine ⟨_, rfl, _, _, rfl, rfl, _, rfl, ?_⟩
        show ite (decide ((0 : Int) ≤ (b1.toNat : Int) - 48) = true) _ _
        have no : ¬ ((0 : Int) ≤ (b1.toNat : Int) - 48 ∧ (b1.toNat : Int) - 48 ≤ 5) → ∀ d H', SameBut r H H' → H' d = some (.xd (faultF 7 t.place)) → E (.ref CF) (some d) H' := fun z => by
          rw [if_neg (fun y => z (dig.mp y))] at kE
          exact kE ⟨7, t.place⟩ rfl
        by_cases c1 : (0 : Int) ≤ (b1.toNat : Int) - 48
        · rw [if_pos (decide_eq_true c1)]
          refine ⟨_, _, rfl, rfl, _, rfl, ?_⟩
          show ite ((!decide ((b1.toNat : Int) - 48 ≤ 5)) = true) _ _
          by_cases c2 : (b1.toNat : Int) - 48 ≤ 5
          · rw [if_neg (by rw [decide_eq_true c2]; decide)]
            rw [if_pos (dig.mpr ⟨c1, c2⟩)] at kS
            have q := kS (b1.toNat - 48) rfl (dig.mpr ⟨c1, c2⟩).2 H1 sb R1
            have e9 : ((b1.toNat - 48 : Nat) : Int) = (b1.toNat : Int) - 48 := by omega
            rw [e9] at q
            exact ⟨_, rfl, q⟩
          · rw [if_pos (by rw [decide_eq_false c2]; rfl)]
            exact ⟨_, rfl, a, CT, da, _, _, rfl, i1, OT.cl, OT.no _ (by simp), lkPlace, 7, t.place, rfl, fun d hd => no (fun z => c2 z.2) d _ (sb.trans (SameBut.of (same_upd hd))) upd_same⟩
        · rw [if_neg (by simpa using c1)]
          refine ⟨_, rfl, ?_⟩
          show ite (true = true) _ _
          rw [if_pos rfl]
          exact ⟨_, rfl, a, CT, da, _, _, rfl, i1, OT.cl, OT.no _ (by simp), lkPlace, 7, t.place, rfl, fun d hd => no (fun z => c1 z.1) d _ (sb.trans (SameBut.of (same_upd hd))) upd_same⟩
  · rw [e, if_neg (by decide)] at kE
    exact kE ⟨3, t.place⟩ rfl d H' (SameBut.of s1) hd
end
end Pw

namespace Pw
open PySem PySem.Spec PyProof.Rows L2
open VahypBase (Bytes PTok Toks Fault takeChunk takeSign)
open Vahypa (Pat Lst hyphened showPat wordOf patOf takeMargin)
section
variable {P : Program} {w : World} {K : PySem.W.Frag} {mg : Str → Option Value} {base : Heap} {CF CT CR : Addr}
theorem same_tup {H H' : Hp} {a : Addr} {xs : List V} (e : Same H H') (h : SqT K H a xs) : SqT K H' a xs := by
  rcases h with (h | ⟨o, h⟩) | h
  · exact .inl (.inl (e _ _ h))
  · exact .inl (.inr ⟨o, e _ _ h⟩)
  · exact .inr h
mutual
theorem dp_same {H H' : Hp} (s : Same H H') : ∀ {v : V} {d : PyData}, Dp K H v d → Dp K H' v d
  | _, _, .non => .non
  | _, _, .bl b => .bl b
  | _, _, .int i => .int i
  | _, _, .str x => .str x
  | _, _, .lst h t => .lst (s.seq h) (dpAll_same s t)
  | _, _, .tup h t => .tup (same_tup s h) (dpAll_same s t)
theorem dpAll_same {H H' : Hp} (s : Same H H') : ∀ {vs : List V} {ds : List PyData}, DpAll K H vs ds → DpAll K H' vs ds
  | _, _, .nil => .nil
  | _, _, .cons h t => .cons (dp_same s h) (dpAll_same s t)
end
theorem dpAll_snoc {H : Hp} {v : V} {d : PyData} (h : Dp K H v d) : ∀ {vs : List V} {ds : List PyData}, DpAll K H vs ds → DpAll K H (vs ++ [v]) (ds ++ [d])
  | _, _, .nil => .cons h .nil
  | _, _, .cons q t => .cons q (dpAll_snoc h t)
theorem lay_list {α : Type} (dat : α → PyData) (h1 : ∀ x, (dat x).canLay0 = true) (h2 : ∀ x, (dat x).depth ≤ 9) : ∀ xs : List α, SeqAt.shaped (.list (xs.map dat)) = true := by
  have key : ∀ xs : List α, PyData.canLayAll0 (xs.map dat) = true ∧ PyData.depthAll (xs.map dat) ≤ 9 := by
    intro xs
    induction xs with
    | nil => simp [PyData.canLayAll0, PyData.depthAll]
    | cons x r ih =>
      have := h2 x
      simp only [List.map_cons, PyData.canLayAll0, PyData.depthAll, h1 x, ih.1, Bool.and_true]
      exact ⟨trivial, by omega⟩
  intro xs
  have z := key xs
  have t1 : (PyData.list (xs.map dat)).canLay0 = true := by simp only [PyData.canLay0]; exact z.1
  have t2 : (PyData.list (xs.map dat)).depth ≤ 64 := by simp only [PyData.depth]; omega
  exact Bool.and_eq_true_iff.mpr ⟨t1, decide_eq_true t2⟩
theorem lay_one {α : Type} (dat : α → PyData) (h1 : ∀ x, (dat x).canLay0 = true) (h2 : ∀ x, (dat x).depth ≤ 9) (x : α) : SeqAt.shaped (dat x) = true :=
  Bool.and_eq_true_iff.mpr ⟨h1 x, decide_eq_true (Nat.le_trans (h2 x) (by decide))⟩
theorem room65 {k : Nat} {A : Around} (r : Room k A) : A.units + 65 < cLine := by
  have := r.un
  omega
/-! ### words and patterns alike -/
section
variable {α : Type}
def spEntOf (At : Hp → Addr → α → Prop) (parse : Bytes → Option α) : Sp := fun vs H Q _ => ∃ (c : Addr) (bs : Bytes), vs = [.ref c] ∧ H c = some (.lst (bs.map bV)) ∧ bs ≠ [] ∧ bs.length ≤ 40 ∧
  (parse bs = none → ∀ H', Same H H' → Q .non H') ∧
  (∀ x, parse bs = some x → ∀ H' p, Same H H' → H p = none → (∀ G, Same G H → G c = some (.lst (bs.map bV)) → At (ext G H H') p x) → Q (.ref p) H')
def spEntLike (K : PySem.W.Frag) (At : Hp → Addr → α → Prop) (dat : α → PyData) : Sp := fun vs H Q _ => ∃ (G : Hp) (a : Addr) (x : α), vs = [.ref a] ∧ Same G H ∧ At G a x ∧ ∀ H' v, Same H H' → Dp K (ext G H H') v (dat x) → Q v H'
structure EntK (P : Program) (w : World) (K : PySem.W.Frag) (mg : Str → Option Value) (base : Heap) (At : Hp → Addr → α → Prop) (dat : α → PyData) (parse : Bytes → Option α) (like : α → α → Bool) (C fE : Addr) : Prop where
  of_ : ∃ (fd : FuncData) (ps : List Str), FnOk P w K mg base CX0 3 fE fd ps (spEntOf At parse) ∧ PySem.W.keepIn K (.ref fE) = true ∧ Binds K fd ps []
  same : ∀ {H H' : Hp} {a : Addr} {x : α}, Same H H' → At H a x → At H' a x
  ins : ∀ {H : Hp} {a : Addr} {x : α}, At H a x → ∃ dx fs, H a = some (.ins C dx fs) ∧ fs.lookup ("likeness" : Str) = none
  lk : Me0 P w K mg base 1 C "likeness" (spEntLike K At dat)
  lay : ∀ x, (dat x).canLay0 = true
  deep : ∀ x, (dat x).depth ≤ 9
  eqv : ∀ x y, PyData.eqv (dat x) (dat y) = like x y
def spEntry (K : PySem.W.Frag) (CF CR CT fE : Addr) (At : Hp → Addr → α → Prop) (parse : Bytes → Option α) (like : α → α → Bool) : Sp := fun vs H Q E => ∃ (G A : Hp) (r L : Addr) (as : List Addr) (ts : Toks) (n : Nat) (t : PTok) (eL : Addr) (eas : List Addr) (xs : List α),
  vs = [.ref r, .ref fE, .ref eL] ∧ RdAt K CR CT G H r L as ts n ∧ ts[n]? = some t ∧ eL ≠ r ∧ H eL = some (.lst (eas.map V.ref)) ∧ Same A H ∧ A r = none ∧ All2 (At A) eas xs ∧ xs.length ≤ 1000 ∧
  (∀ f, entOf parse like xs (ts.drop n) = .error f → ∀ d H', SameBut r H H' → H' d = some (.xd (faultF f.code f.place)) → E (.ref CF) (some d) H') ∧
  (∀ x, entOf parse like xs (ts.drop n) = .ok (x, ts.drop (n + 1)) → ∀ H' p, SameBut r H H' → RdAt K CR CT G H' r L as ts (n + 1) → H p = none → At (ext G H H') p x → Q (.ref p) H')
theorem sc_read_entry : FnScope ["reader", "entry_of", "earlier", "token", "entry", "other"] ["reader", "entry_of", "earlier"] (defScope s_read_entry) := ⟨rfl, rfl, rfl, by decide +kernel, rfl, by decide +kernel, by decide +kernel⟩
theorem ok_read_entry {At : Hp → Addr → α → Prop} {dat : α → PyData} {parse : Bytes → Option α} {like : α → α → Bool} {C fE fJ f : Addr} {fd : FuncData} (F : Fun K "read_entry" "read_entry" s_read_entry f fd) (T : ReadC mg) (OT : OwnC K mg "Token" CT fJ ["place", "content"])
    (EK : EntK P w K mg base At dat parse like C fE) (GC : Me1 P w K mg base 3 CR "take_chunk" (spChunk K CF CR CT)) (GF : Flt P w K mg base CF) : FnOk P w K mg base (L2.CX P w) 4 f fd ["reader", "entry_of", "earlier"] (spEntry K CF CR CT fE At parse like) := by
  obtain ⟨fdE, psE, FE, kE0, bE⟩ := EK.of_
  refine F.okX sc_read_entry (fun vs H Q E h => ?_) (fun cdv Ar outer s H vs Q E hr h => ?_)
  · obtain ⟨G, A, r, L, as, ts, n, t, eL, eas, xs, rfl, _⟩ := h
    rfl
  obtain ⟨G, A, r, L, as, ts, n, t, eL, eas, xs, rfl, R, ht, neL, heL, sA, nA, hE, hx1, kE, kS⟩ := h
  obtain ⟨dx, ho⟩ := R.obj
  unfold entOf at kE kS
  rw [drop_get ht, takeChunk_cons] at kE kS
  refine ⟨_, pss_cons (ps_set (i := 3) sc_read_entry.nd rfl (Or.inl rfl) (pe_me10 GC hr (Nat.le_refl _) (takes_of rfl rfl rfl rfl) (pv 0)))
    (pss_cons (ps_set (i := 4) sc_read_entry.nd rfl (Or.inl rfl) (pe_callL (i := 1) FE hr rfl (.inl rfl) kE0 bE .nil pass0 (pa_cons (pe_fld (pv 3) rfl) pa_nil)))
    (pss_cons (ps_if (pt_cmpR op_isN (pv 4) pe_non (nomark _)) (pss_one (ps_flt GF hr (by decide) (takes_of rfl rfl rfl rfl) (pa_cons (pe_con1 T.c7) (pa_cons (pe_fld (pv 3) rfl) pa_nil)))) pss_nil)
    (pss_cons (ps_if (pt_cmpR (op_inD (room65 hr)) (pe_me00 EK.lk hr (by decide) (pv 4)) (pe_lc (own := [("other", 5)]) (g := gName 5) (tt := tYes) rfl sc_read_entry.nd (pi_list (pv 2))
        (blkOk_by (N := ["reader", "entry_of", "earlier", "token", "entry", "other"]) (sc := defScope s_read_entry) (by decide +kernel)) (fun _ _ _ _ _ => pg_name (i := 5) sc_read_entry.nd rfl (Or.inl rfl)) (fun _ _ _ _ _ => pts_nil)
        (fun _ _ _ _ _ => pe_me00 EK.lk hr (by decide) (pv 5))) (by rfl))
      (pss_one (ps_flt GF hr (by decide) (takes_of rfl rfl rfl rfl) (pa_cons (pe_con1 T.c5) (pa_cons (pe_fld (pv 3) rfl) pa_nil)))) pss_nil)
    (pss_one (ps_ret (pv 4)))))), ?_⟩
  refine ⟨_, rfl, r, dx, _, rfl, ho, noRd (by decide +kernel) (by decide +kernel), G, r, L, as, ts, n, t, rfl, R, ht, fun e H1 a sb R1 hta => ?_, fun e d H' s1 hd => ?_⟩
  · rw [e, if_pos rfl] at kE kS
    obtain ⟨da, ca, h1, h2⟩ := id hta
    have i1 := R1.part _ _ h1
    have i2 := R1.part _ _ h2
    have tok := R.ok t (mem_of_get ht)
    have good : tokB t.tok ≠ [] ∧ (tokB t.tok).length ≤ 40 := by
      cases hk : t.tok with
      | chunk b => rw [hk] at tok; exact ⟨tok.1, tok.2.2⟩
      | sign c => rw [hk] at e; cases e
      | last => rw [hk] at e; cases e
    have raise : ∀ (c : Nat), (∀ d H', SameBut r H H' → H' d = some (.xd (faultF c t.place)) → E (.ref CF) (some d) H') → ∀ H2, Same H1 H2 → ∀ d, H2 d = none → E (.ref CF) (some d) (upd H2 d (.xd (faultF c t.place))) := fun c k H2 s2 d hd =>
      k d _ (sb.trans (SameBut.of (s2.trans (same_upd hd)))) upd_same
    refine ⟨rfl, _, rfl, a, CT, da, _, _, rfl, i1, OT.cl, OT.no _ (by simp), lkContent, ca, tokB t.tok, rfl, i2, good.1, good.2, fun pn H2 s2 => ?_, fun x px H2 p s2 np hp => ?_⟩
    · refine ⟨_, rfl, rfl, _, rfl, ?_⟩
      show ite (decide (V.non = V.non) = true) _ _
      rw [if_pos (decide_eq_true rfl)]
      simp only [bind_ok, pn] at kE
      exact ⟨_, rfl, a, CT, da, _, _, rfl, s2 _ _ i1, OT.cl, OT.no _ (by simp), lkPlace, 7, t.place, rfl, fun d hd => raise 7 (kE ⟨7, t.place⟩ rfl) H2 s2 d hd⟩
    · simp only [bind_ok, px] at kE kS
      have hpx := hp G R1.part h2
      have toH2 : Same (ext G H1 H2) H2 := ext_r R1.part s2
      obtain ⟨dp, fs, hins, hlike⟩ := EK.ins hpx
      refine ⟨_, rfl, rfl, _, rfl, ?_⟩
      show ite (decide (V.ref p = V.non) = true) _ _
      rw [if_neg (by rw [decide_eq_false (by intro z; cases z)]; decide)]
      refine ⟨_, rfl, p, dp, _, rfl, toH2 _ _ hins, hlike, ext G H1 H2, p, x, rfl, toH2, hpx, fun H3 v s3 hv => ?_⟩
      have s13 := s2.trans s3
      have hv3 : Dp K H3 v (dat x) := dp_same (ext_r toH2 s3) hv
      have hA1 : Same A H1 := sb.part sA nA
      have heL1 : H1 eL = some (.lst (eas.map V.ref)) := sb _ _ neL heL
      have sA3 : Same A H3 := hA1.trans s13
      refine ⟨_, rfl, eL, rfl, ⟨_, SqL.of (s13 _ _ heL1)⟩, fun D hD => ?_⟩
      refine lc_it walk_list (fun i H' => ∃ vs, Same H3 H' ∧ H' D = some (.lst vs) ∧ vs.length = i ∧ DpAll K (del H' D) vs ((xs.take i).map dat)) ⟨[], same_upd hD, upd_same, rfl, .nil⟩ (fun _ _ _ ⟨_, z, _⟩ => SqL.of (z _ _ (s13 _ _ heL1))) ?_ ?_
      · rintro i y H5 H4 hi ⟨vs, sm, hD4, hl, hall⟩ ⟨rfl, hy⟩
        obtain ⟨ea, hea, rfl⟩ := map_get hy
        obtain ⟨q, hq, hAq⟩ := hE.get' hea
        have AD : A D = none := sA3.free hD
        have sAd : Same A (del H4 D) := same_del (sA3.trans sm) AD
        have hq4 := EK.same sAd hAq
        obtain ⟨dq, fq, hqi, hql⟩ := EK.ins hq4
        refine ⟨rfl, _, rfl, ea, dq, _, rfl, del_le _ _ hqi, hql, del H4 D, ea, q, rfl, del_le, hq4, fun H6 u s6 hu => ?_⟩
        have hi2 : i < xs.length := (List.getElem?_eq_some_iff.mp hq).1
        refine ⟨vs, s6 _ _ hD4, size_small (by omega), vs ++ [u], same_new (sm.trans s6) hD, upd_same, by simp [hl], ?_⟩
        rw [del_upd, ← map_more (f := dat) hq]
        exact dpAll_snoc (dp_same (ext_del s6 hD4) hu) (dpAll_same (del_mono s6) hall)
      · rintro H4 ⟨vs, sm, hD4, hl, hall⟩
        rw [List.length_map, List.take_of_length_le (by rw [hE.len]; exact Nat.le_refl _)] at hall
        refine ⟨dat x, xs.map dat, dp_same sm hv3, .lst (SqL.of hD4) (dpAll_same del_le hall), lay_one dat EK.lay EK.deep x, lay_list dat EK.lay EK.deep xs, _, rfl, ?_⟩
        have same : ((xs.map dat).any fun z => PyData.eqv z (dat x)) = xs.any fun v => like v x := by
          rw [List.any_map]
          congr 1
          funext y
          exact EK.eqv y x
        show ite (((xs.map dat).any fun z => PyData.eqv z (dat x)) = true) _ _
        rw [same]
        have s14 := s13.trans sm
        cases hany : (xs.any fun v => like v x) with
        | true =>
          rw [if_pos rfl]
          rw [hany, if_pos rfl] at kE
          exact ⟨_, rfl, a, CT, da, _, _, rfl, s14 _ _ i1, OT.cl, OT.no _ (by simp), lkPlace, 5, t.place, rfl, fun d hd => raise 5 (kE ⟨5, t.place⟩ rfl) H4 s14 d hd⟩
        | false =>
          rw [if_neg (by decide)]
          rw [hany, if_neg (by decide)] at kS
          obtain ⟨dx1, ho1⟩ := R1.obj
          refine ⟨_, rfl, kS x rfl H4 p (sb.trans (SameBut.of s14)) (R1.same s14) ?_ ?_⟩
          · exact sb.none ⟨_, ho1⟩ p np
          · have w1 : Same (ext G H1 H2) (ext G H1 H4) := ext_more (s3.trans sm)
            exact EK.same (w1.trans (ext_widen (sb.none ⟨_, ho1⟩) R.part)) hpx
  · rw [e, if_neg (by decide)] at kE
    exact kE ⟨3, t.place⟩ rfl d H' (SameBut.of s1) hd
end
end
end Pw

namespace Pw
open PySem PySem.Spec PyProof.Rows L2
open VahypBase (Bytes PTok Toks Fault takeChunk takeSign)
open Vahypa (Pat Lst hyphened showPat wordOf patOf takeMargin)
theorem fin_tail {t : PTok} {r : Toks} (h : Fin (t :: r)) (n : t.tok ≠ .last) : Fin r := by
  cases r with
  | nil => exact absurd h n
  | cons a r => exact h.2
theorem fin_cons {l : Toks} (h : Fin l) : ∃ t r, l = t :: r := by
  cases l with
  | nil => exact h.elim
  | cons t r => exact ⟨t, r, rfl⟩
theorem drop_cons_get {α : Type} {l : List α} {n : Nat} {t : α} {r : List α} (h : l.drop n = t :: r) : l[n]? = some t ∧ l.drop (n + 1) = r := by
  constructor
  · have := congrArg (·[0]?) h
    simpa [List.getElem?_drop] using this
  · rw [← List.drop_drop, h]
    rfl
theorem entOf_chunk {α : Type} {parse : Bytes → Option α} {like : α → α → Bool} {xs : List α} {t : PTok} {r : Toks} {y : α × Toks} (h : entOf parse like xs (t :: r) = .ok y) : isChunkTok t.tok = true := by
  unfold entOf at h
  rw [takeChunk_cons] at h
  cases c : isChunkTok t.tok with
  | true => rfl
  | false =>
    rw [c, if_neg (by decide)] at h
    cases h
theorem chunk_not_last {t : VahypBase.Tok} (h : isChunkTok t = true) : t ≠ .last := fun z => by
  rw [z] at h
  cases h
section
variable {P : Program} {w : World} {K : PySem.W.Frag} {mg : Str → Option Value} {base : Heap} {CF CT CR : Addr} {α : Type}
def spEntries (K : PySem.W.Frag) (CF CR CT fE : Addr) (At : Hp → Addr → α → Prop) (parse : Bytes → Option α) (like : α → α → Bool) : Sp := fun vs H Q E => ∃ (G : Hp) (r L : Addr) (as : List Addr) (ts : Toks) (n : Nat) (ka : Addr) (kw : Bytes) (most m : Nat),
  vs = [.ref r, .ref ka, .ref fE, .int (most : Nat)] ∧ RdAt K CR CT G H r L as ts n ∧ Fin (ts.drop n) ∧ H ka = some (.lst (kw.map bV)) ∧ (kw ≠ [] ∧ kw ≠ [59]) ∧ most ≤ 100 ∧ (ts.drop n).length < m ∧
  (∀ f, entLoop parse like kw most m [] (ts.drop n) = .error f → ∀ d H', SameBut r H H' → H' d = some (.xd (faultF f.code f.place)) → E (.ref CF) (some d) H') ∧
  (∀ xs n', entLoop parse like kw most m [] (ts.drop n) = .ok (xs, ts.drop n') → n ≤ n' → Fin (ts.drop n') → xs.length ≤ most → ∀ H' p eas, SameBut r H H' → RdAt K CR CT G H' r L as ts n' → H p = none → H' p = some (.lst (eas.map V.ref)) → All2 (At (ext G H H')) eas xs → Q (.ref p) H')
theorem sc_read_entries : FnScope ["reader", "keyword", "entry_of", "most", "entries"] ["reader", "keyword", "entry_of", "most"] (defScope s_read_entries) := ⟨rfl, rfl, rfl, by decide +kernel, rfl, by decide +kernel, by decide +kernel⟩
structure Ents (K : PySem.W.Frag) (CR CT : Addr) (At : Hp → Addr → α → Prop) (parse : Bytes → Option α) (like : α → α → Bool) (G H H' : Hp) (r L eL : Addr) (as : List Addr) (ts : Toks) (n0 m0 : Nat) (kw : Bytes) (most n m : Nat) (eas : List Addr) (xs : List α) : Prop where
  but : SameBut r H H'
  rd : RdAt K CR CT G H' r L as ts n
  fin : Fin (ts.drop n)
  ge : n0 ≤ n
  fuel : (ts.drop n).length < m
  few : xs.length ≤ most
  nE : H eL = none
  lst : H' eL = some (.lst (eas.map V.ref))
  ents : All2 (At (del (ext G H H') eL)) eas xs
  eq : entLoop parse like kw most m0 [] (ts.drop n0) = entLoop parse like kw most m xs (ts.drop n)
theorem ok_read_entries {At : Hp → Addr → α → Prop} {dat : α → PyData} {parse : Bytes → Option α} {like : α → α → Bool} {C fE fJ f : Addr} {fd : FuncData} (F : Fun K "read_entries" "read_entries" s_read_entries f fd) (T : ReadC mg) (OT : OwnC K mg "Token" CT fJ ["place", "content"])
    (EK : EntK P w K mg base At dat parse like C fE) (GS : Me0 P w K mg base 2 CR "stands_at" (spStands K CR CT)) (GH : Me0 P w K mg base 1 CR "here" (spHere K CR CT)) (GT : Me1 P w K mg base 3 CR "take" (spTake K CF CR CT))
    (GE : C1 P w K mg base 4 "read_entry" (spEntry K CF CR CT fE At parse like)) (GF : Flt P w K mg base CF) : FnOk P w K mg base (L2.CX P w) 5 f fd ["reader", "keyword", "entry_of", "most"] (spEntries K CF CR CT fE At parse like) := by
  refine F.okX sc_read_entries (fun vs H Q E h => ?_) (fun cdv Ar outer s H vs Q E hr h => ?_)
  · obtain ⟨G, r, L, as, ts, n, ka, kw, most, m, rfl, _⟩ := h
    rfl
  obtain ⟨G, r, L, as, ts, n0, ka, kw, most, m0, rfl, R0, hF0, hka, hkw, hmost, hm0, kE, kS⟩ := h
  refine ⟨_, pss_cons (ps_set (i := 4) sc_read_entries.nd rfl (Or.inl rfl) (pe_lst pa_nil))
    (pss_cons (ps_while (passes_of rfl) (pt_val (pe_me0 GS hr (by decide) (pv 0) (pa_cons (pv 1) pa_nil)))
      (pss_cons (ps_if (pt_cmpR op_eq (pe_callB call_len_seq (by rfl) T.nlen PySem.boot_len (pa_cons (pv 4) pa_nil)) (pv 3) (nomark _))
          (pss_one (ps_flt GF hr (by decide) (takes_of rfl rfl rfl rfl) (pa_cons (pe_con1 T.c4) (pa_cons (pe_fld (pe_me00 GH hr (by decide) (pv 0)) rfl) pa_nil)))) pss_nil)
      (pss_cons (ps_expr (pe_me1 GT hr (by decide) (takes_of rfl rfl rfl rfl) (pv 0) (pa_cons (pv 1) pa_nil)))
      (pss_cons (ps_expr (pe_bm PySem.F.plainAttrs_list PySem.F.slot_list_append PySem.F.type_list_append mt_append (pv 4) (pa_cons (pe_c1 GE hr (Nat.le_refl _) (takes_of rfl rfl rfl rfl) (pa_cons (pv 0) (pa_cons (pv 2) (pa_cons (pv 4) pa_nil)))) pa_nil)))
      (pss_one (ps_expr (pe_me1 GT hr (by decide) (takes_of rfl rfl rfl rfl) (pv 0) (pa_cons (pe_lst (pa_cons (pe_con1 T.cSEMI) pa_nil)) pa_nil))))))))
    (pss_one (ps_ret (pv 4)))), ?_⟩
  refine ⟨(by show 0 ≤ sizeLine; decide), fun eL heL => ?_⟩
  obtain ⟨dx0, ho0⟩ := R0.obj
  have nr : eL ≠ r := fun z => by rw [z, ho0] at heL; cases heL
  have nka : ka ≠ r := fun z => by rw [z, ho0] at hka; cases hka
  refine ⟨fun m σ H' => ∃ (n : Nat) (eas : List Addr) (xs : List α), σ = [some (.ref r), some (.ref ka), some (.ref fE), some (.int (most : Nat)), some (.ref eL)] ∧ Ents K CR CT At parse like G H H' r L eL as ts n0 m0 kw most n m eas xs,
    ⟨m0, n0, [], [], rfl, ⟨SameBut.of (same_upd heL), R0.same (same_upd heL), hF0, Nat.le_refl _, hm0, Nat.zero_le _, heL, upd_same, trivial, rfl⟩⟩, ?_⟩
  rintro m σ H' ⟨n, eas, xs, rfl, I⟩
  obtain ⟨t0, l1, hl⟩ := fin_cons I.fin
  obtain ⟨ht0, hl1⟩ := drop_cons_get hl
  obtain ⟨dx, ho⟩ := I.rd.obj
  have tok0 := I.rd.ok t0 (mem_of_get ht0)
  have eq := I.eq
  refine ⟨_, rfl, r, dx, _, rfl, ho, noRd (by decide +kernel) (by decide +kernel), _, rfl, G, r, L, as, ts, n, t0, ka, kw, rfl, I.rd, ht0, SqL.of (I.but _ _ nka hka), _, rfl, ?_⟩
  have fuel := I.fuel
  rw [hl] at fuel eq
  obtain ⟨m', rfl⟩ : ∃ m', m = m' + 1 := ⟨m - 1, by simp only [List.length_cons] at fuel; omega⟩
  rw [entLoop, nextTok_word hkw tok0] at eq
  have nG : G eL = none := R0.part.free heL
  show ite ((tokB t0.tok == kw) = true) _ _
  cases c0 : (tokB t0.tok == kw) with
  | false =>
    rw [if_neg (by decide)]
    rw [c0, if_neg (by decide)] at eq
    refine ⟨_, rfl, kS xs n (by rw [eq, hl]) I.ge I.fin I.few H' eL eas I.but I.rd heL I.lst (I.ents.mono fun _ _ z => EK.same del_le z)⟩
  | true =>
    rw [if_pos rfl]
    rw [c0, if_pos rfl] at eq
    refine ⟨fun σ' H2 => ∃ m2, m2 < m' + 1 ∧ ∃ (n : Nat) (eas : List Addr) (xs : List α), σ' = [some (.ref r), some (.ref ka), some (.ref fE), some (.int (most : Nat)), some (.ref eL)] ∧ Ents K CR CT At parse like G H H2 r L eL as ts n0 m0 kw most n m2 eas xs, fun _ _ z => z, ?_⟩
    refine ⟨_, rfl, _, _, rfl, .inl (SqL.of I.lst), _, rfl, rfl, _, rfl, ?_⟩
    have len : eas.length = xs.length := I.ents.len
    have e4 : decide (V.int ((eas.map V.ref).length : Nat) = V.int (most : Nat)) = decide (most ≤ xs.length) := by
      rw [decide_eq_decide, List.length_map, len]
      constructor
      · intro z
        injection z with z
        omega
      · intro z
        have := I.few
        rw [show xs.length = most by omega]
    show ite (decide (V.int ((eas.map V.ref).length : Nat) = V.int (most : Nat)) = true) _ _
    rw [e4]
    by_cases c1 : most ≤ xs.length
    · rw [if_pos (decide_eq_true c1)]
      rw [if_pos c1] at eq
      refine ⟨_, rfl, r, dx, _, rfl, ho, noRd (by decide +kernel) (by decide +kernel), G, r, L, as, ts, n, t0, rfl, I.rd, ht0, fun a ha hta => ?_⟩
      obtain ⟨da, ca, h1, h2⟩ := hta
      refine ⟨a, CT, da, _, _, rfl, I.rd.part _ _ h1, OT.cl, OT.no _ (by simp), lkPlace, 4, t0.place, rfl, fun d hd => ?_⟩
      exact kE ⟨4, t0.place⟩ eq d _ (I.but.trans (SameBut.of (same_upd hd))) upd_same
    · rw [if_neg (by simpa using c1)]
      rw [if_neg c1] at eq
      -- the keyword is taken
      refine ⟨_, rfl, r, dx, _, rfl, ho, noRd (by decide +kernel) (by decide +kernel), _, rfl, G, r, L, as, ts, n, t0, ka, kw, rfl, I.rd, ht0, SqL.of (I.but _ _ nka hka), fun _ H1 b1 R1 => ?_, fun z => by rw [c0] at z; cases z⟩
      have nl0 : t0.tok ≠ .last := fun z => by
        rw [z] at c0
        exact hkw.1 (eq_of_beq c0).symm
      have F1 : Fin (ts.drop (n + 1)) := by
        rw [hl1]
        have := I.fin
        rw [hl] at this
        exact fin_tail this nl0
      obtain ⟨t1, l2, hl'⟩ := fin_cons F1
      obtain ⟨ht1, hl2⟩ := drop_cons_get hl'
      have B1 := I.but.trans b1
      have hE1 : H1 eL = some (.lst (eas.map V.ref)) := b1 _ _ nr I.lst
      have nA : del (ext G H H') eL r = none := by
        rw [del_ne (Ne.symm nr), ext_old ho0]
        exact I.rd.nr
      have AH1 : Same (del (ext G H H') eL) H1 := b1.part (del_le.trans (ext_r' I.rd.part)) nA
      have few := I.few
      have e1 : List.drop 1 (t0 :: l1) = ts.drop (n + 1) := hl1.symm
      rw [e1] at eq
      refine ⟨_, rfl, .inl ⟨rfl, _, SqL.of hE1⟩, _, rfl, _, rfl, _, rfl, G, del (ext G H H') eL, r, L, as, ts, n + 1, t1, eL, eas, xs, rfl, R1, ht1, nr, hE1, AH1, nA, I.ents, by omega, fun f ef d H2 b2 hd => ?_, fun x ex H2 p b2 R2 np hp => ?_⟩
      · exact kE f (by rw [eq, ef]; rfl) d H2 (B1.trans b2) hd
      · have hE2 := b2 _ _ nr hE1
        refine ⟨eL, _, _, rfl, rfl, hE2, by rw [List.length_map]; exact size_small (by omega), ?_⟩
        obtain ⟨dx1, ho1⟩ := R1.obj
        obtain ⟨dx2, ho2⟩ := R2.obj
        have c1 : isChunkTok t1.tok = true := by
          rw [hl'] at ex
          exact entOf_chunk ex
        have F2 : Fin (ts.drop (n + 2)) := by
          rw [hl'] at F1
          have := fin_tail F1 (chunk_not_last c1)
          rw [← hl2] at this
          exact this
        obtain ⟨t2, l3, hl3⟩ := fin_cons F2
        obtain ⟨ht2, hl4⟩ := drop_cons_get hl3
        have tok2 := I.rd.ok t2 (mem_of_get ht2)
        rw [ex, bind_ok] at eq
        have e2 : takeSign 59 (ts.drop (n + 1 + 1)) = if (tokB t2.tok == [59]) = true then .ok l3 else .error ⟨3, t2.place⟩ := by
          rw [show n + 1 + 1 = n + 2 from rfl, hl3, takeSign_cons tok2]
        simp only [e2] at eq
        generalize hH3 : upd H2 eL (.lst (eas.map V.ref ++ [.ref p])) = H3
        have h3 : ∀ b, b ≠ eL → H3 b = H2 b := fun b z => by rw [← hH3, upd_ne z]
        have h3e : H3 eL = some (.lst ((eas ++ [p]).map V.ref)) := by
          rw [← hH3, upd_same, List.map_append]
          rfl
        have ho3 : H3 r = some (.ins CR dx2 (rdF L (n + 1 + 1))) := (h3 r (Ne.symm nr)).trans ho2
        have G3 : Same G H3 := fun b o e => (h3 b (ne_of_none e nG)).trans (R2.part b o e)
        refine ⟨_, rfl, r, dx2, _, rfl, ho3, noRd (by decide +kernel) (by decide +kernel), (by show 1 ≤ sizeLine; decide), fun q hq => ?_⟩
        have s4 : Same H3 (upd H3 q (.lst [.int 59])) := same_upd hq
        have R4 : RdAt K CR CT G (upd H3 q (.lst [.int 59])) r L as ts (n + 2) := { R2 with obj := ⟨dx2, s4 _ _ ho3⟩, part := G3.trans s4 }
        -- from the turn's beginning on
        have go : ∀ b o, b ≠ r → b ≠ eL → H' b = some o → upd H3 q (.lst [.int 59]) b = some o := fun b o z1 z2 e =>
          s4 _ _ ((h3 b z2).trans (b2 _ _ z1 (b1 _ _ z1 e)))
        have B4 : SameBut r H (upd H3 q (.lst [.int 59])) := fun b o z e => go b o z (ne_of_none e heL) (I.but b o z e)
        refine ⟨G, r, L, as, ts, n + 2, t2, q, [59], rfl, R4, ht2, SqL.of upd_same, fun c2 H5 b5 R5 => ?_, fun c2 d H5 s5 hd => ?_⟩
        · rw [c2, if_pos rfl, bind_ok] at eq
          have nl2 : t2.tok ≠ .last := fun z => by
            rw [z] at c2
            cases c2
          have F3 : Fin (ts.drop (n + 3)) := by
            rw [hl3] at F2
            have := fin_tail F2 nl2
            rw [← hl4] at this
            exact this
          have nr' : ∀ b, H b = none → b ≠ r := fun b e z => by rw [z, ho0] at e; cases e
          refine ⟨m', Nat.lt_succ_self _, n + 3, eas ++ [p], xs ++ [x], rfl, ⟨B4.trans b5, R5, F3, Nat.le_trans I.ge (by omega), ?_, by simp; omega, heL, b5 _ _ nr (s4 _ _ h3e), ?_, ?_⟩⟩
          · rw [List.length_cons] at fuel
            have z1 : l1.length = (ts.drop (n + 1)).length := by rw [hl1]
            rw [List.length_drop] at z1 ⊢
            omega
          · refine All2.snoc (EK.same ?_ hp) (I.ents.mono fun _ _ z => EK.same (ext_step fun b o z1 z2 e => b5 _ _ (nr' b z2) (go b o (nr' b z2) z1 e)) z)
            have x1 : Same (ext G H1 H2) (ext G H H2) := ext_widen (B1.none ⟨_, ho1⟩) R0.part
            have x2 : ext G H1 H2 eL = none := (ext_old hE1).trans nG
            refine (same_del x1 x2).trans (ext_step fun b o z1 z2 e => b5 _ _ (nr' b z2) (s4 _ _ ((h3 b z1).trans e)))
          · rw [eq, ← hl4]
        · rw [c2, if_neg (by decide)] at eq
          exact kE ⟨3, t2.place⟩ eq d H5 (B4.trans (SameBut.of s5)) hd
end
end Pw

namespace Pw
open PySem PySem.Spec PyProof.Rows L2
open VahypBase (Bytes PTok Toks Fault takeChunk takeSign takeWord)
open Vahypa (Pat Lst hyphened showPat wordOf patOf takeMargin takeWords takePats)
section
variable {P : Program} {w : World} {K : PySem.W.Frag} {mg : Str → Option Value} {base : Heap} {CF CT CR CW CP CL : Addr}
def datW (x : Vahypa.Word) : PyData := dB x.x
def datP (p : Pat) : PyData := .tuple [dB p.x, .bool p.front, .bool p.halt_]
theorem dB_lay (b : Bytes) : (dB b).canLay0 = true ∧ (dB b).depth ≤ 1 := by
  have := lay_bytes b
  constructor
  · simp only [dB, PyData.canLay0]
    exact this.1
  · simp only [dB, PyData.depth, this.2]
    omega
theorem entK_word {fE fL : Addr} {fdE fdL : FuncData} {psE psL : List Str} (GE : FnOk P w K mg base CX0 3 fE fdE psE (spWordOf K CW)) (kE : PySem.W.keepIn K (.ref fE) = true) (bE : Binds K fdE psE [])
    (c : Cls K CW) (me : Meth K CW "likeness" fL) (GL : FnOk P w K mg base CX0 1 fL fdL psL (spWordLike CW)) (bL : Binds K fdL psL []) : EntK P w K mg base (WordAt K CW) datW wordOf likeW CW fE where
  of_ := ⟨fdE, psE, GE.imp fun vs H Q E h => by
    obtain ⟨c, bs, rfl, hc, _, h40, k1, k2⟩ := h
    exact ⟨c, bs, rfl, SqL.of hc, h40, k1, k2⟩, kE, bE⟩
  same := fun s h => h.same s
  ins := fun h => by
    obtain ⟨_, dx, c, l, al, h1, _⟩ := h
    exact ⟨dx, _, h1, (lk_past (by decide +kernel)).trans ((lk_past (by decide +kernel)).trans ((lk_past (by decide +kernel)).trans rfl))⟩
  lk := ⟨fL, fdL, psL, c, me, GL.imp fun vs H Q E h => by
    obtain ⟨G, a, x, rfl, sG, ⟨_, dx, c, l, al, h1, h2, h3, h4⟩, k⟩ := h
    exact ⟨a, dx, c, l, al, rfl, sG _ _ h1, k H _ (Same.refl H) (dp_bytes (SqL.of (ext_l sG _ _ h3)))⟩, bL⟩
  lay := fun x => (dB_lay x.x).1
  deep := fun x => Nat.le_trans (dB_lay x.x).2 (by decide)
  eqv := fun x y => eqv_bytes x.x y.x
theorem entK_pat {fE fL : Addr} {fdE fdL : FuncData} {psE psL : List Str} (GE : FnOk P w K mg base CX0 3 fE fdE psE (spPatternOf K CP)) (kE : PySem.W.keepIn K (.ref fE) = true) (bE : Binds K fdE psE [])
    (c : Cls K CP) (me : Meth K CP "likeness" fL) (GL : FnOk P w K mg base CX0 1 fL fdL psL (spPatLike CP)) (bL : Binds K fdL psL []) : EntK P w K mg base (PatAt K CP) datP patOf likeP CP fE where
  of_ := ⟨fdE, psE, GE.imp fun vs H Q E h => by
    obtain ⟨c, bs, rfl, hc, hn, h40, k1, k2⟩ := h
    exact ⟨c, bs, rfl, SqL.of hc, hn, h40, k1, k2⟩, kE, bE⟩
  same := fun s h => h.same s
  ins := fun h => by
    obtain ⟨_, dx, c, l, al, h1, _⟩ := h
    exact ⟨dx, _, h1, (lk_past (by decide +kernel)).trans ((lk_past (by decide +kernel)).trans ((lk_past (by decide +kernel)).trans ((lk_past (by decide +kernel)).trans ((lk_past (by decide +kernel)).trans rfl))))⟩
  lk := ⟨fL, fdL, psL, c, me, GL.imp fun vs H Q E h => by
    obtain ⟨G, a, x, rfl, sG, ⟨_, dx, c, l, al, h1, h2, h3, h4⟩, k⟩ := h
    exact ⟨a, dx, c, l, al, x.front, x.halt_, rfl, sG _ _ h1, fun H' p s np hp => k H' _ s (.tup (.inl (.inl ((ext_new np).trans hp))) (.cons (dp_bytes (SqL.of (ext_l sG _ _ h3))) (.cons (.bl _) (.cons (.bl _) .nil))))⟩, bL⟩
  lay := fun x => by
    have := (dB_lay x.x).1
    simp [datP, PyData.canLay0, PyData.canLayAll0, this]
  deep := fun x => by
    have := (dB_lay x.x).2
    simp only [datP, PyData.depth, PyData.depthAll]
    omega
  eqv := fun x y => by
    simp only [datP, PyData.eqv, PyData.eqvAll, eqv_bytes, Bool.and_true]
    rfl
/-! ### read_list -/
theorem ext_to_nu {H H1 A B Hn : Hp} {r : Addr} (w : Same H A) (hr : ∃ o, A r = some o) (b : SameBut r B Hn) (g : Same (nu H H1) Hn) : Same (ext (nu H H1) A B) (nu H Hn) := fun c o e => by
  cases h : A c with
  | none =>
    rw [ext_new h] at e
    have nr : c ≠ r := fun z => by
      obtain ⟨u, hu⟩ := hr
      rw [z, hu] at h
      cases h
    exact (ext_new (w.free h)).trans (b c o nr e)
  | some u =>
    rw [ext_old h] at e
    cases hc : H c with
    | none => exact (ext_new hc).trans (g c o e)
    | some v =>
      have e' : ext nil0 H H1 c = some o := e
      rw [ext_old hc] at e'
      cases e'
theorem kw_margins : (("margins" : Str).cps.toList.map fun c => V.int (c : Nat)) = (VahypBase.word "margins").map bV := by decide +kernel
theorem kw_word : (("word" : Str).cps.toList.map fun c => V.int (c : Nat)) = (VahypBase.word "word").map bV := by decide +kernel
theorem kw_pattern : (("pattern" : Str).cps.toList.map fun c => V.int (c : Nat)) = (VahypBase.word "pattern").map bV := by decide +kernel
theorem margin_chunk {t : PTok} {r : Toks} {y : Nat × Toks} (h : takeMargin (t :: r) = .ok y) : isChunkTok t.tok = true := by
  rw [takeMargin_cons] at h
  cases c : isChunkTok t.tok with
  | true => rfl
  | false =>
    rw [c, if_neg (by decide)] at h
    cases h
theorem fin_next {ts : Toks} {n : Nat} {t : PTok} {r : Toks} (F : Fin (ts.drop n)) (h : ts.drop n = t :: r) (nl : t.tok ≠ .last) : Fin (ts.drop (n + 1)) := by
  rw [(drop_cons_get h).2]
  rw [h] at F
  exact fin_tail F nl
theorem word_not_last {t : PTok} {w : Bytes} (hw : w ≠ []) (c : (tokB t.tok == w) = true) : t.tok ≠ .last := fun z => by
  rw [z] at c
  exact hw (eq_of_beq c).symm
def spReadList (K : PySem.W.Frag) (CF CL CW CP : Addr) : Sp := fun vs H Q E => ∃ (a : Addr) (bs : Bytes), vs = [.ref a] ∧ SqL K H a (bs.map bV) ∧ bs.length ≤ 10000 ∧
  (∀ f, Vahypa.read bs = .error f → ∀ d H', Same H H' → H' d = some (.xd (faultF f.code f.place)) → E (.ref CF) (some d) H') ∧
  (∀ s, Vahypa.read bs = .ok s → ∀ H' p, Same H H' → H p = none → ListAt K CL CW CP (nu H H') p s → Q (.ref p) H')
theorem sc_read_list : FnScope ["text", "reader", "left", "right", "words", "patterns"] ["text"] (defScope s_read_list) := ⟨rfl, rfl, rfl, by decide +kernel, rfl, by decide +kernel, by decide +kernel⟩
theorem ok_read_list {fW fP fR f : Addr} {fd : FuncData} (F : Fun K "read_list" "read_list" s_read_list f fd) (T : ReadC mg) (GTk : C1 P w K mg base 5 "tokens_of" (spTokensOf K CF CT)) (GR : M0 P w K mg base 1 "Reader" CR (spRdInit CR))
    (GT : Me1 P w K mg base 3 CR "take" (spTake K CF CR CT)) (GB : C0 P w K mg base 1 "bytes_of" spBytesOf) (GM : C1 P w K mg base 4 "read_margin" (spMargin K CF CR CT)) (gW : mg "word_of" = some (.ref fW)) (gP : mg "pattern_of" = some (.ref fP))
    (GEW : C1 P w K mg base 5 "read_entries" (spEntries K CF CR CT fW (WordAt K CW) wordOf likeW)) (GEP : C1 P w K mg base 5 "read_entries" (spEntries K CF CR CT fP (PatAt K CP) patOf likeP)) (GL : M0 P w K mg base 1 "WordList" CL (spListInit K CL)) (GF : Flt P w K mg base CF) :
    FnOk P w K mg base (L2.CX P w) 6 f fd ["text"] (spReadList K CF CL CW CP) := by
  refine F.okX sc_read_list (fun vs H Q E h => ?_) (fun cdv Ar outer s H vs Q E hr h => ?_)
  · obtain ⟨a, bs, rfl, _⟩ := h
    rfl
  obtain ⟨a, bs, rfl, hS, hz, kE, kS⟩ := h
  refine ⟨_, pss_cons (ps_if (pt_cmpR op_gt (pe_callB call_len_seq (by rfl) T.nlen PySem.boot_len (pa_cons (pv 0) pa_nil)) (pe_con1 T.cTEXT) (nomark _)) (pss_one (ps_flt GF hr (by decide) (takes_of rfl rfl rfl rfl) (pa_cons (pe_con1 T.c1) (pa_cons (pe_con1 T.cTEXT) pa_nil)))) pss_nil)
    (pss_cons (ps_set (i := 1) sc_read_list.nd rfl (Or.inl rfl) (pe_m0 GR hr (by decide) (pa_cons (pe_c1 GTk hr (Nat.le_refl _) (takes_of rfl rfl rfl rfl) (pa_cons (pv 0) pa_nil)) pa_nil)))
    (pss_cons (ps_expr (pe_me1 GT hr (by decide) (takes_of rfl rfl rfl rfl) (pv 1) (pa_cons (pe_c0 GB hr (by decide) (pa_cons pe_str pa_nil)) pa_nil)))
    (pss_cons (ps_set (i := 2) sc_read_list.nd rfl (Or.inl rfl) (pe_c1 GM hr (by decide) (takes_of rfl rfl rfl rfl) (pa_cons (pv 1) pa_nil)))
    (pss_cons (ps_set (i := 3) sc_read_list.nd rfl (Or.inl rfl) (pe_c1 GM hr (by decide) (takes_of rfl rfl rfl rfl) (pa_cons (pv 1) pa_nil)))
    (pss_cons (ps_expr (pe_me1 GT hr (by decide) (takes_of rfl rfl rfl rfl) (pv 1) (pa_cons (pe_lst (pa_cons (pe_con1 T.cSEMI) pa_nil)) pa_nil)))
    (pss_cons (ps_set (i := 4) sc_read_list.nd rfl (Or.inl rfl) (pe_c1 GEW hr (Nat.le_refl _) (takes_of rfl rfl rfl rfl) (pa_cons (pv 1) (pa_cons (pe_c0 GB hr (by decide) (pa_cons pe_str pa_nil)) (pa_cons (pe_con1 (v := .ref fW) ⟨_, gW, rfl⟩) (pa_cons (pe_con1 T.cW) pa_nil))))))
    (pss_cons (ps_set (i := 5) sc_read_list.nd rfl (Or.inl rfl) (pe_c1 GEP hr (Nat.le_refl _) (takes_of rfl rfl rfl rfl) (pa_cons (pv 1) (pa_cons (pe_c0 GB hr (by decide) (pa_cons pe_str pa_nil)) (pa_cons (pe_con1 (v := .ref fP) ⟨_, gP, rfl⟩) (pa_cons (pe_con1 T.cP) pa_nil))))))
    (pss_cons (ps_expr (pe_me1 GT hr (by decide) (takes_of rfl rfl rfl rfl) (pv 1) (pa_cons (pe_lst pa_nil) pa_nil)))
    (pss_one (ps_ret (pe_m0 GL hr (by decide) (pa_cons (pe_tup (pa_cons (pv 2) (pa_cons (pv 3) pa_nil))) (pa_cons (pv 4) (pa_cons (pv 5) pa_nil)))))))))))))), ?_⟩
  refine ⟨_, rfl, _, _, rfl, .inl hS, _, _, rfl, rfl, _, rfl, ?_⟩
  rw [List.length_map]
  show ite (decide ((4096 : Int) < (bs.length : Nat)) = true) _ _
  by_cases c0 : 4096 < bs.length
  · rw [if_pos (decide_eq_true (by omega))]
    refine ⟨1, 4096, rfl, fun d hd => kE ⟨1, 4096⟩ ?_ d _ (same_upd hd) upd_same⟩
    unfold Vahypa.read VahypBase.tokens
    rw [if_pos (show VahypBase.TEXT < bs.length from c0)]
    rfl
  · rw [if_neg (by intro z; have := of_decide_eq_true z; omega)]
    have rd : Vahypa.read bs = (lexAt 0 bs).bind fun l => (takeWord "margins" l).bind fun l => (takeMargin l).bind fun a => (takeMargin a.2).bind fun z => (takeSign 59 z.2).bind fun l => (takeWords (l.length + 1) [] l).bind fun ws => (takePats (l.length + 1) [] ws.2).map fun ps => ⟨a.1, z.1, ws.1, ps⟩ := by
      unfold Vahypa.read VahypBase.tokens
      rw [if_neg (show ¬ VahypBase.TEXT < bs.length from c0)]
      rfl
    rw [rd] at kE
    simp only [rd] at kS
    refine ⟨_, rfl, a, bs, rfl, hS, hz, fun f ef d H1 s1 hd => ?_, fun ts et H1 L as s1 nL hL hts hok hF => ?_⟩
    · exact kE f (by rw [ef]; rfl) d H1 s1 hd
    · rw [et, bind_ok] at kE
      simp only [et, bind_ok] at kS
      intro r dx nr nd ne
      refine ⟨r, dx, L, rfl, upd_same, fun H2 h2 kp => ⟨rfl, ?_⟩⟩
      have s2 := same_made nr nd kp
      have s12 := s1.trans s2
      have nr0 : H r = none := s1.free nr
      have R2 : RdAt K CR CT (nu H H1) H2 r L as ts 0 := ⟨⟨dx, h2⟩, (ext_r nil_same s1).trans s2, (ext_new nr0).trans nr, (ext_new nL).trans hL, hts, hok⟩
      -- the caller's way out
      have out : ∀ Hk, SameBut r H2 Hk → ∀ H', SameBut r Hk H' → Same H H' := fun Hk b H' b' => (b.trans b').same s12 nr0
      have F0 : Fin (ts.drop 0) := hF
      obtain ⟨t0, l0, hl0⟩ := fin_cons F0
      obtain ⟨ht0, _⟩ := drop_cons_get hl0
      have tok0 := hok t0 (mem_of_get ht0)
      have tw : takeWord "margins" ts = if (tokB t0.tok == VahypBase.word "margins") = true then .ok l0 else .error ⟨3, t0.place⟩ := by
        rw [show ts = t0 :: l0 from hl0]
        exact takeWord_cons w_margins tok0
      -- margins
      refine ⟨_, rfl, r, dx, _, rfl, h2, noRd (by decide +kernel) (by decide +kernel), _, rfl, (by decide +kernel), fun H3 q s3 nq hq => ?_⟩
      have R3 := R2.same s3
      refine ⟨nu H H1, r, L, as, ts, 0, t0, q, VahypBase.word "margins", rfl, R3, ht0, SqL.of (hq.trans (congrArg (fun q => some (HO.lst q)) kw_margins)), fun c H4 b4 R4 => ?_, fun c d H4 s4 hd => ?_⟩
      · rw [c, if_pos rfl] at tw
        have F1 := fin_next F0 hl0 (word_not_last w_margins.1 c)
        have e0 : l0 = ts.drop 1 := (drop_cons_get hl0).2.symm
        rw [e0] at tw
        rw [tw, bind_ok] at kE
        simp only [tw, bind_ok] at kS
        have B4 : SameBut r H2 H4 := (SameBut.of s3).trans b4
        -- the left margin
        obtain ⟨t1, l1, hl1⟩ := fin_cons F1
        obtain ⟨ht1, _⟩ := drop_cons_get hl1
        refine ⟨_, rfl, nu H H1, r, L, as, ts, 1, t1, rfl, R4, ht1, fun f ef d H5 b5 hd => ?_, fun v ev v5 H5 b5 R5 => ?_⟩
        · exact kE f (by rw [ef]; rfl) d H5 (out H4 B4 H5 b5) hd
        · rw [ev, bind_ok] at kE
          simp only [ev, bind_ok] at kS
          have F2 := fin_next F1 hl1 (chunk_not_last (margin_chunk (hl1 ▸ ev)))
          have B5 := B4.trans b5
          -- the right margin
          obtain ⟨t2, l2, hl2⟩ := fin_cons F2
          obtain ⟨ht2, _⟩ := drop_cons_get hl2
          refine ⟨_, rfl, nu H H1, r, L, as, ts, 2, t2, rfl, R5, ht2, fun f ef d H6 b6 hd => ?_, fun u eu u5 H6 b6 R6 => ?_⟩
          · exact kE f (by rw [ef]; rfl) d H6 (out H5 B5 H6 b6) hd
          · rw [eu, bind_ok] at kE
            simp only [eu, bind_ok] at kS
            have F3 := fin_next F2 hl2 (chunk_not_last (margin_chunk (hl2 ▸ eu)))
            have B6 := B5.trans b6
            -- the sign
            obtain ⟨t3, l3, hl3⟩ := fin_cons F3
            obtain ⟨ht3, e3⟩ := drop_cons_get hl3
            have tok3 := hok t3 (mem_of_get ht3)
            have ts3 : takeSign 59 (ts.drop (2 + 1)) = if (tokB t3.tok == [59]) = true then .ok (ts.drop 4) else .error ⟨3, t3.place⟩ := by
              rw [hl3, takeSign_cons tok3, e3]
            obtain ⟨dx6, ho6⟩ := R6.obj
            refine ⟨_, rfl, r, dx6, _, rfl, ho6, noRd (by decide +kernel) (by decide +kernel), (by show 1 ≤ sizeLine; decide), fun q2 hq2 => ?_⟩
            have s7 : Same H6 (upd H6 q2 (.lst [.int 59])) := same_upd hq2
            refine ⟨nu H H1, r, L, as, ts, 3, t3, q2, [59], rfl, R6.same s7, ht3, SqL.of upd_same, fun c3 H7 b7 R7 => ?_, fun c3 d H7 s8 hd => ?_⟩
            · rw [c3, if_pos rfl] at ts3
              rw [ts3, bind_ok] at kE
              simp only [ts3, bind_ok] at kS
              have F4 := fin_next F3 hl3 (word_not_last (by decide) c3)
              have B7 : SameBut r H2 H7 := (B6.trans (SameBut.of s7)).trans b7
              -- the words
              refine ⟨_, rfl, _, rfl, (by decide +kernel), fun H8 ka s8 nka hka => ?_⟩
              have R8 := R7.same s8
              have B8 := B7.trans (SameBut.of s8)
              refine ⟨nu H H1, r, L, as, ts, 4, ka, VahypBase.word "word", 24, (ts.drop 4).length + 1, rfl, R8, F4, hka.trans (congrArg (fun q => some (HO.lst q)) kw_word), w_word, (by decide), Nat.lt_succ_self _, fun f ef d H9 b9 hd => ?_, fun xs n1 ew ge1 Fw w24 H9 wl was b9 R9 nwl hwl hws => ?_⟩
              · exact kE f (by rw [takeWords_loop, ef]; rfl) d H9 (out H8 B8 H9 b9) hd
              · have ew' : takeWords ((ts.drop 4).length + 1) [] (ts.drop 4) = .ok (xs, ts.drop n1) := by rw [takeWords_loop]; exact ew
                rw [ew', bind_ok] at kE
                simp only [ew', bind_ok] at kS
                have B9 := B8.trans b9
                -- the patterns
                refine ⟨_, rfl, _, rfl, (by decide +kernel), fun H10 kb s10 nkb hkb => ?_⟩
                have R10 := R9.same s10
                have B10 := B9.trans (SameBut.of s10)
                have okd : ∀ t ∈ ts.drop n1, TokOk t.tok := fun t m => hok t (List.mem_of_mem_drop m)
                rw [takePats_loop _ _ _ okd] at kE
                simp only [takePats_loop _ _ _ okd] at kS
                refine ⟨nu H H1, r, L, as, ts, n1, kb, VahypBase.word "pattern", 40, (ts.drop 4).length + 1, rfl, R10, Fw, hkb.trans (congrArg (fun q => some (HO.lst q)) kw_pattern), w_pattern, (by decide), (by rw [List.length_drop, List.length_drop]; omega), fun f ef d H11 b11 hd => ?_, fun ys n2 ep ge2 Fp p40 H11 pl pas b11 R11 npl hpl hps => ?_⟩
                · exact kE f (by rw [ef]; rfl) d H11 (out H10 B10 H11 b11) hd
                · rw [ep, bind_ok] at kE
                  simp only [ep, bind_ok] at kS
                  have B11 := B10.trans b11
                  -- the end
                  obtain ⟨te, le, hle⟩ := fin_cons Fp
                  obtain ⟨hte, _⟩ := drop_cons_get hle
                  have toke := hok te (mem_of_get hte)
                  obtain ⟨dx11, ho11⟩ := R11.obj
                  have nx : VahypBase.next .last (ts.drop n2) = (tokB te.tok == []) := by rw [hle, nextTok_last toke]
                  refine ⟨_, rfl, r, dx11, _, rfl, ho11, noRd (by decide +kernel) (by decide +kernel), (by show 0 ≤ sizeLine; decide), fun q3 hq3 => ?_⟩
                  have s12b : Same H11 (upd H11 q3 (.lst [])) := same_upd hq3
                  refine ⟨nu H H1, r, L, as, ts, n2, te, q3, [], rfl, R11.same s12b, hte, SqL.of upd_same, fun c5 H13 b13 R13 => ?_, fun c5 d H13 s13 hd => ?_⟩
                  · rw [nx, c5, if_pos rfl] at kS
                    have B13 := (B11.trans (SameBut.of s12b)).trans b13
                    -- the list
                    refine ⟨_, rfl, _, rfl, (by show 2 ≤ sizeLine; decide), fun tt htt => ⟨_, rfl, _, rfl, ?_⟩⟩
                    have s14 : Same H13 (upd H13 tt (.tup [.int (v : Nat), .int (u : Nat)])) := same_upd htt
                    intro x dl nx2 nd2 ne2
                    have ntx : tt ≠ x := fun z => by rw [z, upd_same] at nx2; cases nx2
                    have ntd : tt ≠ dl := fun z => by rw [z, upd_same] at nd2; cases nd2
                    refine ⟨x, dl, tt, wl, pl, v, u, rfl, .inl (.inl ((upd_ne ntx).trans ((upd_ne ntd).trans upd_same))), upd_same, fun H14 h14 kp2 => ⟨rfl, ?_⟩⟩
                    have s15 := s14.trans (same_made nx2 nd2 kp2)
                    have sH13 : Same H H13 := B13.same s12 nr0
                    have sEnd : Same H H14 := sH13.trans s15
                    have gEnd : Same (nu H H1) H14 := R13.part.trans s15
                    have b9e : SameBut r H9 H14 := ((((SameBut.of s10).trans b11).trans (SameBut.of s12b)).trans b13).trans (SameBut.of s15)
                    have b11e : SameBut r H11 H14 := ((SameBut.of s12b).trans b13).trans (SameBut.of s15)
                    obtain ⟨dx8, ho8⟩ := R8.obj
                    obtain ⟨dx10, ho10⟩ := R10.obj
                    have sH8 : Same H H8 := B8.same s12 nr0
                    have sH10 : Same H H10 := B10.same s12 nr0
                    have nwr : wl ≠ r := fun z => by rw [z, ho8] at nwl; cases nwl
                    have npr : pl ≠ r := fun z => by rw [z, ho10] at npl; cases npl
                    refine kS ⟨v, u, xs, ys⟩ rfl H14 x sEnd ((sH13.trans s14).free nx2) ?_
                    refine ⟨dl, wl, pl, was, pas, (ext_new ((sH13.trans s14).free nx2)).trans h14, (ext_new (sH8.free nwl)).trans (b9e _ _ nwr hwl), (ext_new (sH10.free npl)).trans (b11e _ _ npr hpl), ?_, ?_, v5, u5, w24, p40⟩
                    · exact hws.mono fun _ _ z => z.same (ext_to_nu sH8 ⟨_, ho8⟩ b9e gEnd)
                    · exact hps.mono fun _ _ z => z.same (ext_to_nu sH10 ⟨_, ho10⟩ b11e gEnd)
                  · rw [nx, c5, if_neg (by decide)] at kE
                    exact kE ⟨3, te.place⟩ (by rw [hle]; rfl) d H13 (out _ (B11.trans (SameBut.of s12b)) H13 (SameBut.of s13)) hd
            · rw [c3, if_neg (by decide)] at ts3
              exact kE ⟨3, t3.place⟩ (by rw [ts3]; rfl) d H7 (out _ (B6.trans (SameBut.of s7)) H7 (SameBut.of s8)) hd
      · rw [c, if_neg (by decide)] at tw
        exact kE ⟨3, t0.place⟩ (by rw [tw]; rfl) d H4 (out H3 (SameBut.of s3) H4 (SameBut.of s4)) hd
end
end Pw

namespace Pw
open PySem PySem.Spec PyProof.Rows L2
open VahypBase (Bytes)
open Vahypa (Pat Lst hyphened showPat fitsAt tells levelAt)
abbrev s_fits_at : Stmt := top 41
abbrev s_fitting_places : Stmt := top 42
abbrev s_gap_levels : Stmt := top 43
abbrev s_within_margins : Stmt := top 46
abbrev s_parted_gaps : Stmt := top 47
abbrev s_hits : Stmt := top 50
section
variable {P : Program} {w : World} {K : PySem.W.Frag} {mg : Str → Option Value} {base : Heap} {CP CL CW : Addr}
structure PartC (mg : Str → Option Value) : Prop where
  nlen : mg "len" = none
  nrange : mg "range" = none
  nmax : mg "max" = none
  nenum : mg "enumerate" = none
theorem lkPL {c l ds : Addr} {f e : Bool} : List.lookup ("letters" : Str) (patF c l ds f e) = some (.ref l) := (lk_past (by decide +kernel)).trans lk_here
theorem lkPD {c l ds : Addr} {f e : Bool} : List.lookup ("digits" : Str) (patF c l ds f e) = some (.ref ds) := (lk_past (by decide +kernel)).trans ((lk_past (by decide +kernel)).trans lk_here)
theorem lkPF {c l ds : Addr} {f e : Bool} : List.lookup ("at_front" : Str) (patF c l ds f e) = some (.bl f) := (lk_past (by decide +kernel)).trans ((lk_past (by decide +kernel)).trans ((lk_past (by decide +kernel)).trans lk_here))
theorem lkPE {c l ds : Addr} {f e : Bool} : List.lookup ("at_end" : Str) (patF c l ds f e) = some (.bl e) := (lk_past (by decide +kernel)).trans ((lk_past (by decide +kernel)).trans ((lk_past (by decide +kernel)).trans ((lk_past (by decide +kernel)).trans lk_here)))
/-! ### fits_at -/
def spFitsAt (K : PySem.W.Frag) (CP : Addr) : Sp := fun vs H Q _ => ∃ (a l : Addr) (p : Pat) (x : Bytes) (o : Nat), vs = [.ref a, .ref l, .int (o : Nat)] ∧ PatAt K CP H a p ∧ SqL K H l (x.map bV) ∧ ∀ H', Same H H' → Q (.bl (fitsAt p x o)) H'
theorem sc_fits_at : FnScope ["pattern", "letters", "place", "end"] ["pattern", "letters", "place"] (defScope s_fits_at) := ⟨rfl, rfl, rfl, by decide +kernel, rfl, by decide +kernel, by decide +kernel⟩
theorem fits_front {p : Pat} {x : Bytes} {o : Nat} (h1 : p.front = true) (h2 : 0 < o) : fitsAt p x o = false := by
  unfold fitsAt
  have : (o == 0) = false := by simp; omega
  simp [h1, this]
theorem fits_end {p : Pat} {x : Bytes} {o : Nat} (h1 : p.halt_ = true) (h2 : o + p.x.length < x.length) : fitsAt p x o = false := by
  unfold fitsAt
  have : (o + p.x.length == x.length) = false := by simp; omega
  simp [h1, this]
theorem fits_body {p : Pat} {x : Bytes} {o : Nat} (hp : 1 ≤ p.x.length) (h1 : ¬ (p.front = true ∧ 0 < o)) (h2 : ¬ (p.halt_ = true ∧ o + p.x.length < x.length)) : fitsAt p x o = ((x.drop o).take p.x.length == p.x) := by
  unfold fitsAt
  cases c : ((x.drop o).take p.x.length == p.x) with
  | false => simp
  | true =>
    have e := congrArg List.length (eq_of_beq c)
    rw [List.length_take, List.length_drop] at e
    have le : o + p.x.length ≤ x.length := by omega
    have a1 : (!p.front || o == 0) = true := by
      cases hf : p.front with
      | false => rfl
      | true =>
        have : ¬ 0 < o := fun z => h1 ⟨hf, z⟩
        have : o = 0 := by omega
        simp [this]
    have a2 : (!p.halt_ || o + p.x.length == x.length) = true := by
      cases hf : p.halt_ with
      | false => rfl
      | true =>
        have : ¬ o + p.x.length < x.length := fun z => h2 ⟨hf, z⟩
        simp
        omega
    simp [le, a1, a2]
theorem ok_fits_at {fI f : Addr} {fd : FuncData} (F : Fun K "fits_at" "fits_at" s_fits_at f fd) (T : PartC mg) (TP : OwnC K mg "Pattern" CP fI ["chunk", "letters", "digits", "at_front", "at_end"]) : FnOk P w K mg base CX0 1 f fd ["pattern", "letters", "place"] (spFitsAt K CP) := by
  refine F.ok sc_fits_at (fun vs H Q E h => ?_) (fun cdv A outer s H vs Q E hr h => ?_)
  · obtain ⟨a, l, p, x, o, rfl, _⟩ := h
    rfl
  obtain ⟨a, l, p, x, o, rfl, ⟨⟨ok, _⟩, dx, c, pl, ds, e1, e2, e3, e4⟩, hl, k⟩ := h
  refine ⟨_, pss_cons (ps_set (i := 3) sc_fits_at.nd rfl (Or.inl rfl) (pe_op op_add (pv 2) (pe_callB call_len_seq (by rfl) T.nlen PySem.boot_len (pa_cons (pe_fld (pv 0) rfl) pa_nil))))
    (pss_cons (ps_if (PW.pt (pw_and (pt_val (pe_fld (pv 0) rfl)) (pw_and1 (pt_cmpR op_gt (pv 2) pe_int (nomark _))))) (pss_one (ps_ret pe_bl)) pss_nil)
    (pss_cons (ps_if (PW.pt (pw_and (pt_val (pe_fld (pv 0) rfl)) (pw_and1 (pt_cmpR op_lt (pv 3) (pe_callB call_len_seq (by rfl) T.nlen PySem.boot_len (pa_cons (pv 1) pa_nil)) (nomark _))))) (pss_one (ps_ret pe_bl)) pss_nil)
    (pss_one (ps_ret (pe_cmpR (op_eqD hr.units) (pe_slice sl_list (pv 1) (po_some (pv 2)) (po_some (pv 3))) (pe_fld (pv 0) rfl) (nomark _)))))), ?_⟩
  have no := TP.no
  refine ⟨_, rfl, _, rfl, a, CP, dx, _, _, rfl, e1, TP.cl, no _ (by simp), lkPL, _, _, rfl, .inl (SqL.of e3), _, _, rfl, rfl, ?_⟩
  rw [List.length_map]
  have fin : ¬ (p.front = true ∧ 0 < o) → ¬ (p.halt_ = true ∧ o + p.x.length < x.length) → ∀ q, H q = none → Q (.bl (PyData.eqv (dB ((x.drop o).take p.x.length)) (dB p.x))) (upd H q (.lst (((x.drop o).take p.x.length).map bV))) := fun n1 n2 q hq => by
    rw [eqv_bytes, ← fits_body ok.len.1 n1 n2]
    exact k _ (same_upd hq)
  refine ⟨_, rfl, a, CP, dx, _, _, rfl, e1, TP.cl, no _ (by simp), lkPF, _, rfl, ?_⟩
  refine' (fun (step2 : ¬ (p.front = true ∧ 0 < o) → _) => ?main) ?rest
  case main =>
    show ite (p.front = true) _ _
    by_cases f1 : p.front = true
    · rw [if_pos f1]
      refine ⟨_, rfl, _, _, rfl, rfl, _, rfl, ?_⟩
      show ite (decide ((0 : Int) < (o : Nat)) = true) _ _
      by_cases o1 : 0 < o
      · rw [if_pos (decide_eq_true (by omega))]
        have := k H (Same.refl H)
        rw [fits_front f1 o1] at this
        exact this
      · rw [if_neg (by intro z; have := of_decide_eq_true z; omega)]
        exact step2 fun z => o1 z.2
    · rw [if_neg f1]
      show ite (false = true) _ _
      rw [if_neg (by decide)]
      exact step2 fun z => f1 z.1
  case rest =>
    intro n1
    refine ⟨_, rfl, a, CP, dx, _, _, rfl, e1, TP.cl, no _ (by simp), lkPE, _, rfl, ?_⟩
    refine' (fun (step3 : ¬ (p.halt_ = true ∧ o + p.x.length < x.length) → _) => ?main) ?rest
    case main =>
      show ite (p.halt_ = true) _ _
      by_cases f1 : p.halt_ = true
      · rw [if_pos f1]
        refine ⟨_, rfl, _, rfl, _, _, rfl, .inl hl, _, _, rfl, rfl, _, rfl, ?_⟩
        rw [List.length_map]
        show ite (decide (((o : Nat) : Int) + ((p.x.length : Nat) : Int) < ((x.length : Nat) : Int)) = true) _ _
        by_cases o1 : o + p.x.length < x.length
        · rw [if_pos (decide_eq_true (by omega))]
          have := k H (Same.refl H)
          rw [fits_end f1 o1] at this
          exact this
        · rw [if_neg (by intro z; have := of_decide_eq_true z; omega)]
          exact step3 fun z => o1 z.2
      · rw [if_neg f1]
        show ite (false = true) _ _
        rw [if_neg (by decide)]
        exact step3 fun z => f1 z.1
    case rest =>
      intro n2
      refine ⟨_, rfl, _, rfl, _, rfl, _, rfl, _, rfl, l, _, rfl, hl, fun q hq => ?_⟩
      have s1 : Same H (upd H q (.lst (cutV (x.map bV) (some ((o : Nat) : Int)) (some (((o : Nat) : Int) + ((p.x.length : Nat) : Int)))))) := same_upd hq
      have e5 : cutV (x.map bV) (some ((o : Nat) : Int)) (some (((o : Nat) : Int) + ((p.x.length : Nat) : Int))) = ((x.drop o).take p.x.length).map bV := by
        have := cut_map bV x o (o + p.x.length)
        rw [Nat.add_sub_cancel_left] at this
        exact this
      refine ⟨_, rfl, a, CP, dx, _, _, rfl, s1 _ _ e1, TP.cl, no _ (by simp), lkPL, dB ((x.drop o).take p.x.length), dB p.x, dp_bytes (SqL.of (upd_same.trans (congrArg (fun q => some (HO.lst q)) e5))), dp_bytes (SqL.of (s1 _ _ e3)), shaped_bytes _, shaped_bytes _, ?_⟩
      have := fin n1 n2 q hq
      rw [← e5] at this
      exact this
/-! ### fitting_places -/
def placesOf (p : Pat) (x : Bytes) : List Nat := (List.range (x.length + 1)).filter (fitsAt p x)
def spPlaces (K : PySem.W.Frag) (CP : Addr) : Sp := fun vs H Q _ => ∃ (a l : Addr) (p : Pat) (x : Bytes), vs = [.ref a, .ref l] ∧ PatAt K CP H a p ∧ SqL K H l (x.map bV) ∧ x.length ≤ 100 ∧
  ∀ H' q, Same H H' → H q = none → H' q = some (.lst ((placesOf p x).map nV)) → Q (.ref q) H'
theorem sc_fitting_places : FnScope ["pattern", "letters", "behind_last", "place"] ["pattern", "letters"] (defScope s_fitting_places) := ⟨rfl, rfl, rfl, by decide +kernel, rfl, by decide +kernel, by decide +kernel⟩
theorem fits_le {p : Pat} {x : Bytes} {o : Nat} (h : fitsAt p x o = true) : o + p.x.length ≤ x.length := by
  unfold fitsAt at h
  rw [Bool.and_eq_true] at h
  exact of_decide_eq_true h.1
theorem range_filter_more (f : Nat → Bool) (i : Nat) : (List.range (i + 1)).filter f = (List.range i).filter f ++ (if f i = true then [i] else []) := by
  rw [List.range_succ, List.filter_append]
  cases h : f i <;> simp [h]
theorem range_filter_cut (f : Nat → Bool) (m : Nat) : ∀ n, m ≤ n → (∀ i, m ≤ i → i < n → f i = false) → (List.range n).filter f = (List.range m).filter f
  | 0, h, _ => by rw [Nat.le_zero.mp h]
  | n + 1, h, k => by
    by_cases e : m = n + 1
    · rw [e]
    · rw [range_filter_more, k n (by omega) (by omega), if_neg (by decide), List.append_nil]
      exact range_filter_cut f m n (by omega) fun i h1 h2 => k i h1 (by omega)
theorem ok_fitting_places {fI f : Addr} {fd : FuncData} (F : Fun K "fitting_places" "fitting_places" s_fitting_places f fd) (T : PartC mg) (TP : OwnC K mg "Pattern" CP fI ["chunk", "letters", "digits", "at_front", "at_end"]) (GF : C0 P w K mg base 1 "fits_at" (spFitsAt K CP)) :
    FnOk P w K mg base CX0 2 f fd ["pattern", "letters"] (spPlaces K CP) := by
  refine F.ok sc_fitting_places (fun vs H Q E h => ?_) (fun cdv A outer s H vs Q E hr h => ?_)
  · obtain ⟨a, l, p, x, rfl, _⟩ := h
    rfl
  obtain ⟨a, l, p, x, rfl, hp, hl, hx, k⟩ := h
  obtain ⟨⟨ok, _⟩, dx, c, pl, ds, e1, e2, e3, e4⟩ := id hp
  refine ⟨_, pss_cons (ps_set (i := 2) sc_fitting_places.nd rfl (Or.inl rfl) (pe_op op_add (pe_op op_sub (pe_callB call_len_seq (by rfl) T.nlen PySem.boot_len (pa_cons (pv 1) pa_nil)) (pe_callB call_len_seq (by rfl) T.nlen PySem.boot_len (pa_cons (pe_fld (pv 0) rfl) pa_nil))) pe_int))
    (pss_one (ps_ret (pe_lc (own := [("place", 3)]) (g := gName 3) rfl sc_fitting_places.nd (pi_range1 (by rfl) T.nrange (pa_cons (pv 2) pa_nil))
      (blkOk_by (N := ["pattern", "letters", "behind_last", "place"]) (sc := defScope s_fitting_places) (by decide +kernel)) (fun _ _ _ _ _ => pg_name (i := 3) sc_fitting_places.nd rfl (Or.inl rfl))
      (fun _ _ _ _ _ => pts_one (pt_val (pe_c0 GF hr (Nat.le_refl _) (pa_cons (pv 0) (pa_cons (pv 1) (pa_cons (pv 3) pa_nil))))))
      (fun _ _ _ _ _ => pv 3)))), ?_⟩
  refine ⟨_, rfl, _, _, rfl, .inl hl, _, rfl, a, CP, dx, _, _, rfl, e1, TP.cl, TP.no _ (by simp), lkPL, _, _, rfl, .inl (SqL.of e3), _, _, rfl, rfl, _, _, rfl, rfl, ?_⟩
  rw [List.length_map, List.length_map]
  have h6 := ok.len
  refine ⟨_, rfl, _, rfl, (by omega), (by omega), fun D hD => ?_⟩
  refine lc_it walk_range (fun i H' => Same H H' ∧ H' D = some (.lst (((List.range i).filter (fitsAt p x)).map nV))) ⟨same_upd hD, upd_same⟩ (fun _ _ _ _ => trivial) ?_ ?_
  · rintro i y H1 H2 hi ⟨sm, hd⟩ ⟨rfl, hy⟩
    obtain rfl : y = V.int (i : Int) := hy.trans (by show V.int (0 + (i : Int)) = _; rw [Int.zero_add])
    refine ⟨rfl, _, rfl, _, rfl, _, rfl, a, l, p, x, i, rfl, hp.same sm, sm.seq hl, fun H3 s3 => ⟨_, rfl, ?_⟩⟩
    have sm3 := sm.trans s3
    have hd3 := s3 _ _ hd
    have few : (((List.range i).filter (fitsAt p x)).map nV).length < sizeLine := by
      rw [List.length_map]
      have := List.length_filter_le (fitsAt p x) (List.range i)
      rw [List.length_range] at this
      exact size_small (by omega)
    cases c : fitsAt p x i with
    | true =>
      refine ⟨_, rfl, _, hd3, few, same_new sm3 hD, ?_⟩
      rw [upd_same, range_filter_more, c, if_pos rfl, List.map_append]
      rfl
    | false =>
      refine ⟨sm3, ?_⟩
      rw [hd3, range_filter_more, c, if_neg (by decide), List.append_nil]
  · rintro H2 ⟨sm, hd⟩
    refine k H2 D sm hD ?_
    rw [hd]
    unfold placesOf
    rw [← range_filter_cut (fitsAt p x) _ (x.length + 1) (by omega) fun i h1 h2 => ?_]
    cases e : fitsAt p x i with
    | false => rfl
    | true =>
      have := fits_le e
      omega
end
end Pw

namespace Pw
open PySem PySem.Spec PyProof.Rows L2
open VahypBase (Bytes)
open Vahypa (Pat Lst hyphened showPat fitsAt tells levelAt)
/-! ### a list of levels by a function of the gap -/
def lvV (n : Nat) (f : Nat → Nat) : List V := ((List.range n).map f).map nV
theorem lv_len (n : Nat) (f : Nat → Nat) : (lvV n f).length = n := by simp [lvV]
theorem lv_get {n i : Nat} {f : Nat → Nat} (h : i < n) : atI (lvV n f) ((i : Nat) : Int) = some (nV (f i)) := atI_nat (by simp [lvV, h])
theorem lv_congr {n : Nat} {f g : Nat → Nat} (h : ∀ i, i < n → f i = g i) : lvV n f = lvV n g := by
  unfold lvV
  congr 1
  exact List.map_congr_left fun i m => h i (List.mem_range.mp m)
theorem lv_ix {n i : Nat} {f : Nat → Nat} (h : i < n) : ixN (lvV n f).length ((i : Nat) : Int) = some i := by
  rw [lv_len]
  unfold ixN
  rw [if_pos (by omega), if_pos (by omega)]
  simp
theorem lv_set {n i v : Nat} {f : Nat → Nat} : (lvV n f).set i (nV v) = lvV n fun g => if g = i then v else f g := by
  refine List.ext_getElem (by simp [lvV]) fun j h1 h2 => ?_
  rw [List.getElem_set]
  simp only [lvV, List.getElem_map, List.getElem_range]
  by_cases e : i = j
  · subst e
    simp
  · rw [if_neg e, if_neg fun z => e z.symm]
theorem lv_zero : ∀ n : Nat, (List.replicate n [V.int 0]).flatten = lvV n fun _ => 0
  | 0 => rfl
  | n + 1 => by
    rw [List.replicate_succ', List.flatten_append, lv_zero n]
    simp [lvV, List.range_succ]
    rfl
/-! ### the mathematics of the three loops -/
theorem tells_fit {p : Pat} {x : Bytes} {o g : Nat} (h : fitsAt p x o = true) : tells p x o g = if o ≤ g then p.levels[g - o]?.getD 0 else 0 := by
  unfold tells
  by_cases c : o ≤ g
  · rw [if_pos ⟨h, c⟩, if_pos c]
  · rw [if_neg fun z => c z.2, if_neg c]
theorem tells_no {p : Pat} {x : Bytes} {o g : Nat} (h : fitsAt p x o = false) : tells p x o g = 0 := by
  unfold tells
  rw [if_neg fun z => by rw [h] at z; cases z.1]
/-- behind j digits of p at o -/
def digAt (p : Pat) (o j : Nat) (f : Nat → Nat) (g : Nat) : Nat := if o ≤ g ∧ g - o < j then Nat.max (f g) (p.levels[g - o]?.getD 0) else f g
theorem digAt_zero (p : Pat) (o : Nat) (f : Nat → Nat) : digAt p o 0 f = f := by
  funext g
  exact if_neg fun z => Nat.not_lt_zero _ z.2
theorem digAt_succ {p : Pat} {o j d : Nat} {f : Nat → Nat} (h : p.levels[j]? = some d) : (fun g => if g = o + j then Nat.max (digAt p o j f (o + j)) d else digAt p o j f g) = digAt p o (j + 1) f := by
  funext g
  unfold digAt
  by_cases e : g = o + j
  · subst e
    rw [if_pos rfl, if_neg (by omega), if_pos (by omega), show o + j - o = j by omega, h]
    rfl
  · rw [if_neg e]
    by_cases c : o ≤ g ∧ g - o < j
    · rw [if_pos c, if_pos (by omega)]
    · rw [if_neg c, if_neg (by omega)]
theorem digAt_all {p : Pat} {x : Bytes} {o : Nat} {f : Nat → Nat} (h : fitsAt p x o = true) : digAt p o p.levels.length f = fun g => Nat.max (f g) (tells p x o g) := by
  funext g
  unfold digAt
  rw [tells_fit h]
  by_cases c : o ≤ g
  · rw [if_pos c]
    by_cases c2 : g - o < p.levels.length
    · rw [if_pos ⟨c, c2⟩]
    · rw [if_neg fun z => c2 z.2, List.getElem?_eq_none (by omega)]
      exact (Nat.max_eq_left (Nat.zero_le _)).symm
  · rw [if_neg fun z => c z.1, if_neg c]
    exact (Nat.max_eq_left (Nat.zero_le _)).symm
def plAt (p : Pat) (x : Bytes) (os : List Nat) (f : Nat → Nat) (g : Nat) : Nat := os.foldl (fun m o => Nat.max m (tells p x o g)) (f g)
theorem plAt_filter (p : Pat) (x : Bytes) (g : Nat) : ∀ (os : List Nat) (m : Nat), (os.filter (fitsAt p x)).foldl (fun m o => Nat.max m (tells p x o g)) m = os.foldl (fun m o => Nat.max m (tells p x o g)) m
  | [], _ => rfl
  | o :: os, m => by
    rw [List.foldl_cons, List.filter_cons]
    cases c : fitsAt p x o with
    | true =>
      rw [if_pos rfl, List.foldl_cons]
      exact plAt_filter p x g os _
    | false =>
      rw [if_neg (by decide), tells_no c, plAt_filter p x g os]
      congr 1
      exact (Nat.max_eq_left (Nat.zero_le _)).symm
def patAt (x : Bytes) (ps : List Pat) (g : Nat) : Nat := ps.foldl (fun m p => (List.range (x.length + 1)).foldl (fun m o => Nat.max m (tells p x o g)) m) 0
theorem patAt_more {x : Bytes} {ps : List Pat} {i : Nat} {p : Pat} (h : ps[i]? = some p) : plAt p x (placesOf p x) (patAt x (ps.take i)) = patAt x (ps.take (i + 1)) := by
  funext g
  unfold plAt placesOf
  rw [plAt_filter]
  show _ = patAt x (ps.take (i + 1)) g
  rw [take_more h]
  unfold patAt
  rw [List.foldl_append]
  rfl
theorem plAt_more {p : Pat} {x : Bytes} {os : List Nat} {i o : Nat} {f : Nat → Nat} (h : os[i]? = some o) : (fun g => Nat.max (plAt p x (os.take i) f g) (tells p x o g)) = plAt p x (os.take (i + 1)) f := by
  funext g
  unfold plAt
  rw [take_more h, List.foldl_append]
  rfl
section
variable {P : Program} {w : World} {K : PySem.W.Frag} {mg : Str → Option Value} {base : Heap} {CP CL CW : Addr}
def levelsV (ps : List Pat) (x : Bytes) : List V := lvV (x.length + 1) (levelAt ps x)
def spGapLevels (K : PySem.W.Frag) (CP : Addr) : Sp := fun vs H Q _ => ∃ (pl l : Addr) (pas : List Addr) (ps : List Pat) (x : Bytes), vs = [.ref pl, .ref l] ∧ SqL K H pl (pas.map V.ref) ∧ All2 (PatAt K CP H) pas ps ∧ SqL K H l (x.map bV) ∧ x.length ≤ 100 ∧
  ∀ H' q, Same H H' → H q = none → H' q = some (.lst (levelsV ps x)) → Q (.ref q) H'
theorem sc_gap_levels : FnScope ["patterns", "letters", "levels", "pattern", "place", "before", "digit"] ["patterns", "letters"] (defScope s_gap_levels) := ⟨rfl, rfl, rfl, by decide +kernel, rfl, by decide +kernel, by decide +kernel⟩
theorem max_nat (m d : Nat) : V.int (if ((d : Nat) : Int) > ((m : Nat) : Int) then ((d : Nat) : Int) else ((m : Nat) : Int)) = nV (Nat.max m d) := by
  unfold nV
  congr 1
  by_cases c : m < d
  · rw [if_pos (by omega), show Nat.max m d = d from Nat.max_eq_right (by omega)]
  · rw [if_neg (by omega), show Nat.max m d = m from Nat.max_eq_left (by omega)]
theorem ok_gap_levels {fI f : Addr} {fd : FuncData} (F : Fun K "gap_levels" "gap_levels" s_gap_levels f fd) (T : PartC mg) (TP : OwnC K mg "Pattern" CP fI ["chunk", "letters", "digits", "at_front", "at_end"]) (GP : C0 P w K mg base 2 "fitting_places" (spPlaces K CP)) :
    FnOk P w K mg base CX0 3 f fd ["patterns", "letters"] (spGapLevels K CP) := by
  refine F.ok sc_gap_levels (fun vs H Q E h => ?_) (fun cdv A outer s H vs Q E hr h => ?_)
  · obtain ⟨a, l, pas, ps, x, rfl, _⟩ := h
    rfl
  obtain ⟨pl, l, pas, ps, x, rfl, hpl, hps, hl, hx, k⟩ := h
  refine ⟨_, pss_cons (ps_set (i := 2) sc_gap_levels.nd rfl (Or.inl rfl) (pe_op op_rep (pe_lst (pa_cons pe_int pa_nil)) (pe_op op_add (pe_callB call_len_seq (by rfl) T.nlen PySem.boot_len (pa_cons (pv 1) pa_nil)) pe_int)))
    (pss_cons (ps_for PassesOwn.never rfl (pi_list (pv 0)) (pg_name (i := 3) sc_gap_levels.nd rfl (Or.inl rfl))
      (pss_one (ps_for PassesOwn.never rfl (pi_list (pe_c0 GP hr (Nat.le_refl _) (pa_cons (pv 3) (pa_cons (pv 1) pa_nil)))) (pg_name (i := 4) sc_gap_levels.nd rfl (Or.inl rfl))
        (pss_one (ps_for PassesOwn.never rfl (pi_enum (by rfl) T.nenum (pa_cons (pe_fld (pv 3) rfl) pa_nil)) (pg_tup rfl (pgs_cons (pg_name (i := 5) sc_gap_levels.nd rfl (Or.inl rfl)) (pgs_cons (pg_name (i := 6) sc_gap_levels.nd rfl (Or.inl rfl)) pgs_nil)))
          (pss_one (ps_asg (pe_callB (call_max2 rfl) (by rfl) T.nmax (by decide +kernel) (pa_cons (pe_ix ix_list (pv 2) (pe_op op_add (pv 4) (pv 5)) (fun _ _ => rfl)) (pa_cons (pv 6) pa_nil))) (pg_sub (pv 2) (pe_op op_add (pv 4) (pv 5)) set_list))))))))
    (pss_one (ps_ret (pv 2)))), ?_⟩
  refine ⟨(by show 1 ≤ sizeLine; decide), fun z0 hz0 => ?_⟩
  have s0 : Same H (upd H z0 (.lst [.int 0])) := same_upd hz0
  refine ⟨_, rfl, _, _, rfl, .inl (s0.seq hl), _, _, rfl, rfl, z0, _, _, rfl, rfl, upd_same, by omega, ?_, ?_, fun Lv hLv => ?_⟩
  · rw [List.length_map]; omega
  · rw [List.length_map]
    exact size_small' (by simp; omega)
  have nLv : H Lv = none := s0.free hLv
  have s1 : Same H (upd (upd H z0 (.lst [.int 0])) Lv (.lst (List.replicate ((((x.map bV).length : Nat) : Int) + 1).toNat [V.int 0]).flatten)) := same_new s0 nLv
  have h0 : upd (upd H z0 (.lst [.int 0])) Lv (.lst (List.replicate ((((x.map bV).length : Nat) : Int) + 1).toNat [V.int 0]).flatten) Lv = some (.lst (lvV (x.length + 1) (patAt x (ps.take 0)))) := by
    rw [upd_same, List.length_map, show (((x.length : Nat) : Int) + 1).toNat = x.length + 1 by omega, lv_zero]
    rfl
  refine ⟨_, rfl, pl, rfl, ⟨_, s1.seq hpl⟩, for_list (K := K) (a := pl) (xs := pas.map V.ref) (fun i σ H' => ∃ v3 v4 v5 v6 : Option V, σ = [some (.ref pl), some (.ref l), some (.ref Lv), v3, v4, v5, v6] ∧ Same H H' ∧ H' Lv = some (.lst (lvV (x.length + 1) (patAt x (ps.take i)))))
    ⟨none, none, none, none, rfl, s1, h0⟩ (fun i σ H' _ ⟨_, _, _, _, _, sm, _⟩ => sm.seq hpl) ?_ ?_⟩
  · rintro i y σ H' hi ⟨v3, v4, v5, v6, rfl, sm, hL⟩
    obtain ⟨pa, ha, rfl⟩ := map_get hi
    obtain ⟨p, hp, hpp⟩ := hps.get' ha
    refine ⟨_, rfl, _, rfl, pa, l, p, x, rfl, hpp.same sm, sm.seq hl, hx, fun H1 q s1 nq hq => ?_⟩
    have sm1 := sm.trans s1
    have nqL : q ≠ Lv := fun z => by rw [z, hL] at nq; cases nq
    obtain ⟨⟨pok, _⟩, dx, c, lp, ds, e1, e2, e3, e4⟩ := id hpp
    refine ⟨q, rfl, ⟨_, SqL.of hq⟩, for_list (K := K) (a := q) (xs := (placesOf p x).map nV) (fun j σ H' => ∃ v4 v5 v6 : Option V, σ = [some (.ref pl), some (.ref l), some (.ref Lv), some (.ref pa), v4, v5, v6] ∧ Same H H' ∧ H' q = some (.lst ((placesOf p x).map nV)) ∧
        H' Lv = some (.lst (lvV (x.length + 1) (plAt p x ((placesOf p x).take j) (patAt x (ps.take i))))))
      ⟨v4, v5, v6, rfl, sm1, hq, s1 _ _ hL⟩ (fun j σ H' _ ⟨_, _, _, _, _, z, _⟩ => SqL.of z) ?_ ?_⟩
    · rintro j y σ H2 hj ⟨v4, v5, v6, rfl, sm2, hq2, hL2⟩
      obtain ⟨o, ho, rfl⟩ := map_get hj
      have fo : fitsAt p x o = true := by
        have := mem_of_get ho
        unfold placesOf at this
        exact (List.mem_filter.mp this).2
      have ole := fits_le fo
      refine ⟨_, rfl, pa, CP, dx, _, _, rfl, sm2 _ _ e1, TP.cl, TP.no _ (by simp), lkPD, ds, _, rfl, SqL.of (sm2 _ _ e4), ?_⟩
      refine for_it walk_enum (fun m σ H' => ∃ v5 v6 : Option V, σ = [some (.ref pl), some (.ref l), some (.ref Lv), some (.ref pa), some (nV o), v5, v6] ∧ Same H H' ∧ H' q = some (.lst ((placesOf p x).map nV)) ∧
          H' Lv = some (.lst (lvV (x.length + 1) (digAt p o m (plAt p x ((placesOf p x).take j) (patAt x (ps.take i)))))))
        ⟨v5, v6, rfl, sm2, hq2, by rw [digAt_zero]; exact hL2⟩ (fun m σ H' _ ⟨_, _, _, z, _⟩ => SqL.of (z _ _ e4)) ?_ ?_
      · rintro m y σ H3 H4 hm ⟨v5, v6, rfl, sm3, hq3, hL3⟩ ⟨t, x1, y1, rfl, ht, rfl, hx1, hy1⟩
        obtain ⟨d, hd, rfl⟩ := map_get hy1
        injection hx1 with hx1
        subst hx1
        have m1 : m < p.x.length + 1 := by
          have := (List.getElem?_eq_some_iff.mp hd).1
          have := pok.levels
          omega
        have tL : Lv ≠ t := fun z => by rw [z, ht] at hL3; cases hL3
        have tq : q ≠ t := fun z => by rw [z, ht] at hq3; cases hq3
        have hL4 : upd H3 t (.tup [.int (m : Int), nV d]) Lv = some (.lst (lvV (x.length + 1) (digAt p o m (plAt p x ((placesOf p x).take j) (patAt x (ps.take i)))))) := (upd_ne tL).trans hL3
        have inr : o + m < x.length + 1 := by omega
        refine ⟨t, _, rfl, .inl (.inl upd_same), rfl, _, _, rfl, _, _, rfl, rfl, ?_⟩
        refine ⟨_, rfl, _, rfl, _, rfl, _, _, rfl, rfl, Lv, _, _, _, rfl, rfl, SqL.of hL4, lv_get inr, ?_⟩
        refine ⟨_, rfl, _, _, rfl, ?_⟩
        refine ⟨_, rfl, _, rfl, _, rfl, _, _, rfl, rfl, Lv, _, _, _, rfl, rfl, hL4, lv_ix inr, ?_⟩
        refine ⟨_, _, rfl, same_new (same_new sm3 (sm3.free ht)) nLv, (upd_ne nqL).trans ((upd_ne tq).trans hq3), ?_⟩
        rw [upd_same]
        refine congrArg (fun q => some (HO.lst q)) ?_
        rw [← digAt_succ hd, ← lv_set]
        exact congrArg (List.set _ _) (max_nat _ _)
      · rintro σ H3 ⟨v5, v6, rfl, sm3, hq3, hL3⟩
        refine ⟨some (nV o), v5, v6, rfl, sm3, hq3, ?_⟩
        rw [List.length_map, digAt_all fo, plAt_more ho] at hL3
        exact hL3
    · rintro σ H2 ⟨v4, v5, v6, rfl, sm2, hq2, hL2⟩
      refine ⟨_, _, _, _, rfl, sm2, ?_⟩
      rw [List.length_map, List.take_length, patAt_more hp] at hL2
      exact hL2
  · rintro σ H' ⟨v3, v4, v5, v6, rfl, sm, hL⟩
    refine ⟨_, rfl, k H' Lv sm nLv ?_⟩
    rw [List.length_map, List.take_of_length_le (by rw [hps.len]; exact Nat.le_refl _)] at hL
    exact hL
end
end Pw

namespace Pw
open PySem PySem.Spec PyProof.Rows L2
open VahypBase (Bytes)
open Vahypa (Pat Lst hyphened showPat fitsAt tells levelAt within parts gaps partsBy scoreWord)
/-! ### how many of one list stand in the other -/
theorem both_len : ∀ (a b : List Nat), a.Nodup → b.Nodup → (a.filter fun x => b.contains x).length = (b.filter fun x => a.contains x).length
  | [], b, _, _ => by
    have : (b.filter fun x => ([] : List Nat).contains x) = [] := by
      rw [List.filter_eq_nil_iff]
      intro y _
      simp
    rw [this]
    rfl
  | x :: a, b, ha, hb => by
    have hx : x ∉ a := (List.nodup_cons.mp ha).1
    have ih := both_len a b (List.nodup_cons.mp ha).2 hb
    have split : ∀ l : List Nat, l.Nodup → (l.filter fun y => (x :: a).contains y).length = (if l.contains x = true then 1 else 0) + (l.filter fun y => a.contains y).length := by
      intro l
      induction l with
      | nil => intro _; rfl
      | cons y l il =>
        intro hl
        have hy := (List.nodup_cons.mp hl).1
        have il := il (List.nodup_cons.mp hl).2
        rw [List.filter_cons, List.filter_cons]
        by_cases e : y = x
        · subst e
          have h1 : l.contains y = false := by simpa using hy
          have h2 : a.contains y = false := by simpa using hx
          rw [h1, if_neg (by decide)] at il
          have h3 : (y :: a).contains y = true := by simp
          have h4 : (y :: l).contains y = true := by simp
          rw [h3, if_pos rfl, h4, if_pos rfl, h2, if_neg (by decide), List.length_cons, il]
          omega
        · have h1 : (y :: l).contains x = l.contains x := by
            simp
            intro z
            exact absurd z.symm e
          rw [h1]
          have h2 : (x :: a).contains y = a.contains y := by
            simp
            intro z
            exact absurd z e
          rw [h2]
          by_cases c : a.contains y = true
          · rw [if_pos c, if_pos c, List.length_cons, List.length_cons, il]
            omega
          · rw [if_neg c, if_neg c, il]
    rw [split b hb, List.filter_cons]
    by_cases c : b.contains x = true
    · rw [if_pos c, if_pos c, List.length_cons, ih]
      omega
    · rw [if_neg c, if_neg c, ih]
      omega
theorem bounded_len {l : List Nat} {n : Nat} (nd : l.Nodup) (h : ∀ x ∈ l, x < n) : l.length ≤ n := by
  have e := both_len l (List.range n) nd List.nodup_range
  have e1 : (l.filter fun x => (List.range n).contains x) = l := List.filter_eq_self.mpr fun x m => by simpa using h x m
  rw [e1] at e
  have := List.length_filter_le (fun x => l.contains x) (List.range n)
  rw [List.length_range] at this
  omega
theorem not_len (f : Nat → Bool) : ∀ l : List Nat, (l.filter fun x => !f x).length + (l.filter f).length = l.length
  | [] => rfl
  | x :: l => by
    have := not_len f l
    rw [List.filter_cons, List.filter_cons]
    cases f x <;> simp <;> omega
theorem gaps_nodup (x : Bytes) : (gaps x).Nodup := by
  unfold gaps
  have : (List.range (x.length - 1)).Nodup := List.nodup_range
  exact List.Pairwise.map (fun k => k + 1) (fun a b h => by omega) this
section
variable {P : Program} {w : World} {K : PySem.W.Frag} {mg : Str → Option Value} {base : Heap} {CP CL CW : Addr}
theorem lkLL {l r : Nat} {ws ps : Addr} : List.lookup ("left" : Str) (listF l r ws ps) = some (.int (l : Nat)) := lk_here
theorem lkLR {l r : Nat} {ws ps : Addr} : List.lookup ("right" : Str) (listF l r ws ps) = some (.int (r : Nat)) := (lk_past (by decide +kernel)).trans lk_here
theorem lkLW {l r : Nat} {ws ps : Addr} : List.lookup ("words" : Str) (listF l r ws ps) = some (.ref ws) := (lk_past (by decide +kernel)).trans ((lk_past (by decide +kernel)).trans lk_here)
theorem lkLP {l r : Nat} {ws ps : Addr} : List.lookup ("patterns" : Str) (listF l r ws ps) = some (.ref ps) := (lk_past (by decide +kernel)).trans ((lk_past (by decide +kernel)).trans ((lk_past (by decide +kernel)).trans lk_here))
theorem lkWC {c l al : Addr} : List.lookup ("chunk" : Str) (wordF c l al) = some (.ref c) := lk_here
theorem lkWL {c l al : Addr} : List.lookup ("letters" : Str) (wordF c l al) = some (.ref l) := (lk_past (by decide +kernel)).trans lk_here
theorem lkWA {c l al : Addr} : List.lookup ("allowed" : Str) (wordF c l al) = some (.ref al) := (lk_past (by decide +kernel)).trans ((lk_past (by decide +kernel)).trans lk_here)
theorem ListAt.same {H H' : Hp} {a : Addr} {s : Lst} (sm : Same H H') (h : ListAt K CL CW CP H a s) : ListAt K CL CW CP H' a s := by
  obtain ⟨dx, wl, pl, was, pas, h1, h2, h3, h4, h5, h6⟩ := h
  exact ⟨dx, wl, pl, was, pas, sm _ _ h1, sm _ _ h2, sm _ _ h3, h4.mono fun _ _ z => z.same sm, h5.mono fun _ _ z => z.same sm, h6⟩
/-! ### within_margins -/
def spWithin (K : PySem.W.Frag) (CL CW CP : Addr) : Sp := fun vs H Q _ => ∃ (a : Addr) (s : Lst) (g n : Nat), vs = [.ref a, .int (g : Nat), .int (n : Nat)] ∧ ListAt K CL CW CP H a s ∧ Q (.bl (decide (s.l ≤ g ∧ g + s.r ≤ n))) H
theorem sc_within_margins : FnScope ["held", "gap", "length"] ["held", "gap", "length"] (defScope s_within_margins) := ⟨rfl, rfl, rfl, by decide +kernel, rfl, by decide +kernel, by decide +kernel⟩
theorem ok_within_margins {fI f : Addr} {fd : FuncData} (F : Fun K "within_margins" "within_margins" s_within_margins f fd) (TL : OwnC K mg "WordList" CL fI ["left", "right", "words", "patterns"]) : FnOk P w K mg base CX0 1 f fd ["held", "gap", "length"] (spWithin K CL CW CP) := by
  refine F.ok sc_within_margins (fun vs H Q E h => ?_) (fun cdv A outer s H vs Q E hr h => ?_)
  · obtain ⟨a, x, g, n, rfl, _⟩ := h
    rfl
  obtain ⟨a, x, g, n, rfl, hL, k⟩ := h
  obtain ⟨dx, wl, pl, was, pas, h1, _⟩ := id hL
  refine ⟨_, pss_one (ps_ret (pe_chain op_le op_le (pe_fld (pv 0) rfl) (pv 1) (pe_op op_sub (pv 2) (pe_fld (pv 0) rfl)))), ?_⟩
  refine ⟨_, rfl, a, CL, dx, _, _, rfl, h1, TL.cl, TL.no _ (by simp), lkLL, _, rfl, _, _, rfl, rfl, _, rfl, ?_⟩
  show ite (decide (((x.l : Nat) : Int) ≤ ((g : Nat) : Int)) = true) _ _
  by_cases c : x.l ≤ g
  · rw [if_pos (decide_eq_true (by omega))]
    refine ⟨_, rfl, _, rfl, a, CL, dx, _, _, rfl, h1, TL.cl, TL.no _ (by simp), lkLR, _, _, rfl, rfl, _, _, rfl, rfl, ?_⟩
    have e : decide (x.l ≤ g ∧ g + x.r ≤ n) = decide (((g : Nat) : Int) ≤ ((n : Nat) : Int) - ((x.r : Nat) : Int)) := by
      rw [decide_eq_decide]
      omega
    rw [e] at k
    exact k
  · rw [if_neg (by intro z; have := of_decide_eq_true z; omega)]
    rw [decide_eq_false (fun z => c z.1)] at k
    exact k
/-! ### parted_gaps -/
def spParted (K : PySem.W.Frag) (CL CW CP : Addr) : Sp := fun vs H Q _ => ∃ (a lv : Addr) (s : Lst) (x : Bytes), vs = [.ref a, .ref lv] ∧ ListAt K CL CW CP H a s ∧ SqL K H lv (levelsV s.pats x) ∧ x.length ≤ 100 ∧
  ∀ H' q, Same H H' → H q = none → H' q = some (.lst ((parts s x).map nV)) → Q (.ref q) H'
theorem sc_parted_gaps : FnScope ["held", "levels", "length", "odd", "gap"] ["held", "levels"] (defScope s_parted_gaps) := ⟨rfl, rfl, rfl, by decide +kernel, rfl, by decide +kernel, by decide +kernel⟩
theorem filter_take_more {f : Nat → Bool} {l : List Nat} {i x : Nat} (h : l[i]? = some x) : (l.take (i + 1)).filter f = (l.take i).filter f ++ (if f x = true then [x] else []) := by
  rw [take_more h, List.filter_append]
  cases c : f x <;> simp [c]
theorem gaps_get {x : Bytes} {i : Nat} (h : i < x.length - 1) : (gaps x)[i]? = some (i + 1) := by
  unfold gaps
  rw [List.getElem?_map, List.getElem?_range h]
  rfl
theorem gaps_len (x : Bytes) : (gaps x).length = x.length - 1 := by simp [gaps]
theorem ok_parted_gaps {f : Addr} {fd : FuncData} (F : Fun K "parted_gaps" "parted_gaps" s_parted_gaps f fd) (T : PartC mg) (GW : C0 P w K mg base 1 "within_margins" (spWithin K CL CW CP)) : FnOk P w K mg base CX0 2 f fd ["held", "levels"] (spParted K CL CW CP) := by
  refine F.ok sc_parted_gaps (fun vs H Q E h => ?_) (fun cdv A outer s H vs Q E hr h => ?_)
  · obtain ⟨a, lv, x, y, rfl, _⟩ := h
    rfl
  obtain ⟨a, lv, s, x, rfl, hL, hlv, hx, k⟩ := h
  refine ⟨_, pss_cons (ps_set (i := 2) sc_parted_gaps.nd rfl (Or.inr rfl) (pe_op op_sub (pe_callB call_len_seq (by rfl) T.nlen PySem.boot_len (pa_cons (pv 1) pa_nil)) pe_int))
    (pss_cons (ps_setLc (i := 3) (own := [("gap", 4)]) (g := gName 4) rfl sc_parted_gaps.nd rfl rfl (sw_true rfl rfl rfl (by decide +kernel)) (pi_range2 (by rfl) T.nrange (pa_cons pe_int (pa_cons (pv 2) pa_nil)))
      (blkOk_by (N := ["held", "levels", "length", "odd", "gap"]) (sc := defScope s_parted_gaps) (by decide +kernel)) (fun _ _ _ _ _ => pg_name (i := 4) sc_parted_gaps.nd rfl (Or.inl rfl))
      (fun _ _ _ _ _ => pts_one (pt_cmpR op_eq (pe_op op_mod (pe_ix (show IxR _ (rIxL K) from ix_list) (pv 1) (pv 4) (fun _ _ => rfl)) pe_int) pe_int (nomark _))) (fun _ _ _ _ _ => pv 4))
    (pss_one (ps_ret (pe_lc (own := [("gap", 4)]) (g := gName 4) rfl sc_parted_gaps.nd (pi_list (pv 3))
      (blkOk_by (N := ["held", "levels", "length", "odd", "gap"]) (sc := defScope s_parted_gaps) (by decide +kernel)) (fun _ _ _ _ _ => pg_name (i := 4) sc_parted_gaps.nd rfl (Or.inl rfl))
      (fun _ _ _ _ _ => pts_one (pt_val (pe_c0 GW hr (Nat.le_refl _) (pa_cons (pv 0) (pa_cons (pv 4) (pa_cons (pv 2) pa_nil)))))) (fun _ _ _ _ _ => pv 4))))), ?_⟩
  refine ⟨_, rfl, _, _, rfl, .inl hlv, _, _, rfl, rfl, ?_⟩
  have el : (((levelsV s.pats x).length : Nat) : Int) - 1 = ((x.length : Nat) : Int) := by
    unfold levelsV
    rw [lv_len]
    omega
  refine ⟨_, rfl, _, _, rfl, ⟨by decide, by decide, ?_, ?_⟩, fun D hD => ?_⟩
  · rw [el]; omega
  · rw [el]; omega
  have lvl : ∀ g, g < x.length → atI (levelsV s.pats x) ((g : Nat) : Int) = some (nV (levelAt s.pats x g)) := fun g hg => lv_get (by omega)
  have turns : ((((levelsV s.pats x).length : Nat) : Int) - 1 - 1).toNat = x.length - 1 := by rw [el]; omega
  rw [turns]
  refine lc_it walk_range (fun i H' => Same H H' ∧ H' D = some (.lst ((((gaps x).take i).filter fun g => levelAt s.pats x g % 2 == 1).map nV))) ⟨same_upd hD, upd_same⟩ (fun _ _ _ _ => trivial) ?_ ?_
  · rintro i y H1 H2 hi ⟨sm, hd⟩ ⟨rfl, hy⟩
    have gi := gaps_get hi
    obtain rfl : y = nV (i + 1) := hy.trans (by show V.int (1 + (i : Int)) = V.int (((i + 1 : Nat)) : Int); congr 1; omega)
    refine ⟨rfl, _, rfl, _, rfl, lv, _, _, _, rfl, rfl, sm.seq hlv, lvl (i + 1) (by omega), _, _, rfl, rfl, (by show (0 : Int) < 2; decide), rfl, _, rfl, ?_⟩
    have e1 : decide (V.int (((levelAt s.pats x (i + 1) : Nat) : Int) % 2) = V.int 1) = (levelAt s.pats x (i + 1) % 2 == 1) := by
      rw [Bool.eq_iff_iff, decide_eq_true_eq, beq_iff_eq]
      constructor
      · intro z
        injection z with z
        omega
      · intro z
        congr 1
        omega
    show ite (decide (V.int (((levelAt s.pats x (i + 1) : Nat) : Int) % 2) = V.int 1) = true) _ _
    rw [e1]
    have few : ((((gaps x).take i).filter fun g => levelAt s.pats x g % 2 == 1).map nV).length < sizeLine := by
      rw [List.length_map]
      have a1 := List.length_filter_le (fun g => levelAt s.pats x g % 2 == 1) ((gaps x).take i)
      rw [List.length_take] at a1
      exact size_small (by omega)
    have more := filter_take_more (f := fun g => levelAt s.pats x g % 2 == 1) gi
    cases c : (levelAt s.pats x (i + 1) % 2 == 1) with
    | true =>
      rw [if_pos rfl]
      refine ⟨_, rfl, _, hd, few, same_new sm hD, ?_⟩
      rw [upd_same, more]
      simp only [c, if_true]
      rw [List.map_append]
      rfl
    | false =>
      rw [if_neg (by decide)]
      refine ⟨sm, ?_⟩
      rw [hd, more]
      simp only [c, Bool.false_eq_true, if_false, List.append_nil]
  · rintro H2 ⟨sm, hd⟩
    rw [List.take_of_length_le (by rw [gaps_len]; exact Nat.le_refl _)] at hd
    refine ⟨_, rfl, D, rfl, ⟨_, SqL.of hd⟩, fun D2 hD2 => ?_⟩
    have nD2 : H D2 = none := sm.free hD2
    refine lc_it walk_list (fun i H' => Same H2 H' ∧ H' D2 = some (.lst (((((gaps x).filter fun g => levelAt s.pats x g % 2 == 1).take i).filter fun g => within s x g).map nV))) ⟨same_upd hD2, upd_same⟩ (fun _ _ _ z => SqL.of (z.1 _ _ hd)) ?_ ?_
    · rintro i y H3 H4 hi ⟨sm2, hd2⟩ ⟨rfl, hy⟩
      obtain ⟨g, hg, rfl⟩ := map_get hy
      refine ⟨rfl, _, rfl, _, rfl, _, rfl, a, s, g, x.length, ?_, hL.same (sm.trans sm2), _, rfl, ?_⟩
      · show [V.ref a, nV g, V.int ((((levelsV s.pats x).length : Nat) : Int) - 1)] = _
        rw [el]
        rfl
      have few : (((((gaps x).filter fun g => levelAt s.pats x g % 2 == 1).take i).filter fun g => within s x g).map nV).length < sizeLine := by
        rw [List.length_map]
        have a1 := List.length_filter_le (fun g => within s x g) (((gaps x).filter fun g => levelAt s.pats x g % 2 == 1).take i)
        have a2 := List.length_filter_le (fun g => levelAt s.pats x g % 2 == 1) (gaps x)
        rw [List.length_take] at a1
        have := gaps_len x
        exact size_small (by omega)
      have more := filter_take_more (f := fun g => within s x g) hg
      show ite (within s x g = true) _ _
      cases c : within s x g with
      | true =>
        rw [if_pos rfl]
        refine ⟨_, rfl, _, hd2, few, same_new sm2 hD2, ?_⟩
        rw [upd_same, more]
        simp only [c, if_true]
        rw [List.map_append]
        rfl
      | false =>
        rw [if_neg (by decide)]
        refine ⟨sm2, ?_⟩
        rw [hd2, more]
        simp only [c, Bool.false_eq_true, if_false, List.append_nil]
    · rintro H3 ⟨sm2, hd2⟩
      rw [List.length_map, List.take_length, List.filter_filter] at hd2
      refine k H3 D2 (sm.trans sm2) nD2 ?_
      rw [hd2]
      unfold parts partsBy
      refine congrArg (fun q : List Nat => some (HO.lst (q.map nV))) ?_
      exact List.filter_congr fun g _ => Bool.and_comm _ _
/-! ### hits_faults_misses -/
def scoreL (s : Lst) (y : Vahypa.Word) : List Nat := [(scoreWord s y).hits, (scoreWord s y).faults, (scoreWord s y).misses]
def spHits (K : PySem.W.Frag) (CL CW CP : Addr) : Sp := fun vs H Q _ => ∃ (a wd pt : Addr) (s : Lst) (y : Vahypa.Word), vs = [.ref a, .ref wd, .ref pt] ∧ ListAt K CL CW CP H a s ∧ WordAt K CW H wd y ∧ SqL K H pt ((parts s y.x).map nV) ∧
  ∀ H' q, Same H H' → H q = none → H' q = some (.lst ((scoreL s y).map nV)) → Q (.ref q) H'
theorem sc_hits : FnScope ["held", "word", "parted", "length", "wanted", "hits", "gap"] ["held", "word", "parted"] (defScope s_hits) := ⟨rfl, rfl, rfl, by decide +kernel, rfl, by decide +kernel, by decide +kernel⟩
theorem parts_within {s : Lst} {x : Bytes} {g : Nat} (h : g ∈ parts s x) : within s x g = true := by
  unfold parts partsBy at h
  have := (List.mem_filter.mp h).2
  rw [Bool.and_eq_true] at this
  exact this.2
theorem parts_nodup (s : Lst) (x : Bytes) : (parts s x).Nodup := by
  unfold parts partsBy
  exact (gaps_nodup x).filter _
theorem parts_len (s : Lst) (x : Bytes) : (parts s x).length ≤ x.length := by
  unfold parts partsBy
  have a1 := List.length_filter_le (fun g => levelAt s.pats x g % 2 == 1 && within s x g) (gaps x)
  rw [gaps_len] at a1
  omega
theorem score_math (s : Lst) (y : Vahypa.Word) (nd : y.cuts.Nodup) :
    let wanted := y.cuts.filter fun g => within s y.x g
    let hits := ((parts s y.x).filter fun g => wanted.contains g).length
    scoreL s y = [hits, (parts s y.x).length - hits, wanted.length - hits] ∧ hits ≤ (parts s y.x).length ∧ hits ≤ wanted.length := by
  intro wanted hits
  have h1 : hits = ((parts s y.x).filter fun g => y.cuts.contains g).length := by
    show ((parts s y.x).filter fun g => wanted.contains g).length = _
    congr 1
    refine List.filter_congr fun g hg => ?_
    rw [Bool.eq_iff_iff, List.contains_iff_mem, List.contains_iff_mem]
    exact ⟨fun z => (List.mem_filter.mp z).1, fun z => List.mem_filter.mpr ⟨z, parts_within hg⟩⟩
  have h2 := not_len (fun g => y.cuts.contains g) (parts s y.x)
  have h3 : hits = (wanted.filter fun g => (parts s y.x).contains g).length := both_len _ _ (parts_nodup s y.x) (nd.filter _)
  have h4 := not_len (fun g => (parts s y.x).contains g) wanted
  have h5 : (y.cuts.filter fun g => within s y.x g && !(parts s y.x).contains g) = wanted.filter fun g => !(parts s y.x).contains g := by
    show _ = (y.cuts.filter fun g => within s y.x g).filter _
    rw [List.filter_filter]
    exact List.filter_congr fun g _ => Bool.and_comm _ _
  refine ⟨?_, by omega, by omega⟩
  unfold scoreL scoreWord
  simp only [h5]
  congr 1
  · exact h1.symm
  · congr 1
    · omega
    · congr 1
      omega
theorem ok_hits {fI f : Addr} {fd : FuncData} (F : Fun K "hits_faults_misses" "hits_faults_misses" s_hits f fd) (T : PartC mg) (TW : OwnC K mg "Word" CW fI ["chunk", "letters", "allowed"]) (GW : C0 P w K mg base 1 "within_margins" (spWithin K CL CW CP)) :
    FnOk P w K mg base CX0 2 f fd ["held", "word", "parted"] (spHits K CL CW CP) := by
  refine F.ok sc_hits (fun vs H Q E h => ?_) (fun cdv A outer s H vs Q E hr h => ?_)
  · obtain ⟨a, wd, pt, x, y, rfl, _⟩ := h
    rfl
  obtain ⟨a, wd, pt, s, y, rfl, hL, hw, hpt, k⟩ := h
  obtain ⟨⟨wok, _⟩, dw, c, l, al, e1, e2, e3, e4⟩ := id hw
  obtain ⟨eq, le1, le2⟩ := score_math s y wok.nodup
  refine ⟨_, pss_cons (ps_set (i := 3) sc_hits.nd rfl (Or.inr rfl) (pe_callB call_len_seq (by rfl) T.nlen PySem.boot_len (pa_cons (pe_fld (pv 1) rfl) pa_nil)))
    (pss_cons (ps_set (i := 4) sc_hits.nd rfl (Or.inr rfl) (pe_lc (own := [("gap", 6)]) (g := gName 6) rfl sc_hits.nd (pi_list (pe_fld (pv 1) rfl))
      (blkOk_by (N := ["held", "word", "parted", "length", "wanted", "hits", "gap"]) (sc := defScope s_hits) (by decide +kernel)) (fun _ _ _ _ _ => pg_name (i := 6) sc_hits.nd rfl (Or.inl rfl))
      (fun _ _ _ _ _ => pts_one (pt_val (pe_c0 GW hr (Nat.le_refl _) (pa_cons (pv 0) (pa_cons (pv 6) (pa_cons (pv 3) pa_nil)))))) (fun _ _ _ _ _ => pv 6)))
    (pss_cons (ps_set (i := 5) sc_hits.nd rfl (Or.inl rfl) (pe_callB call_len_seq (by rfl) T.nlen PySem.boot_len (pa_cons (pe_lc (own := [("gap", 6)]) (g := gName 6) rfl sc_hits.nd (pi_list (pv 2))
      (blkOk_by (N := ["held", "word", "parted", "length", "wanted", "hits", "gap"]) (sc := defScope s_hits) (by decide +kernel)) (fun _ _ _ _ _ => pg_name (i := 6) sc_hits.nd rfl (Or.inl rfl))
      (fun _ _ _ _ _ => pts_one (pt_cmpR (show OpR _ _ (rIn K false) from op_in_seq) (pv 6) (pv 4) (by rfl))) (fun _ _ _ _ _ => pv 6)) pa_nil)))
    (pss_one (ps_ret (pe_lst (pa_cons (pv 5) (pa_cons (pe_op op_sub (pe_callB call_len_seq (by rfl) T.nlen PySem.boot_len (pa_cons (pv 2) pa_nil)) (pv 5)) (pa_cons (pe_op op_sub (pe_callB call_len_seq (by rfl) T.nlen PySem.boot_len (pa_cons (pv 4) pa_nil)) (pv 5)) pa_nil)))))))), ?_⟩
  refine ⟨_, rfl, wd, CW, dw, _, _, rfl, e1, TW.cl, TW.no _ (by simp), lkWL, _, _, rfl, .inl (SqL.of e3), ?_⟩
  rw [List.length_map]
  refine ⟨_, rfl, wd, CW, dw, _, _, rfl, e1, TW.cl, TW.no _ (by simp), lkWA, al, rfl, ⟨_, SqL.of e4⟩, fun D hD => ?_⟩
  have cl : y.cuts.length ≤ 100 := by
    have h1 := wok.cuts
    have h2 := bounded_len wok.nodup fun c m => (h1 c m).2
    have := wok.len
    omega
  refine lc_it walk_list (fun i H' => Same H H' ∧ H' D = some (.lst (((y.cuts.take i).filter fun g => within s y.x g).map nV))) ⟨same_upd hD, upd_same⟩ (fun _ _ _ z => SqL.of (z.1 _ _ e4)) ?_ ?_
  · rintro i y0 H1 H2 hi ⟨sm, hd⟩ ⟨rfl, hy⟩
    obtain ⟨g, hg, rfl⟩ := map_get hy
    refine ⟨rfl, _, rfl, _, rfl, _, rfl, a, s, g, y.x.length, rfl, hL.same sm, _, rfl, ?_⟩
    have few : (((y.cuts.take i).filter fun g => within s y.x g).map nV).length < sizeLine := by
      rw [List.length_map]
      have a1 := List.length_filter_le (fun g => within s y.x g) (y.cuts.take i)
      rw [List.length_take] at a1
      exact size_small (by omega)
    have more := filter_take_more (f := fun g => within s y.x g) hg
    show ite (within s y.x g = true) _ _
    cases c : within s y.x g with
    | true =>
      rw [if_pos rfl]
      refine ⟨_, rfl, _, hd, few, same_new sm hD, ?_⟩
      rw [upd_same, more]
      simp only [c, if_true]
      rw [List.map_append]
      rfl
    | false =>
      rw [if_neg (by decide)]
      refine ⟨sm, ?_⟩
      rw [hd, more]
      simp only [c, Bool.false_eq_true, if_false, List.append_nil]
  · rintro H2 ⟨sm, hd⟩
    rw [List.length_map, List.take_length] at hd
    have pl := parts_len s y.x
    have wl := wok.len
    refine ⟨_, rfl, pt, rfl, ⟨_, sm.seq hpt⟩, fun D2 hD2 => ?_⟩
    refine lc_it walk_list (fun i H' => Same H2 H' ∧ H' D2 = some (.lst ((((parts s y.x).take i).filter fun g => (y.cuts.filter fun g => within s y.x g).contains g).map nV))) ⟨same_upd hD2, upd_same⟩ (fun _ _ _ z => (sm.trans z.1).seq hpt) ?_ ?_
    · rintro i y0 H3 H4 hi ⟨sm2, hd2⟩ ⟨rfl, hy⟩
      obtain ⟨g, hg, rfl⟩ := map_get hy
      refine ⟨rfl, _, rfl, _, rfl, D, _, rfl, .inl (SqL.of (sm2 _ _ hd)), rfl, flat_nats _, _, rfl, ?_⟩
      have few : ((((parts s y.x).take i).filter fun g => (y.cuts.filter fun g => within s y.x g).contains g).map nV).length < sizeLine := by
        rw [List.length_map]
        have a1 := List.length_filter_le (fun g => (y.cuts.filter fun g => within s y.x g).contains g) ((parts s y.x).take i)
        rw [List.length_take] at a1
        exact size_small (by omega)
      have more := filter_take_more (f := fun g => (y.cuts.filter fun g => within s y.x g).contains g) hg
      have e9 : inV (nV g) ((y.cuts.filter fun g => within s y.x g).map nV) = (y.cuts.filter fun g => within s y.x g).contains g := by
        rw [inV_nat, Bool.eq_iff_iff, decide_eq_true_eq, List.contains_iff_mem]
      show ite (inV (nV g) ((y.cuts.filter fun g => within s y.x g).map nV) = true) _ _
      rw [e9]
      cases c : (y.cuts.filter fun g => within s y.x g).contains g with
      | true =>
        rw [if_pos rfl]
        refine ⟨_, rfl, _, hd2, few, same_new sm2 hD2, ?_⟩
        rw [upd_same, more]
        simp only [c, if_true]
        rw [List.map_append]
        rfl
      | false =>
        rw [if_neg (by decide)]
        refine ⟨sm2, ?_⟩
        rw [hd2, more]
        simp only [c, Bool.false_eq_true, if_false, List.append_nil]
    · rintro H3 ⟨sm2, hd2⟩
      rw [List.length_map, List.take_length] at hd2
      have sm3 := sm.trans sm2
      refine ⟨_, _, rfl, .inl (SqL.of hd2), ?_⟩
      refine ⟨_, rfl, _, rfl, _, _, rfl, .inl (sm3.seq hpt), _, rfl, _, _, rfl, rfl, _, rfl, _, _, rfl, .inl (SqL.of (sm2 _ _ hd)), _, rfl, _, _, rfl, rfl, (by show 3 ≤ sizeLine; decide), fun q hq => ?_⟩
      refine k _ q (same_new sm3 (sm3.free hq)) (sm3.free hq) ?_
      rw [upd_same, eq]
      refine congrArg (fun q => some (HO.lst q)) ?_
      rw [List.length_map, List.length_map, List.length_map]
      show [V.int _, V.int _, V.int _] = [V.int _, V.int _, V.int _]
      congr 1
      congr 1
      · congr 1
        omega
      · congr 1
        congr 1
        omega
end
end Pw

namespace Pw
open PySem PySem.Spec PyProof.Rows L2
open VahypBase (Bytes nats)
open Vahypa (Pat Lst Score levelAt parts gaps scoreWord addScore scoreOf exact fitsAt fitsIn tells decides hyphened)
/-! ### score: word by word -/
def scAt (s : Lst) (n : Nat) : Score := ((s.words.take n).map (scoreWord s)).foldl addScore ⟨0, 0, 0⟩
def exAt (s : Lst) (n : Nat) : Nat := ((s.words.take n).filter (exact s)).length
theorem scAt_zero (s : Lst) : scAt s 0 = ⟨0, 0, 0⟩ := rfl
theorem scAt_more {s : Lst} {n : Nat} {y : Vahypa.Word} (h : s.words[n]? = some y) : scAt s (n + 1) = addScore (scAt s n) (scoreWord s y) := by
  unfold scAt
  rw [take_more h, List.map_append, List.foldl_append]
  rfl
theorem scAt_all (s : Lst) : scAt s s.words.length = scoreOf s := by
  unfold scAt scoreOf
  rw [List.take_length]
theorem exAt_zero (s : Lst) : exAt s 0 = 0 := rfl
theorem exAt_more {s : Lst} {n : Nat} {y : Vahypa.Word} (h : s.words[n]? = some y) : exAt s (n + 1) = exAt s n + (if exact s y = true then 1 else 0) := by
  unfold exAt
  rw [take_more h, List.filter_append, List.length_append]
  cases c : exact s y <;> simp [List.filter, c]
theorem exAt_all (s : Lst) : exAt s s.words.length = (s.words.filter (exact s)).length := by
  unfold exAt
  rw [List.take_length]
/-! ### fits: word by word, place by place -/
def fitW (p : Pat) (ws : List Vahypa.Word) (n : Nat) : List (Nat × Nat) := (ws.take n).zipIdx.flatMap fun w => (placesOf p w.1.x).map fun o => (w.2, o)
theorem fitW_zero (p : Pat) (ws : List Vahypa.Word) : fitW p ws 0 = [] := rfl
theorem fitW_more {p : Pat} {ws : List Vahypa.Word} {n : Nat} {y : Vahypa.Word} (h : ws[n]? = some y) : fitW p ws (n + 1) = fitW p ws n ++ (placesOf p y.x).map fun o => (n, o) := by
  have hn := (List.getElem?_eq_some_iff.mp h).1
  unfold fitW
  rw [take_more h, List.zipIdx_append, List.flatMap_append]
  have : (ws.take n).length = n := by rw [List.length_take]; omega
  rw [this]
  simp
theorem fitW_all (s : Lst) (p : Pat) : fitW p s.words s.words.length = fitsIn s p := by
  unfold fitW fitsIn
  rw [List.take_length]
  rfl
def pairsI (l : List (Nat × Nat)) : List Int := l.flatMap fun x => nats [x.1, x.2]
theorem pairsI_append (a b : List (Nat × Nat)) : pairsI (a ++ b) = pairsI a ++ pairsI b := List.flatMap_append
theorem pairsI_len (a : List (Nat × Nat)) : (pairsI a).length = 2 * a.length := by
  induction a with
  | nil => rfl
  | cons x r ih =>
    unfold pairsI at ih ⊢
    rw [List.flatMap_cons, List.length_append, ih, List.length_cons]
    show 2 + _ = _
    omega
theorem pairsI_one (a b : Nat) : pairsI [(a, b)] = [(a : Int), (b : Int)] := rfl
theorem places_len (p : Pat) (x : Bytes) : (placesOf p x).length ≤ x.length + 1 := by
  unfold placesOf
  exact Nat.le_trans (List.length_filter_le _ _) (by rw [List.length_range]; exact Nat.le_refl _)
theorem fitW_len {p : Pat} {ws : List Vahypa.Word} {m : Nat} (h : ∀ y ∈ ws, y.x.length ≤ m) (n : Nat) (hn : n ≤ ws.length) : (fitW p ws n).length ≤ n * (m + 1) := by
  induction n with
  | zero => rw [fitW_zero]; exact Nat.zero_le _
  | succ n ih =>
    have hy : ws[n]? = some ws[n] := List.getElem?_eq_getElem (by omega)
    rw [fitW_more hy, List.length_append, List.length_map]
    have a1 := ih (by omega)
    have a2 := places_len p ws[n].x
    have a3 := h ws[n] (List.getElem_mem _)
    rw [Nat.succ_mul]
    omega
/-! ### why: pattern by pattern -/
def decF (x : Bytes) (g v : Nat) (ps : List Pat) (k : Nat) : Option (Nat × Nat) := (ps.zipIdx.drop k).findSome? fun p => ((List.range (x.length + 1)).find? fun o => tells p.1 x o g == v).map fun o => (p.2, o)
theorem decides_no {s : Lst} {x : Bytes} {g : Nat} (h : levelAt s.pats x g = 0) : decides s x g = none := by
  unfold decides
  exact if_pos h
theorem decides_eq {s : Lst} {x : Bytes} {g : Nat} (h : levelAt s.pats x g ≠ 0) : decides s x g = decF x g (levelAt s.pats x g) s.pats 0 := by
  unfold decides decF
  show (if _ = 0 then none else _) = _
  rw [if_neg h, List.drop_zero]
theorem decF_step {x : Bytes} {g v : Nat} {ps : List Pat} {k : Nat} {p : Pat} (h : ps[k]? = some p) : decF x g v ps k = (match (List.range (x.length + 1)).find? fun o => tells p x o g == v with
    | some o => some (k, o)
    | none => decF x g v ps (k + 1)) := by
  obtain ⟨hk, e⟩ := List.getElem?_eq_some_iff.mp h
  have hz : ps.zipIdx.drop k = (p, k) :: ps.zipIdx.drop (k + 1) := by
    rw [List.drop_eq_getElem_cons (by rw [List.length_zipIdx]; exact hk), List.getElem_zipIdx, e]
    simp
  unfold decF
  rw [hz, List.findSome?_cons]
  cases (List.range (x.length + 1)).find? fun o => tells p x o g == v <;> rfl
theorem decF_end (x : Bytes) (g v : Nat) (ps : List Pat) : decF x g v ps ps.length = none := by
  unfold decF
  rw [List.drop_eq_nil_of_le (by rw [List.length_zipIdx]; exact Nat.le_refl _)]
  rfl
theorem find_filter {α : Type} (f g : α → Bool) : ∀ l : List α, (l.filter f).find? g = l.find? fun a => f a && g a
  | [] => rfl
  | a :: r => by
    rw [List.find?_cons]
    cases c : f a with
    | true =>
      rw [List.filter_cons_of_pos c, List.find?_cons, find_filter f g r]
      rfl
    | false =>
      rw [List.filter_cons_of_neg (by rw [c]; decide), find_filter f g r]
      rfl
theorem find_places {p : Pat} {x : Bytes} {g v : Nat} (hv : v ≠ 0) : ((List.range (x.length + 1)).find? fun o => tells p x o g == v) = (placesOf p x).find? fun o => decide (o ≤ g) && (p.levels[g - o]?.getD 0 == v) := by
  unfold placesOf
  rw [find_filter]
  congr 1
  funext o
  cases c : fitsAt p x o with
  | false =>
    rw [tells_no c]
    show (0 == v) = false
    exact beq_eq_false_iff_ne.mpr (Ne.symm hv)
  | true =>
    rw [tells_fit c]
    by_cases h : o ≤ g
    · rw [if_pos h, decide_eq_true h]
      rfl
    · rw [if_neg h, decide_eq_false h]
      show (0 == v) = false
      exact beq_eq_false_iff_ne.mpr (Ne.symm hv)
theorem foldl_max_or {α : Type} (f : α → Nat) : ∀ (l : List α) (m : Nat), l.foldl (fun m a => Nat.max m (f a)) m = m ∨ ∃ a ∈ l, l.foldl (fun m a => Nat.max m (f a)) m = f a
  | [], m => .inl rfl
  | a :: r, m => by
    rw [List.foldl_cons]
    rcases foldl_max_or f r (Nat.max m (f a)) with e | ⟨b, mb, e⟩
    · rw [e]
      by_cases h : m ≤ f a
      · exact .inr ⟨a, List.mem_cons_self, Nat.max_eq_right h⟩
      · exact .inl (Nat.max_eq_left (by omega))
    · exact .inr ⟨b, List.mem_cons_of_mem _ mb, e⟩
theorem level_from (x : Bytes) (g : Nat) : ∀ (ps : List Pat) (m : Nat), ps.foldl (fun m p => (List.range (x.length + 1)).foldl (fun m o => Nat.max m (tells p x o g)) m) m = m ∨ ∃ p ∈ ps, ∃ o ∈ List.range (x.length + 1), ps.foldl (fun m p => (List.range (x.length + 1)).foldl (fun m o => Nat.max m (tells p x o g)) m) m = tells p x o g
  | [], m => .inl rfl
  | p :: r, m => by
    rw [List.foldl_cons]
    rcases level_from x g r ((List.range (x.length + 1)).foldl (fun m o => Nat.max m (tells p x o g)) m) with e | ⟨q, mq, o, mo, e⟩
    · rw [e]
      rcases foldl_max_or (fun o => tells p x o g) (List.range (x.length + 1)) m with e2 | ⟨o, mo, e2⟩
      · exact .inl e2
      · exact .inr ⟨p, List.mem_cons_self, o, mo, e2⟩
    · exact .inr ⟨q, List.mem_cons_of_mem _ mq, o, mo, e⟩
/-- a level that isn't 0 is told by some pattern at some place -/
theorem level_told {ps : List Pat} {x : Bytes} {g : Nat} (h : levelAt ps x g ≠ 0) : ∃ (k : Nat) (p : Pat), ps[k]? = some p ∧ ∃ o ∈ List.range (x.length + 1), tells p x o g = levelAt ps x g := by
  rcases level_from x g ps 0 with e | ⟨p, mp, o, mo, e⟩
  · exact absurd e h
  · obtain ⟨k, hk⟩ := List.getElem?_of_mem mp
    exact ⟨k, p, hk, o, mo, e.symm⟩
theorem decF_some {x : Bytes} {g v : Nat} {ps : List Pat} (h : ∃ (k : Nat) (p : Pat), ps[k]? = some p ∧ ∃ o ∈ List.range (x.length + 1), tells p x o g = v) : ∃ z, decF x g v ps 0 = some z := by
  obtain ⟨k, p, hk, o, mo, e⟩ := h
  unfold decF
  rw [List.drop_zero]
  cases c : ps.zipIdx.findSome? fun p => ((List.range (x.length + 1)).find? fun o => tells p.1 x o g == v).map fun o => (p.2, o) with
  | some z => exact ⟨z, rfl⟩
  | none =>
    rw [List.findSome?_eq_none_iff] at c
    have m : (p, k) ∈ ps.zipIdx := List.mem_zipIdx_iff_getElem?.mpr hk
    have := c _ m
    rw [Option.map_eq_none_iff, List.find?_eq_none] at this
    exact absurd (beq_iff_eq.mpr e) (this o mo)
theorem decides_some {s : Lst} {x : Bytes} {g : Nat} (h : levelAt s.pats x g ≠ 0) : ∃ z, decides s x g = some z ∧ decF x g (levelAt s.pats x g) s.pats 0 = some z := by
  obtain ⟨z, e⟩ := decF_some (level_told h)
  exact ⟨z, (decides_eq h).trans e, e⟩
/-! ### spell: letter by letter -/
theorem hyphened_more {x : Bytes} {cuts : List Nat} {n : Nat} {b : UInt8} (h : x[n]? = some b) : hyphened (x.take (n + 1)) cuts = hyphened (x.take n) cuts ++ (if cuts.contains n = true ∧ 0 < n then [45, b] else [b]) := by
  have hn := (List.getElem?_eq_some_iff.mp h).1
  unfold hyphened
  rw [take_more h, List.zipIdx_append, List.flatMap_append]
  have : (x.take n).length = n := by rw [List.length_take]; omega
  rw [this]
  simp
theorem hyphened_zero (x : Bytes) (cuts : List Nat) : hyphened (x.take 0) cuts = [] := rfl
theorem hyphened_all (x : Bytes) (cuts : List Nat) : hyphened (x.take x.length) cuts = hyphened x cuts := by rw [List.take_length]
theorem hyphened_len (x : Bytes) (cuts : List Nat) (n : Nat) (hn : n ≤ x.length) : (hyphened (x.take n) cuts).length ≤ 2 * n := by
  induction n with
  | zero => exact Nat.zero_le _
  | succ n ih =>
    have hy : x[n]? = some x[n] := List.getElem?_eq_getElem (by omega)
    rw [hyphened_more hy, List.length_append]
    have := ih (by omega)
    split <;> simp only [List.length_cons, List.length_nil] <;> omega
end Pw

namespace Pw
open PySem PySem.Spec PyProof.Rows L2
open VahypBase (Bytes)
open Vahypa (Pat Lst hyphened fitsAt tells levelAt within parts gaps partsBy)
abbrev s_digit_at : Stmt := top 44
abbrev s_bearers : Stmt := top 45
abbrev s_parted_of : Stmt := top 48
abbrev s_hyphened : Stmt := top 49
/-! ### digits and the patterns that bear them -/
def digOf (p : Pat) (o g : Nat) : Nat := if o ≤ g then p.levels[g - o]?.getD 0 else 0
def bearP (g v k : Nat) (p : Pat) (os : List Nat) : List (Nat × Nat) := (os.filter fun o => digOf p o g == v).map fun o => (k, o)
def bearN (x : Bytes) (g v : Nat) (ps : List Pat) (n : Nat) : List (Nat × Nat) := (ps.take n).zipIdx.flatMap fun w => bearP g v w.2 w.1 (placesOf w.1 x)
theorem bearN_more {x : Bytes} {g v : Nat} {ps : List Pat} {n : Nat} {p : Pat} (h : ps[n]? = some p) : bearN x g v ps (n + 1) = bearN x g v ps n ++ bearP g v n p (placesOf p x) := by
  have hn := (List.getElem?_eq_some_iff.mp h).1
  unfold bearN
  rw [take_more h, List.zipIdx_append, List.flatMap_append]
  have : (ps.take n).length = n := by rw [List.length_take]; omega
  rw [this]
  simp
theorem bearP_more {g v k : Nat} {p : Pat} {os : List Nat} {i o : Nat} (h : os[i]? = some o) : bearP g v k p (os.take (i + 1)) = bearP g v k p (os.take i) ++ (if (digOf p o g == v) = true then [(k, o)] else []) := by
  unfold bearP
  rw [take_more h, List.filter_append, List.map_append]
  cases c : (digOf p o g == v) <;> simp [c]
theorem bearP_len (g v k : Nat) (p : Pat) (os : List Nat) : (bearP g v k p os).length ≤ os.length := by
  unfold bearP
  rw [List.length_map]
  exact List.length_filter_le _ _
theorem bearN_len (x : Bytes) (g v : Nat) (ps : List Pat) (n : Nat) (hn : n ≤ ps.length) : (bearN x g v ps n).length ≤ n * (x.length + 1) := by
  induction n with
  | zero => exact Nat.zero_le _
  | succ n ih =>
    have hy : ps[n]? = some ps[n] := List.getElem?_eq_getElem (by omega)
    rw [bearN_more hy, List.length_append]
    have a1 := ih (by omega)
    have a2 := bearP_len g v n ps[n] (placesOf ps[n] x)
    have a3 := places_len ps[n] x
    rw [Nat.succ_mul]
    omega
theorem bear_head {x : Bytes} {g v : Nat} {ps : List Pat} (hv : v ≠ 0) : (bearN x g v ps ps.length).head? = decF x g v ps 0 := by
  unfold bearN decF
  rw [List.take_length, List.drop_zero, List.head?_flatMap]
  congr 1
  funext w
  unfold bearP
  rw [List.head?_map, List.head?_filter, find_places hv]
  congr 2
  funext o
  unfold digOf
  by_cases h : o ≤ g
  · rw [if_pos h, decide_eq_true h]
    rfl
  · rw [if_neg h, decide_eq_false h]
    exact beq_eq_false_iff_ne.mpr (Ne.symm hv)
section
variable {P : Program} {w : World} {K : PySem.W.Frag} {mg : Str → Option Value} {base : Heap} {CP CL CW : Addr}
/-! ### digit_at -/
def spDigitAt (K : PySem.W.Frag) (CP : Addr) : Sp := fun vs H Q _ => ∃ (a : Addr) (p : Pat) (o g : Nat), vs = [.ref a, .int (o : Nat), .int (g : Nat)] ∧ PatAt K CP H a p ∧ Q (nV (digOf p o g)) H
theorem sc_digit_at : FnScope ["pattern", "place", "gap", "before"] ["pattern", "place", "gap"] (defScope s_digit_at) := ⟨rfl, rfl, rfl, by decide +kernel, rfl, by decide +kernel, by decide +kernel⟩
theorem ok_digit_at {fI f : Addr} {fd : FuncData} (F : Fun K "digit_at" "digit_at" s_digit_at f fd) (T : PartC mg) (TP : OwnC K mg "Pattern" CP fI ["chunk", "letters", "digits", "at_front", "at_end"]) : FnOk P w K mg base CX0 1 f fd ["pattern", "place", "gap"] (spDigitAt K CP) := by
  refine F.ok sc_digit_at (fun vs H Q E h => ?_) (fun cdv A outer s H vs Q E hr h => ?_)
  · obtain ⟨a, p, o, g, rfl, _⟩ := h
    rfl
  obtain ⟨a, p, o, g, rfl, ⟨_, dx, c, pl, ds, e1, e2, e3, e4⟩, k⟩ := h
  have no := TP.no
  refine ⟨_, pss_cons (ps_set (i := 3) sc_digit_at.nd rfl (Or.inl rfl) (pe_op op_sub (pv 2) (pv 1)))
    (pss_one (ps_ret (pe_ifExp (pt_chain op_le op_lt pe_int (pv 3) (pe_callB call_len_seq (by rfl) T.nlen PySem.boot_len (pa_cons (pe_fld (pv 0) rfl) pa_nil))) (pe_ix ix_list (pe_fld (pv 0) rfl) (pv 3) (fun _ _ => rfl)) pe_int))), ?_⟩
  refine ⟨_, rfl, _, rfl, _, _, rfl, rfl, ?_⟩
  refine ⟨_, rfl, _, _, rfl, rfl, _, rfl, ?_⟩
  have out : ¬ (o ≤ g ∧ g - o < p.levels.length) → Q (.int 0) H := fun z => by
    have e : digOf p o g = 0 := by
      unfold digOf
      by_cases c1 : o ≤ g
      · rw [if_pos c1, List.getElem?_eq_none (by omega)]
        rfl
      · rw [if_neg c1]
    rw [e] at k
    exact k
  show ite (decide ((0 : Int) ≤ (g : Int) - (o : Int)) = true) _ _
  by_cases c1 : o ≤ g
  · rw [if_pos (decide_eq_true (by omega))]
    refine ⟨_, rfl, a, CP, dx, _, _, rfl, e1, TP.cl, no _ (by simp), lkPD, _, _, rfl, .inl (SqL.of e4), _, _, rfl, rfl, _, rfl, ?_⟩
    rw [List.length_map]
    have e : (g : Int) - (o : Int) = ((g - o : Nat) : Int) := by omega
    show ite (decide ((g : Int) - (o : Int) < ((p.levels.length : Nat) : Int)) = true) _ _
    by_cases c2 : g - o < p.levels.length
    · rw [if_pos (decide_eq_true (by omega))]
      have k2 : Q (nV p.levels[g - o]) H := by
        have e : digOf p o g = p.levels[g - o] := by
          unfold digOf
          rw [if_pos c1, List.getElem?_eq_getElem c2]
          rfl
        rw [e] at k
        exact k
      refine ⟨_, rfl, a, CP, dx, _, _, rfl, e1, TP.cl, no _ (by simp), lkPD, _, rfl, ds, _, _, _, rfl, rfl, SqL.of e4, (congrArg (atI (p.levels.map nV)) e).trans (atI_nat ?_), k2⟩
      rw [List.getElem?_map, List.getElem?_eq_getElem c2]
      rfl
    · rw [if_neg (by intro z; have := of_decide_eq_true z; omega)]
      exact out fun z => c2 z.2
  · rw [if_neg (by intro z; have := of_decide_eq_true z; omega)]
    refine ⟨_, rfl, ?_⟩
    show ite (false = true) _ _
    rw [if_neg (by decide)]
    exact out fun z => c1 z.1
end
end Pw

namespace Pw
open PySem PySem.Spec PyProof.Rows L2
open VahypBase (Bytes)
open Vahypa (Pat Lst hyphened fitsAt tells levelAt within parts gaps partsBy)
section
variable {P : Program} {w : World} {K : PySem.W.Frag} {mg : Str → Option Value} {base : Heap} {CP CL CW : Addr}
/-! ### parted_of -/
def spPartedOf (K : PySem.W.Frag) (CL CW CP : Addr) : Sp := fun vs H Q _ => ∃ (a l : Addr) (s : Lst) (x : Bytes), vs = [.ref a, .ref l] ∧ ListAt K CL CW CP H a s ∧ SqL K H l (x.map bV) ∧ x.length ≤ 100 ∧
  ∀ H' q, Same H H' → H q = none → H' q = some (.lst ((parts s x).map nV)) → Q (.ref q) H'
theorem sc_parted_of : FnScope ["held", "letters"] ["held", "letters"] (defScope s_parted_of) := ⟨rfl, rfl, rfl, by decide +kernel, rfl, by decide +kernel, by decide +kernel⟩
theorem ok_parted_of {fI f : Addr} {fd : FuncData} (F : Fun K "parted_of" "parted_of" s_parted_of f fd) (TL : OwnC K mg "WordList" CL fI ["left", "right", "words", "patterns"]) (GG : C0 P w K mg base 3 "gap_levels" (spGapLevels K CP)) (GP : C0 P w K mg base 2 "parted_gaps" (spParted K CL CW CP)) :
    FnOk P w K mg base CX0 4 f fd ["held", "letters"] (spPartedOf K CL CW CP) := by
  refine F.ok sc_parted_of (fun vs H Q E h => ?_) (fun cdv A outer s H vs Q E hr h => ?_)
  · obtain ⟨a, l, x, y, rfl, _⟩ := h
    rfl
  obtain ⟨a, l, s, x, rfl, hL, hl, hx, k⟩ := h
  obtain ⟨dx, wl, pl, was, pas, l1, l2, l3, l4, l5, l6⟩ := id hL
  refine ⟨_, pss_one (ps_ret (pe_c0 GP hr (by decide) (pa_cons (pv 0) (pa_cons (pe_c0 GG hr (by decide) (pa_cons (pe_fld (pv 0) rfl) (pa_cons (pv 1) pa_nil))) pa_nil)))), ?_⟩
  refine ⟨_, rfl, _, rfl, a, CL, dx, _, _, rfl, l1, TL.cl, TL.no _ (by simp), lkLP, _, rfl, pl, l, pas, s.pats, x, rfl, SqL.of l3, l5, hl, hx, fun H1 lv s1 nlv hlv => ?_⟩
  exact ⟨a, lv, s, x, rfl, hL.same s1, SqL.of hlv, hx, fun H2 q s2 nq hq => k H2 q (s1.trans s2) (s1.free nq) hq⟩
/-! ### hyphened -/
def spHyph (K : PySem.W.Frag) : Sp := fun vs H Q _ => ∃ (l g : Addr) (x : Bytes) (gs : List Nat), vs = [.ref l, .ref g] ∧ SqL K H l (x.map bV) ∧ SqL K H g (gs.map nV) ∧ x.length ≤ 100 ∧ 0 ∉ gs ∧
  ∀ H' q, Same H H' → H q = none → H' q = some (.lst ((hyphened x gs).map bV)) → Q (.ref q) H'
theorem sc_hyphened : FnScope ["letters", "gaps", "written", "before", "letter"] ["letters", "gaps"] (defScope s_hyphened) := ⟨rfl, rfl, rfl, by decide +kernel, rfl, by decide +kernel, by decide +kernel⟩
theorem ok_hyphened {f : Addr} {fd : FuncData} (F : Fun K "hyphened" "hyphened" s_hyphened f fd) (T : PartC mg) (cHY : Con mg "HYPHEN" (.int 45)) : FnOk P w K mg base CX0 1 f fd ["letters", "gaps"] (spHyph K) := by
  refine F.ok sc_hyphened (fun vs H Q E h => ?_) (fun cdv A outer s H vs Q E hr h => ?_)
  · obtain ⟨l, g, x, gs, rfl, _⟩ := h
    rfl
  obtain ⟨l, g, x, gs, rfl, hl, hg, hx, h0, k⟩ := h
  refine ⟨_, pss_cons (ps_set (i := 2) sc_hyphened.nd rfl (Or.inl rfl) (pe_lst pa_nil))
    (pss_cons (ps_for PassesOwn.never rfl (pi_enum (by rfl) T.nenum (pa_cons (pv 0) pa_nil)) (pg_tup rfl (pgs_cons (pg_name (i := 3) sc_hyphened.nd rfl (Or.inl rfl)) (pgs_cons (pg_name (i := 4) sc_hyphened.nd rfl (Or.inl rfl)) pgs_nil)))
      (pss_cons (ps_if (pt_cmpR op_in_seq (pv 3) (pv 1) (by rfl)) (pss_one (ps_expr (pe_bm PySem.F.plainAttrs_list PySem.F.slot_list_append PySem.F.type_list_append mt_append (pv 2) (pa_cons (pe_con1 cHY) pa_nil)))) pss_nil)
      (pss_one (ps_expr (pe_bm PySem.F.plainAttrs_list PySem.F.slot_list_append PySem.F.type_list_append mt_append (pv 2) (pa_cons (pv 4) pa_nil))))))
    (pss_one (ps_ret (pv 2)))), ?_⟩
  refine ⟨(by show 0 ≤ sizeLine; decide), fun D hD => ?_⟩
  have s1 : Same H (upd H D (.lst [])) := same_upd hD
  refine ⟨_, rfl, l, _, rfl, s1.seq hl, ?_⟩
  refine for_it walk_enum (fun m σ H' => ∃ v3 v4 : Option V, σ = [some (.ref l), some (.ref g), some (.ref D), v3, v4] ∧ Same H H' ∧ H' D = some (.lst ((hyphened (x.take m) gs).map bV)))
    ⟨none, none, rfl, s1, upd_same⟩ (fun m σ H' _ ⟨_, _, _, sm, _⟩ => sm.seq hl) ?_ ?_
  · rintro m y σ H1 H2 hm ⟨v3, v4, rfl, sm, hd⟩ ⟨t, x1, y1, rfl, ht, rfl, hx1, hy1⟩
    obtain ⟨b, hb, rfl⟩ := map_get hy1
    injection hx1 with hx1
    subst hx1
    have tD : D ≠ t := fun z => by rw [z, ht] at hd; cases hd
    have sm2 : Same H (upd H1 t (.tup [.int (m : Int), bV b])) := same_new sm (sm.free ht)
    have hd2 : upd H1 t (.tup [.int (m : Int), bV b]) D = some (.lst ((hyphened (x.take m) gs).map bV)) := (upd_ne tD).trans hd
    have ml : m < x.length := (List.getElem?_eq_some_iff.mp hb).1
    have few := hyphened_len x gs m (by omega)
    have lst : ∀ l : List V, l.length ≤ 300 → l.length < sizeLine := fun l hl => size_small (by omega)
    refine ⟨t, _, rfl, .inl (.inl upd_same), rfl, _, _, rfl, _, _, rfl, rfl, ?_⟩
    refine ⟨_, rfl, _, rfl, g, _, rfl, .inl (sm2.seq hg), rfl, flat_nats _, _, rfl, ?_⟩
    show ite (inV (nV m) (gs.map nV) = true) _ _
    rw [inV_nat]
    have more := hyphened_more (x := x) (cuts := gs) (n := m) (b := b) hb
    by_cases c : m ∈ gs
    · rw [if_pos (decide_eq_true c)]
      have m0 : 0 < m := Nat.pos_of_ne_zero fun z => h0 (z ▸ c)
      rw [if_pos ⟨List.contains_iff_mem.mpr c, m0⟩] at more
      refine ⟨_, rfl, .inl ⟨rfl, _, SqL.of hd2⟩, D, _, _, rfl, rfl, hd2, lst _ (by rw [List.length_map]; omega), ?_⟩
      refine ⟨_, rfl, .inl ⟨rfl, _, SqL.of upd_same⟩, _, rfl, D, _, _, rfl, rfl, upd_same, lst _ (by rw [List.length_append, List.length_map, List.length_singleton]; omega), ?_⟩
      refine ⟨_, _, rfl, same_new (same_new sm2 hD) hD, ?_⟩
      rw [upd_same, more, List.map_append, List.append_assoc]
      rfl
    · rw [if_neg (by rw [decide_eq_false c]; decide)]
      rw [if_neg (fun z => c (List.contains_iff_mem.mp z.1))] at more
      refine ⟨_, rfl, .inl ⟨rfl, _, SqL.of hd2⟩, _, rfl, D, _, _, rfl, rfl, hd2, lst _ (by rw [List.length_map]; omega), ?_⟩
      refine ⟨_, _, rfl, same_new sm2 hD, ?_⟩
      rw [upd_same, more, List.map_append]
      rfl
  · rintro σ H1 ⟨v3, v4, rfl, sm, hd⟩
    rw [List.length_map, hyphened_all] at hd
    exact ⟨_, rfl, k H1 D sm hD hd⟩
/-! ### bearers -/
def PairAt (H : Hp) (t : Addr) (z : Nat × Nat) : Prop := H t = some (.tup [nV z.1, nV z.2])
def spBearers (K : PySem.W.Frag) (CP : Addr) : Sp := fun vs H Q _ => ∃ (pl l : Addr) (pas : List Addr) (ps : List Pat) (x : Bytes) (g v : Nat), vs = [.ref pl, .ref l, .int (g : Nat), .int (v : Nat)] ∧ SqL K H pl (pas.map V.ref) ∧ All2 (PatAt K CP H) pas ps ∧ SqL K H l (x.map bV) ∧ x.length ≤ 100 ∧ ps.length ≤ 100 ∧
  ∀ H' q ts, Same H H' → H q = none → H' q = some (.lst (ts.map V.ref)) → All2 (PairAt H') ts (bearN x g v ps ps.length) → Q (.ref q) H'
theorem sc_bearers : FnScope ["patterns", "letters", "gap", "digit", "found", "number", "pattern", "place"] ["patterns", "letters", "gap", "digit"] (defScope s_bearers) := ⟨rfl, rfl, rfl, by decide +kernel, rfl, by decide +kernel, by decide +kernel⟩
theorem ok_bearers {fI f : Addr} {fd : FuncData} (F : Fun K "bearers" "bearers" s_bearers f fd) (T : PartC mg) (TP : OwnC K mg "Pattern" CP fI ["chunk", "letters", "digits", "at_front", "at_end"]) (GP : C0 P w K mg base 2 "fitting_places" (spPlaces K CP)) (GD : C0 P w K mg base 1 "digit_at" (spDigitAt K CP)) :
    FnOk P w K mg base CX0 3 f fd ["patterns", "letters", "gap", "digit"] (spBearers K CP) := by
  refine F.ok sc_bearers (fun vs H Q E h => ?_) (fun cdv A outer s H vs Q E hr h => ?_)
  · obtain ⟨a, l, pas, ps, x, g, v, rfl, _⟩ := h
    rfl
  obtain ⟨pl, l, pas, ps, x, g, v, rfl, hpl, hps, hl, hx, hp40, k⟩ := h
  refine ⟨_, pss_cons (ps_set (i := 4) sc_bearers.nd rfl (Or.inl rfl) (pe_lst pa_nil))
    (pss_cons (ps_for PassesOwn.never rfl (pi_enum (by rfl) T.nenum (pa_cons (pv 0) pa_nil)) (pg_tup rfl (pgs_cons (pg_name (i := 5) sc_bearers.nd rfl (Or.inl rfl)) (pgs_cons (pg_name (i := 6) sc_bearers.nd rfl (Or.inl rfl)) pgs_nil)))
      (pss_one (ps_for PassesOwn.never rfl (pi_list (pe_c0 GP hr (by decide) (pa_cons (pv 6) (pa_cons (pv 1) pa_nil)))) (pg_name (i := 7) sc_bearers.nd rfl (Or.inl rfl))
        (pss_one (ps_if (pt_cmpR op_eq (pe_c0 GD hr (by decide) (pa_cons (pv 6) (pa_cons (pv 7) (pa_cons (pv 2) pa_nil)))) (pv 3) (nomark _))
          (pss_one (ps_expr (pe_bm PySem.F.plainAttrs_list PySem.F.slot_list_append PySem.F.type_list_append mt_append (pv 4) (pa_cons (pe_tup (pa_cons (pv 5) (pa_cons (pv 7) pa_nil))) pa_nil)))) pss_nil)))))
    (pss_one (ps_ret (pv 4)))), ?_⟩
  refine ⟨(by show 0 ≤ sizeLine; decide), fun D hD => ?_⟩
  have s1 : Same H (upd H D (.lst [])) := same_upd hD
  refine ⟨_, rfl, pl, _, rfl, s1.seq hpl, ?_⟩
  refine for_it walk_enum (fun m σ H' => ∃ (v5 v6 v7 : Option V) (ts : List Addr), σ = [some (.ref pl), some (.ref l), some (nV g), some (nV v), some (.ref D), v5, v6, v7] ∧ Same H H' ∧ H' D = some (.lst (ts.map V.ref)) ∧ All2 (PairAt H') ts (bearN x g v ps m))
    ⟨none, none, none, [], rfl, s1, upd_same, trivial⟩ (fun m σ H' _ ⟨_, _, _, _, _, sm, _⟩ => sm.seq hpl) ?_ ?_
  · rintro m y σ H1 H2 hm ⟨v5, v6, v7, ts, rfl, sm, hd, hts⟩ ⟨t, x1, y1, rfl, ht, rfl, hx1, hy1⟩
    obtain ⟨pa, ha, rfl⟩ := map_get hy1
    injection hx1 with hx1
    subst hx1
    obtain ⟨p, hp, hpp⟩ := hps.get' ha
    have ml : m < ps.length := (List.getElem?_eq_some_iff.mp hp).1
    have tD : D ≠ t := fun z => by rw [z, ht] at hd; cases hd
    have s12 : Same H1 (upd H1 t (.tup [.int (m : Int), .ref pa])) := same_upd ht
    have sm2 : Same H (upd H1 t (.tup [.int (m : Int), .ref pa])) := sm.trans s12
    refine ⟨t, _, rfl, .inl (.inl upd_same), rfl, _, _, rfl, _, _, rfl, rfl, ?_⟩
    refine ⟨_, rfl, _, rfl, pa, l, p, x, rfl, hpp.same sm2, sm2.seq hl, hx, fun H3 q s3 nq hq => ?_⟩
    have sm3 := sm2.trans s3
    have s13 := s12.trans s3
    have nqD : q ≠ D := fun z => by rw [z, s12 _ _ hd] at nq; cases nq
    have pl1 := places_len p x
    have bl1 := bearN_len x g v ps m (by omega)
    have bl2 : m * (x.length + 1) ≤ 100 * 101 := Nat.mul_le_mul (by omega) (by omega)
    refine ⟨q, rfl, ⟨_, SqL.of hq⟩, for_list (K := K) (a := q) (xs := (placesOf p x).map nV) (fun j σ H' => ∃ (v7 : Option V) (ts : List Addr), σ = [some (.ref pl), some (.ref l), some (nV g), some (nV v), some (.ref D), some (nV m), some (.ref pa), v7] ∧ Same H H' ∧ H' q = some (.lst ((placesOf p x).map nV)) ∧
        H' D = some (.lst (ts.map V.ref)) ∧ All2 (PairAt H') ts (bearN x g v ps m ++ bearP g v m p ((placesOf p x).take j)))
      ⟨v7, ts, rfl, sm3, hq, s13 _ _ hd, ?_⟩ (fun j σ H' _ ⟨_, _, _, _, z, _⟩ => SqL.of z) ?_ ?_⟩
    · show All2 _ _ (_ ++ [])
      rw [List.append_nil]
      exact hts.mono fun _ _ z => s13 _ _ z
    · rintro j y σ H4 hj ⟨v7, ts4, rfl, sm4, hq4, hd4, hts4⟩
      obtain ⟨o, ho, rfl⟩ := map_get hj
      have more := bearP_more (g := g) (v := v) (k := m) (p := p) ho
      refine ⟨_, rfl, _, rfl, _, rfl, pa, p, o, g, rfl, hpp.same sm4, _, rfl, rfl, _, rfl, ?_⟩
      have e1 : decide (nV (digOf p o g) = nV v) = (digOf p o g == v) := by
        rw [Bool.eq_iff_iff, decide_eq_true_eq, beq_iff_eq]
        constructor
        · intro z
          injection z with z
          omega
        · intro z
          rw [z]
      show ite (decide (nV (digOf p o g) = nV v) = true) _ _
      rw [e1]
      cases c : (digOf p o g == v) with
      | true =>
        rw [if_pos rfl]
        rw [c, if_pos rfl] at more
        refine ⟨_, rfl, .inl ⟨rfl, _, SqL.of hd4⟩, _, rfl, _, rfl, (by show 2 ≤ sizeLine; decide), fun t2 ht2 => ?_⟩
        have tD2 : D ≠ t2 := fun z => by rw [z, ht2] at hd4; cases hd4
        have tq2 : q ≠ t2 := fun z => by rw [z, ht2] at hq4; cases hq4
        have pl3 := hts4.len
        refine ⟨D, _, _, rfl, rfl, (upd_ne tD2).trans hd4, size_small (by
          rw [List.length_map, pl3, List.length_append]
          have b1 := bearP_len g v m p ((placesOf p x).take j)
          rw [List.length_take] at b1
          omega), ?_⟩
        refine ⟨_, ts4 ++ [t2], rfl, same_new (same_new sm4 (sm4.free ht2)) hD, (upd_ne nqD).trans ((upd_ne tq2).trans hq4), ?_, ?_⟩
        · rw [upd_same, List.map_append]
          rfl
        · rw [more, ← List.append_assoc]
          refine All2.snoc ?_ (hts4.mono fun a b (z : PairAt H4 a b) => ?_)
          · exact (upd_ne (Ne.symm tD2)).trans upd_same
          · exact (upd_ne (fun e => by rw [e] at z; exact nomatch (z.symm.trans hd4))).trans ((upd_ne (ne_of_none z ht2)).trans z)
      | false =>
        rw [if_neg (by decide)]
        rw [c, if_neg (by decide), List.append_nil] at more
        rw [← more] at hts4
        exact ⟨_, ts4, rfl, sm4, hq4, hd4, hts4⟩
    · rintro σ H4 ⟨v7, ts4, rfl, sm4, hq4, hd4, hts4⟩
      rw [List.length_map, List.take_length, ← bearN_more hp] at hts4
      exact ⟨_, _, _, ts4, rfl, sm4, hd4, hts4⟩
  · rintro σ H1 ⟨v5, v6, v7, ts, rfl, sm, hd, hts⟩
    rw [List.length_map, hps.len] at hts
    exact ⟨_, rfl, k H1 D ts sm hD hd hts⟩
end
end Pw

namespace Pw
open PySem PySem.Spec PyProof.Rows L2
section
variable {K : PySem.W.Frag} {h : Heap} {mg : Str → Option Value}
/-- a def of the top, found by its name -/
structure DefAt (K : PySem.W.Frag) (mg : Str → Option Value) (x : Str) (st : Stmt) : Prop where
  ex : ∃ (f : Addr) (fd : FuncData), Fun K x x st f fd ∧ mg x = some (.ref f)
theorem def_mk (X : K.In h) (G : h.Ns mainGlobals mg) {x : Str} {st : Stmt} {f : Addr} {oc : Value} {od an : Option Addr} {sl : Array (Option Value)} {kV dc pm cd ct : Value}
    (a : PySem.W.nsIn K mainGlobals x = some (some (.ref f))) (l : K.lookup f = some ⟨oc, od, .func (PySem.W.fnOf x x (defArgs st) (defBody st) (defScope st) .none kV dc pm an cd ct), sl⟩)
    (c : PySem.W.codeIn K cd x = true) (k : PySem.W.keepIn K (.ref f) = true) : DefAt K mg x st := ⟨_, _, fun_mk l c k, PySem.W.mg_of X G a⟩
/-- a method of a class -/
structure MethAt (K : PySem.W.Frag) (C : Addr) (m qual : Str) (st : Stmt) : Prop where
  ex : ∃ (f : Addr) (fd : FuncData), Fun K m qual st f fd ∧ Meth K C m f
theorem meth_mk {m qual : Str} {st : Stmt} {C f : Addr} {oc : Value} {od an : Option Addr} {sl : Array (Option Value)} {kV dc pm cd ct : Value}
    (a : PySem.W.findIn K (.ref C) m = some (some (.ref f))) (i : PySem.W.isFn K (.ref f) = true) (l : K.lookup f = some ⟨oc, od, .func (PySem.W.fnOf m qual (defArgs st) (defBody st) (defScope st) .none kV dc pm an cd ct), sl⟩)
    (c : PySem.W.codeIn K cd qual = true) (k : PySem.W.keepIn K (.ref f) = true) : MethAt K C m qual st := ⟨_, _, fun_mk l c k, ⟨a, i, k⟩⟩
/-- a class of one's own, by its name -/
structure ClsAt (K : PySem.W.Frag) (mg : Str → Option Value) (x : Str) (C : Addr) : Prop where
  cl : Cls K C
  g : mg x = some (.ref C)
  mks : PySem.W.makesIn K C = true
  kp : PySem.W.keepIn K (.ref C) = true
theorem cls_mk (X : K.In h) (G : h.Ns mainGlobals mg) {x : Str} {C : Addr} (a : PySem.W.nsIn K mainGlobals x = some (some (.ref C)))
    (pg : PySem.W.plainGet K C Str.empty = true) (hd : PySem.W.hasDictIn K C = true) (po : PySem.W.plainOver K C = true) (sa : PySem.W.findIn K (.ref C) "__setattr__" = some (some (.builtin "object.__setattr__"))) (mk : PySem.W.makesIn K C = true) (kc : PySem.W.keepIn K (.ref C) = true) :
    ClsAt K mg x C := ⟨⟨pg, hd, po, sa⟩, PySem.W.mg_of X G a, mk, kc⟩
theorem con_mk (X : K.In h) (G : h.Ns mainGlobals mg) {x : Str} {i : Int} {t : Tok} (a : PySem.W.nsIn K mainGlobals x = some (some (.int i t))) : Con mg x (.int i) := ⟨_, PySem.W.mg_of X G a, t, rfl⟩
theorem free_mk (X : K.In h) (G : h.Ns mainGlobals mg) {x : Str} (a : PySem.W.nsIn K mainGlobals x = some none) : mg x = none := PySem.W.mg_none_of X G a
end
end Pw

namespace Pw
open PySem PySem.Spec PyProof.Rows L2
open VahypBase (Bytes)
open Vahypa (Pat Lst)
abbrev s_hold_init : Stmt := inClass (top 75) 0
abbrev s_load : Stmt := inClass (top 75) 1
section
variable {P : Program} {w : World} {K : PySem.W.Frag} {mg : Str → Option Value} {base : Heap} {CP CL CW CF CH : Addr}
/-! ### the object that the calls are made on -/
/-- the holder at h holds o; what it holds stands in the part G of the heap, beside it -/
def HoldAt (K : PySem.W.Frag) (CH CL CW CP : Addr) (G H : Hp) (h : Addr) (o : Option Lst) : Prop := ∃ dx v, H h = some (.ins CH dx [("held", v)]) ∧ Same G H ∧ G h = none ∧
  match o with
  | none => v = .non
  | some s => ∃ a, v = .ref a ∧ ListAt K CL CW CP G a s
theorem lkHeld {v : V} : List.lookup ("held" : Str) [(("held" : Str), v)] = some v := lk_here
theorem HoldAt.same {G H H' : Hp} {h : Addr} {o : Option Lst} (sm : Same H H') (z : HoldAt K CH CL CW CP G H h o) : HoldAt K CH CL CW CP G H' h o := by
  obtain ⟨dx, v, h1, h2, h3, h4⟩ := z
  exact ⟨dx, v, sm _ _ h1, h2.trans sm, h3, h4⟩
def spHoldInit (CH : Addr) : Sp := fun vs H Q _ => ∃ (x dx : Addr), vs = [.ref x] ∧ H x = some (.ins CH dx []) ∧ ∀ H' : Hp, H' x = some (.ins CH dx [("held", .non)]) → (∀ b, b ≠ x → H' b = H b) → Q .non H'
theorem sc_hold_init : FnScope ["self"] ["self"] (defScope s_hold_init) := ⟨rfl, rfl, rfl, by decide +kernel, rfl, by decide +kernel, by decide +kernel⟩
theorem ok_hold_init {fI f : Addr} {fd : FuncData} (F : Fun K "__init__" "Holder.__init__" s_hold_init f fd) (T : OwnC K mg "Holder" CH fI ["held"]) : FnOk P w K mg base CX0 1 f fd ["self"] (spHoldInit CH) := by
  refine F.ok sc_hold_init (fun vs H Q E h => ?_) (fun cdv A outer s H vs Q E hr h => ?_)
  · obtain ⟨x, dx, rfl, _⟩ := h
    rfl
  obtain ⟨x, dx, rfl, hx, k⟩ := h
  refine ⟨_, pss_one (ps_fld (pv 0) pe_non rfl), ?_⟩
  refine ⟨_, rfl, x, CH, dx, [], rfl, hx, T.cl, T.no _ (by simp), (by show 0 < 1000; decide), ?_⟩
  refine k _ ?_ fun b hb => by rw [upd_ne hb]
  rw [upd_same]
  rfl
/-! ### load -/
/-- what load answers of a text, and what is held then -/
def loadS (o : Option Lst) (bs : Bytes) : Option Lst × List Int := match Vahypa.read bs with
  | .ok s => (some s, [1, (s.words.length : Int), (s.pats.length : Int)])
  | .error f => (o, [0, (f.code : Int), (f.place : Int)])
def spLoad (K : PySem.W.Frag) (CH CL CW CP : Addr) : Sp := fun vs H Q _ => ∃ (G : Hp) (h t : Addr) (o : Option Lst) (bs : Bytes), vs = [.ref h, .ref t] ∧ HoldAt K CH CL CW CP G H h o ∧ SqL K H t (bs.map bV) ∧ bs.length ≤ 10000 ∧
  ∀ G' H' q, SameBut h H H' → HoldAt K CH CL CW CP G' H' h (loadS o bs).1 → (∀ b u, H b = some u → G b = none → G' b = none) → H q = none → H' q = some (.lst ((loadS o bs).2.map V.int)) → Q (.ref q) H'
theorem sc_load : FnScope ["self", "text", "read", "fault"] ["self", "text"] (defScope s_load) := ⟨rfl, rfl, rfl, by decide +kernel, rfl, by decide +kernel, by decide +kernel⟩
/-- TextFault, as those know it who catch it -/
structure Catch (K : PySem.W.Frag) (mg : Str → Option Value) (CF : Addr) : Prop where
  g : mg "TextFault" = some (.ref CF)
  x : XfC K CF
  nCode : PySem.W.findIn K (.ref CF) "code" = some none
  nPlace : PySem.W.findIn K (.ref CF) "place" = some none
  te : PySem.W.exmOne K (.ref CF) (.ref CF) = some true
theorem ok_load {fI fJ f : Addr} {fd : FuncData} (F : Fun K "load" "Holder.load" s_load f fd) (T : OwnC K mg "Holder" CH fI ["held"]) (TL : OwnC K mg "WordList" CL fJ ["left", "right", "words", "patterns"]) (nlen : mg "len" = none)
    (GR : C1 P w K mg base 6 "read_list" (spReadList K CF CL CW CP)) (TC : Catch K mg CF) : FnOk P w K mg base CX0 7 f fd ["self", "text"] (spLoad K CH CL CW CP) := by
  refine F.ok sc_load (fun vs H Q E h => ?_) (fun cdv A outer s H vs Q E hr h => ?_)
  · obtain ⟨G, h, t, o, bs, rfl, _⟩ := h
    rfl
  obtain ⟨G, h, t, o, bs, rfl, hh, ht, hz, k⟩ := h
  refine ⟨_, pss_cons (ps_try_as (i := 3) (tb := fun W => tAsg (tCallS (spReadList K CF CL CW CP) (WE W) (tCons (tVar 1) tNil)) (gName 2))
      (ts := fun a cls d => tRet (tLst (tCons (tC (.int 0)) (tCons (tXf a cls d CF "code" (tVar 3)) (tCons (tXf a cls d CF "place" (tVar 3)) tNil))))) (Wout := fun _ _ _ _ => False) rfl rfl sc_load.nd rfl rfl ⟨rfl, by decide, Or.inl TC.g⟩ takes0
      (fun W pn xe tk _ => pss_one (ps_set (i := 2) sc_load.nd rfl (Or.inl rfl) (by exact (pe_c1 GR hr (Nat.le_refl _) tk (by exact (pa_cons (pv 1) pa_nil))))))
      (fun a oe cls d pn hz hf => pss_one (ps_ret (pe_lst (pa_cons pe_int (pa_cons (pe_xf TC.x TC.nCode hz hf (pv 3)) (pa_cons (pe_xf TC.x TC.nPlace hz hf (pv 3)) pa_nil)))))))
    (pss_cons (ps_fld (pv 0) (pv 2) rfl)
    (pss_one (ps_ret (pe_lst (pa_cons pe_int (pa_cons (pe_callB call_len_seq (by rfl) nlen PySem.boot_len (pa_cons (pe_fld (pv 2) rfl) pa_nil)) (pa_cons (pe_callB call_len_seq (by rfl) nlen PySem.boot_len (pa_cons (pe_fld (pv 2) rfl) pa_nil)) pa_nil))))))), ?_⟩
  obtain ⟨dx, v, h1, h2⟩ := id hh
  refine ⟨_, rfl, t, bs, rfl, ht, hz, fun e ee d H1 s1 hd => ?_, fun x ex H1 a s1 na ha => ?_⟩
  · have el : loadS o bs = (o, [0, (e.code : Int), (e.place : Int)]) := by
      unfold loadS
      rw [ee]
    refine ⟨true, TC.te, fun _ a0 na0 => ?_, fun q => Bool.noConfusion q⟩
    refine ⟨_, rfl, rfl, rfl, d, _, _, rfl, hd, (lk_past (by decide +kernel)).trans lk_here, _, rfl, rfl, rfl, d, _, _, rfl, hd, lk_here, (by show 3 ≤ sizeLine; decide), fun q hq => ?_⟩
    refine k G _ q (SameBut.of (s1.trans (same_upd hq))) ?_ (fun _ _ _ z => z) (s1.free hq) ?_
    · rw [el]
      exact (hh.same s1).same (same_upd hq)
    · rw [el, upd_same]
      rfl
  · have el : loadS o bs = (some x, [1, (x.words.length : Int), (x.pats.length : Int)]) := by
      unfold loadS
      rw [ex]
    have h1' := s1 _ _ h1
    have hput : putF ("held" : Str) (.ref a) [(("held" : Str), v)] = [(("held" : Str), V.ref a)] := put_here
    refine ⟨_, rfl, _, rfl, h, CH, dx, _, rfl, h1', T.cl, T.no _ (by simp), (by show 1 < 1000; decide), ?_⟩
    have e2 : upd H1 h (.ins CH dx (putF ("held" : Str) (.ref a) [(("held" : Str), v)])) = upd H1 h (.ins CH dx [("held", .ref a)]) := by rw [hput]
    generalize hH2 : upd H1 h (.ins CH dx [("held", .ref a)]) = H2 at e2
    have nh : nu H H1 h = none := (ext_old h1).trans rfl
    have but : SameBut h H1 H2 := by
      rw [← hH2]
      exact SameBut.upd
    have part : Same (nu H H1) H2 := but.part (ext_r nil_same s1) nh
    have hold : HoldAt K CH CL CW CP (nu H H1) H2 h (some x) := ⟨dx, .ref a, by rw [← hH2, upd_same], part, nh, a, rfl, ha⟩
    obtain ⟨dl, wl, pl, was, pas, l1, l2, l3, l4, l5, l6⟩ := ha.same part
    have go : ∀ q, H2 q = none → Q (.ref q) (upd H2 q (.lst [.int 1, .int (was.map V.ref).length, .int (pas.map V.ref).length])) := fun q hq => by
      refine k (nu H H1) _ q (((SameBut.of s1).trans but).trans (SameBut.of (same_upd hq))) ?_ (fun b u z _ => (ext_old z).trans rfl) ?_ ?_
      · rw [el]
        exact hold.same (same_upd hq)
      · exact s1.free (but.none ⟨_, by rw [← hH2, upd_same]⟩ q hq)
      · rw [el, upd_same, List.length_map, List.length_map, l4.len, l5.len]
        rfl
    rw [e2]
    exact ⟨_, rfl, a, CL, dl, _, _, rfl, l1, TL.cl, TL.no _ (by simp), lkLW, _, _, rfl, .inl (SqL.of l2), _, rfl, a, CL, dl, _, _, rfl, l1, TL.cl, TL.no _ (by simp), lkLP, _, _, rfl, .inl (SqL.of l3), (by show 3 ≤ sizeLine; decide), go⟩
end
end Pw

namespace Pw
open PySem PySem.Spec PyProof.Rows L2
open VahypBase (Bytes)
open Vahypa (Pat Lst levelAt parts gaps scoreWord)
def enc (a : VahypBase.Answer) : List Int := a.value :: a.rest
def intV (l : List Int) : List V := l.map V.int
abbrev s_shown : Stmt := top 77
abbrev s_levels_of : Stmt := top 78
abbrev s_part : Stmt := top 79
section
variable {P : Program} {w : World} {K : PySem.W.Frag} {mg : Str → Option Value} {base : Heap} {CP CL CW CF CH : Addr}
structure MainC (mg : Str → Option Value) : Prop where
  nlen : mg "len" = none
  cLET : Con mg "NO_LETTERS" (.int (-4))
  cSUCH : Con mg "NO_SUCH" (.int (-2))
theorem rel_nats (l : List Nat) : l.map nV = intV (VahypBase.nats l) := by
  unfold intV VahypBase.nats
  rw [List.map_map]
  rfl
theorem rel_bytes (b : Bytes) : b.map bV = intV (b.map fun c => (c.toNat : Int)) := by
  unfold intV
  rw [List.map_map]
  rfl
/-! ### shown -/
def spShown (K : PySem.W.Frag) (CL CW CP : Addr) : Sp := fun vs H Q _ => ∃ (a : Addr) (s : Lst), vs = [.ref a] ∧ ListAt K CL CW CP H a s ∧ ∀ H' q, Same H H' → H q = none → H' q = some (.lst (intV (enc (VahypBase.textAnswer (Vahypa.shown s))))) → Q (.ref q) H'
theorem sc_shown : FnScope ["held", "form"] ["held"] (defScope s_shown) := ⟨rfl, rfl, rfl, by decide +kernel, rfl, by decide +kernel, by decide +kernel⟩
theorem shown_len {H : Hp} {a : Addr} {s : Lst} (h : ListAt K CL CW CP H a s) : (Vahypa.shown s).length ≤ 10000 := by
  obtain ⟨dx, wl, pl, was, pas, l1, l2, l3, l4, l5, l6, r6, w24, p40⟩ := h
  rw [shown_rows, List.length_append, List.length_append]
  have a3 : (VahypBase.word "margins").length = 7 := by decide +kernel
  have wlen : (VahypBase.word "word").length ≤ 8 := by decide +kernel
  have plen : (VahypBase.word "pattern").length ≤ 8 := by decide +kernel
  have h1 : (rowB (VahypBase.word "margins") [VahypBase.showNat s.l, VahypBase.showNat s.r]).length ≤ 100 := by
    have a1 := digit_len l6
    have a2 := digit_len r6
    simp [rowB, blanked, a3]
    omega
  have h2 := flat_len (fun y : Vahypa.Word => rowB (VahypBase.word "word") [Vahypa.hyphened y.x y.cuts]) 60 s.words fun b m => by
    obtain ⟨j, hj⟩ := List.getElem?_of_mem m
    obtain ⟨_, _, ⟨_, q⟩, _⟩ := l4.get hj
    exact row_len wlen q
  have h3 := flat_len (fun y : Pat => rowB (VahypBase.word "pattern") [Vahypa.showPat y]) 60 s.pats fun b m => by
    obtain ⟨j, hj⟩ := List.getElem?_of_mem m
    obtain ⟨_, _, ⟨_, q⟩, _⟩ := l5.get hj
    exact row_len plen q
  have h4 : 60 * s.words.length ≤ 60 * 24 := Nat.mul_le_mul_left _ w24
  have h5 : 60 * s.pats.length ≤ 60 * 40 := Nat.mul_le_mul_left _ p40
  omega
theorem ok_shown {f : Addr} {fd : FuncData} (F : Fun K "shown" "shown" s_shown f fd) (T : MainC mg) (GO : C0 P w K mg base 3 "one_form" (spOneForm K CL CW CP)) : FnOk P w K mg base CX0 4 f fd ["held"] (spShown K CL CW CP) := by
  refine F.ok sc_shown (fun vs H Q E h => ?_) (fun cdv A outer s H vs Q E hr h => ?_)
  · obtain ⟨a, x, rfl, _⟩ := h
    rfl
  obtain ⟨a, x, rfl, hL, k⟩ := h
  have len := shown_len hL
  refine ⟨_, pss_cons (ps_set (i := 1) sc_shown.nd rfl (Or.inl rfl) (pe_c0 GO hr (Nat.le_refl _) (pa_cons (pv 0) pa_nil)))
    (pss_one (ps_ret (pe_op op_cat (pe_lst (pa_cons (pe_callB call_len_seq (by rfl) T.nlen PySem.boot_len (pa_cons (pv 1) pa_nil)) pa_nil)) (pv 1)))), ?_⟩
  refine ⟨_, rfl, a, x, rfl, hL, fun H1 p s1 np hp => ?_⟩
  refine ⟨_, rfl, _, _, rfl, .inl (SqL.of hp), (by show 1 ≤ sizeLine; decide), fun q hq => ?_⟩
  have pq : p ≠ q := fun z => by rw [z, hq] at hp; cases hp
  refine ⟨_, rfl, q, p, _, _, rfl, rfl, upd_same, (upd_ne pq).trans hp, by simp only [List.length_map, List.length_cons, List.length_nil]; exact size_small' (by omega), fun r hr2 => ?_⟩
  have s2 := same_new (o := HO.lst [V.int (((Vahypa.shown x).map bV).length : Nat)]) s1 (s1.free hq)
  refine k _ r (same_new s2 (s2.free hr2)) (s2.free hr2) ?_
  rw [upd_same]
  refine congrArg (fun q => some (HO.lst q)) ?_
  rw [List.length_map, rel_bytes]
  rfl
/-! ### levels_of -/
def levelsA (s : Lst) (b : Bytes) : List Int := enc (match Vahypa.readLetters b with
    | none => VahypBase.one (-4)
    | some x => ⟨((Vahypa.levels s.pats x).length : Int), VahypBase.nats (Vahypa.levels s.pats x ++ parts s x)⟩)
theorem readLetters_if (b : Bytes) : Vahypa.readLetters b = if isLetters b = true then some b else none := by
  unfold Vahypa.readLetters isLetters Vahypa.LETTERS
  by_cases c1 : 2 ≤ b.length ∧ b.length ≤ 16
  · cases c2 : b.all VahypBase.isLetter with
    | true =>
      rw [if_neg, if_pos (by simp [c1])]
      rintro (z | z | z)
      · omega
      · omega
      · cases z
    | false => rw [if_pos (.inr (.inr rfl)), if_neg (by simp)]
  · rw [if_pos (by omega), if_neg (by simp [c1])]
def spLevelsOf (K : PySem.W.Frag) (CL CW CP : Addr) : Sp := fun vs H Q _ => ∃ (a l : Addr) (s : Lst) (b : Bytes), vs = [.ref a, .ref l] ∧ ListAt K CL CW CP H a s ∧ SqL K H l (b.map bV) ∧ ∀ H' q, Same H H' → H q = none → H' q = some (.lst (intV (levelsA s b))) → Q (.ref q) H'
theorem sc_levels_of : FnScope ["held", "letters", "levels", "inner"] ["held", "letters"] (defScope s_levels_of) := ⟨rfl, rfl, rfl, by decide +kernel, rfl, by decide +kernel, by decide +kernel⟩
theorem inner_cut {n : Nat} {f : Nat → Nat} (h : 1 ≤ n) : cutV (lvV (n + 1) f) (some 1) (some (-1)) = ((List.range (n - 1)).map fun k => f (k + 1)).map nV := by
  unfold cutV
  have a1 : HT.sIx (lvV (n + 1) f).length 0 (some 1) = 1 := by
    rw [show (some (1 : Int)) = some ((1 : Nat) : Int) from rfl, HT.sIx_nat, lv_len]
    omega
  have a2 : HT.sIx (lvV (n + 1) f).length (lvV (n + 1) f).length (some (-1)) = n := by
    show (if (-1 : Int) < 0 then ((-1 : Int) + ((lvV (n + 1) f).length : Int)).toNat else min (-1 : Int).toNat (lvV (n + 1) f).length) = n
    rw [if_pos (by decide), lv_len]
    omega
  rw [a1, a2]
  refine List.ext_getElem (by simp [lvV]) fun i h1 h2 => ?_
  simp [lvV, Nat.add_comm]
theorem ok_levels_of {fI f : Addr} {fd : FuncData} (F : Fun K "levels_of" "levels_of" s_levels_of f fd) (T : MainC mg) (TL : OwnC K mg "WordList" CL fI ["left", "right", "words", "patterns"]) (GI : C0 P w K mg base 2 "is_word_letters" (spIsWordLetters K)) (GG : C0 P w K mg base 3 "gap_levels" (spGapLevels K CP))
    (GP : C0 P w K mg base 2 "parted_gaps" (spParted K CL CW CP)) : FnOk P w K mg base CX0 4 f fd ["held", "letters"] (spLevelsOf K CL CW CP) := by
  refine F.ok sc_levels_of (fun vs H Q E h => ?_) (fun cdv A outer s H vs Q E hr h => ?_)
  · obtain ⟨a, l, x, b, rfl, _⟩ := h
    rfl
  obtain ⟨a, l, s, x, rfl, hL, hl, k⟩ := h
  unfold levelsA at k
  rw [readLetters_if] at k
  refine ⟨_, pss_cons (ps_if (pt_not (pt_val (pe_c0 GI hr (by decide) (pa_cons (pv 1) pa_nil)))) (pss_one (ps_ret (pe_lst (pa_cons (pe_con1 T.cLET) pa_nil)))) pss_nil)
    (pss_cons (ps_set (i := 2) sc_levels_of.nd rfl (Or.inl rfl) (pe_c0 GG hr (Nat.le_refl _) (pa_cons (pe_fld (pv 0) rfl) (pa_cons (pv 1) pa_nil))))
    (pss_cons (ps_set (i := 3) sc_levels_of.nd rfl (Or.inl rfl) (pe_slice sl_list (pv 2) (po_some pe_int) (po_some (pe_un un_neg pe_int))))
    (pss_one (ps_ret (pe_op op_cat (pe_op op_cat (pe_lst (pa_cons (pe_callB call_len_seq (by rfl) T.nlen PySem.boot_len (pa_cons (pv 3) pa_nil)) pa_nil)) (pv 3)) (pe_c0 GP hr (by decide) (pa_cons (pv 0) (pa_cons (pv 2) pa_nil)))))))), ?_⟩
  refine ⟨_, rfl, l, x, rfl, hl, fun H1 s1 => ⟨_, rfl, ?_⟩⟩
  show ite ((!isLetters x) = true) _ _
  cases c : isLetters x with
  | false =>
    rw [if_pos (by decide)]
    rw [c, if_neg (by decide)] at k
    exact ⟨(by show 1 ≤ sizeLine; decide), fun q hq => k _ q (s1.trans (same_upd hq)) (s1.free hq) upd_same⟩
  | true =>
    rw [if_neg (by decide)]
    rw [c, if_pos rfl] at k
    have len : 2 ≤ x.length ∧ x.length ≤ 16 := by
      unfold isLetters at c
      rw [Bool.and_eq_true] at c
      exact of_decide_eq_true c.1
    have hL1 := hL.same s1
    obtain ⟨dx, wl, pl, was, pas, l1, l2, l3, l4, l5, _⟩ := id hL1
    refine ⟨_, rfl, a, CL, dx, _, _, rfl, l1, TL.cl, TL.no _ (by simp), lkLP, _, rfl, pl, l, pas, s.pats, x, rfl, SqL.of l3, l5, s1.seq hl, by omega, fun H2 lv s2 nlv hlv => ?_⟩
    have s12 := s1.trans s2
    refine ⟨_, rfl, _, rfl, _, rfl, _, rfl, lv, _, rfl, SqL.of hlv, fun q hq => ?_⟩
    have eq : cutV (levelsV s.pats x) (some 1) (some (-1)) = (Vahypa.levels s.pats x).map nV := by
      unfold levelsV
      rw [inner_cut (by omega)]
      unfold Vahypa.levels gaps
      simp only [List.map_map]
      rfl
    have lenL : (Vahypa.levels s.pats x).length = x.length - 1 := by
      unfold Vahypa.levels
      rw [List.length_map, gaps_len]
    have hq3 : (upd H2 q (.lst (cutV (levelsV s.pats x) (some 1) (some (-1))))) q = some (.lst ((Vahypa.levels s.pats x).map nV)) := by rw [upd_same, eq]
    have s3 : Same H2 (upd H2 q (.lst (cutV (levelsV s.pats x) (some 1) (some (-1))))) := same_upd hq
    revert hq3 s3
    show (fun H3 => H3 q = some (.lst ((Vahypa.levels s.pats x).map nV)) → Same H2 H3 → _) (upd H2 q (.lst (cutV (levelsV s.pats x) (some 1) (some (-1)))))
    generalize upd H2 q (.lst (cutV (levelsV s.pats x) (some 1) (some (-1)))) = H3
    intro hq3 s3
    refine ⟨_, rfl, _, _, rfl, .inl (SqL.of hq3), (by show 1 ≤ sizeLine; decide), fun q2 hq2 => ?_⟩
    have ne1 : q ≠ q2 := fun z => by rw [z, hq2] at hq3; cases hq3
    have s4 : Same H3 (upd H3 q2 (.lst [.int (((Vahypa.levels s.pats x).map nV).length : Nat)])) := same_upd hq2
    refine ⟨_, rfl, q2, q, _, _, rfl, rfl, upd_same, (upd_ne ne1).trans hq3, by simp only [List.length_map, List.length_cons, List.length_nil]; exact size_small' (by omega), fun q3 hq3' => ?_⟩
    have s5 := s4.trans (same_upd (o := HO.lst ([.int (((Vahypa.levels s.pats x).map nV).length : Nat)] ++ (Vahypa.levels s.pats x).map nV)) hq3')
    have s15 := (s12.trans s3).trans s5
    refine ⟨_, rfl, _, rfl, a, lv, s, x, rfl, hL.same s15, SqL.of ((s3.trans s5) _ _ hlv), by omega, fun H6 q6 s6 nq6 hq6 => ?_⟩
    have pl2 := parts_len s x
    have h3 := s6 _ _ (upd_same (H := upd H3 q2 (.lst [.int (((Vahypa.levels s.pats x).map nV).length : Nat)])) (a := q3) (o := .lst ([.int (((Vahypa.levels s.pats x).map nV).length : Nat)] ++ (Vahypa.levels s.pats x).map nV)))
    refine ⟨q3, q6, _, _, rfl, rfl, h3, hq6, by simp only [List.length_map, List.length_append, List.length_cons, List.length_nil]; exact size_small' (by omega), fun q7 hq7 => ?_⟩
    have s16 := s15.trans s6
    refine k _ q7 (s16.trans (same_upd hq7)) (s16.free hq7) ?_
    rw [upd_same]
    refine congrArg (fun q => some (HO.lst q)) ?_
    rw [List.length_map, List.append_assoc, ← List.map_append, rel_nats]
    rfl
end
end Pw

namespace Pw
open PySem PySem.Spec PyProof.Rows L2
open VahypBase (Bytes)
open Vahypa (Pat Lst levelAt parts gaps scoreWord)
section
variable {P : Program} {w : World} {K : PySem.W.Frag} {mg : Str → Option Value} {base : Heap} {CP CL CW CF CH : Addr}
def partW (s : Lst) (y : Vahypa.Word) : VahypBase.Answer := ⟨((parts s y.x).length : Int), VahypBase.nats (parts s y.x ++ [(scoreWord s y).hits, (scoreWord s y).faults, (scoreWord s y).misses])⟩
def partA (s : Lst) (i : Int) : List Int := enc (Vahypa.withWord s i (partW s))
theorem withWord_in {s : Lst} {i : Int} {f : Vahypa.Word → VahypBase.Answer} {k : Nat} {y : Vahypa.Word} (hi : i = (k : Int)) (hy : s.words[k]? = some y) : Vahypa.withWord s i f = f y := by
  subst hi
  have := (List.getElem?_eq_some_iff.mp hy).1
  unfold Vahypa.withWord VahypBase.index
  rw [if_pos ⟨by omega, by omega⟩]
  show (match s.words[((k : Int)).toNat]? with | none => _ | some w => f w) = f y
  rw [Int.toNat_natCast, hy]
theorem withWord_out {s : Lst} {i : Int} {f : Vahypa.Word → VahypBase.Answer} (h : ¬ (0 ≤ i ∧ i < (s.words.length : Int))) : Vahypa.withWord s i f = VahypBase.one (-2) := by
  unfold Vahypa.withWord VahypBase.index
  rw [if_neg h]
  rfl
def spPart (K : PySem.W.Frag) (CL CW CP : Addr) : Sp := fun vs H Q _ => ∃ (a : Addr) (s : Lst) (i : Int), vs = [.ref a, .int i] ∧ ListAt K CL CW CP H a s ∧ ∀ H' q, Same H H' → H q = none → H' q = some (.lst (intV (partA s i))) → Q (.ref q) H'
theorem sc_part : FnScope ["held", "i", "word", "parted"] ["held", "i"] (defScope s_part) := ⟨rfl, rfl, rfl, by decide +kernel, rfl, by decide +kernel, by decide +kernel⟩
theorem ok_part {fI fJ f : Addr} {fd : FuncData} (F : Fun K "part" "part" s_part f fd) (T : MainC mg) (TL : OwnC K mg "WordList" CL fI ["left", "right", "words", "patterns"]) (TW : OwnC K mg "Word" CW fJ ["chunk", "letters", "allowed"])
    (GP : C0 P w K mg base 4 "parted_of" (spPartedOf K CL CW CP)) (GH : C0 P w K mg base 2 "hits_faults_misses" (spHits K CL CW CP)) : FnOk P w K mg base CX0 5 f fd ["held", "i"] (spPart K CL CW CP) := by
  refine F.ok sc_part (fun vs H Q E h => ?_) (fun cdv A outer s H vs Q E hr h => ?_)
  · obtain ⟨a, x, i, rfl, _⟩ := h
    rfl
  obtain ⟨a, s, i, rfl, hL, k⟩ := h
  obtain ⟨dx, wl, pl, was, pas, l1, l2, l3, l4, l5, l6, r6, w24, p40⟩ := id hL
  refine ⟨_, pss_cons (ps_if (pt_not (pt_chain op_le op_lt pe_int (pv 1) (pe_callB call_len_seq (by rfl) T.nlen PySem.boot_len (pa_cons (pe_fld (pv 0) rfl) pa_nil)))) (pss_one (ps_ret (pe_lst (pa_cons (pe_con1 T.cSUCH) pa_nil)))) pss_nil)
    (pss_cons (ps_set (i := 2) sc_part.nd rfl (Or.inl rfl) (pe_ix ix_list (pe_fld (pv 0) rfl) (pv 1) (fun _ _ => rfl)))
    (pss_cons (ps_set (i := 3) sc_part.nd rfl (Or.inl rfl) (pe_c0 GP hr (by decide) (pa_cons (pv 0) (pa_cons (pe_fld (pv 2) rfl) pa_nil))))
    (pss_one (ps_ret (pe_op op_cat (pe_op op_cat (pe_lst (pa_cons (pe_callB call_len_seq (by rfl) T.nlen PySem.boot_len (pa_cons (pv 3) pa_nil)) pa_nil)) (pv 3)) (pe_c0 GH hr (by decide) (pa_cons (pv 0) (pa_cons (pv 2) (pa_cons (pv 3) pa_nil))))))))), ?_⟩
  have out : ¬ (0 ≤ i ∧ i < (s.words.length : Int)) → ∀ q, H q = none → Q (.ref q) (upd H q (.lst [.int (-2)])) := fun z q hq => by
    refine k _ q (same_upd hq) hq ?_
    unfold partA
    rw [withWord_out z, upd_same]
    rfl
  refine ⟨_, rfl, _, _, rfl, rfl, _, rfl, ?_⟩
  show ite (decide ((0 : Int) ≤ i) = true) _ _
  by_cases c1 : 0 ≤ i
  · rw [if_pos (decide_eq_true c1)]
    refine ⟨_, rfl, a, CL, dx, _, _, rfl, l1, TL.cl, TL.no _ (by simp), lkLW, _, _, rfl, .inl (SqL.of l2), _, _, rfl, rfl, _, rfl, ?_⟩
    rw [List.length_map, l4.len]
    show ite ((!decide (i < (s.words.length : Int))) = true) _ _
    by_cases c2 : i < (s.words.length : Int)
    · rw [if_neg (by rw [decide_eq_true c2]; decide)]
      obtain ⟨n, rfl⟩ : ∃ n : Nat, i = (n : Int) := ⟨i.toNat, by omega⟩
      have hn : n < s.words.length := by omega
      have hy : s.words[n]? = some s.words[n] := List.getElem?_eq_getElem hn
      generalize s.words[n] = y at hy
      obtain ⟨wa, hwa, hw⟩ := l4.get hy
      obtain ⟨⟨wok, _⟩, dw, c, l, al, e1, e2, e3, e4⟩ := id hw
      refine ⟨_, rfl, a, CL, dx, _, _, rfl, l1, TL.cl, TL.no _ (by simp), lkLW, _, rfl, wl, _, _, _, rfl, rfl, SqL.of l2, atI_nat (by rw [List.getElem?_map, hwa]; rfl), ?_⟩
      refine ⟨_, rfl, _, rfl, wa, CW, dw, _, _, rfl, e1, TW.cl, TW.no _ (by simp), lkWL, a, l, s, y.x, rfl, hL, SqL.of e3, by have := wok.len; omega, fun H2 pt s2 npt hpt => ?_⟩
      have s12 := s2
      refine ⟨_, rfl, _, _, rfl, .inl (SqL.of hpt), (by show 1 ≤ sizeLine; decide), fun q hq => ?_⟩
      have ne1 : pt ≠ q := fun z => by rw [z, hq] at hpt; cases hpt
      have s3 : Same H2 (upd H2 q (.lst [.int (((parts s y.x).map nV).length : Nat)])) := same_upd hq
      have pl2 := parts_len s y.x
      have wl2 := wok.len
      refine ⟨_, rfl, q, pt, _, _, rfl, rfl, upd_same, (upd_ne ne1).trans hpt, by simp only [List.length_map, List.length_cons, List.length_nil]; exact size_small' (by omega), fun q2 hq2 => ?_⟩
      have s4 := s3.trans (same_upd (o := HO.lst ([.int (((parts s y.x).map nV).length : Nat)] ++ (parts s y.x).map nV)) hq2)
      have s14 := s12.trans s4
      refine ⟨_, rfl, _, rfl, _, rfl, a, wa, pt, s, y, rfl, hL.same s14, hw.same s14, SqL.of (s4 _ _ hpt), fun H5 q5 s5 nq5 hq5 => ?_⟩
      have h3 := s5 _ _ (upd_same (H := upd H2 q (.lst [.int (((parts s y.x).map nV).length : Nat)])) (a := q2) (o := .lst ([.int (((parts s y.x).map nV).length : Nat)] ++ (parts s y.x).map nV)))
      refine ⟨q2, q5, _, _, rfl, rfl, h3, hq5, by simp only [List.length_map, List.length_append, List.length_cons, List.length_nil, scoreL]; exact size_small' (by omega), fun q6 hq6 => ?_⟩
      have s15 := s14.trans s5
      refine k _ q6 (s15.trans (same_upd hq6)) (s15.free hq6) ?_
      unfold partA
      rw [withWord_in rfl hy, upd_same]
      refine congrArg (fun q => some (HO.lst q)) ?_
      rw [List.length_map, List.append_assoc, ← List.map_append, rel_nats]
      rfl
    · rw [if_pos (by rw [decide_eq_false c2]; rfl)]
      exact ⟨(by show 1 ≤ sizeLine; decide), fun q hq => out (fun z => c2 z.2) q hq⟩
  · rw [if_neg (by simpa using c1)]
    refine ⟨_, rfl, ?_⟩
    show ite (true = true) _ _
    rw [if_pos rfl]
    exact ⟨(by show 1 ≤ sizeLine; decide), fun q hq => out (fun z => c1 z.1) q hq⟩
end
end Pw

namespace Pw
open PySem PySem.Spec PyProof.Rows L2
open VahypBase (Bytes)
open Vahypa (Pat Lst Call)
abbrev s_call_end : Stmt := top 84
abbrev s_handed : Stmt := top 85
abbrev s_answers : Stmt := top 86
section
variable {P : Program} {w : World} {K : PySem.W.Frag} {mg : Str → Option Value} {base : Heap} {CP CL CW CF CH : Addr}
structure LineC (K : PySem.W.Frag) (mg : Str → Option Value) : Prop where
  nlen : mg "len" = none
  cSING : ∃ a, Con mg "SINGLE_NUMBERS" (.ref a) ∧ ∀ H, SqT K H a [.int 0, .int 0, .int 0, .int 1, .int 0, .int 2, .int 1, .int 0]
  cROW : ∃ a, Con mg "CALLS_WITH_ROW" (.ref a) ∧ ∀ H, SqT K H a [.int 0, .int 2, .int 7]
theorem singles_at (c : Call) : atI [V.int 0, V.int 0, V.int 0, V.int 1, V.int 0, V.int 2, V.int 1, V.int 0] ((num c : Nat) : Int) = some (nV (if isRow c = true then 0 else (handed c).length)) := by
  cases c <;> rfl
theorem row_in (c : Call) : inV (nV (num c)) [V.int 0, V.int 2, V.int 7] = isRow c := by
  cases c <;> rfl
theorem flat_head (c : Call) : ∃ r, flatC c = (num c : Int) :: r := by
  unfold flatC
  split
  · exact ⟨_, rfl⟩
  · exact ⟨_, rfl⟩
theorem flat_len_row {c : Call} (h : isRow c = true) : flatC c = (num c : Int) :: ((handed c).length : Int) :: handed c := if_pos h
theorem flat_len_no {c : Call} (h : isRow c = false) : flatC c = (num c : Int) :: handed c := if_neg (by rw [h]; decide)
theorem get_drop {l : List Int} {n k : Nat} {a : List Int} {z : Int} (h : l.drop n = a) (g : a[k]? = some z) : atI (intV l) (((n + k : Nat)) : Int) = some (.int z) := by
  refine atI_nat ?_
  unfold intV
  rw [List.getElem?_map]
  have : l[n + k]? = some z := by
    rw [← g, ← h, List.getElem?_drop]
  rw [this]
  rfl
/-! ### call_end -/
def spCallEnd (K : PySem.W.Frag) : Sp := fun vs H Q _ => ∃ (a : Addr) (l : List Int) (n : Nat) (c : Call) (t : List Int), vs = [.ref a, .int (n : Nat)] ∧ SqL K H a (intV l) ∧ l.drop n = flatC c ++ t ∧ Q (.int ((n + (flatC c).length : Nat) : Int)) H
theorem sc_call_end : FnScope ["calls", "start", "number", "end"] ["calls", "start"] (defScope s_call_end) := ⟨rfl, rfl, rfl, by decide +kernel, rfl, by decide +kernel, by decide +kernel⟩
theorem ok_call_end {f : Addr} {fd : FuncData} (F : Fun K "call_end" "call_end" s_call_end f fd) (T : LineC K mg) : FnOk P w K mg base CX0 1 f fd ["calls", "start"] (spCallEnd K) := by
  obtain ⟨aS, cS, hS⟩ := T.cSING
  obtain ⟨aR, cR, hR⟩ := T.cROW
  refine F.ok sc_call_end (fun vs H Q E h => ?_) (fun cdv A outer s H vs Q E hr h => ?_)
  · obtain ⟨a, l, n, c, t, rfl, _⟩ := h
    rfl
  obtain ⟨a, l, n, c, t, rfl, hl, hd, k⟩ := h
  obtain ⟨r, hr1⟩ := flat_head c
  have g0 : atI (intV l) ((n : Nat) : Int) = some (.int (num c : Int)) := get_drop (k := 0) hd (by rw [hr1]; rfl)
  refine ⟨_, pss_cons (ps_set (i := 2) sc_call_end.nd rfl (Or.inl rfl) (pe_ix ix_list (pv 0) (pv 1) (fun _ _ => rfl)))
    (pss_cons (ps_set (i := 3) sc_call_end.nd rfl (Or.inl rfl) (pe_op op_add (pe_op op_add (pv 1) pe_int) (pe_ix ix_tup (pe_con1 cS) (pv 2) (fun _ _ => rfl))))
    (pss_cons (ps_if (pt_cmpR op_in_seq (pv 2) (pe_con1 cR) (by rfl)) (pss_one (ps_ret (pe_op op_add (pe_op op_add (pv 3) pe_int) (pe_ix ix_list (pv 0) (pv 3) (fun _ _ => rfl))))) pss_nil)
    (pss_one (ps_ret (pv 3))))), ?_⟩
  refine ⟨_, rfl, _, rfl, a, _, _, _, rfl, rfl, hl, g0, ?_⟩
  refine ⟨_, rfl, _, _, rfl, rfl, _, rfl, aS, _, _, _, rfl, rfl, hS _, singles_at c, _, _, rfl, rfl, ?_⟩
  refine ⟨_, rfl, aR, _, rfl, .inr (hR _), rfl, by decide, _, rfl, ?_⟩
  show ite (inV (nV (num c)) [.int 0, .int 2, .int 7] = true) _ _
  rw [row_in]
  cases c1 : isRow c with
  | true =>
    rw [if_pos rfl]
    have e1 : flatC c = (num c : Int) :: ((handed c).length : Int) :: handed c := flat_len_row c1
    have g1 := get_drop (k := 1) (z := ((handed c).length : Int)) hd (by rw [e1]; rfl)
    have hz : ((n : Nat) : Int) + 1 + ((if true = true then 0 else (handed c).length : Nat) : Int) = ((n + 1 : Nat) : Int) := by
      rw [if_pos rfl]
      omega
    have g2 : atI (intV l) (((n : Nat) : Int) + 1 + ((if true = true then 0 else (handed c).length : Nat) : Int)) = some (.int ((handed c).length : Int)) := by
      rw [hz]
      exact g1
    refine ⟨_, rfl, _, _, rfl, rfl, _, rfl, _, rfl, a, _, _, _, rfl, rfl, hl, g2, _, _, rfl, rfl, ?_⟩
    have e2 : ((n + (flatC c).length : Nat) : Int) = ((n : Nat) : Int) + 1 + ((if true = true then 0 else (handed c).length : Nat) : Int) + 1 + ((handed c).length : Int) := by
      rw [hz, e1]
      simp only [List.length_cons]
      omega
    rw [e2] at k
    exact k
  | false =>
    rw [if_neg (by decide)]
    have e1 : flatC c = (num c : Int) :: handed c := flat_len_no c1
    have e2 : ((n + (flatC c).length : Nat) : Int) = ((n : Nat) : Int) + 1 + ((if false = true then 0 else (handed c).length : Nat) : Int) := by
      rw [e1, if_neg (by decide)]
      simp only [List.length_cons]
      omega
    rw [e2] at k
    exact ⟨_, rfl, k⟩
/-! ### handed_numbers -/
def spHanded (K : PySem.W.Frag) : Sp := fun vs H Q _ => ∃ (a : Addr) (l : List Int) (n : Nat) (c : Call) (t : List Int), vs = [.ref a, .int (n : Nat), .int ((n + (flatC c).length : Nat) : Int)] ∧ SqL K H a (intV l) ∧ l.drop n = flatC c ++ t ∧
  ∀ H' q, Same H H' → H q = none → H' q = some (.lst (intV (handed c))) → Q (.ref q) H'
theorem sc_handed : FnScope ["calls", "start", "end"] ["calls", "start", "end"] (defScope s_handed) := ⟨rfl, rfl, rfl, by decide +kernel, rfl, by decide +kernel, by decide +kernel⟩
theorem cut_flat {l t : List Int} {n k : Nat} {c : Call} {p : List Int} (hd : l.drop n = flatC c ++ t) (hp : flatC c = p ++ handed c) (hk : p.length = k) : (l.drop (n + k)).take (n + (flatC c).length - (n + k)) = handed c := by
  rw [← List.drop_drop, hd, hp, List.append_assoc, ← hk, List.drop_left, List.length_append]
  rw [show n + (p.length + (handed c).length) - (n + p.length) = (handed c).length by omega, List.take_left]
theorem ok_handed {f : Addr} {fd : FuncData} (F : Fun K "handed_numbers" "handed_numbers" s_handed f fd) (T : LineC K mg) : FnOk P w K mg base CX0 1 f fd ["calls", "start", "end"] (spHanded K) := by
  obtain ⟨aR, cR, hR⟩ := T.cROW
  refine F.ok sc_handed (fun vs H Q E h => ?_) (fun cdv A outer s H vs Q E hr h => ?_)
  · obtain ⟨a, l, n, c, t, rfl, _⟩ := h
    rfl
  obtain ⟨a, l, n, c, t, rfl, hl, hd, k⟩ := h
  obtain ⟨r, hr1⟩ := flat_head c
  have g0 : atI (intV l) ((n : Nat) : Int) = some (.int (num c : Int)) := get_drop (k := 0) hd (by rw [hr1]; rfl)
  refine ⟨_, pss_cons (ps_if (pt_cmpR op_in_seq (pe_ix ix_list (pv 0) (pv 1) (fun _ _ => rfl)) (pe_con1 cR) (by rfl)) (pss_one (ps_ret (pe_slice sl_list (pv 0) (po_some (pe_op op_add (pv 1) pe_int)) (po_some (pv 2))))) pss_nil)
    (pss_one (ps_ret (pe_slice sl_list (pv 0) (po_some (pe_op op_add (pv 1) pe_int)) (po_some (pv 2))))), ?_⟩
  refine ⟨_, rfl, _, rfl, a, _, _, _, rfl, rfl, hl, g0, ?_⟩
  refine ⟨aR, _, rfl, .inr (hR _), rfl, by decide, _, rfl, ?_⟩
  show ite (inV (nV (num c)) [.int 0, .int 2, .int 7] = true) _ _
  rw [row_in]
  cases c1 : isRow c with
  | true =>
    rw [if_pos rfl]
    refine ⟨_, rfl, _, rfl, _, _, rfl, rfl, _, rfl, _, rfl, _, rfl, a, _, rfl, hl, fun q hq => k _ q (same_upd hq) hq (upd_same.trans (congrArg (fun q => some (HO.lst q)) ?_))⟩
    have := cut_map V.int l (n + 2) (n + (flatC c).length)
    rw [cut_flat (k := 2) (p := [(num c : Int), ((handed c).length : Int)]) hd (by rw [flat_len_row c1]; rfl) rfl] at this
    exact this
  | false =>
    rw [if_neg (by decide)]
    refine ⟨_, rfl, _, rfl, _, _, rfl, rfl, _, rfl, _, rfl, _, rfl, a, _, rfl, hl, fun q hq => k _ q (same_upd hq) hq (upd_same.trans (congrArg (fun q => some (HO.lst q)) ?_))⟩
    have := cut_map V.int l (n + 1) (n + (flatC c).length)
    rw [cut_flat (k := 1) (p := [(num c : Int)]) hd (by rw [flat_len_no c1]; rfl) rfl] at this
    exact this
/-! ### answers -/
/-- Holder.answer, as the loop knows it -/
def spAnswer (K : PySem.W.Frag) (CH CL CW CP : Addr) : Sp := fun vs H Q _ => ∃ (G : Hp) (h hd : Addr) (o : Option Lst) (c : Call), vs = [.ref h, .int (num c : Nat), .ref hd] ∧ HoldAt K CH CL CW CP G H h o ∧ H hd = some (.lst (intV (handed c))) ∧ okC c ∧
  ∀ G' H' q, SameBut h H H' → HoldAt K CH CL CW CP G' H' h (Vahypa.step o c).1 → (∀ b u, H b = some u → G b = none → G' b = none) → H q = none → H' q = some (.lst (intV (enc (Vahypa.step o c).2))) → Q (.ref q) H'
def spAns (K : PySem.W.Frag) : Sp := fun vs H Q _ => ∃ (a : Addr) (l : List Int), vs = [.ref a] ∧ SqL K H a (intV l) ∧ (∃ cs : List Call, l = cs.flatMap flatC ∧ PyVahypa.answers l = ansOf none cs ∧ (∀ c ∈ cs, okC c) ∧ (ansOf none cs).length ≤ 10000000) ∧
  ∀ H' q, H' q = some (.lst (intV (PyVahypa.answers l))) → Q (.ref q) H'
theorem sc_answers : FnScope ["calls", "holder", "given", "start", "end", "answer"] ["calls"] (defScope s_answers) := ⟨rfl, rfl, rfl, by decide +kernel, rfl, by decide +kernel, by decide +kernel⟩
structure Going (K : PySem.W.Frag) (CH CL CW CP : Addr) (H H' G : Hp) (h g : Addr) (l : List Int) (all : List Int) (n : Nat) (done : List Int) (o : Option Lst) (cs : List Call) : Prop where
  same : Same H H'
  nh : H h = none
  ng : H g = none
  ne : g ≠ h
  hold : HoldAt K CH CL CW CP G H' h o
  part : G g = none
  lst : H' g = some (.lst (intV done))
  drop : l.drop n = cs.flatMap flatC
  le : n ≤ l.length
  ok : ∀ c ∈ cs, okC c
  eq : all = done ++ ansOf o cs
theorem ok_answers {fI f : Addr} {fd : FuncData} (F : Fun K "answers" "answers" s_answers f fd) (T : LineC K mg) {ka : Nat} (GH : M0 P w K mg base 1 "Holder" CH (spHoldInit CH)) (GE : C0 P w K mg base 1 "call_end" (spCallEnd K)) (GN : C0 P w K mg base 1 "handed_numbers" (spHanded K))
    (GA : Me0 P w K mg base 10 CH "answer" (spAnswer K CH CL CW CP)) : FnOk P w K mg base CX0 11 f fd ["calls"] (spAns K) := by
  refine F.ok sc_answers (fun vs H Q E h => ?_) (fun cdv A outer s H vs Q E hr h => ?_)
  · obtain ⟨a, l, rfl, _⟩ := h
    rfl
  obtain ⟨a, l, rfl, hl, ⟨cs0, el, ea, eok, eten⟩, k⟩ := h
  rw [ea] at k
  refine ⟨_, pss_cons (ps_set (i := 1) sc_answers.nd rfl (Or.inl rfl) (pe_m00 GH hr (by decide)))
    (pss_cons (ps_set (i := 2) sc_answers.nd rfl (Or.inl rfl) (pe_lst pa_nil))
    (pss_cons (ps_set (i := 3) sc_answers.nd rfl (Or.inl rfl) pe_int)
    (pss_cons (ps_while PassesOwn.never (pt_cmpR op_lt (pv 3) (pe_callB call_len_seq (by rfl) T.nlen PySem.boot_len (pa_cons (pv 0) pa_nil)) (nomark _))
      (pss_cons (ps_set (i := 4) sc_answers.nd rfl (Or.inl rfl) (pe_c0 GE hr (by decide) (pa_cons (pv 0) (pa_cons (pv 3) pa_nil))))
      (pss_cons (ps_set (i := 5) sc_answers.nd rfl (Or.inl rfl) (pe_me0 GA hr (by decide) (pv 1) (pa_cons (pe_ix ix_list (pv 0) (pv 3) (fun _ _ => rfl)) (pa_cons (pe_c0 GN hr (by decide) (pa_cons (pv 0) (pa_cons (pv 3) (pa_cons (pv 4) pa_nil)))) pa_nil))))
      (pss_cons (ps_expr (pe_bm PySem.F.plainAttrs_list PySem.F.slot_list_append PySem.F.type_list_append mt_append (pv 2) (pa_cons (pe_callB call_len_seq (by rfl) T.nlen PySem.boot_len (pa_cons (pv 5) pa_nil)) pa_nil)))
      (pss_cons (ps_expr (pe_bm PySem.F.plainAttrs_list PySem.F.slot_list_extend PySem.F.type_list_extend mt_extend (pv 2) (pa_cons (pv 5) pa_nil)))
      (pss_one (ps_set (i := 3) sc_answers.nd rfl (Or.inl rfl) (pv 4))))))))
    (pss_one (ps_ret (pv 2)))))), ?_⟩
  intro h dh nh nd ne
  refine ⟨h, dh, rfl, upd_same, fun H1 h1 kp => ⟨rfl, (by show 0 ≤ sizeLine; decide), fun g hg => ?_⟩⟩
  have s1 := same_made nh nd kp
  have s2 : Same H (upd H1 g (.lst [])) := s1.trans (same_upd hg)
  have gh : g ≠ h := fun z => by rw [z, h1] at hg; cases hg
  refine ⟨fun m σ H' => ∃ (G : Hp) (n : Nat) (done : List Int) (o : Option Lst) (cs : List Call) (v4 v5 : Option V), σ = [some (.ref a), some (.ref h), some (.ref g), some (.int (n : Nat)), v4, v5] ∧ m = cs.length ∧ Going K CH CL CW CP H H' G h g l (ansOf none cs0) n done o cs,
    ⟨_, nil0, 0, [], none, cs0, none, none, rfl, rfl, ⟨s2, nh, s1.free hg, gh, ⟨dh, .non, (upd_ne (Ne.symm gh)).trans h1, nil_same, rfl, rfl⟩, rfl, upd_same, by rw [List.drop_zero, el], Nat.zero_le _, eok, rfl⟩⟩, ?_⟩
  rintro m σ H' ⟨G, n, done, o, cs, v4, v5, rfl, rfl, I⟩
  refine ⟨_, rfl, _, rfl, _, _, rfl, .inl (I.same.seq hl), ?_⟩
  refine ⟨_, _, rfl, rfl, _, rfl, ?_⟩
  have len : (intV l).length = l.length := by unfold intV; rw [List.length_map]
  rw [len]
  show ite _ _ _
  have dl : (l.drop n).length = l.length - n := List.length_drop
  have tot : done.length + (ansOf o cs).length ≤ 10000000 := by
    have := congrArg List.length I.eq
    rw [List.length_append] at this
    omega
  cases cs with
  | nil =>
    have d0 := I.drop
    rw [d0] at dl
    have le := I.le
    rw [if_neg (by intro z; have := of_decide_eq_true z; simp at dl; omega)]
    refine ⟨_, rfl, k H' g ?_⟩
    rw [I.lst, I.eq]
    show _ = some (HO.lst (intV (done ++ [])))
    rw [List.append_nil]
  | cons c cs =>
    have d0 := I.drop
    rw [List.flatMap_cons] at d0
    obtain ⟨r, hr1⟩ := flat_head c
    have lt : n < l.length := by
      have le := I.le
      rw [d0, hr1] at dl
      simp at dl
      omega
    rw [if_pos (decide_eq_true (by omega))]
    refine ⟨fun σ' H2 => ∃ m', m' < (c :: cs).length ∧ ∃ (G : Hp) (n : Nat) (done : List Int) (o : Option Lst) (cs : List Call) (v4 v5 : Option V), σ' = [some (.ref a), some (.ref h), some (.ref g), some (.int (n : Nat)), v4, v5] ∧ m' = cs.length ∧ Going K CH CL CW CP H H2 G h g l (ansOf none cs0) n done o cs, fun _ _ z => z, ?_⟩
    have sl := I.same.seq hl
    have g0 : atI (intV l) ((n : Nat) : Int) = some (.int (num c : Int)) := get_drop (k := 0) d0 (by rw [hr1]; rfl)
    obtain ⟨dx, v, ho, _⟩ := I.hold
    refine ⟨_, rfl, _, rfl, a, l, n, c, cs.flatMap flatC, rfl, sl, d0, ?_⟩
    refine ⟨_, rfl, h, dx, _, rfl, ho, (lk_past (by decide +kernel)).trans rfl, _, rfl, _, rfl, a, _, _, _, rfl, rfl, sl, g0, _, rfl, _, rfl, _, rfl, a, l, n, c, cs.flatMap flatC, rfl, sl, d0, fun H2 q s2 nq hq => ?_⟩
    refine ⟨G, h, q, o, c, rfl, I.hold.same s2, hq, I.ok c (List.mem_cons_self ..), fun G' H3 q3 b3 hold3 keep nq3 hq3 => ?_⟩
    have lst3 : H3 g = some (.lst (intV done)) := b3 _ _ I.ne (s2 _ _ I.lst)
    have part3 : G' g = none := keep g _ (s2 _ _ I.lst) I.part
    have qg : q3 ≠ g := fun z => by rw [z, s2 _ _ I.lst] at nq3; cases nq3
    have tl : done.length + (1 + ((enc (Vahypa.step o c).2).length + (ansOf (Vahypa.step o c).1 cs).length)) ≤ 10000000 := by
      have e : (ansOf o (c :: cs)).length = 1 + ((enc (Vahypa.step o c).2).length + (ansOf (Vahypa.step o c).1 cs).length) := by
        show (_ :: (enc (Vahypa.step o c).2 ++ _)).length = _
        rw [List.length_cons, List.length_append]
        omega
      rw [e] at tot
      exact tot
    have sz : ∀ m : Nat, m ≤ 10000001 → m ≤ sizeLine := fun m hm => by
      rw [sizeLine_eq]
      omega
    have il : (intV done).length = done.length := by unfold intV; rw [List.length_map]
    have il2 : (intV (enc (Vahypa.step o c).2)).length = (enc (Vahypa.step o c).2).length := by unfold intV; rw [List.length_map]
    refine ⟨_, rfl, .inl ⟨rfl, _, SqL.of lst3⟩, _, rfl, _, _, rfl, .inl (SqL.of hq3), g, _, _, rfl, rfl, lst3, Nat.lt_of_succ_le (sz _ (by rw [il]; omega)), ?_⟩
    refine ⟨_, rfl, .inl ⟨rfl, _, SqL.of upd_same⟩, _, rfl, g, q3, _, _, rfl, rfl, upd_same, (upd_ne qg).trans hq3, sz _ (by rw [il2, List.length_append, il]; simp; omega), ?_⟩
    refine ⟨_, rfl, cs.length, Nat.lt_succ_self _, G', n + (flatC c).length, done ++ (((enc (Vahypa.step o c).2).length : Int) :: enc (Vahypa.step o c).2), (Vahypa.step o c).1, cs, _, _, rfl, rfl, ?_⟩
    have sH3 : Same H H3 := b3.same (I.same.trans s2) I.nh
    refine ⟨same_new (same_new sH3 I.ng) I.ng, I.nh, I.ng, I.ne, ?_, part3, ?_, ?_, ?_, fun d m => I.ok d (List.mem_cons_of_mem _ m), ?_⟩
    · obtain ⟨d3, v3, o3, p3, z3, w3⟩ := hold3
      exact ⟨d3, v3, (upd_ne (Ne.symm I.ne)).trans ((upd_ne (Ne.symm I.ne)).trans o3), fun b u e => (upd_ne (ne_of_none e part3)).trans ((upd_ne (ne_of_none e part3)).trans (p3 b u e)), z3, w3⟩
    · rw [upd_same, il2]
      refine congrArg (fun q => some (HO.lst q)) ?_
      unfold intV
      rw [List.map_append, List.append_assoc]
      rfl
    · rw [← List.drop_drop, d0, List.drop_left]
    · rw [d0, List.length_append] at dl
      have := I.le
      omega
    · rw [I.eq, List.append_assoc]
      rfl
end
end Pw

namespace Pw
open PySem PySem.Spec PyProof.Rows L2
open VahypBase (Bytes nats)
open Vahypa (Pat Lst Score Call levelAt parts gaps scoreWord addScore scoreOf exact fitsAt fitsIn tells decides hyphened looked)
/-! ### what the later calls answer, as whole numbers -/
theorem score_enc (s : Lst) : enc (looked s .score) = [(exAt s s.words.length : Int), ((scoreOf s).hits : Int), ((scoreOf s).faults : Int), ((scoreOf s).misses : Int)] := by
  rw [exAt_all]
  rfl
theorem exact_nums (s : Lst) (y : Vahypa.Word) : exact s y = (decide ((scoreWord s y).faults = 0) && decide ((scoreWord s y).misses = 0)) := rfl
theorem why_out {s : Lst} {i g : Int} (h : ¬ (0 ≤ i ∧ i < (s.words.length : Int))) : enc (looked s (.why i g)) = [-2] := by
  show enc (Vahypa.withWord s i _) = _
  rw [withWord_out h]
  rfl
theorem index_in {z : Int} {n : Nat} (h : 0 ≤ z ∧ z < (n : Int)) : VahypBase.index z n = some z.toNat := if_pos h
theorem index_out {z : Int} {n : Nat} (h : ¬ (0 ≤ z ∧ z < (n : Int))) : VahypBase.index z n = none := if_neg h
theorem why_gap {s : Lst} {k : Nat} {g : Int} {y : Vahypa.Word} (hy : s.words[k]? = some y) (hl : 1 ≤ y.x.length) (h : ¬ (0 < g ∧ g < (y.x.length : Int))) : enc (looked s (.why (k : Int) g)) = [-3] := by
  show enc (Vahypa.withWord s (k : Int) _) = _
  rw [withWord_in rfl hy, index_out (by omega)]
  rfl
theorem why_zero {s : Lst} {k g : Nat} {y : Vahypa.Word} (hy : s.words[k]? = some y) (h : 0 < g ∧ g < y.x.length) (hv : levelAt s.pats y.x g = 0) : enc (looked s (.why (k : Int) (g : Int))) = [0] := by
  show enc (Vahypa.withWord s (k : Int) _) = _
  have e : ((g : Int) - 1).toNat + 1 = g := by omega
  rw [withWord_in rfl hy, index_in (by omega)]
  show enc (match decides s y.x (((g : Int) - 1).toNat + 1) with | none => VahypBase.one 0 | some x => ⟨1, nats [x.1, x.2, levelAt s.pats y.x (((g : Int) - 1).toNat + 1)]⟩) = _
  rw [e, decides_no hv]
  rfl
theorem why_told {s : Lst} {k g a o : Nat} {y : Vahypa.Word} (hy : s.words[k]? = some y) (h : 0 < g ∧ g < y.x.length) (hv : levelAt s.pats y.x g ≠ 0) (hd : decF y.x g (levelAt s.pats y.x g) s.pats 0 = some (a, o)) :
    enc (looked s (.why (k : Int) (g : Int))) = [1, (a : Int), (o : Int), (levelAt s.pats y.x g : Int)] := by
  show enc (Vahypa.withWord s (k : Int) _) = _
  have e : ((g : Int) - 1).toNat + 1 = g := by omega
  rw [withWord_in rfl hy, index_in (by omega)]
  show enc (match decides s y.x (((g : Int) - 1).toNat + 1) with | none => VahypBase.one 0 | some x => ⟨1, nats [x.1, x.2, levelAt s.pats y.x (((g : Int) - 1).toNat + 1)]⟩) = _
  rw [e, decides_eq hv, hd]
  rfl
theorem fits_out {s : Lst} {i : Int} (h : ¬ (0 ≤ i ∧ i < (s.pats.length : Int))) : enc (looked s (.fits i)) = [-2] := by
  show enc (match (VahypBase.index i s.pats.length).bind fun k => s.pats[k]? with | none => VahypBase.one (-2) | some q => _) = _
  rw [index_out h]
  rfl
theorem fits_in {s : Lst} {k : Nat} {p : Pat} (hp : s.pats[k]? = some p) : enc (looked s (.fits (k : Int))) = ((fitsIn s p).length : Int) :: pairsI (fitsIn s p) := by
  have := (List.getElem?_eq_some_iff.mp hp).1
  show enc (match (VahypBase.index (k : Int) s.pats.length).bind fun k => s.pats[k]? with | none => VahypBase.one (-2) | some q => ⟨((fitsIn s q).length : Int), (fitsIn s q).flatMap fun x => nats [x.1, x.2]⟩) = _
  rw [index_in (by omega)]
  show enc (match s.pats[((k : Int)).toNat]? with | none => VahypBase.one (-2) | some q => ⟨((fitsIn s q).length : Int), (fitsIn s q).flatMap fun x => nats [x.1, x.2]⟩) = _
  rw [Int.toNat_natCast, hp]
  rfl
theorem spell_bad {s : Lst} {b : Bytes} (h : isLetters b = false) : enc (looked s (.spell b)) = [-4] := by
  show enc (match Vahypa.readLetters b with | none => VahypBase.one (-4) | some x => VahypBase.textAnswer (hyphened x (parts s x))) = _
  rw [readLetters_if, h]
  rfl
theorem spell_ok {s : Lst} {b : Bytes} (h : isLetters b = true) : enc (looked s (.spell b)) = ((hyphened b (parts s b)).length : Int) :: (hyphened b (parts s b)).map fun u => (u.toNat : Int) := by
  show enc (match Vahypa.readLetters b with | none => VahypBase.one (-4) | some x => VahypBase.textAnswer (hyphened x (parts s x))) = _
  rw [readLetters_if, h]
  rfl
/-! ### their promises -/
section
variable {K : PySem.W.Frag} {CP CL CW : Addr}
def spScore (K : PySem.W.Frag) (CL CW CP : Addr) : Sp := fun vs H Q _ => ∃ (a : Addr) (s : Lst), vs = [.ref a] ∧ ListAt K CL CW CP H a s ∧ ∀ H' q, Same H H' → H q = none → H' q = some (.lst (intV (enc (looked s .score)))) → Q (.ref q) H'
def spWhy (K : PySem.W.Frag) (CL CW CP : Addr) : Sp := fun vs H Q _ => ∃ (a : Addr) (s : Lst) (i g : Int), vs = [.ref a, .int i, .int g] ∧ ListAt K CL CW CP H a s ∧ ∀ H' q, Same H H' → H q = none → H' q = some (.lst (intV (enc (looked s (.why i g))))) → Q (.ref q) H'
def spFits (K : PySem.W.Frag) (CL CW CP : Addr) : Sp := fun vs H Q _ => ∃ (a : Addr) (s : Lst) (i : Int), vs = [.ref a, .int i] ∧ ListAt K CL CW CP H a s ∧ ∀ H' q, Same H H' → H q = none → H' q = some (.lst (intV (enc (looked s (.fits i))))) → Q (.ref q) H'
def spSpell (K : PySem.W.Frag) (CL CW CP : Addr) : Sp := fun vs H Q _ => ∃ (a l : Addr) (s : Lst) (b : Bytes), vs = [.ref a, .ref l] ∧ ListAt K CL CW CP H a s ∧ SqL K H l (b.map bV) ∧ ∀ H' q, Same H H' → H q = none → H' q = some (.lst (intV (enc (looked s (.spell b))))) → Q (.ref q) H'
end
end Pw

namespace Pw
open PySem PySem.Spec PyProof.Rows L2
open VahypBase (Bytes nats)
open Vahypa (Pat Lst Score Call levelAt parts gaps scoreWord addScore scoreOf exact fitsAt fitsIn tells decides hyphened looked)
abbrev s_score : Stmt := top 80
abbrev s_why : Stmt := top 81
abbrev s_fits : Stmt := top 82
abbrev s_spell : Stmt := top 83
section
variable {P : Program} {w : World} {K : PySem.W.Frag} {mg : Str → Option Value} {base : Heap} {CP CL CW CF CH : Addr}
/-! ### spell -/
theorem sc_spell : FnScope ["held", "letters", "written"] ["held", "letters"] (defScope s_spell) := ⟨rfl, rfl, rfl, by decide +kernel, rfl, by decide +kernel, by decide +kernel⟩
theorem parts_pos (s : Lst) (x : Bytes) : 0 ∉ parts s x := fun z => by
  unfold parts Vahypa.partsBy gaps at z
  have := (List.mem_filter.mp z).1
  obtain ⟨k, _, e⟩ := List.mem_map.mp this
  omega
theorem ok_spell {f : Addr} {fd : FuncData} (F : Fun K "spell" "spell" s_spell f fd) (T : MainC mg) (GI : C0 P w K mg base 2 "is_word_letters" (spIsWordLetters K)) (GP : C0 P w K mg base 4 "parted_of" (spPartedOf K CL CW CP)) (GH : C0 P w K mg base 1 "hyphened" (spHyph K)) :
    FnOk P w K mg base CX0 5 f fd ["held", "letters"] (spSpell K CL CW CP) := by
  refine F.ok sc_spell (fun vs H Q E h => ?_) (fun cdv A outer s H vs Q E hr h => ?_)
  · obtain ⟨a, l, x, b, rfl, _⟩ := h
    rfl
  obtain ⟨a, l, s, x, rfl, hL, hl, k⟩ := h
  refine ⟨_, pss_cons (ps_if (pt_not (pt_val (pe_c0 GI hr (by decide) (pa_cons (pv 1) pa_nil)))) (pss_one (ps_ret (pe_lst (pa_cons (pe_con1 T.cLET) pa_nil)))) pss_nil)
    (pss_cons (ps_set (i := 2) sc_spell.nd rfl (Or.inl rfl) (pe_c0 GH hr (by decide) (pa_cons (pv 1) (pa_cons (pe_c0 GP hr (by decide) (pa_cons (pv 0) (pa_cons (pv 1) pa_nil))) pa_nil))))
    (pss_one (ps_ret (pe_op op_cat (pe_lst (pa_cons (pe_callB call_len_seq (by rfl) T.nlen PySem.boot_len (pa_cons (pv 2) pa_nil)) pa_nil)) (pv 2))))), ?_⟩
  refine ⟨_, rfl, l, x, rfl, hl, fun H1 s1 => ⟨_, rfl, ?_⟩⟩
  show ite ((!isLetters x) = true) _ _
  cases c : isLetters x with
  | false =>
    rw [if_pos (by decide)]
    rw [spell_bad c] at k
    exact ⟨(by show 1 ≤ sizeLine; decide), fun q hq => k _ q (s1.trans (same_upd hq)) (s1.free hq) upd_same⟩
  | true =>
    rw [if_neg (by decide)]
    rw [spell_ok c] at k
    have len : 2 ≤ x.length ∧ x.length ≤ 16 := by
      unfold isLetters at c
      rw [Bool.and_eq_true] at c
      exact of_decide_eq_true c.1
    refine ⟨_, rfl, _, rfl, _, rfl, a, l, s, x, rfl, hL.same s1, s1.seq hl, by omega, fun H2 pt s2 npt hpt => ?_⟩
    have s12 := s1.trans s2
    refine ⟨l, pt, x, parts s x, rfl, s12.seq hl, SqL.of hpt, by omega, parts_pos s x, fun H3 q s3 nq hq => ?_⟩
    have s13 := s12.trans s3
    have hlen := hyphened_len x (parts s x) x.length (Nat.le_refl _)
    rw [hyphened_all] at hlen
    refine ⟨_, rfl, _, _, rfl, .inl (SqL.of hq), (by show 1 ≤ sizeLine; decide), fun q2 hq2 => ?_⟩
    have ne1 : q ≠ q2 := fun z => by rw [z, hq2] at hq; cases hq
    refine ⟨_, rfl, q2, q, _, _, rfl, rfl, upd_same, (upd_ne ne1).trans hq, by simp only [List.length_map, List.length_cons, List.length_nil]; exact size_small' (by omega), fun q3 hq3 => ?_⟩
    have s4 := same_new (o := HO.lst [V.int (((hyphened x (parts s x)).map bV).length : Nat)]) s13 (s13.free hq2)
    refine k _ q3 (same_new s4 (s4.free hq3)) (s4.free hq3) ?_
    rw [upd_same, List.length_map, rel_bytes]
    rfl
/-! ### fits -/
theorem sc_fits : FnScope ["held", "p", "found", "number", "word", "place"] ["held", "p"] (defScope s_fits) := ⟨rfl, rfl, rfl, by decide +kernel, rfl, by decide +kernel, by decide +kernel⟩
theorem ok_fits {fI fJ f : Addr} {fd : FuncData} (F : Fun K "fits" "fits" s_fits f fd) (T : MainC mg) (TE : PartC mg) (TL : OwnC K mg "WordList" CL fI ["left", "right", "words", "patterns"]) (TW : OwnC K mg "Word" CW fJ ["chunk", "letters", "allowed"])
    (GP : C0 P w K mg base 2 "fitting_places" (spPlaces K CP)) : FnOk P w K mg base CX0 3 f fd ["held", "p"] (spFits K CL CW CP) := by
  refine F.ok sc_fits (fun vs H Q E h => ?_) (fun cdv A outer s H vs Q E hr h => ?_)
  · obtain ⟨a, x, i, rfl, _⟩ := h
    rfl
  obtain ⟨a, s, i, rfl, hL, k⟩ := h
  obtain ⟨dx, wl, pl, was, pas, l1, l2, l3, l4, l5, l6, r6, w24, p40⟩ := id hL
  refine ⟨_, pss_cons (ps_if (pt_not (pt_chain op_le op_lt pe_int (pv 1) (pe_callB call_len_seq (by rfl) T.nlen PySem.boot_len (pa_cons (pe_fld (pv 0) rfl) pa_nil)))) (pss_one (ps_ret (pe_lst (pa_cons (pe_con1 T.cSUCH) pa_nil)))) pss_nil)
    (pss_cons (ps_set (i := 2) sc_fits.nd rfl (Or.inl rfl) (pe_lst pa_nil))
    (pss_cons (ps_for PassesOwn.never rfl (pi_enum (by rfl) TE.nenum (pa_cons (pe_fld (pv 0) rfl) pa_nil)) (pg_tup rfl (pgs_cons (pg_name (i := 3) sc_fits.nd rfl (Or.inl rfl)) (pgs_cons (pg_name (i := 4) sc_fits.nd rfl (Or.inl rfl)) pgs_nil)))
      (pss_one (ps_for PassesOwn.never rfl (pi_list (pe_c0 GP hr (by decide) (pa_cons (pe_ix ix_list (pe_fld (pv 0) rfl) (pv 1) (fun _ _ => rfl)) (pa_cons (pe_fld (pv 4) rfl) pa_nil)))) (pg_name (i := 5) sc_fits.nd rfl (Or.inl rfl))
        (pss_one (ps_expr (pe_bm PySem.F.plainAttrs_list PySem.F.slot_list_extend PySem.F.type_list_extend mt_extend (pv 2) (pa_cons (pe_lst (pa_cons (pv 3) (pa_cons (pv 5) pa_nil))) pa_nil)))))))
    (pss_one (ps_ret (pe_op op_cat (pe_lst (pa_cons (pe_op op_fdiv (pe_callB call_len_seq (by rfl) T.nlen PySem.boot_len (pa_cons (pv 2) pa_nil)) pe_int) pa_nil)) (pv 2)))))), ?_⟩
  have out : ¬ (0 ≤ i ∧ i < (s.pats.length : Int)) → ∀ q, H q = none → Q (.ref q) (upd H q (.lst [.int (-2)])) := fun z q hq => by
    refine k _ q (same_upd hq) hq ?_
    rw [fits_out z, upd_same]
    rfl
  refine ⟨_, rfl, _, _, rfl, rfl, _, rfl, ?_⟩
  show ite (decide ((0 : Int) ≤ i) = true) _ _
  by_cases c1 : 0 ≤ i
  · rw [if_pos (decide_eq_true c1)]
    refine ⟨_, rfl, a, CL, dx, _, _, rfl, l1, TL.cl, TL.no _ (by simp), lkLP, _, _, rfl, .inl (SqL.of l3), _, _, rfl, rfl, _, rfl, ?_⟩
    rw [List.length_map, l5.len]
    show ite ((!decide (i < (s.pats.length : Int))) = true) _ _
    by_cases c2 : i < (s.pats.length : Int)
    · rw [if_neg (by rw [decide_eq_true c2]; decide)]
      obtain ⟨n, rfl⟩ : ∃ n : Nat, i = (n : Int) := ⟨i.toNat, by omega⟩
      have hn : n < s.pats.length := by omega
      have hp : s.pats[n]? = some s.pats[n] := List.getElem?_eq_getElem hn
      generalize s.pats[n] = p at hp
      obtain ⟨pa, hpa, hpp⟩ := l5.get hp
      rw [fits_in hp] at k
      refine ⟨(by show 0 ≤ sizeLine; decide), fun D hD => ?_⟩
      have s1 : Same H (upd H D (.lst [])) := same_upd hD
      refine ⟨_, rfl, a, CL, dx, _, _, rfl, s1 _ _ l1, TL.cl, TL.no _ (by simp), lkLW, wl, _, rfl, SqL.of (s1 _ _ l2), ?_⟩
      have w16 : ∀ y ∈ s.words, y.x.length ≤ 16 := fun y m => by
        obtain ⟨j, hj⟩ := List.getElem?_of_mem m
        obtain ⟨_, _, ⟨wok, _⟩, _⟩ := l4.get hj
        exact wok.len.2
      refine for_it walk_enum (fun m σ H' => ∃ v3 v4 v5 : Option V, σ = [some (.ref a), some (.int (n : Nat)), some (.ref D), v3, v4, v5] ∧ Same H H' ∧ H' D = some (.lst (intV (pairsI (fitW p s.words m)))))
        ⟨none, none, none, rfl, s1, upd_same⟩ (fun m σ H' _ ⟨_, _, _, _, sm, _⟩ => SqL.of (sm _ _ l2)) ?_ ?_
      · rintro m y σ H1 H2 hm ⟨v3, v4, v5, rfl, sm, hd⟩ ⟨t, x1, y1, rfl, ht, rfl, hx1, hy1⟩
        obtain ⟨wa, hwa, rfl⟩ := map_get hy1
        injection hx1 with hx1
        subst hx1
        obtain ⟨y, hy, hw⟩ := l4.get' hwa
        obtain ⟨⟨wok, _⟩, dw, c, l, al, e1, e2, e3, e4⟩ := id hw
        have ml : m < s.words.length := (List.getElem?_eq_some_iff.mp hy).1
        have s12 : Same H1 (upd H1 t (.tup [.int (m : Int), .ref wa])) := same_upd ht
        have sm2 := sm.trans s12
        refine ⟨t, _, rfl, .inl (.inl upd_same), rfl, _, _, rfl, _, _, rfl, rfl, ?_⟩
        refine ⟨_, rfl, a, CL, dx, _, _, rfl, sm2 _ _ l1, TL.cl, TL.no _ (by simp), lkLP, _, rfl, pl, _, _, _, rfl, rfl, SqL.of (sm2 _ _ l3), atI_nat (by rw [List.getElem?_map, hpa]; rfl), ?_⟩
        refine ⟨_, rfl, wa, CW, dw, _, _, rfl, sm2 _ _ e1, TW.cl, TW.no _ (by simp), lkWL, pa, l, p, y.x, rfl, hpp.same sm2, SqL.of (sm2 _ _ e3), by have := wok.len; omega, fun H3 q s3 nq hq => ?_⟩
        have sm3 := sm2.trans s3
        have hd3 := s3 _ _ (s12 _ _ hd)
        have nqD : q ≠ D := fun z => by rw [z, s12 _ _ hd] at nq; cases nq
        have pl1 := places_len p y.x
        have fl1 := fitW_len w16 m (by omega) (p := p)
        have yl := wok.len
        refine ⟨q, rfl, ⟨_, SqL.of hq⟩, for_list (K := K) (a := q) (xs := (placesOf p y.x).map nV) (fun j σ H' => ∃ v5 : Option V, σ = [some (.ref a), some (.int (n : Nat)), some (.ref D), some (nV m), some (.ref wa), v5] ∧ Same H H' ∧ H' q = some (.lst ((placesOf p y.x).map nV)) ∧
            H' D = some (.lst (intV (pairsI (fitW p s.words m ++ ((placesOf p y.x).take j).map fun o => (m, o))))))
          ⟨v5, rfl, sm3, hq, ?_⟩ (fun j σ H' _ ⟨_, _, _, z, _⟩ => SqL.of z) ?_ ?_⟩
        · rw [List.take_zero, List.map_nil, List.append_nil]
          exact hd3
        · rintro j y0 σ H4 hj ⟨v5, rfl, sm4, hq4, hd4⟩
          obtain ⟨o, ho, rfl⟩ := map_get hj
          have jl : j < (placesOf p y.x).length := (List.getElem?_eq_some_iff.mp ho).1
          refine ⟨_, rfl, .inl ⟨rfl, _, SqL.of hd4⟩, _, rfl, _, rfl, (by show 2 ≤ sizeLine; decide), fun t2 ht2 => ?_⟩
          have tD2 : D ≠ t2 := fun z => by rw [z, ht2] at hd4; cases hd4
          have tq2 : q ≠ t2 := fun z => by rw [z, ht2] at hq4; cases hq4
          refine ⟨D, t2, _, _, rfl, rfl, (upd_ne tD2).trans hd4, upd_same, size_small' (by
            simp only [intV, List.length_append, List.length_map, pairsI_len, List.length_take, List.length_cons, List.length_nil]
            have : m * (16 + 1) ≤ 24 * 17 := Nat.mul_le_mul (by omega) (by omega)
            omega), ?_⟩
          refine ⟨_, rfl, same_new (same_new sm4 (sm4.free ht2)) hD, (upd_ne nqD).trans ((upd_ne tq2).trans hq4), ?_⟩
          rw [upd_same, take_more ho, List.map_append, ← List.append_assoc, pairsI_append (_ ++ _) (List.map _ [o])]
          unfold intV
          rw [List.map_append (l₁ := pairsI (_ ++ _))]
          rfl
        · rintro σ H4 ⟨v5, rfl, sm4, hq4, hd4⟩
          rw [List.length_map, List.take_length, ← fitW_more hy] at hd4
          exact ⟨_, _, _, rfl, sm4, hd4⟩
      · rintro σ H1 ⟨v3, v4, v5, rfl, sm, hd⟩
        rw [List.length_map, l4.len, fitW_all] at hd
        have fl := fitW_len w16 s.words.length (Nat.le_refl _) (p := p)
        rw [fitW_all] at fl
        have fl2 : s.words.length * (16 + 1) ≤ 24 * 17 := Nat.mul_le_mul (by omega) (by omega)
        have il : (intV (pairsI (fitsIn s p))).length = 2 * (fitsIn s p).length := by
          unfold intV
          rw [List.length_map, pairsI_len]
        refine ⟨_, rfl, _, _, rfl, .inl (SqL.of hd), _, _, rfl, rfl, ⟨by decide, by decide⟩, (by show 1 ≤ sizeLine; decide), fun q hq => ?_⟩
        have ne1 : D ≠ q := fun z => by rw [z, hq] at hd; cases hd
        refine ⟨_, rfl, q, D, _, _, rfl, rfl, upd_same, (upd_ne ne1).trans hd, size_small' (by rw [il]; simp only [List.length_cons, List.length_nil]; omega), fun q2 hq2 => ?_⟩
        have s4 := sm.trans (same_upd (o := HO.lst [V.int (((intV (pairsI (fitsIn s p))).length : Nat) / 2)]) hq)
        refine k _ q2 (same_new s4 (s4.free hq2)) (s4.free hq2) ?_
        rw [upd_same, il]
        have e : (((2 * (fitsIn s p).length : Nat) : Int) / 2) = ((fitsIn s p).length : Int) := by omega
        show some (HO.lst (V.int (((2 * (fitsIn s p).length : Nat) : Int) / 2) :: intV (pairsI (fitsIn s p)))) = _
        rw [e]
        rfl
    · rw [if_pos (by rw [decide_eq_false c2]; rfl)]
      exact ⟨(by show 1 ≤ sizeLine; decide), fun q hq => out (fun z => c2 z.2) q hq⟩
  · rw [if_neg (by simpa using c1)]
    refine ⟨_, rfl, ?_⟩
    show ite (true = true) _ _
    rw [if_pos rfl]
    exact ⟨(by show 1 ≤ sizeLine; decide), fun q hq => out (fun z => c1 z.1) q hq⟩
end
end Pw

namespace Pw
open PySem PySem.Spec PyProof.Rows L2
open VahypBase (Bytes nats)
open Vahypa (Pat Lst Score Call levelAt parts gaps scoreWord addScore scoreOf exact fitsAt fitsIn tells decides hyphened looked)
section
variable {P : Program} {w : World} {K : PySem.W.Frag} {mg : Str → Option Value} {base : Heap} {CP CL CW CF CH : Addr}
/-! ### why -/
theorem sc_why : FnScope ["held", "i", "g", "letters", "level", "first"] ["held", "i", "g"] (defScope s_why) := ⟨rfl, rfl, rfl, by decide +kernel, rfl, by decide +kernel, by decide +kernel⟩
theorem ok_why {fI fJ f : Addr} {fd : FuncData} (F : Fun K "why" "why" s_why f fd) (T : MainC mg) (cGAP : Con mg "NO_GAP" (.int (-3))) (TL : OwnC K mg "WordList" CL fI ["left", "right", "words", "patterns"]) (TW : OwnC K mg "Word" CW fJ ["chunk", "letters", "allowed"])
    (GG : C0 P w K mg base 3 "gap_levels" (spGapLevels K CP)) (GB : C0 P w K mg base 3 "bearers" (spBearers K CP)) : FnOk P w K mg base CX0 4 f fd ["held", "i", "g"] (spWhy K CL CW CP) := by
  refine F.ok sc_why (fun vs H Q E h => ?_) (fun cdv A outer s H vs Q E hr h => ?_)
  · obtain ⟨a, x, i, g, rfl, _⟩ := h
    rfl
  obtain ⟨a, s, i, g, rfl, hL, k⟩ := h
  obtain ⟨dx, wl, pl, was, pas, l1, l2, l3, l4, l5, l6, r6, w24, p40⟩ := id hL
  refine ⟨_, pss_cons (ps_if (pt_not (pt_chain op_le op_lt pe_int (pv 1) (pe_callB call_len_seq (by rfl) T.nlen PySem.boot_len (pa_cons (pe_fld (pv 0) rfl) pa_nil)))) (pss_one (ps_ret (pe_lst (pa_cons (pe_con1 T.cSUCH) pa_nil)))) pss_nil)
    (pss_cons (ps_set (i := 3) sc_why.nd rfl (Or.inl rfl) (pe_fld (pe_ix ix_list (pe_fld (pv 0) rfl) (pv 1) (fun _ _ => rfl)) rfl))
    (pss_cons (ps_if (pt_not (pt_chain op_le op_lt pe_int (pv 2) (pe_callB call_len_seq (by rfl) T.nlen PySem.boot_len (pa_cons (pv 3) pa_nil)))) (pss_one (ps_ret (pe_lst (pa_cons (pe_con1 cGAP) pa_nil)))) pss_nil)
    (pss_cons (ps_set (i := 4) sc_why.nd rfl (Or.inl rfl) (pe_ix ix_list (pe_c0 GG hr (by decide) (pa_cons (pe_fld (pv 0) rfl) (pa_cons (pv 3) pa_nil))) (pv 2) (fun _ _ => rfl)))
    (pss_cons (ps_if (pt_cmpR op_eq (pv 4) pe_int (nomark _)) (pss_one (ps_ret (pe_lst (pa_cons pe_int pa_nil)))) pss_nil)
    (pss_cons (ps_set (i := 5) sc_why.nd rfl (Or.inl rfl) (pe_ix ix_list (pe_c0 GB hr (by decide) (pa_cons (pe_fld (pv 0) rfl) (pa_cons (pv 3) (pa_cons (pv 2) (pa_cons (pv 4) pa_nil))))) pe_int (fun _ _ => rfl)))
    (pss_one (ps_ret (pe_lst (pa_cons pe_int (pa_cons (pe_ix ix_tup (pv 5) pe_int (fun _ _ => rfl)) (pa_cons (pe_ix ix_tup (pv 5) pe_int (fun _ _ => rfl)) (pa_cons (pv 4) pa_nil)))))))))))), ?_⟩
  have out : ¬ (0 ≤ i ∧ i < (s.words.length : Int)) → ∀ q, H q = none → Q (.ref q) (upd H q (.lst [.int (-2)])) := fun z q hq => by
    refine k _ q (same_upd hq) hq ?_
    rw [why_out z, upd_same]
    rfl
  refine ⟨_, rfl, _, _, rfl, rfl, _, rfl, ?_⟩
  show ite (decide ((0 : Int) ≤ i) = true) _ _
  by_cases c1 : 0 ≤ i
  · rw [if_pos (decide_eq_true c1)]
    refine ⟨_, rfl, a, CL, dx, _, _, rfl, l1, TL.cl, TL.no _ (by simp), lkLW, _, _, rfl, .inl (SqL.of l2), _, _, rfl, rfl, _, rfl, ?_⟩
    rw [List.length_map, l4.len]
    show ite ((!decide (i < (s.words.length : Int))) = true) _ _
    by_cases c2 : i < (s.words.length : Int)
    · rw [if_neg (by rw [decide_eq_true c2]; decide)]
      obtain ⟨n, rfl⟩ : ∃ n : Nat, i = (n : Int) := ⟨i.toNat, by omega⟩
      have hn : n < s.words.length := by omega
      have hy : s.words[n]? = some s.words[n] := List.getElem?_eq_getElem hn
      generalize s.words[n] = y at hy
      obtain ⟨wa, hwa, hw⟩ := l4.get hy
      obtain ⟨⟨wok, _⟩, dw, c, l, al, e1, e2, e3, e4⟩ := id hw
      have wl2 := wok.len
      have gapout : ¬ (0 < g ∧ g < (y.x.length : Int)) → ∀ q, H q = none → Q (.ref q) (upd H q (.lst [.int (-3)])) := fun z q hq => by
        refine k _ q (same_upd hq) hq ?_
        rw [why_gap hy (by omega) z, upd_same]
        rfl
      refine ⟨_, rfl, a, CL, dx, _, _, rfl, l1, TL.cl, TL.no _ (by simp), lkLW, _, rfl, wl, _, _, _, rfl, rfl, SqL.of l2, atI_nat (by rw [List.getElem?_map, hwa]; rfl), wa, CW, dw, _, _, rfl, e1, TW.cl, TW.no _ (by simp), lkWL, ?_⟩
      refine ⟨_, rfl, _, _, rfl, rfl, _, rfl, ?_⟩
      show ite (decide ((1 : Int) ≤ g) = true) _ _
      by_cases c3 : 1 ≤ g
      · rw [if_pos (decide_eq_true c3)]
        refine ⟨_, rfl, _, _, rfl, .inl (SqL.of e3), _, _, rfl, rfl, _, rfl, ?_⟩
        rw [List.length_map]
        show ite ((!decide (g < (y.x.length : Int))) = true) _ _
        by_cases c4 : g < (y.x.length : Int)
        · rw [if_neg (by rw [decide_eq_true c4]; decide)]
          obtain ⟨j, rfl⟩ : ∃ j : Nat, g = (j : Int) := ⟨g.toNat, by omega⟩
          have hj : 0 < j ∧ j < y.x.length := by omega
          refine ⟨_, rfl, a, CL, dx, _, _, rfl, l1, TL.cl, TL.no _ (by simp), lkLP, _, rfl, pl, l, pas, s.pats, y.x, rfl, SqL.of l3, l5, SqL.of e3, by omega, fun H1 lv s1 nlv hlv => ?_⟩
          refine ⟨_, rfl, lv, _, _, _, rfl, rfl, SqL.of hlv, lv_get (by omega), ?_⟩
          refine ⟨_, rfl, rfl, _, rfl, ?_⟩
          show ite (decide (nV (levelAt s.pats y.x j) = V.int 0) = true) _ _
          by_cases c5 : levelAt s.pats y.x j = 0
          · rw [if_pos (decide_eq_true (by rw [c5]; rfl))]
            refine ⟨(by show 1 ≤ sizeLine; decide), fun q hq => k _ q (s1.trans (same_upd hq)) (s1.free hq) ?_⟩
            rw [why_zero hy hj c5, upd_same]
            rfl
          · rw [if_neg (by intro z; have z2 := V.int.inj (of_decide_eq_true z); omega)]
            obtain ⟨⟨pk, po⟩, _, hz⟩ := decides_some c5
            refine ⟨_, rfl, a, CL, dx, _, _, rfl, s1 _ _ l1, TL.cl, TL.no _ (by simp), lkLP, _, rfl, _, rfl, _, rfl, pl, l, pas, s.pats, y.x, j, levelAt s.pats y.x j, rfl, SqL.of (s1 _ _ l3), l5.mono fun _ _ z => z.same s1, SqL.of (s1 _ _ e3), by omega, by omega, fun H2 q ts s2 nq hq hts => ?_⟩
            have s12 := s1.trans s2
            have hd := (bear_head (x := y.x) (g := j) (ps := s.pats) c5).trans hz
            rw [List.head?_eq_getElem?] at hd
            obtain ⟨t0, ht0, hp0⟩ := hts.get hd
            have hp1 : H2 t0 = some (.tup [nV pk, nV po]) := hp0
            refine ⟨q, _, 0, .ref t0, rfl, rfl, SqL.of hq, (show atI (ts.map V.ref) ((0 : Nat) : Int) = some (.ref t0) from atI_nat (by rw [List.getElem?_map, ht0]; rfl)), ?_⟩
            refine ⟨_, rfl, t0, _, _, _, rfl, rfl, SqT.of hp1, rfl, _, rfl, t0, _, _, _, rfl, rfl, SqT.of hp1, rfl, _, rfl, (by show 4 ≤ sizeLine; decide), fun r hr2 => ?_⟩
            refine k _ r (s12.trans (same_upd hr2)) (s12.free hr2) ?_
            rw [why_told hy hj c5 hz, upd_same]
            rfl
        · rw [if_pos (by rw [decide_eq_false c4]; rfl)]
          exact ⟨(by show 1 ≤ sizeLine; decide), fun q hq => gapout (fun z => c4 z.2) q hq⟩
      · rw [if_neg (by simpa using c3)]
        refine ⟨_, rfl, ?_⟩
        show ite (true = true) _ _
        rw [if_pos rfl]
        exact ⟨(by show 1 ≤ sizeLine; decide), fun q hq => gapout (fun z => c3 (by omega)) q hq⟩
    · rw [if_pos (by rw [decide_eq_false c2]; rfl)]
      exact ⟨(by show 1 ≤ sizeLine; decide), fun q hq => out (fun z => c2 z.2) q hq⟩
  · rw [if_neg (by simpa using c1)]
    refine ⟨_, rfl, ?_⟩
    show ite (true = true) _ _
    rw [if_pos rfl]
    exact ⟨(by show 1 ≤ sizeLine; decide), fun q hq => out (fun z => c1 z.1) q hq⟩
end
end Pw

namespace Pw
open PySem PySem.Spec PyProof.Rows L2
open VahypBase (Bytes nats)
open Vahypa (Pat Lst Score Call levelAt parts gaps scoreWord addScore scoreOf exact fitsAt fitsIn tells decides hyphened looked)
def addL (a b : List Int) : List Int := List.zipWith (fun x y => x + y) a b
theorem addL_more {a b : List Int} {i : Nat} {x y : Int} (ha : a[i]? = some x) (hb : b[i]? = some y) : (addL a b).take (i + 1) = (addL a b).take i ++ [x + y] := by
  refine take_more ?_
  unfold addL
  rw [List.getElem?_zipWith, ha, hb]
theorem addL_len (a b : List Int) : (addL a b).length = min a.length b.length := List.length_zipWith
theorem tC_of {i j : Int} (h : i = j) {σ : L2.St} {H : Hp} {Q : V → Hp → Prop} (x : tC (.int i) σ H Q) : tC (.int j) σ H Q := h ▸ x
def scV (s : Lst) (n : Nat) : List Int := [(exAt s n : Int), ((scAt s n).hits : Int), ((scAt s n).faults : Int), ((scAt s n).misses : Int)]
def exI (s : Lst) (y : Vahypa.Word) : Int := if exact s y = true then 1 else 0
theorem scV_more {s : Lst} {n : Nat} {y : Vahypa.Word} (h : s.words[n]? = some y) : addL (scV s n) (exI s y :: nats (scoreL s y)) = scV s (n + 1) := by
  unfold scV exI
  rw [scAt_more h, exAt_more h]
  show [_, _, _, _] = [_, _, _, _]
  congr 1
  cases exact s y <;> rfl
section
variable {P : Program} {w : World} {K : PySem.W.Frag} {mg : Str → Option Value} {base : Heap} {CP CL CW CF CH : Addr}
/-! ### score -/
theorem sc_score : FnScope ["held", "together", "word", "counts", "exact", "total", "count"] ["held"] (defScope s_score) := ⟨rfl, rfl, rfl, by decide +kernel, rfl, by decide +kernel, by decide +kernel⟩
theorem ok_score {fI fJ f : Addr} {fd : FuncData} (F : Fun K "score" "score" s_score f fd) (nzip : mg "zip" = none) (TL : OwnC K mg "WordList" CL fI ["left", "right", "words", "patterns"]) (TW : OwnC K mg "Word" CW fJ ["chunk", "letters", "allowed"])
    (GP : C0 P w K mg base 4 "parted_of" (spPartedOf K CL CW CP)) (GH : C0 P w K mg base 2 "hits_faults_misses" (spHits K CL CW CP)) : FnOk P w K mg base CX0 5 f fd ["held"] (spScore K CL CW CP) := by
  refine F.ok sc_score (fun vs H Q E h => ?_) (fun cdv A outer sh H vs Q E hr h => ?_)
  · obtain ⟨a, x, rfl, _⟩ := h
    rfl
  obtain ⟨a, s, rfl, hL, k⟩ := h
  obtain ⟨dx, wl, pl, was, pas, l1, l2, l3, l4, l5, l6, r6, w24, p40⟩ := id hL
  refine ⟨_, pss_cons (ps_set (i := 1) sc_score.nd rfl (Or.inl rfl) (pe_lst (pa_cons pe_int (pa_cons pe_int (pa_cons pe_int (pa_cons pe_int pa_nil))))))
    (pss_cons (ps_for PassesOwn.never rfl (pi_list (pe_fld (pv 0) rfl)) (pg_name (i := 2) sc_score.nd rfl (Or.inl rfl))
      (pss_cons (ps_set (i := 3) sc_score.nd rfl (Or.inl rfl) (pe_c0 GH hr (by decide) (pa_cons (pv 0) (pa_cons (pv 2) (pa_cons (pe_c0 GP hr (by decide) (pa_cons (pv 0) (pa_cons (pe_fld (pv 2) rfl) pa_nil))) pa_nil)))))
      (pss_cons (ps_set (i := 4) sc_score.nd rfl (Or.inl rfl) (pe_ifExp (PW.pt (pw_and (pt_cmpR op_eq (pe_ix ix_list (pv 3) pe_int (fun _ _ => rfl)) pe_int (nomark _)) (pw_and1 (pt_cmpR op_eq (pe_ix ix_list (pv 3) pe_int (fun _ _ => rfl)) pe_int (nomark _))))) pe_int pe_int))
      (pss_one (ps_setLc (i := 1) (own := [("total", 5), ("count", 6)]) (g := gTup K 2 (gCons (gName 5) (gCons (gName 6) gNil))) rfl sc_score.nd rfl rfl (sw_true rfl rfl rfl (by decide +kernel)) (pi_zip (by rfl) nzip (pa_cons (pv 1) (pa_cons (pe_op op_cat (pe_lst (pa_cons (pv 4) pa_nil)) (pv 3)) pa_nil)))
        (blkOk_by (N := ["held", "together", "word", "counts", "exact", "total", "count"]) (sc := defScope s_score) (by decide +kernel))
        (fun _ _ _ _ _ => pg_tup rfl (pgs_cons (pg_name (i := 5) sc_score.nd rfl (Or.inl rfl)) (pgs_cons (pg_name (i := 6) sc_score.nd rfl (Or.inl rfl)) pgs_nil)))
        (fun _ _ _ _ _ => pts_nil) (fun _ _ _ _ _ => pe_op op_add (pv 5) (pv 6)))))))
    (pss_one (ps_ret (pv 1)))), ?_⟩
  refine ⟨(by show 4 ≤ sizeLine; decide), fun z0 hz0 => ?_⟩
  have s0 : Same H (upd H z0 (.lst [.int 0, .int 0, .int 0, .int 0])) := same_upd hz0
  refine ⟨_, rfl, a, CL, dx, _, _, rfl, s0 _ _ l1, TL.cl, TL.no _ (by simp), lkLW, wl, rfl, ⟨_, SqL.of (s0 _ _ l2)⟩, ?_⟩
  refine for_list (K := K) (a := wl) (xs := was.map V.ref) (fun i σ H' => ∃ (tg : Addr) (v2 v3 v4 v5 v6 : Option V), σ = [some (.ref a), some (.ref tg), v2, v3, v4, v5, v6] ∧ Same H H' ∧ H tg = none ∧ H' tg = some (.lst (intV (scV s i))))
    ⟨z0, none, none, none, none, none, rfl, s0, hz0, upd_same⟩ (fun i σ H' _ ⟨_, _, _, _, _, _, _, sm, _⟩ => SqL.of (sm _ _ l2)) ?_ ?_
  · rintro i y0 σ H1 hi ⟨tg, v2, v3, v4, v5, v6, rfl, sm, ntg, htg⟩
    obtain ⟨wa, ha, rfl⟩ := map_get hi
    obtain ⟨y, hy, hw⟩ := l4.get' ha
    obtain ⟨⟨wok, _⟩, dw, c, l, al, e1, e2, e3, e4⟩ := id hw
    have wl2 := wok.len
    refine ⟨_, rfl, _, rfl, _, rfl, _, rfl, wa, CW, dw, _, _, rfl, sm _ _ e1, TW.cl, TW.no _ (by simp), lkWL, a, l, s, y.x, rfl, hL.same sm, SqL.of (sm _ _ e3), by omega, fun H2 pt s2 npt hpt => ?_⟩
    have sm2 := sm.trans s2
    refine ⟨a, wa, pt, s, y, rfl, hL.same sm2, hw.same sm2, SqL.of hpt, fun H3 q s3 nq hq => ?_⟩
    have sm3 := sm2.trans s3
    have htg3 := s3 _ _ (s2 _ _ htg)
    have hq' : H3 q = some (.lst [nV (scoreWord s y).hits, nV (scoreWord s y).faults, nV (scoreWord s y).misses]) := hq
    refine ⟨_, rfl, q, _, 1, nV (scoreWord s y).faults, rfl, rfl, SqL.of hq', rfl, rfl, _, rfl, ?_⟩
    refine' (fun (step : True → _) => ?main) ?rest
    case main =>
      show ite (decide (nV (scoreWord s y).faults = V.int 0) = true) _ _
      by_cases c1 : (scoreWord s y).faults = 0
      · rw [if_pos (decide_eq_true (by rw [c1]; rfl))]
        refine ⟨_, rfl, q, _, 2, nV (scoreWord s y).misses, rfl, rfl, SqL.of hq', rfl, rfl, _, rfl, ?_⟩
        show ite (decide (nV (scoreWord s y).misses = V.int 0) = true) _ _
        by_cases c2 : (scoreWord s y).misses = 0
        · rw [if_pos (decide_eq_true (by rw [c2]; rfl))]
          refine tC_of (i := exI s y) (by unfold exI; rw [exact_nums, c1, c2]; rfl) ?_
          exact step trivial
        · have e2 : decide (nV (scoreWord s y).misses = V.int 0) = false := decide_eq_false fun z => c2 (by have := V.int.inj z; omega)
          rw [e2]
          rw [if_neg (by decide)]
          refine tC_of (i := exI s y) (by unfold exI; rw [exact_nums, decide_eq_false c2, Bool.and_false]; rfl) ?_
          exact step trivial
      · have e2 : decide (nV (scoreWord s y).faults = V.int 0) = false := decide_eq_false fun z => c1 (by have := V.int.inj z; omega)
        rw [e2]
        rw [if_neg (by decide)]
        show ite (false = true) _ _
        rw [if_neg (by decide)]
        refine tC_of (i := exI s y) (by unfold exI; rw [exact_nums, decide_eq_false c1, Bool.false_and]; rfl) ?_
        exact step trivial
    case rest =>
      intro _
      refine ⟨_, rfl, _, rfl, (by show 1 ≤ sizeLine; decide), fun q1 hq1 => ?_⟩
      have ne1 : q ≠ q1 := fun z => by rw [z, hq1] at hq; cases hq
      have s4 : Same H3 (upd H3 q1 (.lst [.int (exI s y)])) := same_upd hq1
      refine ⟨_, rfl, q1, q, _, _, rfl, rfl, upd_same, s4 _ _ hq, by simp only [List.length_map, List.length_cons, List.length_nil, scoreL]; exact size_small' (by omega), fun q2 hq2 => ?_⟩
      have s5 := s4.trans (same_upd (o := HO.lst ([.int (exI s y)] ++ (scoreL s y).map nV)) hq2)
      have s15 := sm3.trans s5
      have htg5 := s5 _ _ htg3
      have hn : (upd (upd H3 q1 (.lst [.int (exI s y)])) q2 (.lst ([.int (exI s y)] ++ (scoreL s y).map nV))) q2 = some (.lst (intV (exI s y :: nats (scoreL s y)))) := by
        rw [upd_same, rel_nats]
        rfl
      refine ⟨tg, q2, _, _, rfl, SqL.of htg5, SqL.of hn, fun D hD => ?_⟩
      have nD : H D = none := s15.free hD
      have len4 : min (intV (scV s i)).length (intV (exI s y :: nats (scoreL s y))).length = 4 := rfl
      refine lc_it (n := 4) (walk_zip len4.symm) (fun j H' => Same (upd (upd H3 q1 (.lst [.int (exI s y)])) q2 (.lst ([.int (exI s y)] ++ (scoreL s y).map nV))) H' ∧ H' D = some (.lst (intV ((addL (scV s i) (exI s y :: nats (scoreL s y))).take j)))) ⟨same_upd hD, upd_same⟩ (fun _ _ _ z => ⟨SqL.of (z.1 _ _ htg5), SqL.of (z.1 _ _ hn)⟩) ?_ ?_
      · rintro j x H6 H7 hj ⟨sm6, hd⟩ ⟨t, x1, y1, rfl, ht, rfl, hx1, hy1⟩
        obtain ⟨z1, hz1, rfl⟩ := map_get hx1
        obtain ⟨z2, hz2, rfl⟩ := map_get hy1
        have tD : D ≠ t := fun z => by rw [z, ht] at hd; cases hd
        have more := addL_more hz1 hz2
        refine ⟨t, _, rfl, .inl (.inl upd_same), rfl, _, _, rfl, _, _, rfl, rfl, rfl, ?_⟩
        refine ⟨_, rfl, _, rfl, _, _, rfl, rfl, _, (upd_ne tD).trans hd, size_small (by unfold intV; rw [List.length_map, List.length_take]; omega), same_new (same_new sm6 (sm6.free ht)) hD, ?_⟩
        rw [upd_same, more]
        unfold intV
        rw [List.map_append]
        rfl
      · rintro H6 ⟨sm6, hd⟩
        rw [List.take_of_length_le (by rw [addL_len]; show min 4 4 ≤ 4; decide), scV_more hy] at hd
        exact ⟨D, _, _, _, _, _, rfl, s15.trans sm6, nD, hd⟩
  · rintro σ H1 ⟨tg, v2, v3, v4, v5, v6, rfl, sm, ntg, htg⟩
    refine ⟨_, rfl, k H1 tg sm ntg ?_⟩
    rw [List.length_map, l4.len] at htg
    rw [htg, score_enc, ← scAt_all]
    rfl
end
end Pw

namespace Pw
open PySem PySem.Spec PyProof.Rows L2
open VahypBase (Bytes)
open Vahypa (Pat Lst Call looked)
abbrev s_answer_from : Stmt := top 76
abbrev s_answer : Stmt := inClass (top 75) 2
section
variable {P : Program} {w : World} {K : PySem.W.Frag} {mg : Str → Option Value} {base : Heap} {CF CT CW CP CL CR CH : Addr}
structure AnsC (mg : Str → Option Value) : Prop where
  c0 : Con mg "LOAD" (.int 0)
  c1 : Con mg "SHOWN" (.int 1)
  c2 : Con mg "LEVELS" (.int 2)
  c3 : Con mg "PART" (.int 3)
  c4 : Con mg "SCORE" (.int 4)
  c5 : Con mg "WHY" (.int 5)
  c6 : Con mg "FITS" (.int 6)
  cNo : Con mg "NO_LIST" (.int (-1))
theorem load_step (o : Option Lst) (b : Bytes) : (Vahypa.step o (.load b)).1 = (loadS o b).1 ∧ enc (Vahypa.step o (.load b)).2 = (loadS o b).2 := by
  have e : Vahypa.step o (.load b) = (match Vahypa.read b with | .ok s => (some s, ⟨1, VahypBase.nats [s.words.length, s.pats.length]⟩) | .error f => (o, VahypBase.faulty f)) := by cases o <;> rfl
  rw [e]
  unfold loadS
  cases Vahypa.read b <;> exact ⟨rfl, rfl⟩
theorem num_zero {c : Call} (h : num c = 0) : ∃ b, c = .load b := by
  cases c <;> first | exact ⟨_, rfl⟩ | exact nomatch h
theorem none_step {c : Call} (h : num c ≠ 0) : Vahypa.step none c = (none, VahypBase.one (-1)) := by
  cases c <;> first | exact absurd rfl h | rfl
theorem if_pos_of {b : Bool} {p q : Prop} (h : b = true) (x : p) : if b = true then p else q := by rw [if_pos h]; exact x
theorem if_neg_of {b : Bool} {p q : Prop} (h : b = false) (x : q) : if b = true then p else q := by rw [if_neg (by rw [h]; decide)]; exact x
theorem int_ne {i j : Int} (h : i ≠ j) : decide (V.int i = V.int j) = false := decide_eq_false fun z => h (V.int.inj z)
theorem hold_none {G H : Hp} {h : Addr} {o : Option Lst} (z : HoldAt K CH CL CW CP G H h o) : ∃ dx v, H h = some (.ins CH dx [("held", v)]) ∧ decide (v = V.non) = o.isNone ∧ ∀ s, o = some s → ∃ a, v = .ref a ∧ ListAt K CL CW CP H a s := by
  obtain ⟨dx, v, h1, h2, h3, h4⟩ := z
  cases o with
  | none =>
    have h4' : v = V.non := h4
    subst h4'
    exact ⟨dx, _, h1, rfl, fun s e => nomatch e⟩
  | some s =>
    obtain ⟨a, rfl, ha⟩ := h4
    exact ⟨dx, _, h1, rfl, fun s' e => ⟨a, rfl, Option.some.inj e ▸ ha.same h2⟩⟩
/-- the calls but load, as answer_from knows them -/
structure Calls (P : Program) (w : World) (K : PySem.W.Frag) (mg : Str → Option Value) (base : Heap) (CW CP CL : Addr) : Prop where
  shown : C0 P w K mg base 4 "shown" (spShown K CL CW CP)
  levels_of : C0 P w K mg base 4 "levels_of" (spLevelsOf K CL CW CP)
  part : C0 P w K mg base 5 "part" (spPart K CL CW CP)
  score : C0 P w K mg base 5 "score" (spScore K CL CW CP)
  why : C0 P w K mg base 4 "why" (spWhy K CL CW CP)
  fits : C0 P w K mg base 3 "fits" (spFits K CL CW CP)
  spell : C0 P w K mg base 5 "spell" (spSpell K CL CW CP)
def spFrom (K : PySem.W.Frag) (CL CW CP : Addr) : Sp := fun vs H Q _ => ∃ (a hd : Addr) (s : Lst) (c : Call), vs = [.ref a, .int (num c : Nat), .ref hd] ∧ ListAt K CL CW CP H a s ∧ H hd = some (.lst (intV (handed c))) ∧ num c ≠ 0 ∧
  ∀ H' q, Same H H' → H q = none → H' q = some (.lst (intV (enc (looked s c)))) → Q (.ref q) H'
theorem sc_answer_from : FnScope ["held", "number", "handed"] ["held", "number", "handed"] (defScope s_answer_from) := ⟨rfl, rfl, rfl, by decide +kernel, rfl, by decide +kernel, by decide +kernel⟩
theorem ok_answer_from {f : Addr} {fd : FuncData} (F : Fun K "answer_from" "answer_from" s_answer_from f fd) (T : AnsC mg) (L : Calls P w K mg base CW CP CL) : FnOk P w K mg base CX0 6 f fd ["held", "number", "handed"] (spFrom K CL CW CP) := by
  refine F.ok sc_answer_from (fun vs H Q E h => ?_) (fun cdv A outer sh H vs Q E hr h => ?_)
  · obtain ⟨a, hd, s, c, rfl, _⟩ := h
    rfl
  obtain ⟨a, hd, s, c, rfl, ha, hhd, c0, k⟩ := h
  refine ⟨_, pss_cons (ps_if (pt_cmpR op_eq (pv 1) (pe_con1 T.c1) (by rfl)) (pss_one (ps_ret (pe_c0 L.shown hr (by decide) (pa_cons (pv 0) pa_nil)))) pss_nil)
    (pss_cons (ps_if (pt_cmpR op_eq (pv 1) (pe_con1 T.c2) (by rfl)) (pss_one (ps_ret (pe_c0 L.levels_of hr (by decide) (pa_cons (pv 0) (pa_cons (pv 2) pa_nil))))) pss_nil)
    (pss_cons (ps_if (pt_cmpR op_eq (pv 1) (pe_con1 T.c3) (by rfl)) (pss_one (ps_ret (pe_c0 L.part hr (by decide) (pa_cons (pv 0) (pa_cons (pe_ix ix_list (pv 2) pe_int (fun _ _ => rfl)) pa_nil))))) pss_nil)
    (pss_cons (ps_if (pt_cmpR op_eq (pv 1) (pe_con1 T.c4) (by rfl)) (pss_one (ps_ret (pe_c0 L.score hr (by decide) (pa_cons (pv 0) pa_nil)))) pss_nil)
    (pss_cons (ps_if (pt_cmpR op_eq (pv 1) (pe_con1 T.c5) (by rfl)) (pss_one (ps_ret (pe_c0 L.why hr (by decide) (pa_cons (pv 0) (pa_cons (pe_ix ix_list (pv 2) pe_int (fun _ _ => rfl)) (pa_cons (pe_ix ix_list (pv 2) pe_int (fun _ _ => rfl)) pa_nil)))))) pss_nil)
    (pss_cons (ps_if (pt_cmpR op_eq (pv 1) (pe_con1 T.c6) (by rfl)) (pss_one (ps_ret (pe_c0 L.fits hr (by decide) (pa_cons (pv 0) (pa_cons (pe_ix ix_list (pv 2) pe_int (fun _ _ => rfl)) pa_nil))))) pss_nil)
    (pss_one (ps_ret (pe_c0 L.spell hr (by decide) (pa_cons (pv 0) (pa_cons (pv 2) pa_nil)))))))))), ?_⟩
  cases c with
  | load b => exact absurd rfl c0
  | shown => exact ⟨_, rfl, rfl, _, rfl, if_pos_of rfl ⟨_, rfl, a, s, rfl, ha, k⟩⟩
  | levels b => exact ⟨_, rfl, rfl, _, rfl, if_neg_of rfl ⟨_, rfl, rfl, _, rfl, if_pos_of rfl ⟨_, rfl, _, rfl, a, hd, s, b, rfl, ha, SqL.of (by rw [rel_bytes]; exact hhd), k⟩⟩⟩
  | part i => exact ⟨_, rfl, rfl, _, rfl, if_neg_of rfl ⟨_, rfl, rfl, _, rfl, if_neg_of rfl ⟨_, rfl, rfl, _, rfl, if_pos_of rfl ⟨_, rfl, _, rfl, hd, _, 0, .int i, rfl, rfl, SqL.of hhd, rfl, a, s, i, rfl, ha, k⟩⟩⟩⟩
  | score => exact ⟨_, rfl, rfl, _, rfl, if_neg_of rfl ⟨_, rfl, rfl, _, rfl, if_neg_of rfl ⟨_, rfl, rfl, _, rfl, if_neg_of rfl ⟨_, rfl, rfl, _, rfl, if_pos_of rfl ⟨_, rfl, a, s, rfl, ha, k⟩⟩⟩⟩⟩
  | why i g => exact ⟨_, rfl, rfl, _, rfl, if_neg_of rfl ⟨_, rfl, rfl, _, rfl, if_neg_of rfl ⟨_, rfl, rfl, _, rfl, if_neg_of rfl ⟨_, rfl, rfl, _, rfl, if_neg_of rfl ⟨_, rfl, rfl, _, rfl, if_pos_of rfl ⟨_, rfl, _, rfl, hd, _, 0, .int i, rfl, rfl, SqL.of hhd, rfl, _, rfl, hd, _, 1, .int g, rfl, rfl, SqL.of hhd, rfl, a, s, i, g, rfl, ha, k⟩⟩⟩⟩⟩⟩
  | fits p => exact ⟨_, rfl, rfl, _, rfl, if_neg_of rfl ⟨_, rfl, rfl, _, rfl, if_neg_of rfl ⟨_, rfl, rfl, _, rfl, if_neg_of rfl ⟨_, rfl, rfl, _, rfl, if_neg_of rfl ⟨_, rfl, rfl, _, rfl, if_neg_of rfl ⟨_, rfl, rfl, _, rfl, if_pos_of rfl ⟨_, rfl, _, rfl, hd, _, 0, .int p, rfl, rfl, SqL.of hhd, rfl, a, s, p, rfl, ha, k⟩⟩⟩⟩⟩⟩⟩
  | spell b => exact ⟨_, rfl, rfl, _, rfl, if_neg_of rfl ⟨_, rfl, rfl, _, rfl, if_neg_of rfl ⟨_, rfl, rfl, _, rfl, if_neg_of rfl ⟨_, rfl, rfl, _, rfl, if_neg_of rfl ⟨_, rfl, rfl, _, rfl, if_neg_of rfl ⟨_, rfl, rfl, _, rfl, if_neg_of rfl ⟨_, rfl, _, rfl, a, hd, s, b, rfl, ha, SqL.of (by rw [rel_bytes]; exact hhd), k⟩⟩⟩⟩⟩⟩⟩
theorem some_step {s : Lst} {c : Call} (h : num c ≠ 0) : Vahypa.step (some s) c = (some s, looked s c) := by
  cases c <;> first | exact absurd rfl h | rfl
theorem sc_answer : FnScope ["self", "number", "handed"] ["self", "number", "handed"] (defScope s_answer) := ⟨rfl, rfl, rfl, by decide +kernel, rfl, by decide +kernel, by decide +kernel⟩
theorem ok_answer {fI f : Addr} {fd : FuncData} (F : Fun K "answer" "Holder.answer" s_answer f fd) (T : AnsC mg) (TH : OwnC K mg "Holder" CH fI ["held"]) (GL : Me0 P w K mg base 7 CH "load" (spLoad K CH CL CW CP)) (GF : C0 P w K mg base 6 "answer_from" (spFrom K CL CW CP)) :
    FnOk P w K mg base CX0 10 f fd ["self", "number", "handed"] (spAnswer K CH CL CW CP) := by
  refine F.ok sc_answer (fun vs H Q E h => ?_) (fun cdv A outer sh H vs Q E hr h => ?_)
  · obtain ⟨G, h, hd, o, c, rfl, _⟩ := h
    rfl
  obtain ⟨G, h, hd, o, c, rfl, hh, hhd, hok, k⟩ := h
  refine ⟨_, pss_cons (ps_if (pt_cmpR op_eq (pv 1) (pe_con1 T.c0) (by rfl)) (pss_one (ps_ret (pe_me0 GL hr (by decide) (pv 0) (pa_cons (pv 2) pa_nil)))) pss_nil)
    (pss_cons (ps_if (pt_cmpR op_isN (pe_fld (pv 0) rfl) pe_non (nomark _)) (pss_one (ps_ret (pe_lst (pa_cons (pe_con1 T.cNo) pa_nil)))) pss_nil)
    (pss_one (ps_ret (pe_c0 GF hr (by decide) (pa_cons (pe_fld (pv 0) rfl) (pa_cons (pv 1) (pa_cons (pv 2) pa_nil))))))), ?_⟩
  obtain ⟨dx, v, h1, hv, hs⟩ := hold_none hh
  -- the answer of a call that leaves the holder as it is
  have same : ∀ (a : VahypBase.Answer) (H' : Hp) (q : Addr), Vahypa.step o c = (o, a) → Same H H' → H q = none → H' q = some (.lst (intV (enc a))) → Q (.ref q) H' := fun a H' q e sm hq hl => by
    refine k G H' q (SameBut.of sm) ?_ (fun _ _ _ z => z) hq ?_
    · rw [e]
      exact hh.same sm
    · rw [e]
      exact hl
  refine ⟨_, rfl, rfl, _, rfl, ?_⟩
  by_cases c0 : num c = 0
  · obtain ⟨b, rfl⟩ := num_zero c0
    obtain ⟨s1, s2⟩ := load_step o b
    refine if_pos_of (by rfl) ⟨_, rfl, h, dx, _, rfl, h1, (by rfl), _, rfl, G, h, hd, o, b, rfl, hh, SqL.of (by rw [rel_bytes]; exact hhd), ?_, fun G' H' q b1 b2 b3 b4 b5 => k G' H' q b1 ?_ b3 b4 ?_⟩
    · have : (toI b).length ≤ 8192 := hok
      unfold toI at this
      rw [List.length_map] at this
      omega
    · rw [s1]
      exact b2
    · rw [s2]
      exact b5
  refine if_neg_of (int_ne (by omega)) ⟨_, rfl, h, CH, dx, _, _, rfl, h1, TH.cl, TH.no _ (by simp), lkHeld, rfl, _, rfl, ?_⟩
  rw [hv]
  cases o with
  | none => exact if_pos_of rfl ⟨(by show 1 ≤ sizeLine; decide), fun q hq => same _ _ q (none_step c0) (same_upd hq) hq upd_same⟩
  | some s =>
    obtain ⟨a, rfl, ha⟩ := hs s rfl
    exact if_neg_of rfl ⟨_, rfl, h, CH, dx, _, _, rfl, h1, TH.cl, TH.no _ (by simp), lkHeld, _, rfl, _, rfl, a, hd, s, c, rfl, ha, hhd, c0, fun H' q sm hq hl => same _ H' q (some_step c0) sm hq hl⟩
end
end Pw

namespace Pw
open PySem PySem.Spec PyProof.Rows L2
section
variable {P : Program} {w : World} {K : PySem.W.Frag} {mg : Str → Option Value} {base : Heap}
/-- no class of it has these names -/
def AllNo (K : PySem.W.Frag) (C : Addr) : List Str → Prop
  | [] => True
  | f :: r => PySem.W.findIn K (.ref C) f = some none ∧ AllNo K C r
theorem AllNo.mem {C : Addr} : ∀ {fs : List Str}, AllNo K C fs → ∀ f ∈ fs, NoAttr K C f
  | [], _, _, m => nomatch m
  | g :: r, h, f, m => by
    rcases List.mem_cons.mp m with e | m
    · subst e
      exact h.1
    · exact AllNo.mem h.2 f m
theorem own_of {x : Str} {C fI : Addr} {fs : List Str} (c : ClsAt K mg x C) (m : Meth K C "__init__" fI) (n : AllNo K C fs) : OwnC K mg x C fI fs := ⟨c.cl, c.g, ⟨c.mks, m.at_, m.fn, c.kp⟩, n.mem⟩
/-- an error of the class at S is what «except S» names -/
theorem exm_self {S : Addr} (h1 : PySem.W.subIn K (.ref S) (.type "BaseException") = some true) (h2 : PySem.W.isClsIn K S = true) (h3 : PySem.W.typeIn K (.ref S) = some (.type "type")) (h4 : PySem.W.subIn K (.ref S) (.ref S) = some true) :
    PySem.W.exmOne K (.ref S) (.ref S) = some true := by
  have e1 : (PySem.W.subIn K (.ref S) (.type "BaseException") == some true) = true := by rw [h1] <;> rfl
  have e2 : ((PySem.W.clsIn K S).isSome && PySem.W.typeIn K (.ref S) == some (.type "type")) = true := by
    have h2' : (PySem.W.clsIn K S).isSome = true := h2
    rw [h2', h3] <;> rfl
  show (if (PySem.W.subIn K (.ref S) (.type "BaseException") == some true) = true then (if ((PySem.W.clsIn K S).isSome && PySem.W.typeIn K (.ref S) == some (.type "type")) = true then PySem.W.subIn K (.ref S) (.ref S) else none) else none) = some true
  rw [if_pos e1, if_pos e2]
  exact h4
/-- TextFault, all that the top has written of it -/
structure FaultAt (K : PySem.W.Frag) (mg : Str → Option Value) (CF : Addr) : Prop where
  ex : ∃ (fI : Addr) (fd : FuncData), FaultC K mg CF fI ∧ Fun K "__init__" "TextFault.__init__" s_fault_init fI fd
  catch_ : Catch K mg CF
theorem fault_mk {h : Heap} (X : K.In h) (G : h.Ns mainGlobals mg) {nm q : Str} {CF N fI : Addr} {bs : List Value} {sn : List Str} {sub : List Value} {ab : Bool} {col : Option Bool} {dd : Option Addr} {m0 m1 m2 m3 m5 : Option Value} {oc : Value} {od an : Option Addr} {sl : Array (Option Value)} {kV dc pm cd ct : Value}
    (a : PySem.W.nsIn K mainGlobals "TextFault" = some (some (.ref CF)))
    (xL : K.lookup CF = some (excClassObj nm q CF N bs exBm true sn sub ab col dd m0 m1 m2 m3 m5 "Exception.__new__"))
    (sa : PySem.W.findIn K (.ref CF) "__setattr__" = some (some (.builtin "object.__setattr__"))) (ga : PySem.W.findIn K (.ref CF) "__getattribute__" = some (some (.builtin "BaseException.__getattribute__"))) (gg : PySem.W.findIn K (.ref CF) "__getattr__" = some none)
    (n1 : PySem.W.findIn K (.ref CF) "code" = some none) (n2 : PySem.W.findIn K (.ref CF) "place" = some none)
    (aI : PySem.W.findIn K (.ref CF) "__init__" = some (some (.ref fI))) (tI : PySem.W.typeIn K (.ref fI) = some (.type "function"))
    (l : K.lookup fI = some ⟨oc, od, .func (PySem.W.fnOf "__init__" "TextFault.__init__" (defArgs s_fault_init) (defBody s_fault_init) (defScope s_fault_init) .none kV dc pm an cd ct), sl⟩) (c : PySem.W.codeIn K cd "TextFault.__init__" = true) (kI : PySem.W.keepIn K (.ref fI) = true)
    (kC : PySem.W.keepIn K (.ref CF) = true) (eC : PySem.W.subIn K (.ref CF) (.type "BaseException") = some true) (tC : PySem.W.typeIn K (.ref CF) = some (.type "type")) (hC : PySem.W.hasDictIn K CF = true) (iC : PySem.W.isClsIn K CF = true) (sC : PySem.W.subIn K (.ref CF) (.ref CF) = some true)
    (nE : PySem.W.nsIn K mainGlobals "Exception" = some none) (vE : PySem.W.findCls K (.type "Exception") (.type "type") "__init__" = some (.val (.builtin "Exception.__init__"))) : ∃ CF, FaultAt K mg CF := by
  have g := PySem.W.mg_of X G a
  refine ⟨CF, ⟨fI, _, ⟨⟨⟨_, _, _, _, _, _, _, _, _, _, _, _, _, _, _, xL, by decide +kernel⟩, sa, eC, tC, kC⟩, g, aI, tI, n1, n2, PySem.W.mg_none_of X G nE, vE⟩, fun_mk l c kI⟩, ⟨g, ⟨ga, gg, eC, hC⟩, n1, n2, exm_self eC iC tC sC⟩⟩
/-- a written tuple -/
def TupC (K : PySem.W.Frag) (mg : Str → Option Value) (x : Str) (xs : List V) : Prop := ∃ a, Con mg x (.ref a) ∧ ∀ H, SqT K H a xs
theorem tup_mk {h : Heap} (X : K.In h) (G : h.Ns mainGlobals mg) {x : Str} {xs : List V} {t : Addr} {o : Obj} (a : PySem.W.nsIn K mainGlobals x = some (some (.ref t))) (l : K.lookup t = some o) (hv : ∃ its n, o.cls = .type "tuple" ∧ o.data = .seq its n ∧ its.size ≤ sizeLine ∧ Vals xs its.toList) : TupC K mg x xs := by
  obtain ⟨its, n, h1, h2, h3, h4⟩ := hv
  exact ⟨t, ⟨_, PySem.W.mg_of X G a, rfl⟩, fun H => .inr ⟨o, its, n, l, h1, h2, h3, h4⟩⟩
theorem c0_of {x : Str} {st : Stmt} {f : Addr} {fd : FuncData} {k : Nat} {ps : List Str} {sp : Sp} (F : Fun K x x st f fd) (g : mg x = some (.ref f)) (b : Binds K fd ps []) (G : FnOk P w K mg base CX0 k f fd ps sp) : C0 P w K mg base k x sp := ⟨f, fd, ps, G, g, F.kp, b⟩
theorem c1_of {x : Str} {st : Stmt} {f : Addr} {fd : FuncData} {k : Nat} {ps : List Str} {sp : Sp} (F : Fun K x x st f fd) (g : mg x = some (.ref f)) (b : Binds K fd ps []) (G : FnOk P w K mg base (L2.CX P w) k f fd ps sp) : C1 P w K mg base k x sp := ⟨f, fd, ps, G, g, F.kp, b⟩
end
end Pw

namespace Pw
open PySem PySem.Spec PyProof.Rows L2
/-- what the top has written -/
structure TopF (K : PySem.W.Frag) (mg : Str → Option Value) (CF CT CW CP CL CR CH : Addr) : Prop where
  fault : FaultAt K mg CF
  d_bytes_of : DefAt K mg "bytes_of" s_bytes_of
  d_is_letter : DefAt K mg "is_letter" s_is_letter
  d_is_chunk_byte : DefAt K mg "is_chunk_byte" s_is_chunk_byte
  d_remark_end : DefAt K mg "remark_end" s_remark_end
  d_chunk_end : DefAt K mg "chunk_end" s_chunk_end
  d_token_at : DefAt K mg "token_at" s_token_at
  d_tokens_of : DefAt K mg "tokens_of" s_tokens_of
  d_is_word_letters : DefAt K mg "is_word_letters" s_is_word_letters
  d_word_of : DefAt K mg "word_of" s_word_of
  d_pattern_of : DefAt K mg "pattern_of" s_pattern_of
  d_row_of : DefAt K mg "row_of" s_row_of
  d_one_form : DefAt K mg "one_form" s_one_form
  d_fits_at : DefAt K mg "fits_at" s_fits_at
  d_fitting_places : DefAt K mg "fitting_places" s_fitting_places
  d_gap_levels : DefAt K mg "gap_levels" s_gap_levels
  d_digit_at : DefAt K mg "digit_at" s_digit_at
  d_bearers : DefAt K mg "bearers" s_bearers
  d_within_margins : DefAt K mg "within_margins" s_within_margins
  d_parted_gaps : DefAt K mg "parted_gaps" s_parted_gaps
  d_parted_of : DefAt K mg "parted_of" s_parted_of
  d_hyphened : DefAt K mg "hyphened" s_hyphened
  d_hits_faults_misses : DefAt K mg "hits_faults_misses" s_hits
  d_read_margin : DefAt K mg "read_margin" s_read_margin
  d_read_entry : DefAt K mg "read_entry" s_read_entry
  d_read_entries : DefAt K mg "read_entries" s_read_entries
  d_read_list : DefAt K mg "read_list" s_read_list
  d_answer_from : DefAt K mg "answer_from" s_answer_from
  d_shown : DefAt K mg "shown" s_shown
  d_levels_of : DefAt K mg "levels_of" s_levels_of
  d_part : DefAt K mg "part" s_part
  d_score : DefAt K mg "score" s_score
  d_why : DefAt K mg "why" s_why
  d_fits : DefAt K mg "fits" s_fits
  d_spell : DefAt K mg "spell" s_spell
  d_call_end : DefAt K mg "call_end" s_call_end
  d_handed_numbers : DefAt K mg "handed_numbers" s_handed
  d_answers : DefAt K mg "answers" s_answers
  k_Token : ClsAt K mg "Token" CT
  no_Token : AllNo K CT ["place", "content"]
  i_Token : MethAt K CT "__init__" "Token.__init__" s_token_init
  m_Token_is_chunk : MethAt K CT "is_chunk" "Token.is_chunk" s_is_chunk
  k_Word : ClsAt K mg "Word" CW
  no_Word : AllNo K CW ["chunk", "letters", "allowed"]
  i_Word : MethAt K CW "__init__" "Word.__init__" s_word_init
  m_Word_likeness : MethAt K CW "likeness" "Word.likeness" s_word_like
  k_Pattern : ClsAt K mg "Pattern" CP
  no_Pattern : AllNo K CP ["chunk", "letters", "digits", "at_front", "at_end"]
  i_Pattern : MethAt K CP "__init__" "Pattern.__init__" s_pat_init
  m_Pattern_likeness : MethAt K CP "likeness" "Pattern.likeness" s_pat_like
  k_WordList : ClsAt K mg "WordList" CL
  no_WordList : AllNo K CL ["left", "right", "words", "patterns"]
  i_WordList : MethAt K CL "__init__" "WordList.__init__" s_list_init
  k_Reader : ClsAt K mg "Reader" CR
  no_Reader : AllNo K CR ["tokens", "taken"]
  i_Reader : MethAt K CR "__init__" "Reader.__init__" s_rd_init
  m_Reader_here : MethAt K CR "here" "Reader.here" s_rd_here
  m_Reader_stands_at : MethAt K CR "stands_at" "Reader.stands_at" s_rd_stands
  m_Reader_take : MethAt K CR "take" "Reader.take" s_rd_take
  m_Reader_take_chunk : MethAt K CR "take_chunk" "Reader.take_chunk" s_rd_chunk
  k_Holder : ClsAt K mg "Holder" CH
  no_Holder : AllNo K CH ["held"]
  i_Holder : MethAt K CH "__init__" "Holder.__init__" s_hold_init
  m_Holder_load : MethAt K CH "load" "Holder.load" s_load
  m_Holder_answer : MethAt K CH "answer" "Holder.answer" s_answer
  c_BLANK : Con mg "BLANK" (.int 32)
  c_ROW_END : Con mg "ROW_END" (.int 10)
  c_REMARK : Con mg "REMARK" (.int 35)
  c_SEMICOLON : Con mg "SEMICOLON" (.int 59)
  c_HYPHEN : Con mg "HYPHEN" (.int 45)
  c_POINT : Con mg "POINT" (.int 46)
  c_ZERO : Con mg "ZERO" (.int 48)
  c_NINE : Con mg "NINE" (.int 57)
  c_SMALL_A : Con mg "SMALL_A" (.int 97)
  c_SMALL_Z : Con mg "SMALL_Z" (.int 122)
  c_MOST_CHUNK_BYTES : Con mg "MOST_CHUNK_BYTES" (.int 40)
  c_TEXT_TOO_LONG : Con mg "TEXT_TOO_LONG" (.int 1)
  c_NO_TOKEN : Con mg "NO_TOKEN" (.int 2)
  c_NOT_ALLOWED_HERE : Con mg "NOT_ALLOWED_HERE" (.int 3)
  c_TOO_MANY : Con mg "TOO_MANY" (.int 4)
  c_TOLD_BEFORE : Con mg "TOLD_BEFORE" (.int 5)
  c_NOT_AS_TOLD : Con mg "NOT_AS_TOLD" (.int 7)
  c_FEWEST_WORD_LETTERS : Con mg "FEWEST_WORD_LETTERS" (.int 2)
  c_MOST_WORD_LETTERS : Con mg "MOST_WORD_LETTERS" (.int 16)
  c_MOST_PATTERN_LETTERS : Con mg "MOST_PATTERN_LETTERS" (.int 6)
  c_MOST_TEXT_BYTES : Con mg "MOST_TEXT_BYTES" (.int 4096)
  c_GREATEST_MARGIN : Con mg "GREATEST_MARGIN" (.int 5)
  c_MOST_WORDS : Con mg "MOST_WORDS" (.int 24)
  c_MOST_PATTERNS : Con mg "MOST_PATTERNS" (.int 40)
  c_LOAD : Con mg "LOAD" (.int 0)
  c_SHOWN : Con mg "SHOWN" (.int 1)
  c_LEVELS : Con mg "LEVELS" (.int 2)
  c_PART : Con mg "PART" (.int 3)
  c_SCORE : Con mg "SCORE" (.int 4)
  c_WHY : Con mg "WHY" (.int 5)
  c_FITS : Con mg "FITS" (.int 6)
  c_NO_LIST : Con mg "NO_LIST" (.int (-1))
  c_NO_SUCH : Con mg "NO_SUCH" (.int (-2))
  c_NO_GAP : Con mg "NO_GAP" (.int (-3))
  c_NO_LETTERS : Con mg "NO_LETTERS" (.int (-4))
  t_BLANKS : TupC K mg "BLANKS" [.int 32, .int 9, .int 10]
  t_SINGLE_NUMBERS : TupC K mg "SINGLE_NUMBERS" [.int 0, .int 0, .int 0, .int 1, .int 0, .int 2, .int 1, .int 0]
  t_CALLS_WITH_ROW : TupC K mg "CALLS_WITH_ROW" [.int 0, .int 2, .int 7]
  n_len : mg "len" = none
  n_ord : mg "ord" = none
  n_all : mg "all" = none
  n_max : mg "max" = none
  n_range : mg "range" = none
  n_enumerate : mg "enumerate" = none
  n_zip : mg "zip" = none
  n_Exception : mg "Exception" = none
section
variable {P : Program} {w : World} {K : PySem.W.Frag} {mg : Str → Option Value} {base : Heap} {CF CT CW CP CL CR CH : Addr}
/-- all but the line of calls -/
theorem low_ok (T : TopF K mg CF CT CW CP CL CR CH) : Me0 P w K mg base 10 CH "answer" (spAnswer K CH CL CW CP) := by
  obtain ⟨⟨fFI, fdFI, fc, FFI⟩, fcatch⟩ := T.fault
  have GF : Flt P w K mg base CF := ⟨fFI, fdFI, ["self", "code", "place"], fc, ok_fault_init FFI fc, (FFI.binds (ps := ["self", "code", "place"]) fun _ _ _ _ _ _ us hl => match us, hl with | [_, _, _], _ => rfl)⟩
  obtain ⟨f_bytes_of, fd_bytes_of, F_bytes_of, g_bytes_of⟩ := T.d_bytes_of.ex
  have b_bytes_of := (F_bytes_of.binds (ps := ["written"]) fun _ _ _ _ _ _ us hl => match us, hl with | [_], _ => rfl)
  obtain ⟨f_is_letter, fd_is_letter, F_is_letter, g_is_letter⟩ := T.d_is_letter.ex
  have b_is_letter := (F_is_letter.binds (ps := ["byte"]) fun _ _ _ _ _ _ us hl => match us, hl with | [_], _ => rfl)
  obtain ⟨f_is_chunk_byte, fd_is_chunk_byte, F_is_chunk_byte, g_is_chunk_byte⟩ := T.d_is_chunk_byte.ex
  have b_is_chunk_byte := (F_is_chunk_byte.binds (ps := ["byte"]) fun _ _ _ _ _ _ us hl => match us, hl with | [_], _ => rfl)
  obtain ⟨f_remark_end, fd_remark_end, F_remark_end, g_remark_end⟩ := T.d_remark_end.ex
  have b_remark_end := (F_remark_end.binds (ps := ["text", "start"]) fun _ _ _ _ _ _ us hl => match us, hl with | [_, _], _ => rfl)
  obtain ⟨f_chunk_end, fd_chunk_end, F_chunk_end, g_chunk_end⟩ := T.d_chunk_end.ex
  have b_chunk_end := (F_chunk_end.binds (ps := ["text", "start"]) fun _ _ _ _ _ _ us hl => match us, hl with | [_, _], _ => rfl)
  obtain ⟨f_token_at, fd_token_at, F_token_at, g_token_at⟩ := T.d_token_at.ex
  have b_token_at := (F_token_at.binds (ps := ["text", "place"]) fun _ _ _ _ _ _ us hl => match us, hl with | [_, _], _ => rfl)
  obtain ⟨f_tokens_of, fd_tokens_of, F_tokens_of, g_tokens_of⟩ := T.d_tokens_of.ex
  have b_tokens_of := (F_tokens_of.binds (ps := ["text"]) fun _ _ _ _ _ _ us hl => match us, hl with | [_], _ => rfl)
  obtain ⟨f_is_word_letters, fd_is_word_letters, F_is_word_letters, g_is_word_letters⟩ := T.d_is_word_letters.ex
  have b_is_word_letters := (F_is_word_letters.binds (ps := ["letters"]) fun _ _ _ _ _ _ us hl => match us, hl with | [_], _ => rfl)
  obtain ⟨f_word_of, fd_word_of, F_word_of, g_word_of⟩ := T.d_word_of.ex
  have b_word_of := (F_word_of.binds (ps := ["chunk"]) fun _ _ _ _ _ _ us hl => match us, hl with | [_], _ => rfl)
  obtain ⟨f_pattern_of, fd_pattern_of, F_pattern_of, g_pattern_of⟩ := T.d_pattern_of.ex
  have b_pattern_of := (F_pattern_of.binds (ps := ["chunk"]) fun _ _ _ _ _ _ us hl => match us, hl with | [_], _ => rfl)
  obtain ⟨f_row_of, fd_row_of, F_row_of, g_row_of⟩ := T.d_row_of.ex
  have b_row_of := (F_row_of.binds (ps := ["keyword", "chunks"]) fun _ _ _ _ _ _ us hl => match us, hl with | [_, _], _ => rfl)
  obtain ⟨f_one_form, fd_one_form, F_one_form, g_one_form⟩ := T.d_one_form.ex
  have b_one_form := (F_one_form.binds (ps := ["held"]) fun _ _ _ _ _ _ us hl => match us, hl with | [_], _ => rfl)
  obtain ⟨f_fits_at, fd_fits_at, F_fits_at, g_fits_at⟩ := T.d_fits_at.ex
  have b_fits_at := (F_fits_at.binds (ps := ["pattern", "letters", "place"]) fun _ _ _ _ _ _ us hl => match us, hl with | [_, _, _], _ => rfl)
  obtain ⟨f_fitting_places, fd_fitting_places, F_fitting_places, g_fitting_places⟩ := T.d_fitting_places.ex
  have b_fitting_places := (F_fitting_places.binds (ps := ["pattern", "letters"]) fun _ _ _ _ _ _ us hl => match us, hl with | [_, _], _ => rfl)
  obtain ⟨f_gap_levels, fd_gap_levels, F_gap_levels, g_gap_levels⟩ := T.d_gap_levels.ex
  have b_gap_levels := (F_gap_levels.binds (ps := ["patterns", "letters"]) fun _ _ _ _ _ _ us hl => match us, hl with | [_, _], _ => rfl)
  obtain ⟨f_digit_at, fd_digit_at, F_digit_at, g_digit_at⟩ := T.d_digit_at.ex
  have b_digit_at := (F_digit_at.binds (ps := ["pattern", "place", "gap"]) fun _ _ _ _ _ _ us hl => match us, hl with | [_, _, _], _ => rfl)
  obtain ⟨f_bearers, fd_bearers, F_bearers, g_bearers⟩ := T.d_bearers.ex
  have b_bearers := (F_bearers.binds (ps := ["patterns", "letters", "gap", "digit"]) fun _ _ _ _ _ _ us hl => match us, hl with | [_, _, _, _], _ => rfl)
  obtain ⟨f_within_margins, fd_within_margins, F_within_margins, g_within_margins⟩ := T.d_within_margins.ex
  have b_within_margins := (F_within_margins.binds (ps := ["held", "gap", "length"]) fun _ _ _ _ _ _ us hl => match us, hl with | [_, _, _], _ => rfl)
  obtain ⟨f_parted_gaps, fd_parted_gaps, F_parted_gaps, g_parted_gaps⟩ := T.d_parted_gaps.ex
  have b_parted_gaps := (F_parted_gaps.binds (ps := ["held", "levels"]) fun _ _ _ _ _ _ us hl => match us, hl with | [_, _], _ => rfl)
  obtain ⟨f_parted_of, fd_parted_of, F_parted_of, g_parted_of⟩ := T.d_parted_of.ex
  have b_parted_of := (F_parted_of.binds (ps := ["held", "letters"]) fun _ _ _ _ _ _ us hl => match us, hl with | [_, _], _ => rfl)
  obtain ⟨f_hyphened, fd_hyphened, F_hyphened, g_hyphened⟩ := T.d_hyphened.ex
  have b_hyphened := (F_hyphened.binds (ps := ["letters", "gaps"]) fun _ _ _ _ _ _ us hl => match us, hl with | [_, _], _ => rfl)
  obtain ⟨f_hits_faults_misses, fd_hits_faults_misses, F_hits_faults_misses, g_hits_faults_misses⟩ := T.d_hits_faults_misses.ex
  have b_hits_faults_misses := (F_hits_faults_misses.binds (ps := ["held", "word", "parted"]) fun _ _ _ _ _ _ us hl => match us, hl with | [_, _, _], _ => rfl)
  obtain ⟨f_read_margin, fd_read_margin, F_read_margin, g_read_margin⟩ := T.d_read_margin.ex
  have b_read_margin := (F_read_margin.binds (ps := ["reader"]) fun _ _ _ _ _ _ us hl => match us, hl with | [_], _ => rfl)
  obtain ⟨f_read_entry, fd_read_entry, F_read_entry, g_read_entry⟩ := T.d_read_entry.ex
  have b_read_entry := (F_read_entry.binds (ps := ["reader", "entry_of", "earlier"]) fun _ _ _ _ _ _ us hl => match us, hl with | [_, _, _], _ => rfl)
  obtain ⟨f_read_entries, fd_read_entries, F_read_entries, g_read_entries⟩ := T.d_read_entries.ex
  have b_read_entries := (F_read_entries.binds (ps := ["reader", "keyword", "entry_of", "most"]) fun _ _ _ _ _ _ us hl => match us, hl with | [_, _, _, _], _ => rfl)
  obtain ⟨f_read_list, fd_read_list, F_read_list, g_read_list⟩ := T.d_read_list.ex
  have b_read_list := (F_read_list.binds (ps := ["text"]) fun _ _ _ _ _ _ us hl => match us, hl with | [_], _ => rfl)
  obtain ⟨f_answer_from, fd_answer_from, F_answer_from, g_answer_from⟩ := T.d_answer_from.ex
  have b_answer_from := (F_answer_from.binds (ps := ["held", "number", "handed"]) fun _ _ _ _ _ _ us hl => match us, hl with | [_, _, _], _ => rfl)
  obtain ⟨f_shown, fd_shown, F_shown, g_shown⟩ := T.d_shown.ex
  have b_shown := (F_shown.binds (ps := ["held"]) fun _ _ _ _ _ _ us hl => match us, hl with | [_], _ => rfl)
  obtain ⟨f_levels_of, fd_levels_of, F_levels_of, g_levels_of⟩ := T.d_levels_of.ex
  have b_levels_of := (F_levels_of.binds (ps := ["held", "letters"]) fun _ _ _ _ _ _ us hl => match us, hl with | [_, _], _ => rfl)
  obtain ⟨f_part, fd_part, F_part, g_part⟩ := T.d_part.ex
  have b_part := (F_part.binds (ps := ["held", "i"]) fun _ _ _ _ _ _ us hl => match us, hl with | [_, _], _ => rfl)
  obtain ⟨f_score, fd_score, F_score, g_score⟩ := T.d_score.ex
  have b_score := (F_score.binds (ps := ["held"]) fun _ _ _ _ _ _ us hl => match us, hl with | [_], _ => rfl)
  obtain ⟨f_why, fd_why, F_why, g_why⟩ := T.d_why.ex
  have b_why := (F_why.binds (ps := ["held", "i", "g"]) fun _ _ _ _ _ _ us hl => match us, hl with | [_, _, _], _ => rfl)
  obtain ⟨f_fits, fd_fits, F_fits, g_fits⟩ := T.d_fits.ex
  have b_fits := (F_fits.binds (ps := ["held", "p"]) fun _ _ _ _ _ _ us hl => match us, hl with | [_, _], _ => rfl)
  obtain ⟨f_spell, fd_spell, F_spell, g_spell⟩ := T.d_spell.ex
  have b_spell := (F_spell.binds (ps := ["held", "letters"]) fun _ _ _ _ _ _ us hl => match us, hl with | [_, _], _ => rfl)
  obtain ⟨f_call_end, fd_call_end, F_call_end, g_call_end⟩ := T.d_call_end.ex
  have b_call_end := (F_call_end.binds (ps := ["calls", "start"]) fun _ _ _ _ _ _ us hl => match us, hl with | [_, _], _ => rfl)
  obtain ⟨f_handed_numbers, fd_handed_numbers, F_handed_numbers, g_handed_numbers⟩ := T.d_handed_numbers.ex
  have b_handed_numbers := (F_handed_numbers.binds (ps := ["calls", "start", "end"]) fun _ _ _ _ _ _ us hl => match us, hl with | [_, _, _], _ => rfl)
  obtain ⟨fi_Token, fdi_Token, Fi_Token, mi_Token⟩ := T.i_Token.ex
  have bi_Token := (Fi_Token.binds (ps := ["self", "place", "content"]) fun _ _ _ _ _ _ us hl => match us, hl with | [_, _, _], _ => rfl)
  have O_Token : OwnC K mg "Token" CT fi_Token ["place", "content"] := own_of T.k_Token mi_Token T.no_Token
  obtain ⟨fm_Token_is_chunk, fdm_Token_is_chunk, Fm_Token_is_chunk, mm_Token_is_chunk⟩ := T.m_Token_is_chunk.ex
  have bm_Token_is_chunk := (Fm_Token_is_chunk.binds (ps := ["self"]) fun _ _ _ _ _ _ us hl => match us, hl with | [_], _ => rfl)
  obtain ⟨fi_Word, fdi_Word, Fi_Word, mi_Word⟩ := T.i_Word.ex
  have bi_Word := (Fi_Word.binds (ps := ["self", "chunk", "letters", "allowed"]) fun _ _ _ _ _ _ us hl => match us, hl with | [_, _, _, _], _ => rfl)
  have O_Word : OwnC K mg "Word" CW fi_Word ["chunk", "letters", "allowed"] := own_of T.k_Word mi_Word T.no_Word
  obtain ⟨fm_Word_likeness, fdm_Word_likeness, Fm_Word_likeness, mm_Word_likeness⟩ := T.m_Word_likeness.ex
  have bm_Word_likeness := (Fm_Word_likeness.binds (ps := ["self"]) fun _ _ _ _ _ _ us hl => match us, hl with | [_], _ => rfl)
  obtain ⟨fi_Pattern, fdi_Pattern, Fi_Pattern, mi_Pattern⟩ := T.i_Pattern.ex
  have bi_Pattern := (Fi_Pattern.binds (ps := ["self", "chunk", "letters", "digits", "points"]) fun _ _ _ _ _ _ us hl => match us, hl with | [_, _, _, _, _], _ => rfl)
  have O_Pattern : OwnC K mg "Pattern" CP fi_Pattern ["chunk", "letters", "digits", "at_front", "at_end"] := own_of T.k_Pattern mi_Pattern T.no_Pattern
  obtain ⟨fm_Pattern_likeness, fdm_Pattern_likeness, Fm_Pattern_likeness, mm_Pattern_likeness⟩ := T.m_Pattern_likeness.ex
  have bm_Pattern_likeness := (Fm_Pattern_likeness.binds (ps := ["self"]) fun _ _ _ _ _ _ us hl => match us, hl with | [_], _ => rfl)
  obtain ⟨fi_WordList, fdi_WordList, Fi_WordList, mi_WordList⟩ := T.i_WordList.ex
  have bi_WordList := (Fi_WordList.binds (ps := ["self", "margins", "words", "patterns"]) fun _ _ _ _ _ _ us hl => match us, hl with | [_, _, _, _], _ => rfl)
  have O_WordList : OwnC K mg "WordList" CL fi_WordList ["left", "right", "words", "patterns"] := own_of T.k_WordList mi_WordList T.no_WordList
  obtain ⟨fi_Reader, fdi_Reader, Fi_Reader, mi_Reader⟩ := T.i_Reader.ex
  have bi_Reader := (Fi_Reader.binds (ps := ["self", "tokens"]) fun _ _ _ _ _ _ us hl => match us, hl with | [_, _], _ => rfl)
  have O_Reader : OwnC K mg "Reader" CR fi_Reader ["tokens", "taken"] := own_of T.k_Reader mi_Reader T.no_Reader
  obtain ⟨fm_Reader_here, fdm_Reader_here, Fm_Reader_here, mm_Reader_here⟩ := T.m_Reader_here.ex
  have bm_Reader_here := (Fm_Reader_here.binds (ps := ["self"]) fun _ _ _ _ _ _ us hl => match us, hl with | [_], _ => rfl)
  obtain ⟨fm_Reader_stands_at, fdm_Reader_stands_at, Fm_Reader_stands_at, mm_Reader_stands_at⟩ := T.m_Reader_stands_at.ex
  have bm_Reader_stands_at := (Fm_Reader_stands_at.binds (ps := ["self", "content"]) fun _ _ _ _ _ _ us hl => match us, hl with | [_, _], _ => rfl)
  obtain ⟨fm_Reader_take, fdm_Reader_take, Fm_Reader_take, mm_Reader_take⟩ := T.m_Reader_take.ex
  have bm_Reader_take := (Fm_Reader_take.binds (ps := ["self", "content"]) fun _ _ _ _ _ _ us hl => match us, hl with | [_, _], _ => rfl)
  obtain ⟨fm_Reader_take_chunk, fdm_Reader_take_chunk, Fm_Reader_take_chunk, mm_Reader_take_chunk⟩ := T.m_Reader_take_chunk.ex
  have bm_Reader_take_chunk := (Fm_Reader_take_chunk.binds (ps := ["self"]) fun _ _ _ _ _ _ us hl => match us, hl with | [_], _ => rfl)
  obtain ⟨fi_Holder, fdi_Holder, Fi_Holder, mi_Holder⟩ := T.i_Holder.ex
  have bi_Holder := (Fi_Holder.binds (ps := ["self"]) fun _ _ _ _ _ _ us hl => match us, hl with | [_], _ => rfl)
  have O_Holder : OwnC K mg "Holder" CH fi_Holder ["held"] := own_of T.k_Holder mi_Holder T.no_Holder
  obtain ⟨fm_Holder_load, fdm_Holder_load, Fm_Holder_load, mm_Holder_load⟩ := T.m_Holder_load.ex
  have bm_Holder_load := (Fm_Holder_load.binds (ps := ["self", "text"]) fun _ _ _ _ _ _ us hl => match us, hl with | [_, _], _ => rfl)
  obtain ⟨fm_Holder_answer, fdm_Holder_answer, Fm_Holder_answer, mm_Holder_answer⟩ := T.m_Holder_answer.ex
  have bm_Holder_answer := (Fm_Holder_answer.binds (ps := ["self", "number", "handed"]) fun _ _ _ _ _ _ us hl => match us, hl with | [_, _, _], _ => rfl)
  have M_Token : M0 P w K mg base 1 "Token" _ _ := ⟨fi_Token, fdi_Token, _, O_Token.made, ok_token_init Fi_Token O_Token, T.k_Token.g, bi_Token⟩
  have M_Word : M0 P w K mg base 1 "Word" _ _ := ⟨fi_Word, fdi_Word, _, O_Word.made, ok_word_init Fi_Word O_Word, T.k_Word.g, bi_Word⟩
  have M_Pattern : M0 P w K mg base 1 "Pattern" _ _ := ⟨fi_Pattern, fdi_Pattern, _, O_Pattern.made, ok_pat_init Fi_Pattern O_Pattern, T.k_Pattern.g, bi_Pattern⟩
  have M_WordList : M0 P w K mg base 1 "WordList" _ _ := ⟨fi_WordList, fdi_WordList, _, O_WordList.made, ok_list_init Fi_WordList O_WordList, T.k_WordList.g, bi_WordList⟩
  have M_Reader : M0 P w K mg base 1 "Reader" _ _ := ⟨fi_Reader, fdi_Reader, _, O_Reader.made, ok_rd_init Fi_Reader O_Reader, T.k_Reader.g, bi_Reader⟩
  have tc : TokC K mg := ⟨T.c_ROW_END, T.c_SMALL_A, T.c_SMALL_Z, T.c_ZERO, T.c_NINE, T.c_HYPHEN, T.c_POINT, T.n_len, T.n_ord⟩
  have td : TokD K mg := ⟨T.c_SEMICOLON, T.c_NO_TOKEN, T.c_MOST_CHUNK_BYTES, T.c_REMARK, T.t_BLANKS, T.n_len⟩
  have lc : LstC mg := ⟨T.c_FEWEST_WORD_LETTERS, T.c_MOST_WORD_LETTERS, T.c_HYPHEN, T.c_POINT, T.c_ZERO, T.c_NINE, T.c_MOST_PATTERN_LETTERS, T.n_len, T.n_all, T.n_max⟩
  have fmc : FormC mg := ⟨T.c_BLANK, T.c_SEMICOLON, T.c_ROW_END, T.c_ZERO⟩
  have rc : ReadC mg := ⟨T.c_TOO_MANY, T.c_TOLD_BEFORE, T.c_NOT_AS_TOLD, T.c_TEXT_TOO_LONG, T.c_ZERO, T.c_GREATEST_MARGIN, T.c_SEMICOLON, T.c_MOST_TEXT_BYTES, T.c_MOST_WORDS, T.c_MOST_PATTERNS, T.n_len⟩
  have pc : PartC mg := ⟨T.n_len, T.n_range, T.n_max, T.n_enumerate⟩
  have mc : MainC mg := ⟨T.n_len, T.c_NO_LETTERS, T.c_NO_SUCH⟩
  -- tokens
  have G_bytes_of := c0_of (P := P) (w := w) (base := base) F_bytes_of g_bytes_of b_bytes_of (ok_bytes_of F_bytes_of tc)
  have G_is_letter := c0_of (P := P) (w := w) (base := base) F_is_letter g_is_letter b_is_letter (ok_is_letter F_is_letter tc)
  have G_is_chunk_byte := c0_of F_is_chunk_byte g_is_chunk_byte b_is_chunk_byte (ok_is_chunk_byte F_is_chunk_byte tc G_is_letter)
  have G_remark_end := c0_of (P := P) (w := w) (base := base) F_remark_end g_remark_end b_remark_end (ok_remark_end F_remark_end tc)
  have G_chunk_end := c0_of F_chunk_end g_chunk_end b_chunk_end (ok_chunk_end F_chunk_end tc G_is_chunk_byte)
  have G_token_at := c1_of F_token_at g_token_at b_token_at (ok_token_at F_token_at td M_Token G_chunk_end GF)
  have G_tokens_of := c1_of F_tokens_of g_tokens_of b_tokens_of (ok_tokens_of F_tokens_of td M_Token ⟨_, O_Token⟩ G_remark_end G_token_at)
  have G_is_chunk : Me0 P w K mg base 1 CT "is_chunk" (spIsChunk K CT) := ⟨_, _, _, T.k_Token.cl, mm_Token_is_chunk, ok_is_chunk Fm_Token_is_chunk O_Token T.c_SEMICOLON, bm_Token_is_chunk⟩
  -- lists
  have G_is_word_letters := c0_of F_is_word_letters g_is_word_letters b_is_word_letters (ok_is_word_letters F_is_word_letters lc G_is_letter)
  have K_word_of := ok_word_of F_word_of lc G_is_word_letters M_Word
  have K_pattern_of := ok_pattern_of F_pattern_of lc G_is_letter M_Pattern
  have G_row_of := c0_of F_row_of g_row_of b_row_of (ok_row_of F_row_of fmc G_bytes_of)
  have G_one_form := c0_of F_one_form g_one_form b_one_form (ok_one_form (CL := CL) (CW := CW) (CP := CP) F_one_form fmc O_WordList O_Word O_Pattern G_row_of)
  have EW := entK_word K_word_of F_word_of.kp b_word_of T.k_Word.cl mm_Word_likeness (ok_word_like (P := P) (w := w) (base := base) Fm_Word_likeness O_Word) bm_Word_likeness
  have EP := entK_pat K_pattern_of F_pattern_of.kp b_pattern_of T.k_Pattern.cl mm_Pattern_likeness (ok_pat_like (P := P) (w := w) (base := base) Fm_Pattern_likeness O_Pattern) bm_Pattern_likeness
  -- parting
  have G_fits_at := c0_of F_fits_at g_fits_at b_fits_at (ok_fits_at (P := P) (w := w) (base := base) F_fits_at pc O_Pattern)
  have G_fitting_places := c0_of F_fitting_places g_fitting_places b_fitting_places (ok_fitting_places F_fitting_places pc O_Pattern G_fits_at)
  have G_gap_levels := c0_of F_gap_levels g_gap_levels b_gap_levels (ok_gap_levels F_gap_levels pc O_Pattern G_fitting_places)
  have G_within := c0_of F_within_margins g_within_margins b_within_margins (ok_within_margins (P := P) (w := w) (base := base) (CW := CW) (CP := CP) F_within_margins O_WordList)
  have G_parted := c0_of F_parted_gaps g_parted_gaps b_parted_gaps (ok_parted_gaps F_parted_gaps pc G_within)
  have G_hits := c0_of F_hits_faults_misses g_hits_faults_misses b_hits_faults_misses (ok_hits F_hits_faults_misses pc O_Word G_within)
  -- reading
  have G_here : Me0 P w K mg base 1 CR "here" (spHere K CR CT) := ⟨_, _, _, T.k_Reader.cl, mm_Reader_here, ok_rd_here Fm_Reader_here O_Reader, bm_Reader_here⟩
  have G_stands : Me0 P w K mg base 2 CR "stands_at" (spStands K CR CT) := ⟨_, _, _, T.k_Reader.cl, mm_Reader_stands_at, ok_rd_stands Fm_Reader_stands_at O_Token G_here, bm_Reader_stands_at⟩
  have G_take : Me1 P w K mg base 3 CR "take" (spTake K CF CR CT) := ⟨_, _, _, T.k_Reader.cl, mm_Reader_take, ok_rd_take Fm_Reader_take O_Reader O_Token T.c_NOT_ALLOWED_HERE G_here G_stands GF, bm_Reader_take⟩
  have G_chunk : Me1 P w K mg base 3 CR "take_chunk" (spChunk K CF CR CT) := ⟨_, _, _, T.k_Reader.cl, mm_Reader_take_chunk, ok_rd_chunk Fm_Reader_take_chunk O_Reader O_Token T.c_NOT_ALLOWED_HERE G_here G_is_chunk GF, bm_Reader_take_chunk⟩
  have G_margin := c1_of F_read_margin g_read_margin b_read_margin (ok_read_margin F_read_margin rc O_Token G_chunk GF)
  have G_entryW := c1_of F_read_entry g_read_entry b_read_entry (ok_read_entry F_read_entry rc O_Token EW G_chunk GF)
  have G_entryP := c1_of F_read_entry g_read_entry b_read_entry (ok_read_entry F_read_entry rc O_Token EP G_chunk GF)
  have G_entriesW := c1_of F_read_entries g_read_entries b_read_entries (ok_read_entries F_read_entries rc O_Token EW G_stands G_here G_take G_entryW GF)
  have G_entriesP := c1_of F_read_entries g_read_entries b_read_entries (ok_read_entries F_read_entries rc O_Token EP G_stands G_here G_take G_entryP GF)
  have G_list := c1_of F_read_list g_read_list b_read_list (ok_read_list (fR := f_read_list) F_read_list rc G_tokens_of M_Reader G_take G_bytes_of G_margin g_word_of g_pattern_of G_entriesW G_entriesP M_WordList GF)
  -- the calls
  have G_digit_at := c0_of F_digit_at g_digit_at b_digit_at (ok_digit_at (P := P) (w := w) (base := base) F_digit_at pc O_Pattern)
  have G_bearers := c0_of F_bearers g_bearers b_bearers (ok_bearers F_bearers pc O_Pattern G_fitting_places G_digit_at)
  have G_parted_of := c0_of F_parted_of g_parted_of b_parted_of (ok_parted_of F_parted_of O_WordList G_gap_levels G_parted)
  have G_hyphened := c0_of F_hyphened g_hyphened b_hyphened (ok_hyphened (P := P) (w := w) (base := base) F_hyphened pc T.c_HYPHEN)
  have calls : Calls P w K mg base CW CP CL := ⟨c0_of F_shown g_shown b_shown (ok_shown F_shown mc G_one_form),
    c0_of F_levels_of g_levels_of b_levels_of (ok_levels_of F_levels_of mc O_WordList G_is_word_letters G_gap_levels G_parted),
    c0_of F_part g_part b_part (ok_part F_part mc O_WordList O_Word G_parted_of G_hits),
    c0_of F_score g_score b_score (ok_score F_score T.n_zip O_WordList O_Word G_parted_of G_hits),
    c0_of F_why g_why b_why (ok_why F_why mc T.c_NO_GAP O_WordList O_Word G_gap_levels G_bearers),
    c0_of F_fits g_fits b_fits (ok_fits F_fits mc pc O_WordList O_Word G_fitting_places),
    c0_of F_spell g_spell b_spell (ok_spell F_spell mc G_is_word_letters G_parted_of G_hyphened)⟩
  have ac : AnsC mg := ⟨T.c_LOAD, T.c_SHOWN, T.c_LEVELS, T.c_PART, T.c_SCORE, T.c_WHY, T.c_FITS, T.c_NO_LIST⟩
  have G_from := c0_of F_answer_from g_answer_from b_answer_from (ok_answer_from F_answer_from ac calls)
  have G_load : Me0 P w K mg base 7 CH "load" (spLoad K CH CL CW CP) := ⟨_, _, _, T.k_Holder.cl, mm_Holder_load, ok_load Fm_Holder_load O_Holder O_WordList T.n_len G_list fcatch, bm_Holder_load⟩
  exact ⟨_, _, _, T.k_Holder.cl, mm_Holder_answer, ok_answer Fm_Holder_answer ac O_Holder G_load G_from, bm_Holder_answer⟩
/-- the def that is asked -/
theorem all_ok (T : TopF K mg CF CT CW CP CL CR CH) {fa : Addr} {fd : FuncData} (F : Fun K "answers" "answers" s_answers fa fd) : FnOk P w K mg base CX0 11 fa fd ["calls"] (spAns K) := by
  obtain ⟨f_call_end, fd_call_end, F_call_end, g_call_end⟩ := T.d_call_end.ex
  have b_call_end := (F_call_end.binds (ps := ["calls", "start"]) fun _ _ _ _ _ _ us hl => match us, hl with | [_, _], _ => rfl)
  obtain ⟨f_handed_numbers, fd_handed_numbers, F_handed_numbers, g_handed_numbers⟩ := T.d_handed_numbers.ex
  have b_handed_numbers := (F_handed_numbers.binds (ps := ["calls", "start", "end"]) fun _ _ _ _ _ _ us hl => match us, hl with | [_, _, _], _ => rfl)
  obtain ⟨fi_Holder, fdi_Holder, Fi_Holder, mi_Holder⟩ := T.i_Holder.ex
  have bi_Holder := (Fi_Holder.binds (ps := ["self"]) fun _ _ _ _ _ _ us hl => match us, hl with | [_], _ => rfl)
  have O_Holder : OwnC K mg "Holder" CH fi_Holder ["held"] := own_of T.k_Holder mi_Holder T.no_Holder
  have M_Holder : M0 P w K mg base 1 "Holder" _ _ := ⟨fi_Holder, fdi_Holder, _, O_Holder.made, ok_hold_init Fi_Holder O_Holder, T.k_Holder.g, bi_Holder⟩
  have lnc : LineC K mg := ⟨T.n_len, T.t_SINGLE_NUMBERS, T.t_CALLS_WITH_ROW⟩
  have G_call_end := c0_of (P := P) (w := w) (base := base) F_call_end g_call_end b_call_end (ok_call_end F_call_end lnc)
  have G_handed := c0_of (P := P) (w := w) (base := base) F_handed_numbers g_handed_numbers b_handed_numbers (ok_handed F_handed_numbers lnc)
  exact ok_answers (ka := 0) (fI := 0) F lnc M_Holder G_call_end G_handed (low_ok T)
/-- the end -/
theorem top_end (T : TopF K mg CF CT CW CP CL CR CH) {fa : Addr} (hfa : mg "answers" = some (.ref fa)) :
    ∃ fd : FuncData, (∀ (s : Shared) (us : List Value), us.length = (["calls"] : List Str).length → BindsTo s fd ⟨us, []⟩ ((["calls"] : List Str).zip us)) ∧ ∀ base : Heap, K.In base → base.Ns mainGlobals mg → FnOk P w K mg base CX0 11 fa fd ["calls"] (spAns K) := by
  obtain ⟨f, fd, F, g⟩ := T.d_answers.ex
  have e := hfa.symm.trans g
  cases e
  refine ⟨fd, fun s us hu => ?_, fun base _ _ => all_ok T F⟩
  obtain ⟨oc, od, kV, doc, pm, an, cdv, ct, osl, rfl, _, _⟩ := F.ex
  exact match us, hu with | [_], _ => .of_eq rfl
end
end Pw

open PySem PySem.W PyProof.Rows
set_option maxRecDepth 100000 in
set_option maxHeartbeats 8000000 in
theorem PySem.Challenge.cw_partedwords_s01_answers_holds : PySem.Challenge.rw_partedwords_s01_answers.Holds := by
  w_on; k_headS; (case hw => exact ⟨[.list [.int 1]], by decide +kernel, by decide +kernel⟩)
  k_fillS
  refine L2.walk_specK (r := PySem.Challenge.rw_partedwords_s01_answers) (k := 11) (CX := L2.CX0) (ps := ["calls"]) (sp := Pw.spAns) (by decide +kernel) rfl rfl ⟨rfl, by decide, by decide⟩ (fun w h Y => PySem.W.kIn_of Y) ?F ?S (fun _ _ _ _ z => z)
  case F =>
    intro w mg fa h Y KX G hmg
    have d_bytes_of : Pw.DefAt (PySem.Challenge.cw_partedwords_s01_answers_holds.heap_1 w.params) mg "bytes_of" Pw.s_bytes_of := by refine' Pw.def_mk KX G ?a ?l ?c ?k; (case a => k_is); (case l => k_is); (case c => k_is); (case k => k_is)
    have d_is_letter : Pw.DefAt (PySem.Challenge.cw_partedwords_s01_answers_holds.heap_1 w.params) mg "is_letter" Pw.s_is_letter := by refine' Pw.def_mk KX G ?a ?l ?c ?k; (case a => k_is); (case l => k_is); (case c => k_is); (case k => k_is)
    have d_is_chunk_byte : Pw.DefAt (PySem.Challenge.cw_partedwords_s01_answers_holds.heap_1 w.params) mg "is_chunk_byte" Pw.s_is_chunk_byte := by refine' Pw.def_mk KX G ?a ?l ?c ?k; (case a => k_is); (case l => k_is); (case c => k_is); (case k => k_is)
    have d_remark_end : Pw.DefAt (PySem.Challenge.cw_partedwords_s01_answers_holds.heap_1 w.params) mg "remark_end" Pw.s_remark_end := by refine' Pw.def_mk KX G ?a ?l ?c ?k; (case a => k_is); (case l => k_is); (case c => k_is); (case k => k_is)
    have d_chunk_end : Pw.DefAt (PySem.Challenge.cw_partedwords_s01_answers_holds.heap_1 w.params) mg "chunk_end" Pw.s_chunk_end := by refine' Pw.def_mk KX G ?a ?l ?c ?k; (case a => k_is); (case l => k_is); (case c => k_is); (case k => k_is)
    have d_token_at : Pw.DefAt (PySem.Challenge.cw_partedwords_s01_answers_holds.heap_1 w.params) mg "token_at" Pw.s_token_at := by refine' Pw.def_mk KX G ?a ?l ?c ?k; (case a => k_is); (case l => k_is); (case c => k_is); (case k => k_is)
    have d_tokens_of : Pw.DefAt (PySem.Challenge.cw_partedwords_s01_answers_holds.heap_1 w.params) mg "tokens_of" Pw.s_tokens_of := by refine' Pw.def_mk KX G ?a ?l ?c ?k; (case a => k_is); (case l => k_is); (case c => k_is); (case k => k_is)
    have d_is_word_letters : Pw.DefAt (PySem.Challenge.cw_partedwords_s01_answers_holds.heap_1 w.params) mg "is_word_letters" Pw.s_is_word_letters := by refine' Pw.def_mk KX G ?a ?l ?c ?k; (case a => k_is); (case l => k_is); (case c => k_is); (case k => k_is)
    have d_word_of : Pw.DefAt (PySem.Challenge.cw_partedwords_s01_answers_holds.heap_1 w.params) mg "word_of" Pw.s_word_of := by refine' Pw.def_mk KX G ?a ?l ?c ?k; (case a => k_is); (case l => k_is); (case c => k_is); (case k => k_is)
    have d_pattern_of : Pw.DefAt (PySem.Challenge.cw_partedwords_s01_answers_holds.heap_1 w.params) mg "pattern_of" Pw.s_pattern_of := by refine' Pw.def_mk KX G ?a ?l ?c ?k; (case a => k_is); (case l => k_is); (case c => k_is); (case k => k_is)
    have d_row_of : Pw.DefAt (PySem.Challenge.cw_partedwords_s01_answers_holds.heap_1 w.params) mg "row_of" Pw.s_row_of := by refine' Pw.def_mk KX G ?a ?l ?c ?k; (case a => k_is); (case l => k_is); (case c => k_is); (case k => k_is)
    have d_one_form : Pw.DefAt (PySem.Challenge.cw_partedwords_s01_answers_holds.heap_1 w.params) mg "one_form" Pw.s_one_form := by refine' Pw.def_mk KX G ?a ?l ?c ?k; (case a => k_is); (case l => k_is); (case c => k_is); (case k => k_is)
    have d_fits_at : Pw.DefAt (PySem.Challenge.cw_partedwords_s01_answers_holds.heap_1 w.params) mg "fits_at" Pw.s_fits_at := by refine' Pw.def_mk KX G ?a ?l ?c ?k; (case a => k_is); (case l => k_is); (case c => k_is); (case k => k_is)
    have d_fitting_places : Pw.DefAt (PySem.Challenge.cw_partedwords_s01_answers_holds.heap_1 w.params) mg "fitting_places" Pw.s_fitting_places := by refine' Pw.def_mk KX G ?a ?l ?c ?k; (case a => k_is); (case l => k_is); (case c => k_is); (case k => k_is)
    have d_gap_levels : Pw.DefAt (PySem.Challenge.cw_partedwords_s01_answers_holds.heap_1 w.params) mg "gap_levels" Pw.s_gap_levels := by refine' Pw.def_mk KX G ?a ?l ?c ?k; (case a => k_is); (case l => k_is); (case c => k_is); (case k => k_is)
    have d_digit_at : Pw.DefAt (PySem.Challenge.cw_partedwords_s01_answers_holds.heap_1 w.params) mg "digit_at" Pw.s_digit_at := by refine' Pw.def_mk KX G ?a ?l ?c ?k; (case a => k_is); (case l => k_is); (case c => k_is); (case k => k_is)
    have d_bearers : Pw.DefAt (PySem.Challenge.cw_partedwords_s01_answers_holds.heap_1 w.params) mg "bearers" Pw.s_bearers := by refine' Pw.def_mk KX G ?a ?l ?c ?k; (case a => k_is); (case l => k_is); (case c => k_is); (case k => k_is)
    have d_within_margins : Pw.DefAt (PySem.Challenge.cw_partedwords_s01_answers_holds.heap_1 w.params) mg "within_margins" Pw.s_within_margins := by refine' Pw.def_mk KX G ?a ?l ?c ?k; (case a => k_is); (case l => k_is); (case c => k_is); (case k => k_is)
    have d_parted_gaps : Pw.DefAt (PySem.Challenge.cw_partedwords_s01_answers_holds.heap_1 w.params) mg "parted_gaps" Pw.s_parted_gaps := by refine' Pw.def_mk KX G ?a ?l ?c ?k; (case a => k_is); (case l => k_is); (case c => k_is); (case k => k_is)
    have d_parted_of : Pw.DefAt (PySem.Challenge.cw_partedwords_s01_answers_holds.heap_1 w.params) mg "parted_of" Pw.s_parted_of := by refine' Pw.def_mk KX G ?a ?l ?c ?k; (case a => k_is); (case l => k_is); (case c => k_is); (case k => k_is)
    have d_hyphened : Pw.DefAt (PySem.Challenge.cw_partedwords_s01_answers_holds.heap_1 w.params) mg "hyphened" Pw.s_hyphened := by refine' Pw.def_mk KX G ?a ?l ?c ?k; (case a => k_is); (case l => k_is); (case c => k_is); (case k => k_is)
    have d_hits_faults_misses : Pw.DefAt (PySem.Challenge.cw_partedwords_s01_answers_holds.heap_1 w.params) mg "hits_faults_misses" Pw.s_hits := by refine' Pw.def_mk KX G ?a ?l ?c ?k; (case a => k_is); (case l => k_is); (case c => k_is); (case k => k_is)
    have d_read_margin : Pw.DefAt (PySem.Challenge.cw_partedwords_s01_answers_holds.heap_1 w.params) mg "read_margin" Pw.s_read_margin := by refine' Pw.def_mk KX G ?a ?l ?c ?k; (case a => k_is); (case l => k_is); (case c => k_is); (case k => k_is)
    have d_read_entry : Pw.DefAt (PySem.Challenge.cw_partedwords_s01_answers_holds.heap_1 w.params) mg "read_entry" Pw.s_read_entry := by refine' Pw.def_mk KX G ?a ?l ?c ?k; (case a => k_is); (case l => k_is); (case c => k_is); (case k => k_is)
    have d_read_entries : Pw.DefAt (PySem.Challenge.cw_partedwords_s01_answers_holds.heap_1 w.params) mg "read_entries" Pw.s_read_entries := by refine' Pw.def_mk KX G ?a ?l ?c ?k; (case a => k_is); (case l => k_is); (case c => k_is); (case k => k_is)
    have d_read_list : Pw.DefAt (PySem.Challenge.cw_partedwords_s01_answers_holds.heap_1 w.params) mg "read_list" Pw.s_read_list := by refine' Pw.def_mk KX G ?a ?l ?c ?k; (case a => k_is); (case l => k_is); (case c => k_is); (case k => k_is)
    have d_answer_from : Pw.DefAt (PySem.Challenge.cw_partedwords_s01_answers_holds.heap_1 w.params) mg "answer_from" Pw.s_answer_from := by refine' Pw.def_mk KX G ?a ?l ?c ?k; (case a => k_is); (case l => k_is); (case c => k_is); (case k => k_is)
    have d_shown : Pw.DefAt (PySem.Challenge.cw_partedwords_s01_answers_holds.heap_1 w.params) mg "shown" Pw.s_shown := by refine' Pw.def_mk KX G ?a ?l ?c ?k; (case a => k_is); (case l => k_is); (case c => k_is); (case k => k_is)
    have d_levels_of : Pw.DefAt (PySem.Challenge.cw_partedwords_s01_answers_holds.heap_1 w.params) mg "levels_of" Pw.s_levels_of := by refine' Pw.def_mk KX G ?a ?l ?c ?k; (case a => k_is); (case l => k_is); (case c => k_is); (case k => k_is)
    have d_part : Pw.DefAt (PySem.Challenge.cw_partedwords_s01_answers_holds.heap_1 w.params) mg "part" Pw.s_part := by refine' Pw.def_mk KX G ?a ?l ?c ?k; (case a => k_is); (case l => k_is); (case c => k_is); (case k => k_is)
    have d_score : Pw.DefAt (PySem.Challenge.cw_partedwords_s01_answers_holds.heap_1 w.params) mg "score" Pw.s_score := by refine' Pw.def_mk KX G ?a ?l ?c ?k; (case a => k_is); (case l => k_is); (case c => k_is); (case k => k_is)
    have d_why : Pw.DefAt (PySem.Challenge.cw_partedwords_s01_answers_holds.heap_1 w.params) mg "why" Pw.s_why := by refine' Pw.def_mk KX G ?a ?l ?c ?k; (case a => k_is); (case l => k_is); (case c => k_is); (case k => k_is)
    have d_fits : Pw.DefAt (PySem.Challenge.cw_partedwords_s01_answers_holds.heap_1 w.params) mg "fits" Pw.s_fits := by refine' Pw.def_mk KX G ?a ?l ?c ?k; (case a => k_is); (case l => k_is); (case c => k_is); (case k => k_is)
    have d_spell : Pw.DefAt (PySem.Challenge.cw_partedwords_s01_answers_holds.heap_1 w.params) mg "spell" Pw.s_spell := by refine' Pw.def_mk KX G ?a ?l ?c ?k; (case a => k_is); (case l => k_is); (case c => k_is); (case k => k_is)
    have d_call_end : Pw.DefAt (PySem.Challenge.cw_partedwords_s01_answers_holds.heap_1 w.params) mg "call_end" Pw.s_call_end := by refine' Pw.def_mk KX G ?a ?l ?c ?k; (case a => k_is); (case l => k_is); (case c => k_is); (case k => k_is)
    have d_handed_numbers : Pw.DefAt (PySem.Challenge.cw_partedwords_s01_answers_holds.heap_1 w.params) mg "handed_numbers" Pw.s_handed := by refine' Pw.def_mk KX G ?a ?l ?c ?k; (case a => k_is); (case l => k_is); (case c => k_is); (case k => k_is)
    have d_answers : Pw.DefAt (PySem.Challenge.cw_partedwords_s01_answers_holds.heap_1 w.params) mg "answers" Pw.s_answers := by refine' Pw.def_mk KX G ?a ?l ?c ?k; (case a => k_is); (case l => k_is); (case c => k_is); (case k => k_is)
    have c_BLANK : Pw.Con mg "BLANK" (.int 32) := by refine' Pw.con_mk KX G ?a; (case a => k_is)
    have c_ROW_END : Pw.Con mg "ROW_END" (.int 10) := by refine' Pw.con_mk KX G ?a; (case a => k_is)
    have c_REMARK : Pw.Con mg "REMARK" (.int 35) := by refine' Pw.con_mk KX G ?a; (case a => k_is)
    have c_SEMICOLON : Pw.Con mg "SEMICOLON" (.int 59) := by refine' Pw.con_mk KX G ?a; (case a => k_is)
    have c_HYPHEN : Pw.Con mg "HYPHEN" (.int 45) := by refine' Pw.con_mk KX G ?a; (case a => k_is)
    have c_POINT : Pw.Con mg "POINT" (.int 46) := by refine' Pw.con_mk KX G ?a; (case a => k_is)
    have c_ZERO : Pw.Con mg "ZERO" (.int 48) := by refine' Pw.con_mk KX G ?a; (case a => k_is)
    have c_NINE : Pw.Con mg "NINE" (.int 57) := by refine' Pw.con_mk KX G ?a; (case a => k_is)
    have c_SMALL_A : Pw.Con mg "SMALL_A" (.int 97) := by refine' Pw.con_mk KX G ?a; (case a => k_is)
    have c_SMALL_Z : Pw.Con mg "SMALL_Z" (.int 122) := by refine' Pw.con_mk KX G ?a; (case a => k_is)
    have c_MOST_CHUNK_BYTES : Pw.Con mg "MOST_CHUNK_BYTES" (.int 40) := by refine' Pw.con_mk KX G ?a; (case a => k_is)
    have c_TEXT_TOO_LONG : Pw.Con mg "TEXT_TOO_LONG" (.int 1) := by refine' Pw.con_mk KX G ?a; (case a => k_is)
    have c_NO_TOKEN : Pw.Con mg "NO_TOKEN" (.int 2) := by refine' Pw.con_mk KX G ?a; (case a => k_is)
    have c_NOT_ALLOWED_HERE : Pw.Con mg "NOT_ALLOWED_HERE" (.int 3) := by refine' Pw.con_mk KX G ?a; (case a => k_is)
    have c_TOO_MANY : Pw.Con mg "TOO_MANY" (.int 4) := by refine' Pw.con_mk KX G ?a; (case a => k_is)
    have c_TOLD_BEFORE : Pw.Con mg "TOLD_BEFORE" (.int 5) := by refine' Pw.con_mk KX G ?a; (case a => k_is)
    have c_NOT_AS_TOLD : Pw.Con mg "NOT_AS_TOLD" (.int 7) := by refine' Pw.con_mk KX G ?a; (case a => k_is)
    have c_FEWEST_WORD_LETTERS : Pw.Con mg "FEWEST_WORD_LETTERS" (.int 2) := by refine' Pw.con_mk KX G ?a; (case a => k_is)
    have c_MOST_WORD_LETTERS : Pw.Con mg "MOST_WORD_LETTERS" (.int 16) := by refine' Pw.con_mk KX G ?a; (case a => k_is)
    have c_MOST_PATTERN_LETTERS : Pw.Con mg "MOST_PATTERN_LETTERS" (.int 6) := by refine' Pw.con_mk KX G ?a; (case a => k_is)
    have c_MOST_TEXT_BYTES : Pw.Con mg "MOST_TEXT_BYTES" (.int 4096) := by refine' Pw.con_mk KX G ?a; (case a => k_is)
    have c_GREATEST_MARGIN : Pw.Con mg "GREATEST_MARGIN" (.int 5) := by refine' Pw.con_mk KX G ?a; (case a => k_is)
    have c_MOST_WORDS : Pw.Con mg "MOST_WORDS" (.int 24) := by refine' Pw.con_mk KX G ?a; (case a => k_is)
    have c_MOST_PATTERNS : Pw.Con mg "MOST_PATTERNS" (.int 40) := by refine' Pw.con_mk KX G ?a; (case a => k_is)
    have c_LOAD : Pw.Con mg "LOAD" (.int 0) := by refine' Pw.con_mk KX G ?a; (case a => k_is)
    have c_SHOWN : Pw.Con mg "SHOWN" (.int 1) := by refine' Pw.con_mk KX G ?a; (case a => k_is)
    have c_LEVELS : Pw.Con mg "LEVELS" (.int 2) := by refine' Pw.con_mk KX G ?a; (case a => k_is)
    have c_PART : Pw.Con mg "PART" (.int 3) := by refine' Pw.con_mk KX G ?a; (case a => k_is)
    have c_SCORE : Pw.Con mg "SCORE" (.int 4) := by refine' Pw.con_mk KX G ?a; (case a => k_is)
    have c_WHY : Pw.Con mg "WHY" (.int 5) := by refine' Pw.con_mk KX G ?a; (case a => k_is)
    have c_FITS : Pw.Con mg "FITS" (.int 6) := by refine' Pw.con_mk KX G ?a; (case a => k_is)
    have c_NO_LIST : Pw.Con mg "NO_LIST" (.int (-1)) := by refine' Pw.con_mk KX G ?a; (case a => k_is)
    have c_NO_SUCH : Pw.Con mg "NO_SUCH" (.int (-2)) := by refine' Pw.con_mk KX G ?a; (case a => k_is)
    have c_NO_GAP : Pw.Con mg "NO_GAP" (.int (-3)) := by refine' Pw.con_mk KX G ?a; (case a => k_is)
    have c_NO_LETTERS : Pw.Con mg "NO_LETTERS" (.int (-4)) := by refine' Pw.con_mk KX G ?a; (case a => k_is)
    have t_BLANKS : Pw.TupC (PySem.Challenge.cw_partedwords_s01_answers_holds.heap_1 w.params) mg "BLANKS" [.int 32, .int 9, .int 10] := by refine' Pw.tup_mk KX G ?a ?l ?hv; (case a => k_is); (case l => k_is); (case hv => exact ⟨_, _, rfl, rfl, by decide, .cons ⟨_, rfl⟩ (by repeat (first | exact .nil | exact .cons ⟨_, rfl⟩ .nil | refine .cons ⟨_, rfl⟩ ?_))⟩)
    have t_SINGLE_NUMBERS : Pw.TupC (PySem.Challenge.cw_partedwords_s01_answers_holds.heap_1 w.params) mg "SINGLE_NUMBERS" [.int 0, .int 0, .int 0, .int 1, .int 0, .int 2, .int 1, .int 0] := by refine' Pw.tup_mk KX G ?a ?l ?hv; (case a => k_is); (case l => k_is); (case hv => exact ⟨_, _, rfl, rfl, by decide, .cons ⟨_, rfl⟩ (by repeat (first | exact .nil | exact .cons ⟨_, rfl⟩ .nil | refine .cons ⟨_, rfl⟩ ?_))⟩)
    have t_CALLS_WITH_ROW : Pw.TupC (PySem.Challenge.cw_partedwords_s01_answers_holds.heap_1 w.params) mg "CALLS_WITH_ROW" [.int 0, .int 2, .int 7] := by refine' Pw.tup_mk KX G ?a ?l ?hv; (case a => k_is); (case l => k_is); (case hv => exact ⟨_, _, rfl, rfl, by decide, .cons ⟨_, rfl⟩ (by repeat (first | exact .nil | exact .cons ⟨_, rfl⟩ .nil | refine .cons ⟨_, rfl⟩ ?_))⟩)
    have n_len : mg "len" = none := by refine' Pw.free_mk KX G ?a; (case a => k_is)
    have n_ord : mg "ord" = none := by refine' Pw.free_mk KX G ?a; (case a => k_is)
    have n_all : mg "all" = none := by refine' Pw.free_mk KX G ?a; (case a => k_is)
    have n_max : mg "max" = none := by refine' Pw.free_mk KX G ?a; (case a => k_is)
    have n_range : mg "range" = none := by refine' Pw.free_mk KX G ?a; (case a => k_is)
    have n_enumerate : mg "enumerate" = none := by refine' Pw.free_mk KX G ?a; (case a => k_is)
    have n_zip : mg "zip" = none := by refine' Pw.free_mk KX G ?a; (case a => k_is)
    have n_Exception : mg "Exception" = none := by refine' Pw.free_mk KX G ?a; (case a => k_is)
    obtain ⟨CT, k_Token, no_Token, i_Token, m_Token_is_chunk⟩ : ∃ C, Pw.ClsAt (PySem.Challenge.cw_partedwords_s01_answers_holds.heap_1 w.params) mg "Token" C ∧ Pw.AllNo (PySem.Challenge.cw_partedwords_s01_answers_holds.heap_1 w.params) C ["place", "content"] ∧ Pw.MethAt (PySem.Challenge.cw_partedwords_s01_answers_holds.heap_1 w.params) C "__init__" "Token.__init__" Pw.s_token_init ∧ Pw.MethAt (PySem.Challenge.cw_partedwords_s01_answers_holds.heap_1 w.params) C "is_chunk" "Token.is_chunk" Pw.s_is_chunk := by
      refine' ⟨_, Pw.cls_mk KX G ?a ?pg ?hd ?po ?sa ?mk ?kc, ⟨?n0, ?n1, trivial⟩, Pw.meth_mk ?a0 ?i0 ?l0 ?c0 ?k0, Pw.meth_mk ?a1 ?i1 ?l1 ?c1 ?k1⟩
      (case a => k_is); (case pg => k_is); (case hd => k_is); (case po => k_is); (case sa => k_is); (case mk => k_is); (case kc => k_is); (case n0 => k_is); (case n1 => k_is)
      (case a0 => k_is); (case i0 => k_is); (case l0 => k_is); (case c0 => k_is); (case k0 => k_is)
      (case a1 => k_is); (case i1 => k_is); (case l1 => k_is); (case c1 => k_is); (case k1 => k_is)
    obtain ⟨CW, k_Word, no_Word, i_Word, m_Word_likeness⟩ : ∃ C, Pw.ClsAt (PySem.Challenge.cw_partedwords_s01_answers_holds.heap_1 w.params) mg "Word" C ∧ Pw.AllNo (PySem.Challenge.cw_partedwords_s01_answers_holds.heap_1 w.params) C ["chunk", "letters", "allowed"] ∧ Pw.MethAt (PySem.Challenge.cw_partedwords_s01_answers_holds.heap_1 w.params) C "__init__" "Word.__init__" Pw.s_word_init ∧ Pw.MethAt (PySem.Challenge.cw_partedwords_s01_answers_holds.heap_1 w.params) C "likeness" "Word.likeness" Pw.s_word_like := by
      refine' ⟨_, Pw.cls_mk KX G ?a ?pg ?hd ?po ?sa ?mk ?kc, ⟨?n0, ?n1, ?n2, trivial⟩, Pw.meth_mk ?a0 ?i0 ?l0 ?c0 ?k0, Pw.meth_mk ?a1 ?i1 ?l1 ?c1 ?k1⟩
      (case a => k_is); (case pg => k_is); (case hd => k_is); (case po => k_is); (case sa => k_is); (case mk => k_is); (case kc => k_is); (case n0 => k_is); (case n1 => k_is); (case n2 => k_is)
      (case a0 => k_is); (case i0 => k_is); (case l0 => k_is); (case c0 => k_is); (case k0 => k_is)
      (case a1 => k_is); (case i1 => k_is); (case l1 => k_is); (case c1 => k_is); (case k1 => k_is)
    obtain ⟨CP, k_Pattern, no_Pattern, i_Pattern, m_Pattern_likeness⟩ : ∃ C, Pw.ClsAt (PySem.Challenge.cw_partedwords_s01_answers_holds.heap_1 w.params) mg "Pattern" C ∧ Pw.AllNo (PySem.Challenge.cw_partedwords_s01_answers_holds.heap_1 w.params) C ["chunk", "letters", "digits", "at_front", "at_end"] ∧ Pw.MethAt (PySem.Challenge.cw_partedwords_s01_answers_holds.heap_1 w.params) C "__init__" "Pattern.__init__" Pw.s_pat_init ∧ Pw.MethAt (PySem.Challenge.cw_partedwords_s01_answers_holds.heap_1 w.params) C "likeness" "Pattern.likeness" Pw.s_pat_like := by
      refine' ⟨_, Pw.cls_mk KX G ?a ?pg ?hd ?po ?sa ?mk ?kc, ⟨?n0, ?n1, ?n2, ?n3, ?n4, trivial⟩, Pw.meth_mk ?a0 ?i0 ?l0 ?c0 ?k0, Pw.meth_mk ?a1 ?i1 ?l1 ?c1 ?k1⟩
      (case a => k_is); (case pg => k_is); (case hd => k_is); (case po => k_is); (case sa => k_is); (case mk => k_is); (case kc => k_is); (case n0 => k_is); (case n1 => k_is); (case n2 => k_is); (case n3 => k_is); (case n4 => k_is)
      (case a0 => k_is); (case i0 => k_is); (case l0 => k_is); (case c0 => k_is); (case k0 => k_is)
      (case a1 => k_is); (case i1 => k_is); (case l1 => k_is); (case c1 => k_is); (case k1 => k_is)
    obtain ⟨CL, k_WordList, no_WordList, i_WordList⟩ : ∃ C, Pw.ClsAt (PySem.Challenge.cw_partedwords_s01_answers_holds.heap_1 w.params) mg "WordList" C ∧ Pw.AllNo (PySem.Challenge.cw_partedwords_s01_answers_holds.heap_1 w.params) C ["left", "right", "words", "patterns"] ∧ Pw.MethAt (PySem.Challenge.cw_partedwords_s01_answers_holds.heap_1 w.params) C "__init__" "WordList.__init__" Pw.s_list_init := by
      refine' ⟨_, Pw.cls_mk KX G ?a ?pg ?hd ?po ?sa ?mk ?kc, ⟨?n0, ?n1, ?n2, ?n3, trivial⟩, Pw.meth_mk ?a0 ?i0 ?l0 ?c0 ?k0⟩
      (case a => k_is); (case pg => k_is); (case hd => k_is); (case po => k_is); (case sa => k_is); (case mk => k_is); (case kc => k_is); (case n0 => k_is); (case n1 => k_is); (case n2 => k_is); (case n3 => k_is)
      (case a0 => k_is); (case i0 => k_is); (case l0 => k_is); (case c0 => k_is); (case k0 => k_is)
    obtain ⟨CR, k_Reader, no_Reader, i_Reader, m_Reader_here, m_Reader_stands_at, m_Reader_take, m_Reader_take_chunk⟩ : ∃ C, Pw.ClsAt (PySem.Challenge.cw_partedwords_s01_answers_holds.heap_1 w.params) mg "Reader" C ∧ Pw.AllNo (PySem.Challenge.cw_partedwords_s01_answers_holds.heap_1 w.params) C ["tokens", "taken"] ∧ Pw.MethAt (PySem.Challenge.cw_partedwords_s01_answers_holds.heap_1 w.params) C "__init__" "Reader.__init__" Pw.s_rd_init ∧ Pw.MethAt (PySem.Challenge.cw_partedwords_s01_answers_holds.heap_1 w.params) C "here" "Reader.here" Pw.s_rd_here ∧ Pw.MethAt (PySem.Challenge.cw_partedwords_s01_answers_holds.heap_1 w.params) C "stands_at" "Reader.stands_at" Pw.s_rd_stands ∧ Pw.MethAt (PySem.Challenge.cw_partedwords_s01_answers_holds.heap_1 w.params) C "take" "Reader.take" Pw.s_rd_take ∧ Pw.MethAt (PySem.Challenge.cw_partedwords_s01_answers_holds.heap_1 w.params) C "take_chunk" "Reader.take_chunk" Pw.s_rd_chunk := by
      refine' ⟨_, Pw.cls_mk KX G ?a ?pg ?hd ?po ?sa ?mk ?kc, ⟨?n0, ?n1, trivial⟩, Pw.meth_mk ?a0 ?i0 ?l0 ?c0 ?k0, Pw.meth_mk ?a1 ?i1 ?l1 ?c1 ?k1, Pw.meth_mk ?a2 ?i2 ?l2 ?c2 ?k2, Pw.meth_mk ?a3 ?i3 ?l3 ?c3 ?k3, Pw.meth_mk ?a4 ?i4 ?l4 ?c4 ?k4⟩
      (case a => k_is); (case pg => k_is); (case hd => k_is); (case po => k_is); (case sa => k_is); (case mk => k_is); (case kc => k_is); (case n0 => k_is); (case n1 => k_is)
      (case a0 => k_is); (case i0 => k_is); (case l0 => k_is); (case c0 => k_is); (case k0 => k_is)
      (case a1 => k_is); (case i1 => k_is); (case l1 => k_is); (case c1 => k_is); (case k1 => k_is)
      (case a2 => k_is); (case i2 => k_is); (case l2 => k_is); (case c2 => k_is); (case k2 => k_is)
      (case a3 => k_is); (case i3 => k_is); (case l3 => k_is); (case c3 => k_is); (case k3 => k_is)
      (case a4 => k_is); (case i4 => k_is); (case l4 => k_is); (case c4 => k_is); (case k4 => k_is)
    obtain ⟨CH, k_Holder, no_Holder, i_Holder, m_Holder_load, m_Holder_answer⟩ : ∃ C, Pw.ClsAt (PySem.Challenge.cw_partedwords_s01_answers_holds.heap_1 w.params) mg "Holder" C ∧ Pw.AllNo (PySem.Challenge.cw_partedwords_s01_answers_holds.heap_1 w.params) C ["held"] ∧ Pw.MethAt (PySem.Challenge.cw_partedwords_s01_answers_holds.heap_1 w.params) C "__init__" "Holder.__init__" Pw.s_hold_init ∧ Pw.MethAt (PySem.Challenge.cw_partedwords_s01_answers_holds.heap_1 w.params) C "load" "Holder.load" Pw.s_load ∧ Pw.MethAt (PySem.Challenge.cw_partedwords_s01_answers_holds.heap_1 w.params) C "answer" "Holder.answer" Pw.s_answer := by
      refine' ⟨_, Pw.cls_mk KX G ?a ?pg ?hd ?po ?sa ?mk ?kc, ⟨?n0, trivial⟩, Pw.meth_mk ?a0 ?i0 ?l0 ?c0 ?k0, Pw.meth_mk ?a1 ?i1 ?l1 ?c1 ?k1, Pw.meth_mk ?a2 ?i2 ?l2 ?c2 ?k2⟩
      (case a => k_is); (case pg => k_is); (case hd => k_is); (case po => k_is); (case sa => k_is); (case mk => k_is); (case kc => k_is); (case n0 => k_is)
      (case a0 => k_is); (case i0 => k_is); (case l0 => k_is); (case c0 => k_is); (case k0 => k_is)
      (case a1 => k_is); (case i1 => k_is); (case l1 => k_is); (case c1 => k_is); (case k1 => k_is)
      (case a2 => k_is); (case i2 => k_is); (case l2 => k_is); (case c2 => k_is); (case k2 => k_is)
    obtain ⟨CF, fault⟩ : ∃ CF, Pw.FaultAt (PySem.Challenge.cw_partedwords_s01_answers_holds.heap_1 w.params) mg CF := by
      refine' Pw.fault_mk KX G ?a ?xL ?sa ?ga ?gg ?n1 ?n2 ?aI ?tI ?l ?c ?kI ?kC ?eC ?tC ?hC ?iC ?sC ?nE ?vE
      (case a => k_is); (case xL => k_is); (case sa => k_is); (case ga => k_is); (case gg => k_is); (case n1 => k_is); (case n2 => k_is); (case aI => k_is); (case tI => k_is); (case l => k_is); (case c => k_is); (case kI => k_is); (case kC => k_is); (case eC => k_is); (case tC => k_is); (case hC => k_is); (case iC => k_is); (case sC => first | rfl | k_is); (case nE => k_is); (case vE => k_is)
    exact Pw.top_end ⟨fault, d_bytes_of, d_is_letter, d_is_chunk_byte, d_remark_end, d_chunk_end, d_token_at, d_tokens_of, d_is_word_letters, d_word_of, d_pattern_of, d_row_of, d_one_form, d_fits_at, d_fitting_places, d_gap_levels, d_digit_at, d_bearers, d_within_margins, d_parted_gaps, d_parted_of, d_hyphened, d_hits_faults_misses, d_read_margin, d_read_entry, d_read_entries, d_read_list, d_answer_from, d_shown, d_levels_of, d_part, d_score, d_why, d_fits, d_spell, d_call_end, d_handed_numbers, d_answers, k_Token, no_Token, i_Token, m_Token_is_chunk, k_Word, no_Word, i_Word, m_Word_likeness, k_Pattern, no_Pattern, i_Pattern, m_Pattern_likeness, k_WordList, no_WordList, i_WordList, k_Reader, no_Reader, i_Reader, m_Reader_here, m_Reader_stands_at, m_Reader_take, m_Reader_take_chunk, k_Holder, no_Holder, i_Holder, m_Holder_load, m_Holder_answer, c_BLANK, c_ROW_END, c_REMARK, c_SEMICOLON, c_HYPHEN, c_POINT, c_ZERO, c_NINE, c_SMALL_A, c_SMALL_Z, c_MOST_CHUNK_BYTES, c_TEXT_TOO_LONG, c_NO_TOKEN, c_NOT_ALLOWED_HERE, c_TOO_MANY, c_TOLD_BEFORE, c_NOT_AS_TOLD, c_FEWEST_WORD_LETTERS, c_MOST_WORD_LETTERS, c_MOST_PATTERN_LETTERS, c_MOST_TEXT_BYTES, c_GREATEST_MARGIN, c_MOST_WORDS, c_MOST_PATTERNS, c_LOAD, c_SHOWN, c_LEVELS, c_PART, c_SCORE, c_WHY, c_FITS, c_NO_LIST, c_NO_SUCH, c_NO_GAP, c_NO_LETTERS, t_BLANKS, t_SINGLE_NUMBERS, t_CALLS_WITH_ROW, n_len, n_ord, n_all, n_max, n_range, n_enumerate, n_zip, n_Exception⟩ hmg
  case S =>
    intro K H xs a hO hwi hask hx
    cases hx with
    | cons h1 h2 =>
      cases h2
      cases h1 with
      | lst hs ha =>
        have e := L2.ints_dw a.1 _ ha
        subst e
        obtain ⟨cs, e1, e2, e3, e4, e5⟩ := Pw.line_split hask
        exact ⟨_, a.1, rfl, hs, ⟨cs, e1, e2, e3, e5⟩, fun H' p hp => .lst (L2.SqL.of hp) (L2.dw_ints _)⟩
#print axioms PySem.Challenge.cw_partedwords_s01_answers_holds
