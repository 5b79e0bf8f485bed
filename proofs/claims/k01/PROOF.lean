import PyProof.Rows.All
import Wide.All
import OpenK.AllK
import Wide.FinOn
import HandS.ForMost
import HandS.ForExc
import HandS.Star
import HandS.Property
import HandS.ClsMeth
import HandS.IsInst
import HandS.FStr
import HandS.Flow
import HandS.Walk
import HandS.RevRange
import HandS.ExcInit
import HandS.ExcField
import HandS.ExcIs
import HandS.SlotsOwn
import HandS.TupLe
import HandS.IterVal
import HandS.Style
import HandS.TupAny
import HandS.ExcOwn
import HandS.Zip
import HandS.HotCalls
import PySem.Challenge.RW_treeworks_k01_common_part
set_option Elab.async false
set_option linter.all false
set_option maxRecDepth 100000
set_option maxHeartbeats 4000000
/-! Terms and order of trees: the program's small defs about names. -/
namespace Tw
open PySem PySem.Spec PyProof.Rows L2
def top (i : Nat) : Stmt := PySem.Challenge.pw_treeworks_k01_common_part.main.body.getD i (.Pass ⟨0, 0, 0, 0⟩)
abbrev sSmall : Stmt := top 8
abbrev sCapital : Stmt := top 9
abbrev sDigit : Stmt := top 10
abbrev sBig : Stmt := top 11

/-! ### signs and names -/
def isSmall (c : Nat) : Bool := decide (97 ≤ c) && decide (c ≤ 122)
def isCap (c : Nat) : Bool := decide (65 ≤ c) && decide (c ≤ 90)
def isDig (c : Nat) : Bool := decide (48 ≤ c) && decide (c ≤ 57)
def isWord (c : Nat) : Bool := isCap c || isSmall c || isDig c
/-- the name of a digit -/
def digName : List Nat → Bool
  | [c] => isDig c
  | _ => false
/-- a big name -/
def bigName : List Nat → Bool
  | [] => false
  | c :: r => isCap c && (c :: r).all isWord && decide (r.length < 8)

def spOne (p : Nat → Bool) : Sp := fun vs H Q _ => ∃ c : Nat, vs = [.str ⟨#[c]⟩] ∧ Q (.bl (p c)) H
def spDigit : Sp := fun vs H Q _ => ∃ z : Str, vs = [.str z] ∧ z.length ≤ sizeLine ∧ Q (.bl (digName z.cps.toList)) H
def spBig : Sp := fun vs H Q _ => ∃ z : Str, vs = [.str z] ∧ z.length ≤ sizeLine ∧ ∀ H', Same H H' → Q (.bl (bigName z.cps.toList)) H'

theorem lt_one {a b : Nat} : decide (([a] : List Nat) < [b]) = decide (a < b) := by
  rcases Nat.lt_trichotomy a b with h | h | h
  · rw [decide_eq_true h]; exact decide_eq_true (List.Lex.rel h)
  · subst h
    rw [decide_eq_false (Nat.lt_irrefl a)]
    exact decide_eq_false (List.lt_irrefl _)
  · rw [decide_eq_false (Nat.lt_asymm h)]
    refine decide_eq_false fun z => ?_
    cases z with
    | rel q => exact Nat.lt_asymm h q
    | cons q => exact Nat.lt_irrefl _ h
section
variable {P : Program} {w : World} {K : PySem.W.Frag} {mg : Str → Option Value} {base : Heap}
theorem scS : FnScope ["character"] ["character"] (defScope sSmall) := ⟨rfl, rfl, rfl, by decide +kernel, rfl, by decide +kernel, by decide +kernel⟩
theorem scC : FnScope ["character"] ["character"] (defScope sCapital) := ⟨rfl, rfl, rfl, by decide +kernel, rfl, by decide +kernel, by decide +kernel⟩
theorem scD : FnScope ["name"] ["name"] (defScope sDigit) := ⟨rfl, rfl, rfl, by decide +kernel, rfl, by decide +kernel, by decide +kernel⟩
theorem scB : FnScope ["name", "sign"] ["name"] (defScope sBig) := ⟨rfl, rfl, rfl, by decide +kernel, rfl, by decide +kernel, by decide +kernel⟩
theorem one_between {lo hi c : Nat} : (if (!decide (([c] : List Nat) < [lo])) = true then (!decide (([hi] : List Nat) < [c])) else false) = (decide (lo ≤ c) && decide (c ≤ hi)) := by
  rw [lt_one, lt_one]
  by_cases h1 : c < lo <;> by_cases h2 : hi < c <;> simp [h1, h2] <;> omega
theorem ok_small {f : Addr} {fd : FuncData} (F : Fun K "is_small_letter" "is_small_letter" sSmall f fd) : FnOk P w K mg base CX0 1 f fd ["character"] (spOne isSmall) := by
  refine F.ok scS (fun vs H Q E h => ?_) (fun cdv A outer s H vs Q E hr h => ?_)
  · obtain ⟨c, rfl, _⟩ := h
    rfl
  · obtain ⟨c, rfl, q⟩ := h
    refine ⟨_, pss_one (ps_ret (pe_chain op_le_str op_le_str pe_str (pv 0) pe_str)), ?_⟩
    refine ⟨_, rfl, _, _, rfl, rfl, _, rfl, ?_⟩
    have e : (!decide (([c] : List Nat) < [97])) = true → (!decide (([122] : List Nat) < [c])) = isSmall c := fun h => by
      have := one_between (lo := 97) (hi := 122) (c := c)
      rw [if_pos h] at this
      exact this
    have e2 : ¬ (!decide (([c] : List Nat) < [97])) = true → false = isSmall c := fun h => by
      have := one_between (lo := 97) (hi := 122) (c := c)
      rw [if_neg h] at this
      exact this
    refine ite2 (fun h => ?_) (fun h => ?_)
    · refine ⟨_, _, rfl, rfl, ?_⟩
      exact (e h) ▸ q
    · exact (e2 h) ▸ q
theorem ok_capital {f : Addr} {fd : FuncData} (F : Fun K "is_capital" "is_capital" sCapital f fd) : FnOk P w K mg base CX0 1 f fd ["character"] (spOne isCap) := by
  refine F.ok scC (fun vs H Q E h => ?_) (fun cdv A outer s H vs Q E hr h => ?_)
  · obtain ⟨c, rfl, _⟩ := h
    rfl
  · obtain ⟨c, rfl, q⟩ := h
    refine ⟨_, pss_one (ps_ret (pe_chain op_le_str op_le_str pe_str (pv 0) pe_str)), ?_⟩
    refine ⟨_, rfl, _, _, rfl, rfl, _, rfl, ?_⟩
    have e : (!decide (([c] : List Nat) < [65])) = true → (!decide (([90] : List Nat) < [c])) = isCap c := fun h => by
      have := one_between (lo := 65) (hi := 90) (c := c)
      rw [if_pos h] at this
      exact this
    have e2 : ¬ (!decide (([c] : List Nat) < [65])) = true → false = isCap c := fun h => by
      have := one_between (lo := 65) (hi := 90) (c := c)
      rw [if_neg h] at this
      exact this
    refine ite2 (fun h => ?_) (fun h => ?_)
    · refine ⟨_, _, rfl, rfl, ?_⟩
      exact (e h) ▸ q
    · exact (e2 h) ▸ q
theorem dig_long {z : Str} (h : ¬ V.int (z.length : Int) = V.int 1) : digName z.cps.toList = false := by
  have h' : z.cps.toList.length ≠ 1 := fun e => h (by
    have : z.length = 1 := by rw [← e]; simp [Str.length]
    rw [this]; rfl)
  match e : z.cps.toList with
  | [] => rfl
  | [c] => rw [e] at h'; exact absurd rfl h'
  | _ :: _ :: _ => rfl
theorem one_sign {z : Str} (h : V.int (z.length : Int) = V.int 1) : ∃ c, z = ⟨#[c]⟩ := by
  have h1 : z.length = 1 := by
    have := V.int.inj h
    omega
  obtain ⟨a⟩ := z
  have h2 : a.size = 1 := h1
  refine ⟨a[0], ?_⟩
  congr
  apply Array.ext
  · simp [h2]
  · intro i hi1 hi2
    have : i = 0 := by omega
    subst this
    rfl
theorem ok_digit (ml : mg "len" = none) {f : Addr} {fd : FuncData} (F : Fun K "is_digit" "is_digit" sDigit f fd) : FnOk P w K mg base CX0 1 f fd ["name"] spDigit := by
  refine F.ok scD (fun vs H Q E h => ?_) (fun cdv A outer s H vs Q E hr h => ?_)
  · obtain ⟨c, rfl, _⟩ := h
    rfl
  · obtain ⟨z, rfl, hz, q⟩ := h
    refine ⟨_, pss_one (ps_ret (pe_and (pe_cmpR op_eq (pe_callB call_len_str rfl ml PySem.boot_len (pa_cons (pv 0) pa_nil)) pe_int (nomark _)) (pe_one (pe_chain op_le_str op_le_str pe_str (pv 0) pe_str)))), ?_⟩
    refine ⟨_, rfl, z, rfl, hz, rfl, _, rfl, ?_⟩
    refine ite2 (fun h => ?_) (fun h => ?_)
    · obtain ⟨c, rfl⟩ := one_sign (of_decide_eq_true h)
      refine ⟨_, rfl, _, _, rfl, rfl, _, rfl, ?_⟩
      have e : (!decide (([c] : List Nat) < [48])) = true → (!decide (([57] : List Nat) < [c])) = isDig c := fun h => by
        have := one_between (lo := 48) (hi := 57) (c := c)
        rw [if_pos h] at this
        exact this
      have e2 : ¬ (!decide (([c] : List Nat) < [48])) = true → false = isDig c := fun h => by
        have := one_between (lo := 48) (hi := 57) (c := c)
        rw [if_neg h] at this
        exact this
      refine ite2 (fun h => ?_) (fun h => ?_)
      · refine ⟨_, _, rfl, rfl, ?_⟩
        exact (e h) ▸ q
      · exact (e2 h) ▸ q
    · have e := dig_long (of_decide_eq_false (Bool.eq_false_iff.mpr h))
      exact e ▸ q
/-- what the top leaves for these -/
structure TxtN (K : PySem.W.Frag) (mg : Str → Option Value) (fS fC fD : Addr) : Prop where
  len : mg "len" = none
  all : mg "all" = none
  mSize : mg "MOST_CHARACTERS" = some (.int 8 0) ∨ ∃ t, mg "MOST_CHARACTERS" = some (.int 8 t)
  gS : mg "is_small_letter" = some (.ref fS)
  gC : mg "is_capital" = some (.ref fC)
  gD : mg "is_digit" = some (.ref fD)
end
end Tw
set_option maxHeartbeats 4000000
/-! Short words: a def by a positional promise, its call; trees, in Lean and in the heap. -/
namespace Tw
open PySem PySem.Spec PyProof.Rows L2
/-- a global def as callers see it -/
structure Gf (K : PySem.W.Frag) (mg : Str → Option Value) (x : Str) (f : Addr) : Prop where
  m : mg x = some (.ref f)
  k : PySem.W.keepIn K (.ref f) = true
def tCf (sp : Sp) (E : XK) (t : TA) : TE := fun σ H Q => t σ H fun vs H1 => sp vs H1 Q E
section
variable {X : Cx} {CX : CXT} {k : Nat} {f : Addr} {sp : Sp} {E : XK} {x : Str} {e : Expr} {es : List Expr} {t : TA} {p pos : Pos}
theorem pe_cf (F : FnR X.prog X.w X.K X.mg X.base CX k f sp) (hr : Room k X.A) (g : Gf X.K X.mg x f) (hx : Passes CX X E) (ha : PA X (e :: es) t) (hg : Gl X x := by rfl) (hdb : (x == ("__debug__" : Str)) = false := by decide)
    (he : starEach (e :: es) X.env = (false, eval e X.env) :: starEach es X.env := by rfl) (hpl : (backTo pos (starEach es X.env)).any (·.1) = false := by rfl) : PE X (.Call (.Name x p) (e :: es) [] pos) (tCf sp E t) := by
  refine ⟨fun pins s σ H Q I h => ?_⟩
  refine wpAny_Call_Name_kw (ld_glob I hg g.m ?_ hdb)
  refine PySem.W.callWith_K (h₀ := X.base) I.ok.mod.kin g.k (thn (ha.run pos pins s σ H _ I h) fun us s1 ⟨vs, H1, I1, r, q⟩ => ⟨I1.kIn, ?_⟩) he hpl
  exact wpAny_call (run_fnR F hr hx I1 r q)
end
section
variable {P : Program} {w : World} {K : PySem.W.Frag} {mg : Str → Option Value} {base : Heap}
/-- a def, by its body, to its positional promise -/
theorem okR {x qual : Str} {st : Stmt} {f : Addr} {fd : FuncData} {N ps : List Str} {k : Nat} {sp : Sp} (F : Fun K x qual st f fd) (S : FnScope N ps (defScope st)) (len : ∀ vs H Q E, sp vs H Q E → vs.length = ps.length)
    (hb : ∀ (kV doc pm : Value) (an : Option Addr) (cdv ct : Value) (us : List Value), us.length = ps.length → bindArgs (PySem.W.fnOf x qual (defArgs st) (defBody st) (defScope st) .none kV doc pm an cdv ct) ⟨us, []⟩ = pure (ps.zip us))
    (hbody : ∀ (cdv : Value) (A : Around) (outer : List Env) (s : Shared) (H : Hp) (vs : List V) (Q : VK) (E : XK), Room k (A.deeper (envOfC qual (defScope st) s.heap.objs.size f cdv)) → sp vs H Q E →
      ∃ t, PSs (cxOf CX0 P w K mg base N qual (defScope st) f cdv A outer s H E).nox (defBody st) t ∧ t { nx := fun _ H' => Q .non H', rt := Q } (start N vs) H) : FnR P w K mg base CX0 (k + 1) f sp :=
  ((F.ok S len hbody).raw (F.binds hb) .nil).imp fun vs H Q E h => by rw [List.append_nil]; exact h
end
/-! ### terms -/
inductive T where
  | node (n : Str) (ps : List T)
mutual
def T.size : T → Nat
  | .node _ ps => 1 + T.sizes ps
def T.sizes : List T → Nat
  | [] => 0
  | t :: r => t.size + T.sizes r
end
mutual
def T.levels : T → Nat
  | .node _ ps => 1 + T.mostFrom 0 ps
def T.mostFrom : Nat → List T → Nat
  | m, [] => m
  | m, t :: r => T.mostFrom (if t.levels > m then t.levels else m) r
end
mutual
def T.term : T → Str
  | .node n [] => n
  | .node n (t :: r) => n ++ "(" ++ Txt.join ", " (t.term :: T.terms r) ++ ")"
def T.terms : List T → List Str
  | [] => []
  | t :: r => t.term :: T.terms r
end
mutual
def T.gaps : T → Nat
  | .node n ps => if n = "_" ∧ ps = [] then 1 else T.gapsL ps
def T.gapsL : List T → Nat
  | [] => 0
  | t :: r => t.gaps + T.gapsL r
end
def T.name : T → Str
  | .node n _ => n
def T.parts : T → List T
  | .node _ ps => ps
/-! ### trees in the heap -/
def fT (p : Addr) (t : T) : List (Str × V) := [("name", .str t.name), ("parts", .ref p), ("size", .int t.size), ("levels", .int t.levels), ("term", .str t.term), ("_gaps", .int t.gaps)]
mutual
/-- v is a Tree object of the class at C that stands for t -/
def TreeAt (C : Addr) (H : Hp) : V → T → Prop
  | v, .node n ps => ∃ a dx p vs, v = .ref a ∧ H a = some (.ins C dx (fT p (.node n ps))) ∧ H p = some (.tup vs) ∧ TreesAt C H vs ps
def TreesAt (C : Addr) (H : Hp) : List V → List T → Prop
  | [], [] => True
  | v :: vs, t :: ts => TreeAt C H v t ∧ TreesAt C H vs ts
  | [], _ :: _ => False
  | _ :: _, [] => False
end
theorem TreeAt.ex {C : Addr} {H : Hp} {v : V} {t : T} (h : TreeAt C H v t) : ∃ a dx p vs, v = .ref a ∧ H a = some (.ins C dx (fT p t)) ∧ H p = some (.tup vs) ∧ TreesAt C H vs t.parts := by
  cases t with
  | node n ps =>
    unfold TreeAt at h
    exact h
theorem TreeAt.mk {C : Addr} {H : Hp} {a dx p : Addr} {vs : List V} {t : T} (h1 : H a = some (.ins C dx (fT p t))) (h2 : H p = some (.tup vs)) (h3 : TreesAt C H vs t.parts) : TreeAt C H (.ref a) t := by
  cases t with
  | node n ps =>
    unfold TreeAt
    exact ⟨a, dx, p, vs, rfl, h1, h2, h3⟩
theorem TreesAt.len {C : Addr} {H : Hp} : ∀ {vs : List V} {ts : List T}, TreesAt C H vs ts → vs.length = ts.length
  | [], [], _ => rfl
  | _ :: _, _ :: _, h => by
    unfold TreesAt at h
    rw [List.length_cons, List.length_cons, TreesAt.len h.2]
  | [], _ :: _, h => by unfold TreesAt at h; exact h.elim
  | _ :: _, [], h => by unfold TreesAt at h; exact h.elim
theorem TreesAt.get {C : Addr} {H : Hp} : ∀ {vs : List V} {ts : List T} {i : Nat} {v : V}, TreesAt C H vs ts → vs[i]? = some v → ∃ t, ts[i]? = some t ∧ TreeAt C H v t
  | [], _, i, v, _, e => by simp at e
  | v' :: vs, t :: ts, 0, v, h, e => by
    unfold TreesAt at h
    have : v' = v := by simpa using e
    subst this
    exact ⟨t, rfl, h.1⟩
  | v' :: vs, t :: ts, i + 1, v, h, e => by
    unfold TreesAt at h
    obtain ⟨t', e', h'⟩ := TreesAt.get (i := i) (v := v) h.2 (by simpa using e)
    exact ⟨t', by simpa using e', h'⟩
  | _ :: _, [], _, _, h, _ => by unfold TreesAt at h; exact h.elim
theorem TreesAt.snoc {C : Addr} {H : Hp} {v : V} {t : T} (h1 : TreeAt C H v t) : ∀ {vs : List V} {ts : List T}, TreesAt C H vs ts → TreesAt C H (vs ++ [v]) (ts ++ [t])
  | [], [], _ => by
    show TreesAt C H [v] [t]
    unfold TreesAt
    exact ⟨h1, by unfold TreesAt; trivial⟩
  | _ :: _, _ :: _, h => by
    unfold TreesAt at h
    show TreesAt C H (_ :: (_ ++ [v])) (_ :: (_ ++ [t]))
    unfold TreesAt
    exact ⟨h.1, TreesAt.snoc h1 h.2⟩
  | [], _ :: _, h => by unfold TreesAt at h; exact h.elim
  | _ :: _, [], h => by unfold TreesAt at h; exact h.elim
mutual
theorem TreeAt.mono {C : Addr} {H H' : Hp} (s : Same H H') : ∀ {v : V} {t : T}, TreeAt C H v t → TreeAt C H' v t
  | v, .node n ps, h => by
    obtain ⟨a, dx, p, vs, rfl, h1, h2, h3⟩ := h.ex
    exact .mk (s _ _ h1) (s _ _ h2) (TreesAt.mono s h3)
theorem TreesAt.mono {C : Addr} {H H' : Hp} (s : Same H H') : ∀ {vs : List V} {ts : List T}, TreesAt C H vs ts → TreesAt C H' vs ts
  | [], [], _ => by unfold TreesAt; trivial
  | v :: vs, t :: ts, h => by
    unfold TreesAt at h ⊢
    exact ⟨TreeAt.mono s h.1, TreesAt.mono s h.2⟩
  | [], _ :: _, h => by unfold TreesAt at h; exact h.elim
  | _ :: _, [], h => by unfold TreesAt at h; exact h.elim
end
end Tw
set_option maxHeartbeats 4000000
/-! most_levels. -/
namespace Tw
open PySem PySem.Spec PyProof.Rows L2
abbrev sTree (j : Nat) : Stmt := inClass (top 15) j
abbrev sMost : Stmt := top 18
theorem nameNe : (("parts" : Str) == ("name" : Str)) = false ∧ (("size" : Str) == ("name" : Str)) = false ∧ (("size" : Str) == ("parts" : Str)) = false ∧ (("levels" : Str) == ("name" : Str)) = false ∧ (("levels" : Str) == ("parts" : Str)) = false ∧ (("levels" : Str) == ("size" : Str)) = false ∧
    (("term" : Str) == ("name" : Str)) = false ∧ (("term" : Str) == ("parts" : Str)) = false ∧ (("term" : Str) == ("size" : Str)) = false ∧ (("term" : Str) == ("levels" : Str)) = false ∧
    (("_gaps" : Str) == ("name" : Str)) = false ∧ (("_gaps" : Str) == ("parts" : Str)) = false ∧ (("_gaps" : Str) == ("size" : Str)) = false ∧ (("_gaps" : Str) == ("levels" : Str)) = false ∧ (("_gaps" : Str) == ("term" : Str)) = false := by decide +kernel
section
variable {p : Addr} {t : T}
theorem fT_name : (fT p t).lookup ("name" : Str) = some (.str t.name) := by simp only [fT, List.lookup, beq_self_eq_true]
theorem fT_parts : (fT p t).lookup ("parts" : Str) = some (.ref p) := by simp only [fT, List.lookup, beq_self_eq_true, nameNe]
theorem fT_size : (fT p t).lookup ("size" : Str) = some (.int t.size) := by simp only [fT, List.lookup, beq_self_eq_true, nameNe]
theorem fT_levels : (fT p t).lookup ("levels" : Str) = some (.int t.levels) := by simp only [fT, List.lookup, beq_self_eq_true, nameNe]
theorem fT_term : (fT p t).lookup ("term" : Str) = some (.str t.term) := by simp only [fT, List.lookup, beq_self_eq_true, nameNe]
theorem fT_gaps : (fT p t).lookup ("_gaps" : Str) = some (.int t.gaps) := by simp only [fT, List.lookup, beq_self_eq_true, nameNe]
end
/-- what the top says of the class Tree, as far as its fields go -/
structure Tt (K : PySem.W.Frag) (C : Addr) : Prop where
  cl : Cls K C
  nName : NoAttr K C "name"
  nParts : NoAttr K C "parts"
  nSize : NoAttr K C "size"
  nLevels : NoAttr K C "levels"
  nTerm : NoAttr K C "term"
  nGaps : NoAttr K C "_gaps"
theorem take_snoc {α : Type} : ∀ {l : List α} {i : Nat} {x : α}, l[i]? = some x → l.take (i + 1) = l.take i ++ [x]
  | [], i, x, h => by simp at h
  | a :: l, 0, x, h => by
    have e : a = x := Option.some.inj h
    subst e
    rfl
  | a :: l, i + 1, x, h => by
    have ih := take_snoc (l := l) (i := i) (x := x) h
    show a :: l.take (i + 1) = a :: l.take i ++ [x]
    rw [ih]
    rfl
theorem mostFrom_snoc (t : T) : ∀ (l : List T) (m : Nat), T.mostFrom m (l ++ [t]) = if t.levels > T.mostFrom m l then t.levels else T.mostFrom m l
  | [], m => by
    show T.mostFrom (if t.levels > m then t.levels else m) [] = _
    unfold T.mostFrom
    rfl
  | a :: l, m => by
    show T.mostFrom m (a :: (l ++ [t])) = _
    unfold T.mostFrom
    exact mostFrom_snoc t l _
def spMost (K : PySem.W.Frag) (C : Addr) : Sp := fun vs H Q _ => ∃ (p : Addr) (ws : List V) (ts : List T), vs = [.ref p] ∧ SqT K H p ws ∧ TreesAt C H ws ts ∧ Q (.int (T.mostFrom 0 ts : Nat)) H
section
variable {P : Program} {w : World} {K : PySem.W.Frag} {mg : Str → Option Value} {base : Heap} {C : Addr}
theorem scM : FnScope ["trees", "most", "tree"] ["trees"] (defScope sMost) := ⟨rfl, rfl, rfl, by decide +kernel, rfl, by decide +kernel, by decide +kernel⟩
theorem ok_most (T1 : Tt K C) {f : Addr} {fd : FuncData} (F : Fun K "most_levels" "most_levels" sMost f fd) : FnR P w K mg base CX0 1 f (spMost K C) := by
  refine okR F scM (fun vs H Q E h => ?_) (fun _ _ _ _ _ _ us hl => match us, hl with | [_], _ => rfl) (fun cdv A outer s H vs Q E hr h => ?_)
  · obtain ⟨p, ws, ts, rfl, _⟩ := h
    rfl
  · obtain ⟨p, ws, ts, rfl, hp, ht, q⟩ := h
    refine ⟨_, pss_cons (ps_set (i := 1) scM.nd rfl (Or.inl rfl) pe_int)
      (pss_cons (ps_for PassesOwn.never rfl (pi_tup (pv 0)) (pg_name (i := 2) scM.nd rfl (Or.inl rfl))
        (pss_one (ps_if (pt_cmpR op_gt (pe_fld (pv 2) rfl) (pv 1) (nomark _)) (pss_one (ps_set (i := 1) scM.nd rfl (Or.inl rfl) (pe_fld (pv 2) rfl))) pss_nil)))
      (pss_one (ps_ret (pv 1)))), ?_⟩
    refine ⟨_, rfl, p, rfl, ⟨_, hp⟩, for_tup (K := K) (a := p) (xs := ws) (fun i σ H' => H' = H ∧ ∃ v, σ = [some (.ref p), some (.int (T.mostFrom 0 (ts.take i) : Nat)), v])
      ⟨rfl, none, rfl⟩ (fun i σ H' _ ⟨e, _⟩ => e ▸ hp) ?_ ?_⟩
    · rintro i x σ H' hi ⟨rfl, v, rfl⟩
      obtain ⟨t, e, ha⟩ := ht.get hi
      obtain ⟨a, dx, p', vs', rfl, h1, h2, h3⟩ := ha.ex
      refine ⟨_, rfl, a, C, dx, _, _, rfl, h1, T1.cl, T1.nLevels, fT_levels, _, rfl, _, _, rfl, rfl, _, rfl, ?_⟩
      have en : T.mostFrom 0 (ts.take (i + 1)) = if t.levels > T.mostFrom 0 (ts.take i) then t.levels else T.mostFrom 0 (ts.take i) := by
        rw [take_snoc e, mostFrom_snoc]
      refine ite2 (fun c => ?_) (fun c => ?_)
      · have c' : t.levels > T.mostFrom 0 (ts.take i) := by
          have := of_decide_eq_true c
          omega
        refine ⟨_, rfl, a, C, dx, _, _, rfl, h1, T1.cl, T1.nLevels, fT_levels, rfl, some (.ref a), ?_⟩
        rw [en, if_pos c']
        rfl
      · have c' : ¬ t.levels > T.mostFrom 0 (ts.take i) := by
          have := of_decide_eq_false (Bool.eq_false_iff.mpr c)
          omega
        refine ⟨rfl, some (.ref a), ?_⟩
        rw [en, if_neg c']
        rfl
    · rintro σ H' ⟨rfl, v, rfl⟩
      rw [ht.len, List.take_length]
      exact ⟨_, rfl, q⟩
end
end Tw
set_option maxHeartbeats 4000000
/-! Tree.__init__. -/
namespace Tw
open PySem PySem.Spec PyProof.Rows L2
/-- a comprehension whose element is found without a change of the heap: ys[i] of xs[i] -/
theorem lc_map {J : It} {xs ys : List V} {G : Hp → Prop} (w : Walk J xs.length G (YAt xs)) {g : TG} {te : TE} {vs : List Nat} {σ : L2.St} {H1 : Hp} {D : Addr} {Qd : Hp → Prop} (hD : H1 D = none) (hG : ∀ H, Same H1 H → G H) (hl : ys.length = xs.length) (hz : xs.length ≤ sizeLine)
    (hs : ∀ (i : Nat) x y H (R : VK), xs[i]? = some x → ys[i]? = some y → Same H1 H → R y H → g x (wipe σ vs) H fun σ2 H2 => wipe σ2 vs = wipe σ vs ∧ te σ2 H2 R)
    (hd : Qd (upd H1 D (.lst ys))) :
    ∃ W : Nat → Nat → Hp → Prop, (∃ m, W 0 m (upd H1 D (.lst []))) ∧ ∀ i m H, W i m H →
      (J.stop i H ∧ Qd H) ∨ (J.go i H ∧ ∃ Nx : Hp → Prop, (∀ H', Nx H' → ∃ m', m' < m ∧ W (i + 1) m' H') ∧ ∀ x H', J.yld i H x H' → g x (wipe σ vs) H' fun σ2 H2 => wipe σ2 vs = wipe σ vs ∧ tYes σ2 H2 fun b H3 =>
        if b = true then te σ2 H3 fun y H4 => ∃ acc, H4 D = some (.lst acc) ∧ acc.length < sizeLine ∧ Nx (upd H4 D (.lst (acc ++ [y]))) else Nx H3) := by
  have same : ∀ zs : List V, Same H1 (upd H1 D (.lst zs)) := fun zs b o e => by rw [upd_ne (ne_of_none e hD)]; exact e
  refine lc_it w (fun i H => H = upd H1 D (.lst (ys.take i))) rfl (fun i H _ e => e ▸ hG _ (same _)) (fun i x H H' hi e y => ?_) (fun H e => ?_)
  · obtain ⟨rfl, hx⟩ := y
    have hi' : i < ys.length := by omega
    have hy : ys[i]? = some ys[i] := by simp [hi']
    have := hs i x ys[i] H' (fun y H4 => ∃ acc, H4 D = some (.lst acc) ∧ acc.length < sizeLine ∧ upd H4 D (.lst (acc ++ [y])) = upd H1 D (.lst (ys.take (i + 1)))) hx hy (e ▸ same _) ⟨ys.take i, by rw [e, upd_same], by rw [List.length_take]; omega, by rw [e, upd_upd, take_snoc hy]⟩
    exact this
  · subst e
    rw [← hl, List.take_length]
    exact hd
section
variable {X : Cx} {x : Str} {pos : Pos}
theorem pe_gs {z : Str} {tk : Tok} (hm : X.mg x = some (.str z tk)) (hg : Gl X x := by rfl) (hd : (x == ("__debug__" : Str)) = false := by decide) : PE X (.Name x pos) (tC (.str z)) := pe_glob hg hm ⟨tk, rfl⟩ hd
theorem pe_gi {z : Int} {tk : Tok} (hm : X.mg x = some (.int z tk)) (hg : Gl X x := by rfl) (hd : (x == ("__debug__" : Str)) = false := by decide) : PE X (.Name x pos) (tC (.int z)) := pe_glob hg hm ⟨tk, rfl⟩ hd
theorem pe_gr {a : Addr} (hm : X.mg x = some (.ref a)) (hg : Gl X x := by rfl) (hd : (x == ("__debug__" : Str)) = false := by decide) : PE X (.Name x pos) (tC (.ref a)) := pe_glob hg hm rfl hd
end
abbrev sInit : Stmt := sTree 2
section
variable {P : Program} {w : World} {K : PySem.W.Frag} {mg : Str → Option Value} {base : Heap} {C : Addr}
/-- a def with one star parameter behind its others -/
theorem okStar {x qual : Str} {st : Stmt} {f : Addr} {fd : FuncData} {N ps : List Str} {pv : Str} {k : Nat} {sp : Sp} (F : Fun K x qual st f fd) (S : FnScope N (ps ++ [pv]) (defScope st))
    (hb : ∀ (kV doc pm : Value) (an : Option Addr) (cdv ct : Value) (us rest : List Value), us.length = ps.length → bindArgs (PySem.W.fnOf x qual (defArgs st) (defBody st) (defScope st) .none kV doc pm an cdv ct) ⟨us ++ rest, []⟩ = (newTuple rest >>= fun t => pure (ps.zip us ++ [(pv, t)])))
    (hbody : ∀ (cdv : Value) (A : Around) (outer : List Env) (s : Shared) (H : Hp) (vs : List V) (Q : VK) (E : XK), Room k (A.deeper (envOfC qual (defScope st) s.heap.objs.size f cdv)) → sp vs H Q E →
      ∃ t, PSs (cxOf CX0 P w K mg base N qual (defScope st) f cdv A outer s H E).nox (defBody st) t ∧ t { nx := fun _ H' => Q .non H', rt := Q } (start N vs) H) :
    FnR P w K mg base CX0 (k + 1) f (fun vs H Q E => ∃ ws rest, vs = ws ++ rest ∧ ws.length = ps.length ∧ rest.length ≤ sizeLine ∧ ∀ p, H p = none → sp (ws ++ [V.ref p]) (upd H p (.tup rest)) Q E) := by
  obtain ⟨oc, od, kV, doc, pm, an, cdv, ct, osl, rfl, lk, hcd⟩ := F.ex
  refine StX.fn_star lk hcd S StX.cxUp_none (hb kV doc pm an cdv ct) fun A outer s H vs Q E hr h => ?_
  obtain ⟨t, h1, h2⟩ := hbody cdv A outer s H vs Q E hr h
  exact ⟨t, h1.nox, h2⟩
end
theorem putF_len (f : Str) (v : V) : ∀ fs : List (Str × V), (putF f v fs).length ≤ fs.length + 1
  | [] => Nat.le_refl _
  | (g, x) :: r => by
    unfold putF
    split
    · exact Nat.le_succ _
    · exact Nat.succ_le_succ (putF_len f v r)
theorem putF_new (f : Str) (v : V) : ∀ fs : List (Str × V), fs.lookup f = none → putF f v fs = fs ++ [(f, v)]
  | [], _ => rfl
  | (g, x) :: r, h => by
    unfold putF
    by_cases e : g = f
    · subst e
      simp [List.lookup] at h
    · rw [if_neg e]
      have e' : (f == g) = false := by simpa using fun z => e z.symm
      simp only [List.lookup, e'] at h
      rw [putF_new f v r h]
      rfl
/-- an instance that is being filled; all else as it was -/
structure StI (C a dx : Addr) (H H' : Hp) (fs : List (Str × V)) : Prop where
  at_ : H' a = some (.ins C dx fs)
  kp : ∀ b o, H b = some o → b ≠ a → H' b = some o
theorem StI.store {C a dx : Addr} {H H' : Hp} {fs : List (Str × V)} (s : StI C a dx H H' fs) (f : Str) (v : V) : StI C a dx H (upd H' a (.ins C dx (putF f v fs))) (putF f v fs) :=
  ⟨upd_same, fun b o e n => by rw [upd_ne n]; exact s.kp b o e n⟩
theorem StI.add {C a dx D : Addr} {H H' : Hp} {fs : List (Str × V)} {o : HO} (s : StI C a dx H H' fs) (hD : H' D = none) : StI C a dx H (upd H' D o) fs :=
  ⟨by rw [upd_ne (ne_of_none s.at_ hD)]; exact s.at_, fun b o e n => by rw [upd_ne (ne_of_none (s.kp b o e n) hD)]; exact s.kp b o e n⟩
theorem StI.same {C a dx : Addr} {H H1 H2 : Hp} {fs : List (Str × V)} (s : StI C a dx H H1 fs) (k : Same H1 H2) : StI C a dx H H2 fs :=
  ⟨k _ _ s.at_, fun b o e n => k _ _ (s.kp b o e n)⟩
def Tm (t : T) : Nat := t.term.length
/-- the sizes of a term's texts as the model bounds them -/
def TermFits (n : Str) (ts : List T) : Prop := n.length ≤ 1000000 ∧ ts.length ≤ 1000000 ∧ ((T.terms ts).map (·.length)).sum + ts.length * 2 ≤ 4000000
def spInit (C : Addr) : Sp := fun vs H Q _ => ∃ (a dx p : Addr) (n : Str) (ws : List V) (ts : List T), vs = [.ref a, .str n, .ref p] ∧ H a = some (.ins C dx []) ∧ H p = some (.tup ws) ∧ a ≠ p ∧ (∀ H', (∀ b o, H b = some o → b ≠ a → H' b = some o) → TreesAt C H' ws ts) ∧ TermFits n ts ∧
  ∀ H', H' a = some (.ins C dx (fT p (.node n ts))) → (∀ b o, H b = some o → b ≠ a → H' b = some o) → Q .non H'
theorem TreesAt.ints {C : Addr} {H : Hp} {ws : List V} {ts : List T} (h : TreesAt C H ws ts) {i : Nat} {x : V} (hx : ws[i]? = some x) : ∃ t a dx p, ts[i]? = some t ∧ x = .ref a ∧ H a = some (.ins C dx (fT p t)) := by
  obtain ⟨t, e, ht⟩ := h.get hx
  obtain ⟨a, dx, p, vs, rfl, h1, _, _⟩ := ht.ex
  exact ⟨t, a, dx, p, e, rfl, h1⟩
theorem sizes_sum : ∀ ts : List T, (ts.map fun t => (t.size : Int)).sum = (T.sizes ts : Int)
  | [] => rfl
  | t :: r => by
    unfold T.sizes
    rw [List.map_cons, List.sum_cons, sizes_sum r]
    omega
theorem gaps_sum : ∀ ts : List T, (ts.map fun t => (t.gaps : Int)).sum = (T.gapsL ts : Int)
  | [] => rfl
  | t :: r => by
    unfold T.gapsL
    rw [List.map_cons, List.sum_cons, gaps_sum r]
    omega
theorem terms_map : ∀ ts : List T, T.terms ts = ts.map T.term
  | [] => rfl
  | t :: r => by
    unfold T.terms
    rw [List.map_cons, terms_map r]
theorem get_map {α : Type} {f : T → α} {ts : List T} {i : Nat} {t : T} {y : α} (e : ts[i]? = some t) (h : (ts.map f)[i]? = some y) : y = f t := by
  rw [List.getElem?_map, e] at h
  exact (Option.some.inj h).symm
theorem empty_add (n : Str) : Str.empty ++ n = n := by
  obtain ⟨c⟩ := n
  show (⟨#[] ++ c⟩ : Str) = ⟨c⟩
  simp
theorem add_len (a b : Str) : (a ++ b).length = a.length + b.length := by
  obtain ⟨a⟩ := a
  obtain ⟨b⟩ := b
  show (a ++ b).size = a.size + b.size
  simp
theorem term_cons (n : Str) : ∀ {ts : List T}, ts ≠ [] → T.term (.node n ts) = n ++ "(" ++ Txt.join ", " (T.terms ts) ++ ")"
  | [], h => absurd rfl h
  | t :: r, _ => by
    simp only [T.term, T.terms]
theorem fT_built (p : Addr) (n : Str) (ts : List T) : putF "_gaps" (.int (T.gaps (.node n ts))) (putF "term" (.str (T.term (.node n ts))) (putF "levels" (.int (1 + (T.mostFrom 0 ts : Nat))) (putF "size" (.int (1 + (ts.map fun t => (t.size : Int)).sum)) (putF "parts" (.ref p) (putF "name" (.str n) []))))) = fT p (.node n ts) := by
  have e1 : (1 + (ts.map fun t => (t.size : Int)).sum) = ((T.node n ts).size : Int) := by
    rw [sizes_sum]
    unfold T.size
    omega
  have e2 : (1 + (T.mostFrom 0 ts : Nat) : Int) = ((T.node n ts).levels : Int) := by
    unfold T.levels
    omega
  rw [e1, e2]
  rw [putF_new "name" _ [] rfl, putF_new "parts" _ _ (by simp [List.lookup, nameNe]), putF_new "size" _ _ (by simp [List.lookup, nameNe]), putF_new "levels" _ _ (by simp [List.lookup, nameNe]), putF_new "term" _ _ (by simp [List.lookup, nameNe]), putF_new "_gaps" _ _ (by simp [List.lookup, nameNe])]
  rfl
theorem join_len : ∀ ys : List Str, (Txt.join ", " ys).length ≤ (ys.map (·.length)).sum + ys.length * 2
  | [] => by rw [TL.join_eq] <;> exact Nat.zero_le _
  | [y] => by
    rw [TL.join_eq]
    show y.length ≤ _
    simp
  | y :: z :: r => by
    have ih := join_len (z :: r)
    have e : Txt.join ", " (y :: z :: r) = y ++ ", " ++ Txt.join ", " (z :: r) := by rw [TL.join_eq, TL.join_eq] <;> rfl
    rw [e, add_len, add_len]
    have e2 : (", " : Str).length = 2 := by decide
    rw [e2, List.map_cons, List.sum_cons, List.length_cons]
    omega
section
variable {K : PySem.W.Frag} {H : Hp} {p : Addr} {ws : List V} {n : Str} {ts : List T} {σ : L2.St} {Q : VK}
theorem rd_term (h1 : σ[1]? = some (some (.str n))) (h2 : σ[2]? = some (some (.ref p))) (h3 : σ[3]? = some (some (.str (Txt.join ", " (T.terms ts))))) (hp : SqT K H p ws) (el : ws.length = ts.length) (hfit : TermFits n ts) (q : Q (.str (T.term (.node n ts))) H) :
    tIf (fun σ H Q => tVar 2 σ H fun x H' => ∃ k, TruV K x H' k ∧ Q k H') (fun σ H Q => tJs [tFmt (tVar 1), tC (V.str "("), tFmt (tVar 3), tC (V.str ")")] Str.empty σ H fun out H1 => Q (V.str out) H1) (tVar 1) σ H Q := by
  refine ⟨_, h2, !ws.isEmpty, .inr (.inl ⟨ws, hp, rfl⟩), ?_⟩
  cases ws with
  | nil =>
    have e : ts = [] := List.eq_nil_of_length_eq_zero el.symm
    subst e
    refine iteF ⟨_, h1, ?_⟩
    have e : T.term (.node n []) = n := by unfold T.term; rfl
    exact e ▸ q
  | cons x r =>
    have ne : ts ≠ [] := fun e => by subst e; simp at el
    refine iteT ?_
    obtain ⟨l1, l2, l3⟩ := hfit
    have hs := sizeLine_eq
    have lt : (T.terms ts).length = ts.length := by rw [terms_map, List.length_map]
    have lj := join_len (T.terms ts)
    have lo : ("(" : Str).length = 1 := by decide
    have lc : (")" : Str).length = 1 := by decide
    rw [lt] at lj
    have b1 : (Str.empty ++ n).length ≤ sizeLine := by rw [empty_add]; omega
    have b2 : (Str.empty ++ n ++ "(").length ≤ sizeLine := by rw [empty_add, add_len]; omega
    have b3 : (Str.empty ++ n ++ "(" ++ Txt.join ", " (T.terms ts)).length ≤ sizeLine := by rw [empty_add, add_len, add_len]; omega
    have b4 : (Str.empty ++ n ++ "(" ++ Txt.join ", " (T.terms ts) ++ ")").length ≤ sizeLine := by rw [empty_add, add_len, add_len, add_len]; omega
    refine ⟨_, h1, .inl ⟨n, rfl, by omega, n, rfl, b1, _, rfl, b2, _, h3, .inl ⟨_, rfl, by omega, _, rfl, b3, _, rfl, b4, ?_⟩⟩⟩
    have e : Str.empty ++ n ++ "(" ++ Txt.join ", " (T.terms ts) ++ ")" = T.term (.node n ts) := by rw [term_cons n ne, empty_add]
    show Q (V.str (Str.empty ++ n ++ "(" ++ Txt.join ", " (T.terms ts) ++ ")")) H
    rw [e]
    exact q
end
section
variable {P : Program} {w : World} {K : PySem.W.Frag} {mg : Str → Option Value} {base : Heap} {C : Addr}
theorem scI : FnScope ["self", "name", "parts", "terms", "part"] ((["self", "name"] : List Str) ++ [("parts" : Str)]) (defScope sInit) := ⟨rfl, rfl, rfl, by decide +kernel, rfl, by decide +kernel, by decide +kernel⟩
theorem ok_init (T1 : Tt K C) {fm : Addr} (gm : Gf K mg "most_levels" fm) (Fm : FnR P w K mg base CX0 1 fm (spMost K C)) {tk : Tok} (hH : mg "HOLE" = some (.str "_" tk)) (hs : mg "sum" = none) {f : Addr} {fd : FuncData} (F : Fun K "__init__" "Tree.__init__" sInit f fd) :
    FnR P w K mg base CX0 3 f (fun vs H Q E => ∃ ws rest, vs = ws ++ rest ∧ ws.length = (["self", "name"] : List Str).length ∧ rest.length ≤ sizeLine ∧ ∀ p, H p = none → spInit C (ws ++ [V.ref p]) (upd H p (.tup rest)) Q E) := by
  refine okStar (ps := ["self", "name"]) (pv := "parts") F scI (fun kV doc pm an cdv ct => StX.bind_star2 (p1 := "self") (p2 := "name") (pv := "parts") (B := fun us => bindArgs (PySem.W.fnOf "__init__" "Tree.__init__" (defArgs sInit) (defBody sInit) (defScope sInit) .none kV doc pm an cdv ct) ⟨us, []⟩) (fun _ _ => rfl) (fun _ _ _ _ => rfl)) (fun cdv A outer s H vs Q E hr h => ?_)
  obtain ⟨a, dx, p, n, ws, ts, rfl, ha, hp, nap, hts, hfit, q⟩ := h
  have hr1 : Room 1 _ := hr.mono (by decide)
  refine ⟨_, pss_cons (ps_fld (pv 0) (pv 1) rfl) (pss_cons (ps_fld (pv 0) (pv 2) rfl)
    (pss_cons (ps_fld (pv 0) (pe_op op_add pe_int (pe_callB (cr_sum rfl) (by rfl) hs (by decide +kernel) (pa_cons
        (pe_lc (own := [("part", 4)]) (g := gName 4) (tt := tYes) (te := tFld K (tVar 4) "size") rfl scI.nd (pi_tup (pv 2)) (blkOk_by (own := [("part", 4)]) (N := ["self", "name", "parts", "terms", "part"]) (sc := defScope sInit) (by decide +kernel)) (fun _ _ _ _ _ => by exact pg_name (i := 4) scI.nd rfl (Or.inl rfl)) (fun _ _ _ _ _ => by exact pts_nil) (fun _ _ _ _ _ => by exact pe_fld (pv 4) rfl)) pa_nil))) rfl)
    (pss_cons (ps_fld (pv 0) (pe_op op_add pe_int (pe_cf Fm hr1 gm pass0 (pa_cons (pv 2) pa_nil))) rfl)
    (pss_cons (ps_set (i := 3) scI.nd rfl (Or.inl rfl) (pe_join pe_str 
        (pe_lc (own := [("part", 4)]) (g := gName 4) (tt := tYes) (te := tFld K (tVar 4) "term") rfl scI.nd (pi_tup (pv 2)) (blkOk_by (own := [("part", 4)]) (N := ["self", "name", "parts", "terms", "part"]) (sc := defScope sInit) (by decide +kernel)) (fun _ _ _ _ _ => by exact pg_name (i := 4) scI.nd rfl (Or.inl rfl)) (fun _ _ _ _ _ => by exact pts_nil) (fun _ _ _ _ _ => by exact pe_fld (pv 4) rfl))))
    (pss_cons (ps_fld (pv 0) (pe_ifExp (pt_truth (pv 2) (by intro _; rfl)) (pe_joined (.cons (pe_fmt (pv 1)) (.cons pe_str (.cons (pe_fmt (pv 3)) (.cons pe_str .nil))))) (pv 1)) rfl)
    (pss_one (ps_fld (pv 0) (pe_ifExp (PW.pt (pw_and (pt_cmpR op_eq (pv 1) (pe_gs hH) (nomark _)) (pw_and1 (pt_not (pt_truth (pv 2) (by intro _; rfl)))))) pe_int
        (pe_callB (cr_sum rfl) (by rfl) hs (by decide +kernel) (pa_cons
        (pe_lc (own := [("part", 4)]) (g := gName 4) (tt := tYes) (te := tFld K (tVar 4) "_gaps") rfl scI.nd (pi_tup (pv 2)) (blkOk_by (own := [("part", 4)]) (N := ["self", "name", "parts", "terms", "part"]) (sc := defScope sInit) (by decide +kernel)) (fun _ _ _ _ _ => by exact pg_name (i := 4) scI.nd rfl (Or.inl rfl)) (fun _ _ _ _ _ => by exact pts_nil) (fun _ _ _ _ _ => by exact pe_fld (pv 4) rfl)) pa_nil))) rfl))))))), ?_⟩
  -- name, parts
  have S0 : StI C a dx H H [] := ⟨ha, fun b o e _ => e⟩
  have S1 := S0.store "name" (.str n)
  have S2 := S1.store "parts" (.ref p)
  refine ⟨_, rfl, _, rfl, a, C, dx, _, rfl, S0.at_, T1.cl, T1.nName, (by decide), _, rfl, _, rfl, a, C, dx, _, rfl, S1.at_, T1.cl, T1.nParts, Nat.lt_of_le_of_lt (putF_len _ _ _) (by decide), ?_⟩
  generalize upd (upd H a (HO.ins C dx (putF "name" (V.str n) []))) a (HO.ins C dx (putF "parts" (V.ref p) (putF "name" (V.str n) []))) = H2 at S2 ⊢
  have el : ws.length = ts.length := (hts H fun b o e _ => e).len
  have hz : ws.length ≤ sizeLine := by
    rw [el, sizeLine_eq]
    have := hfit.2.1
    omega
  have pT : ∀ {H' fs}, StI C a dx H H' fs → SqT K H' p ws := fun S => SqT.of (S.kp p _ hp nap.symm)
  -- size
  refine ⟨_, rfl, p, rfl, ⟨_, pT S2⟩, fun D hD => lc_map (ys := (ts.map fun t => (t.size : Int)).map V.int) walk_tup hD (fun H' s => pT (S2.same s)) (by simp [el]) hz (fun i x y H' R hx hy sm hR => ?_) ?_⟩
  · obtain ⟨t, a', dx', p', e, rfl, h1⟩ := (hts _ (S2.same sm).kp).ints hx
    rw [List.map_map] at hy
    have ey := get_map (f := V.int ∘ fun t => (t.size : Int)) e hy
    subst ey
    exact ⟨rfl, _, rfl, a', C, dx', _, _, rfl, h1, T1.cl, T1.nSize, fT_size, hR⟩
  have S3 := S2.add (o := .lst ((ts.map fun t => (t.size : Int)).map V.int)) hD
  refine ⟨D, _, rfl, SqL.of upd_same, ?_⟩
  have len2 : (putF "parts" (V.ref p) (putF "name" (V.str n) [])).length ≤ 2 := Nat.le_trans (putF_len _ _ _) (Nat.succ_le_succ (putF_len _ _ _))
  generalize hf2 : putF "parts" (V.ref p) (putF "name" (V.str n) []) = f2 at S2 S3 len2
  have S4 := S3.store "size" (.int (1 + (ts.map fun t => (t.size : Int)).sum))
  refine ⟨_, _, rfl, rfl, _, rfl, a, C, dx, _, rfl, S3.at_, T1.cl, T1.nSize, by omega, ?_⟩
  generalize upd (upd H2 D _) a _ = H4 at S4 ⊢
  -- levels
  refine ⟨_, rfl, p, ws, ts, rfl, pT S4, hts _ S4.kp, ?_⟩
  have len3 : (putF "size" (V.int (1 + (ts.map fun t => (t.size : Int)).sum)) f2).length ≤ 3 := Nat.le_trans (putF_len _ _ _) (Nat.succ_le_succ len2)
  generalize hf3 : putF "size" (V.int (1 + (ts.map fun t => (t.size : Int)).sum)) f2 = f3 at S4 len3
  have S5 := S4.store "levels" (.int (1 + (T.mostFrom 0 ts : Nat)))
  refine ⟨_, _, rfl, rfl, _, rfl, a, C, dx, _, rfl, S4.at_, T1.cl, T1.nLevels, by omega, ?_⟩
  generalize upd H4 a _ = H5 at S5 ⊢
  -- terms
  have len4 : (putF "levels" (V.int (1 + (T.mostFrom 0 ts : Nat))) f3).length ≤ 4 := Nat.le_trans (putF_len _ _ _) (Nat.succ_le_succ len3)
  generalize hf4 : putF "levels" (V.int (1 + (T.mostFrom 0 ts : Nat))) f3 = f4 at S5 len4
  refine ⟨⟨_, rfl⟩, _, rfl, p, rfl, ⟨_, pT S5⟩, fun D2 hD2 => lc_map (ys := (T.terms ts).map V.str) walk_tup hD2 (fun H' s => pT (S5.same s)) (by rw [terms_map]; simp [el]) hz (fun i x y H' R hx hy sm hR => ?_) ?_⟩
  · obtain ⟨t, a', dx', p', e, rfl, h1⟩ := (hts _ (S5.same sm).kp).ints hx
    rw [terms_map, List.map_map] at hy
    have ey := get_map (f := V.str ∘ T.term) e hy
    subst ey
    exact ⟨rfl, _, rfl, a', C, dx', _, _, rfl, h1, T1.cl, T1.nTerm, fT_term, hR⟩
  have S6 := S5.add (o := .lst ((T.terms ts).map V.str)) hD2
  have hsum : ((T.terms ts).map (·.length)).sum + (T.terms ts).length * (", " : Str).length ≤ 16777216 := by
    have h1 := hfit.2.2
    have h2 : (T.terms ts).length = ts.length := by rw [terms_map, List.length_map]
    have h3 : (", " : Str).length = 2 := by decide
    rw [h2, h3]
    omega
  refine ⟨_, D2, T.terms ts, rfl, rfl, .inl (SqL.of upd_same), hsum, ?_⟩
  generalize upd H5 D2 _ = H6 at S6 ⊢
  have S7 := S6.store "term" (.str (T.term (.node n ts)))
  refine rd_term (K := K) rfl rfl rfl (pT S6) el hfit ⟨_, rfl, a, C, dx, _, rfl, S6.at_, T1.cl, T1.nTerm, by omega, ?_⟩
  generalize upd H6 a _ = H7 at S7 ⊢
  have len5 : (putF "term" (V.str (T.term (.node n ts))) f4).length ≤ 5 := Nat.le_trans (putF_len _ _ _) (Nat.succ_le_succ len4)
  generalize hf5 : putF "term" (V.str (T.term (.node n ts))) f4 = f5 at S7 len5
  have fin : ∀ H8, StI C a dx H H8 f5 → Q .non (upd H8 a (.ins C dx (putF "_gaps" (.int (T.gaps (.node n ts))) f5))) := fun H8 S8 => by
    refine q _ ?_ (S8.store "_gaps" (.int (T.gaps (.node n ts)))).kp
    rw [upd_same]
    subst hf2 hf3 hf4 hf5
    rw [fT_built]
  have nm : ∀ {b : Bool} {m : Str}, V.str n = V.str m → n = m := fun e => V.str.inj e
  have eg : ¬ (n = "_" ∧ ts = []) → T.gaps (.node n ts) = T.gapsL ts := fun h => by unfold T.gaps; rw [if_neg h]
  have sumcase : ∀ (σ : L2.St) (hσ : σ = [some (V.ref a), some (V.str n), some (V.ref p), some (V.str (Txt.join ", " (T.terms ts))), none]) (R : VK), ¬ (n = "_" ∧ ts = []) → (∀ H8, StI C a dx H H8 f5 → R (.int (T.gaps (.node n ts))) H8) →
      tCB (rSum K) (tCons (tLc (iTup K (tVar 2)) (gName 4) tYes (tFld K (tVar 4) "_gaps") (List.map (fun x => x.snd) [(("part" : Str), 4)])) tNil) σ H7 R := by
    rintro σ rfl R hn hR
    refine ⟨_, rfl, p, rfl, ⟨_, pT S7⟩, fun D hD => lc_map (ys := (ts.map fun t => (t.gaps : Int)).map V.int) walk_tup hD (fun H' s => pT (S7.same s)) (by simp [el]) hz (fun i x y H' R hx hy sm hR => ?_) ?_⟩
    · obtain ⟨t, a', dx', p', e, rfl, h1⟩ := (hts _ (S7.same sm).kp).ints hx
      rw [List.map_map] at hy
      have ey := get_map (f := V.int ∘ fun t => (t.gaps : Int)) e hy
      subst ey
      exact ⟨rfl, _, rfl, a', C, dx', _, _, rfl, h1, T1.cl, T1.nGaps, fT_gaps, hR⟩
    have S8 := S7.add (o := .lst ((ts.map fun t => (t.gaps : Int)).map V.int)) hD
    refine ⟨D, _, rfl, SqL.of upd_same, ?_⟩
    rw [gaps_sum, ← eg hn]
    exact hR _ S8
  -- _gaps
  refine ⟨_, rfl, rfl, _, rfl, ?_⟩
  refine ite2 (fun c => ?_) (fun c => ?_)
  · have en : n = "_" := nm (b := true) (of_decide_eq_true c)
    refine ⟨_, rfl, !ws.isEmpty, .inr (.inl ⟨ws, pT S7, rfl⟩), ?_⟩
    cases ws with
    | nil =>
      have e : ts = [] := List.eq_nil_of_length_eq_zero el.symm
      refine iteT ?_
      have eg1 : T.gaps (.node n ts) = 1 := by unfold T.gaps; rw [if_pos ⟨en, e⟩]
      refine ⟨_, rfl, a, C, dx, _, rfl, S7.at_, T1.cl, T1.nGaps, by omega, ?_⟩
      have z := fin H7 S7
      rw [eg1] at z
      exact z
    | cons x r =>
      have ne : ¬ (n = "_" ∧ ts = []) := fun e => by obtain ⟨_, e⟩ := e; subst e; simp at el
      refine iteF ?_
      refine sumcase _ rfl _ ne fun H8 S8 => ?_
      exact ⟨_, rfl, a, C, dx, _, rfl, S8.at_, T1.cl, T1.nGaps, by omega, fin H8 S8⟩
  · have ne : ¬ (n = "_" ∧ ts = []) := fun e => by
      obtain ⟨e, _⟩ := e
      subst e
      exact c (decide_eq_true rfl)
    refine iteF ?_
    refine sumcase _ rfl _ ne fun H8 S8 => ?_
    exact ⟨_, rfl, a, C, dx, _, rfl, S8.at_, T1.cl, T1.nGaps, by omega, fin H8 S8⟩
end
end Tw
set_option maxHeartbeats 4000000
/-! Places of a tree in reading order; what stays of the heap when lists change. -/
namespace Tw
open PySem PySem.Spec PyProof.Rows L2
abbrev Path := List Nat
mutual
def T.walk (pa : Path) : T → List (Path × T)
  | .node n ps => (pa, .node n ps) :: T.walks pa 0 ps
def T.walks (pa : Path) : Nat → List T → List (Path × T)
  | _, [] => []
  | i, t :: r => T.walk (pa ++ [i]) t ++ T.walks pa (i + 1) r
end
def kids (pa : Path) : Nat → List T → List (Path × T)
  | _, [] => []
  | i, t :: r => (pa ++ [i], t) :: kids pa (i + 1) r
def flat (l : List (Path × T)) : List (Path × T) := l.flatMap fun e => e.2.walk e.1
theorem flat_nil : flat [] = [] := rfl
theorem flat_cons (e : Path × T) (l : List (Path × T)) : flat (e :: l) = e.2.walk e.1 ++ flat l := rfl
theorem flat_append (l m : List (Path × T)) : flat (l ++ m) = flat l ++ flat m := by simp [flat]
theorem walks_kids (pa : Path) : ∀ (ps : List T) (i : Nat), T.walks pa i ps = flat (kids pa i ps)
  | [], i => by unfold T.walks kids; rfl
  | t :: r, i => by
    unfold T.walks kids
    rw [flat_cons, walks_kids pa r]
theorem walk_eq (pa : Path) (t : T) : t.walk pa = (pa, t) :: flat (kids pa 0 t.parts) := by
  cases t with
  | node n ps =>
    unfold T.walk
    rw [walks_kids]
    rfl
theorem kids_len (pa : Path) : ∀ (ps : List T) (i : Nat), (kids pa i ps).length = ps.length
  | [], _ => rfl
  | _ :: r, i => by
    unfold kids
    rw [List.length_cons, List.length_cons, kids_len pa r]
theorem kids_get (pa : Path) : ∀ (ps : List T) (i j : Nat) {t : T}, ps[j]? = some t → (kids pa i ps)[j]? = some (pa ++ [i + j], t)
  | [], _, _, _, h => by simp at h
  | a :: r, i, 0, t, h => by
    have e : a = t := Option.some.inj h
    subst e
    rfl
  | a :: r, i, j + 1, t, h => by
    unfold kids
    rw [List.getElem?_cons_succ, kids_get pa r (i + 1) j (by simpa using h), show i + 1 + j = i + (j + 1) by omega]
mutual
theorem walk_len (pa : Path) : ∀ t : T, (t.walk pa).length = t.size
  | .node n ps => by
    unfold T.walk T.size
    rw [List.length_cons, walks_len pa 0 ps]
    omega
theorem walks_len (pa : Path) : ∀ (i : Nat) (ps : List T), (T.walks pa i ps).length = T.sizes ps
  | _, [] => by unfold T.walks T.sizes; rfl
  | i, t :: r => by
    unfold T.walks T.sizes
    rw [List.length_append, walk_len _ t, walks_len pa _ r]
end
mutual
theorem walk_deep (pa : Path) : ∀ (t : T) (e : Path × T), e ∈ t.walk pa → e.1.length + e.2.size ≤ pa.length + t.size
  | .node n ps, e, h => by
    unfold T.walk at h
    rcases List.mem_cons.mp h with rfl | h
    · exact Nat.le_refl _
    · have := walks_deep pa 0 ps e h
      unfold T.size at *
      omega
theorem walks_deep (pa : Path) : ∀ (i : Nat) (ps : List T) (e : Path × T), e ∈ T.walks pa i ps → e.1.length + e.2.size ≤ pa.length + 1 + T.sizes ps
  | _, [], e, h => by unfold T.walks at h; cases h
  | i, t :: r, e, h => by
    unfold T.walks at h
    unfold T.sizes
    rcases List.mem_append.mp h with h | h
    · have := walk_deep (pa ++ [i]) t e h
      rw [List.length_append, List.length_singleton] at this
      omega
    · have := walks_deep pa (i + 1) r e h
      omega
end
theorem size_pos (t : T) : 1 ≤ t.size := by
  cases t
  unfold T.size
  omega
theorem sizes_ge : ∀ ps : List T, ps.length ≤ T.sizes ps
  | [] => Nat.zero_le _
  | t :: r => by
    have := size_pos t
    have := sizes_ge r
    unfold T.sizes
    rw [List.length_cons]
    omega
theorem parts_le (t : T) : t.parts.length + 1 ≤ t.size := by
  cases t with
  | node n ps =>
    have := sizes_ge ps
    unfold T.size
    show ps.length + 1 ≤ _
    omega
/-! ### firm things: tuples and instances -/
def Firm (H H' : Hp) : Prop := (∀ b xs, H b = some (.tup xs) → H' b = some (.tup xs)) ∧ ∀ b C dx fs, H b = some (.ins C dx fs) → H' b = some (.ins C dx fs)
theorem Firm.of {H H' : Hp} (s : Same H H') : Firm H H' := ⟨fun _ _ e => s _ _ e, fun _ _ _ _ e => s _ _ e⟩
theorem Firm.refl (H : Hp) : Firm H H := .of (Same.refl H)
theorem Firm.trans {H H1 H2 : Hp} (a : Firm H H1) (b : Firm H1 H2) : Firm H H2 := ⟨fun _ _ e => b.1 _ _ (a.1 _ _ e), fun _ _ _ _ e => b.2 _ _ _ _ (a.2 _ _ _ _ e)⟩
theorem Firm.list {H : Hp} {l : Addr} {xs : List V} {o : HO} (h : H l = some (.lst xs)) : Firm H (upd H l o) :=
  ⟨fun b ys e => by rw [upd_ne (ne_of e h (by intro z; cases z))]; exact e, fun b C dx fs e => by rw [upd_ne (ne_of e h (by intro z; cases z))]; exact e⟩
theorem Firm.new {H : Hp} {l : Addr} {o : HO} (h : H l = none) : Firm H (upd H l o) :=
  ⟨fun b ys e => by rw [upd_ne (ne_of_none e h)]; exact e, fun b C dx fs e => by rw [upd_ne (ne_of_none e h)]; exact e⟩
mutual
theorem TreeAt.firm {C : Addr} {H H' : Hp} (s : Firm H H') : ∀ {v : V} {t : T}, TreeAt C H v t → TreeAt C H' v t
  | v, .node n ps, h => by
    obtain ⟨a, dx, p, vs, rfl, h1, h2, h3⟩ := h.ex
    exact .mk (s.2 _ _ _ _ h1) (s.1 _ _ h2) (TreesAt.firm s h3)
theorem TreesAt.firm {C : Addr} {H H' : Hp} (s : Firm H H') : ∀ {vs : List V} {ts : List T}, TreesAt C H vs ts → TreesAt C H' vs ts
  | [], [], _ => by unfold TreesAt; trivial
  | v :: vs, t :: ts, h => by
    unfold TreesAt at h ⊢
    exact ⟨TreeAt.firm s h.1, TreesAt.firm s h.2⟩
  | [], _ :: _, h => by unfold TreesAt at h; exact h.elim
  | _ :: _, [], h => by unfold TreesAt at h; exact h.elim
end
def pV (p : Path) : List V := List.map (fun (k : Nat) => V.int (k : Int)) p
/-- an entry of places: a new pair of a path and a part -/
def EntAt (C : Addr) (H : Hp) (v : V) (e : Path × T) : Prop := ∃ a q w, v = .ref a ∧ H a = some (.tup [.ref q, w]) ∧ H q = some (.tup (pV e.1)) ∧ TreeAt C H w e.2
theorem EntAt.firm {C : Addr} {H H' : Hp} (s : Firm H H') {v : V} {e : Path × T} (h : EntAt C H v e) : EntAt C H' v e := by
  obtain ⟨a, q, w, rfl, h1, h2, h3⟩ := h
  exact ⟨a, q, w, rfl, s.1 _ _ h1, s.1 _ _ h2, h3.firm s⟩
abbrev Ents (C : Addr) (H : Hp) : List V → List (Path × T) → Prop := Paired (EntAt C H)
theorem Ents.firm {C : Addr} {H H' : Hp} (s : Firm H H') {vs : List V} {es : List (Path × T)} (h : Ents C H vs es) : Ents C H' vs es := Paired.mapP h fun _ _ x => x.firm s
theorem paired_len {α β : Type} {F : α → β → Prop} : ∀ {l₁ : List α} {l₂ : List β}, Paired F l₁ l₂ → l₁.length = l₂.length
  | _, _, .nil => rfl
  | _, _, .cons _ t => by rw [List.length_cons, List.length_cons, paired_len t]
theorem paired_get {α β : Type} {F : α → β → Prop} : ∀ {l₁ : List α} {l₂ : List β} {i : Nat} {x : α}, Paired F l₁ l₂ → l₁[i]? = some x → ∃ y, l₂[i]? = some y ∧ F x y
  | _, _, _, _, .nil, e => by simp at e
  | _, _, 0, _, .cons r _, e => by simp at e; subst e; exact ⟨_, rfl, r⟩
  | _, _, i + 1, x, .cons _ t, e => by
    obtain ⟨u, h1, h2⟩ := paired_get (i := i) (x := x) t (by simpa using e)
    exact ⟨u, by simpa using h1, h2⟩
theorem paired_last {α β : Type} {F : α → β → Prop} {l₁ : List α} {l₂ : List β} (h : Paired F l₁ l₂) (ne : l₁ ≠ []) : ∃ m₁ x m₂ y, l₁ = m₁ ++ [x] ∧ l₂ = m₂ ++ [y] ∧ Paired F m₁ m₂ ∧ F x y := by
  induction h with
  | nil => exact absurd rfl ne
  | @cons a b r1 r2 f t ih =>
    cases t with
    | nil => exact ⟨[], a, [], b, rfl, rfl, .nil, f⟩
    | cons f' t' =>
      obtain ⟨m₁, x, m₂, y, e1, e2, p, q⟩ := ih (by simp)
      exact ⟨a :: m₁, x, b :: m₂, y, by rw [e1]; rfl, by rw [e2]; rfl, .cons f p, q⟩
theorem name_go {i : Nat} {v : V} {σ : L2.St} {H : Hp} {Q : L2.St → Hp → Prop} (h : Q (σ.set i (some v)) H) : gName i v σ H Q := h
theorem seq_go {t u : TS} {D : Ends} {σ : L2.St} {H : Hp} (h : t { D with nx := u D } σ H) : tSeq t u D σ H := h
theorem while_n {c : TT} {tb : TS} {D : Ends} {σ : L2.St} {H : Hp} (Pv : Nat → L2.St → Hp → Prop) (h0 : ∃ m, Pv m σ H)
    (hs : ∀ m σ H, Pv m σ H → c σ H fun b H1 => if b = true then tb { D with nx := fun σ' H' => ∃ m', m' < m ∧ Pv m' σ' H', ct := fun σ' H' => ∃ m', m' < m ∧ Pv m' σ' H', bk := D.nx } σ H1 else D.nx σ H1)
    (mono : ∀ σ H Q Q', (∀ b H1, Q b H1 → Q' b H1) → c σ H Q → c σ H Q') : tWhile c tb D σ H := by
  refine ⟨Pv, h0, fun m σ H p => mono σ H _ _ (fun b H1 q => ?_) (hs m σ H p)⟩
  cases b with
  | true => exact ⟨_, fun _ _ h => h, q⟩
  | false => exact q
end Tw
set_option maxHeartbeats 4000000
/-! places. -/
namespace Tw
open PySem PySem.Spec PyProof.Rows L2
abbrev sPlaces : Stmt := top 19
/-- a new list of all places -/
def spPlaces (C : Addr) : Sp := fun vs H Q _ => ∃ (v : V) (t : T), vs = [v] ∧ TreeAt C H v t ∧ t.size ≤ 1000000 ∧
  ∀ l H' ws, Same H H' → H l = none → H' l = some (.lst ws) → Ents C H' ws (t.walk []) → Q (.ref l) H'
theorem flat_ge : ∀ l : List (Path × T), l.length ≤ (flat l).length
  | [] => Nat.zero_le _
  | e :: r => by
    have := size_pos e.2
    have := flat_ge r
    rw [flat_cons, List.length_append, walk_len, List.length_cons]
    omega
theorem drop_rev {α : Type} {l : List α} {k : Nat} {x : α} (h : l[k]? = some x) : (l.drop k).reverse = (l.drop (k + 1)).reverse ++ [x] := by
  obtain ⟨hk, e⟩ := List.getElem?_eq_some_iff.mp h
  rw [List.drop_eq_getElem_cons hk, List.reverse_cons, e]
theorem pV_snoc (p : Path) (j : Nat) : pV (p ++ [j]) = pV p ++ [V.int (j : Int)] := by simp [pV]
theorem pV_len (p : Path) : (pV p).length = p.length := by simp [pV]
section
variable {P : Program} {w : World} {K : PySem.W.Frag} {mg : Str → Option Value} {base : Heap} {C : Addr}
theorem scP : FnScope ["tree", "found", "waiting", "path", "part", "at"] ["tree"] (defScope sPlaces) := ⟨rfl, rfl, rfl, by decide +kernel, rfl, by decide +kernel, by decide +kernel⟩
/-- the state ahead of each turn: what is found, what is waiting -/
structure PlSt (C : Addr) (t0 : T) (H H' : Hp) (fa wa : Addr) (fvs wvs : List V) (fes wes : List (Path × T)) : Prop where
  same : Same H H'
  nf : H fa = none
  nw : H wa = none
  ne : fa ≠ wa
  fl : H' fa = some (.lst fvs)
  wl : H' wa = some (.lst wvs)
  fe : Ents C H' fvs fes
  we : Ents C H' wvs wes
  all : fes ++ flat wes.reverse = t0.walk []
theorem ok_places (T1 : Tt K C) (hl : mg "len" = none) (hrv : mg "reversed" = none) (hrg : mg "range" = none) {f : Addr} {fd : FuncData} (F : Fun K "places" "places" sPlaces f fd) : FnR P w K mg base CX0 1 f (spPlaces C) := by
  refine okR F scP (fun vs H Q E h => ?_) (fun _ _ _ _ _ _ us hl => match us, hl with | [_], _ => rfl) (fun cdv A outer s H vs Q E hr h => ?_)
  · obtain ⟨v, t, rfl, _⟩ := h
    rfl
  obtain ⟨v0, t0, rfl, h0, hsz, q⟩ := h
  refine ⟨_, pss_cons (ps_set (i := 1) scP.nd rfl (Or.inl rfl) (pe_lst pa_nil))
    (pss_cons (ps_set (i := 2) scP.nd rfl (Or.inl rfl) (pe_lst (pa_cons (pe_tup (pa_cons (pe_tup pa_nil) (pa_cons (pv 0) pa_nil))) pa_nil)))
    (pss_cons (ps_while PassesOwn.never (pt_truth (pv 2) (by intro _; rfl))
      (pss_cons (ps_asg (pe_bm0 PySem.F.plainAttrs_list PySem.F.slot_list_pop PySem.F.type_list_pop mt_pop (pv 2)) (pg_tup (by rfl) (pgs_cons (pg_name (i := 3) scP.nd rfl (Or.inl rfl)) (pgs_cons (pg_name (i := 4) scP.nd rfl (Or.inl rfl)) pgs_nil))))
      (pss_cons (ps_expr (pe_bm PySem.F.plainAttrs_list PySem.F.slot_list_append PySem.F.type_list_append mt_append (pv 1) (pa_cons (pe_tup (pa_cons (pv 3) (pa_cons (pv 4) pa_nil))) pa_nil)))
      (pss_one (ps_for PassesOwn.never rfl (pi_revR (by rfl) hrv (prg_1 (by rfl) hrg (pe_callB call_len_seq (by rfl) hl PySem.boot_len (pa_cons (pe_fld (pv 4) rfl) pa_nil)))) (pg_name (i := 5) scP.nd rfl (Or.inl rfl))
        (pss_one (ps_expr (pe_bm PySem.F.plainAttrs_list PySem.F.slot_list_append PySem.F.type_list_append mt_append (pv 2)
          (pa_cons (pe_tup (pa_cons (pe_tup (StX.pa_star (pv 3) (pa_cons (pv 5) pa_nil))) (pa_cons (pe_ix ix_tup (pe_fld (pv 4) rfl) (pv 5) (fun _ _ => rfl)) pa_nil))) pa_nil))))))))) 
    (pss_one (ps_ret (pv 1))))), ?_⟩
  have zl : (0 : Nat) ≤ sizeLine := Nat.zero_le _
  have sl := sizeLine_eq
  refine ⟨zl, fun fa nfa => ?_⟩
  refine ⟨zl, fun q0 nq0 => ⟨_, rfl, ?_⟩⟩
  refine ⟨(by show 2 ≤ sizeLine; omega), fun e0 ne0 => ⟨(by show 1 ≤ sizeLine; omega), fun wa nwa => ?_⟩⟩
  -- the state ahead of the loop
  have s1 : Same H (upd H fa (.lst [])) := fun b o e => by rw [upd_ne (ne_of_none e nfa)]; exact e
  have s2 : Same (upd H fa (.lst [])) (upd (upd H fa (.lst [])) q0 (.tup [])) := fun b o e => by rw [upd_ne (ne_of_none e nq0)]; exact e
  have s3 : Same (upd (upd H fa (.lst [])) q0 (.tup [])) (upd (upd (upd H fa (.lst [])) q0 (.tup [])) e0 (.tup [.ref q0, v0])) := fun b o e => by rw [upd_ne (ne_of_none e ne0)]; exact e
  have s4 : Same (upd (upd (upd H fa (.lst [])) q0 (.tup [])) e0 (.tup [.ref q0, v0])) (upd (upd (upd (upd H fa (.lst [])) q0 (.tup [])) e0 (.tup [.ref q0, v0])) wa (.lst [.ref e0])) := fun b o e => by rw [upd_ne (ne_of_none e nwa)]; exact e
  have hfa := s4 _ _ (s3 _ _ (s2 _ _ (upd_same (H := H) (a := fa) (o := .lst []))))
  have hq0 := s4 _ _ (s3 _ _ (upd_same (H := upd H fa (.lst [])) (a := q0) (o := .tup [])))
  have he0 := s4 _ _ (upd_same (H := upd (upd H fa (.lst [])) q0 (.tup [])) (a := e0) (o := .tup [.ref q0, v0]))
  have nwa' : H wa = none := (s1.trans (s2.trans s3)).free nwa
  have fw : fa ≠ wa := ne_of_none (s3 _ _ (s2 _ _ (upd_same (H := H) (a := fa) (o := .lst [])))) nwa
  have S0 : PlSt C t0 H _ fa wa [] [.ref e0] [] [([], t0)] := ⟨s1.trans (s2.trans (s3.trans s4)), nfa, nwa', fw, hfa, upd_same, .nil, .cons ⟨e0, q0, v0, rfl, he0, hq0, h0.mono (s1.trans (s2.trans (s3.trans s4)))⟩ .nil, by
    show flat [([], t0)] = _
    rw [flat_cons, flat_nil, List.append_nil]⟩
  refine name_go ?_
  dsimp only
  refine seq_go ?_
  refine while_n (fun m σ H' => ∃ fvs wvs fes wes v3 v4 v5, σ = [some v0, some (.ref fa), some (.ref wa), v3, v4, v5] ∧ PlSt C t0 H H' fa wa fvs wvs fes wes ∧ m = (flat wes.reverse).length)
    ⟨_, [], [.ref e0], [], [([], t0)], none, none, none, rfl, S0, rfl⟩ ?_ ?_
  · rintro m σ H1 ⟨fvs, wvs, fes, wes, v3, v4, v5, rfl, S, rfl⟩
    refine ⟨_, rfl, !wvs.isEmpty, .inl ⟨wvs, SqL.of S.wl, rfl⟩, ?_⟩
    by_cases hw : wvs = []
    · subst hw
      refine iteF ⟨_, rfl, ?_⟩
      have e : wes = [] := by
        have := paired_len S.we
        exact List.eq_nil_of_length_eq_zero this.symm
      have all := S.all
      rw [e] at all
      have all' : fes = t0.walk [] := by simpa [flat] using all
      exact q fa H1 fvs S.same S.nf S.fl (all' ▸ S.fe)
    · rw [show (!wvs.isEmpty) = true by cases wvs <;> simp_all]
      refine iteT ?_
      obtain ⟨m₁, x, m₂, e, rfl, rfl, pm, ⟨a, qa, pw, rfl, ha, hq, ht⟩⟩ := paired_last S.we hw
      obtain ⟨pa, tt⟩ := e
      have wl := S.wl
      refine ⟨_, rfl, .inl ⟨rfl, _, SqL.of wl⟩, wa, _, .ref a, rfl, rfl, wl, by simp, ?_⟩
      have f1 : Firm H1 (upd H1 wa (.lst (m₁ ++ [V.ref a]).dropLast)) := Firm.list wl
      rw [List.dropLast_concat] at f1 ⊢
      refine ⟨a, _, rfl, SqT.of (f1.1 _ _ ha), rfl, _, _, rfl, _, _, rfl, rfl, ?_⟩
      replace ht : TreeAt C H1 pw tt := ht
      replace hq : H1 qa = some (.tup (pV pa)) := hq
      obtain ⟨ap, dxp, pp, kvs, rfl, hap, hpp, hks⟩ := ht.ex
      -- sizes
      have all := S.all
      have alen := congrArg List.length all
      rw [List.reverse_append, List.reverse_singleton, List.singleton_append, flat_cons] at all alen
      dsimp only at all alen
      rw [List.length_append, List.length_append, walk_len, walk_len] at alen
      have g1 := flat_ge m₂.reverse
      rw [List.length_reverse] at g1
      have g2 := parts_le tt
      have hmem : (pa, tt) ∈ t0.walk [] := by
        rw [← all, walk_eq]
        exact List.mem_append_right _ List.mem_cons_self
      have g3 := walk_deep [] t0 _ hmem
      have g3' : pa.length + tt.size ≤ 0 + t0.size := g3
      have el := hks.len
      have lf := paired_len S.fe
      have lw := paired_len pm
      -- found.append
      have nfw : fa ≠ wa := S.ne
      have sm1 : Same H (upd H1 wa (.lst m₁)) := fun b o e => by rw [upd_ne (ne_of_none e S.nw)]; exact S.same b o e
      have fl1 : (upd H1 wa (.lst m₁)) fa = some (.lst fvs) := by rw [upd_ne nfw]; exact S.fl
      refine ⟨_, rfl, .inl ⟨rfl, _, SqL.of fl1⟩, _, rfl, _, rfl, (by show 2 ≤ sizeLine; omega), fun e1 ne1 => ?_⟩
      have s2 : Same (upd H1 wa (.lst m₁)) (upd (upd H1 wa (.lst m₁)) e1 (.tup [.ref qa, .ref ap])) := fun b o e => by rw [upd_ne (ne_of_none e ne1)]; exact e
      refine ⟨fa, fvs, .ref e1, rfl, rfl, s2 _ _ fl1, by omega, ?_⟩
      have f3 : Firm (upd (upd H1 wa (.lst m₁)) e1 (.tup [.ref qa, .ref ap])) (upd (upd (upd H1 wa (.lst m₁)) e1 (.tup [.ref qa, .ref ap])) fa (.lst (fvs ++ [.ref e1]))) := Firm.list (s2 _ _ fl1)
      have f4 : Firm H1 (upd (upd (upd H1 wa (.lst m₁)) e1 (.tup [.ref qa, .ref ap])) fa (.lst (fvs ++ [.ref e1]))) := f1.trans ((Firm.of s2).trans f3)
      have sm4 : Same H (upd (upd (upd H1 wa (.lst m₁)) e1 (.tup [.ref qa, .ref ap])) fa (.lst (fvs ++ [.ref e1]))) := fun b o e => by rw [upd_ne (ne_of_none e S.nf)]; exact s2 _ _ (sm1 b o e)
      have he1 : (upd (upd (upd H1 wa (.lst m₁)) e1 (.tup [.ref qa, .ref ap])) fa (.lst (fvs ++ [.ref e1]))) e1 = some (.tup [.ref qa, .ref ap]) := f3.1 _ _ upd_same
      have hfa4 : (upd (upd (upd H1 wa (.lst m₁)) e1 (.tup [.ref qa, .ref ap])) fa (.lst (fvs ++ [.ref e1]))) fa = some (.lst (fvs ++ [.ref e1])) := upd_same
      have hwa4 : (upd (upd (upd H1 wa (.lst m₁)) e1 (.tup [.ref qa, .ref ap])) fa (.lst (fvs ++ [.ref e1]))) wa = some (.lst m₁) := by
        rw [upd_ne nfw.symm]
        exact s2 _ _ upd_same
      generalize (upd (upd (upd H1 wa (.lst m₁)) e1 (.tup [.ref qa, .ref ap])) fa (.lst (fvs ++ [.ref e1]))) = H4 at f3 f4 sm4 he1 hfa4 hwa4 ⊢
      have kl := kids_len pa tt.parts 0
      -- the parts, the last one first
      refine ⟨_, rfl, ap, C, dxp, _, _, rfl, f4.2 _ _ _ _ hap, T1.cl, T1.nParts, fT_parts, pp, kvs, rfl, .inr (SqT.of (f4.1 _ _ hpp)), _, rfl, (by decide), (by decide), (by omega), (by omega), ?_⟩
      have en : ((kvs.length : Int) - 0).toNat = tt.parts.length := by omega
      rw [en]
      refine for_rangeC (fun i σ H' => ∃ w5 wvs', σ = [some v0, some (.ref fa), some (.ref wa), some (.ref qa), some (.ref ap), w5] ∧ Same H H' ∧ Firm H4 H' ∧ H' fa = some (.lst (fvs ++ [.ref e1])) ∧ H' wa = some (.lst wvs') ∧
          Ents C H' wvs' (m₂ ++ ((kids pa 0 tt.parts).drop (tt.parts.length - i)).reverse))
        ⟨v5, m₁, rfl, sm4, Firm.refl _, hfa4, hwa4, by rw [Nat.sub_zero, List.drop_of_length_le (by omega), List.reverse_nil, List.append_nil]; exact Ents.firm f4 pm⟩ ?_ ?_
      · rintro i σ H5 hi ⟨w5, wvs', rfl, sm5, f5, fl5, wl5, en5⟩
        have hj : tt.parts.length - 1 - i < tt.parts.length := by omega
        obtain ⟨tj, htj⟩ : ∃ tj, tt.parts[tt.parts.length - 1 - i]? = some tj := ⟨_, List.getElem?_eq_getElem hj⟩
        have hkj : ∃ z, kvs[tt.parts.length - 1 - i]? = some z := ⟨_, List.getElem?_eq_getElem (by omega)⟩
        obtain ⟨z, hz⟩ := hkj
        obtain ⟨tj', htj', hzt⟩ := hks.get hz
        rw [htj] at htj'
        cases htj'
        have ej : (0 + ((tt.parts.length : Nat) : Int) - 1 + (i : Nat) * (-1) : Int) = ((tt.parts.length - 1 - i : Nat) : Int) := by omega
        refine name_go ?_
        dsimp only
        rw [ej]
        have l5 := paired_len en5
        rw [List.length_append, List.length_reverse, List.length_drop, kl] at l5
        refine ⟨_, rfl, .inl ⟨rfl, _, SqL.of wl5⟩, _, rfl, qa, _, rfl, .inl (SqT.of ((f4.trans f5).1 _ _ hq)), _, rfl, (by rw [List.length_append, pV_len]; show _ + 1 ≤ _; omega), fun q1 nq1 => ?_⟩
        have s6 : Same H5 (upd H5 q1 (.tup (pV pa ++ [V.int ((tt.parts.length - 1 - i : Nat) : Int)]))) := fun b o e => by rw [upd_ne (ne_of_none e nq1)]; exact e
        refine ⟨_, rfl, ap, C, dxp, _, _, rfl, s6 _ _ ((f4.trans f5).2 _ _ _ _ hap), T1.cl, T1.nParts, fT_parts, _, rfl, pp, kvs, _, z, rfl, rfl, SqT.of (s6 _ _ ((f4.trans f5).1 _ _ hpp)), atI_nat hz, (by show 2 ≤ sizeLine; omega), fun e2 ne2 => ?_⟩
        have s7 : Same (upd H5 q1 (.tup (pV pa ++ [V.int ((tt.parts.length - 1 - i : Nat) : Int)]))) (upd (upd H5 q1 (.tup (pV pa ++ [V.int ((tt.parts.length - 1 - i : Nat) : Int)]))) e2 (.tup [.ref q1, z])) := fun b o e => by rw [upd_ne (ne_of_none e ne2)]; exact e
        have s67 := s6.trans s7
        refine ⟨wa, wvs', .ref e2, rfl, rfl, s67 _ _ wl5, by omega, ?_⟩
        have f8 := Firm.list (o := .lst (wvs' ++ [.ref e2])) (s67 _ _ wl5)
        have f58 := (Firm.of s67).trans f8
        refine ⟨_, wvs' ++ [.ref e2], rfl, fun b o e => ?_, f5.trans f58, ?_, upd_same, ?_⟩
        · rw [upd_ne (ne_of_none e S.nw)]
          exact s67 _ _ (sm5 b o e)
        · rw [upd_ne nfw]
          exact s67 _ _ fl5
        · have hk := kids_get pa tt.parts 0 (tt.parts.length - 1 - i) htj
          rw [Nat.zero_add] at hk
          have dr := drop_rev hk
          rw [show tt.parts.length - 1 - i + 1 = tt.parts.length - i by omega] at dr
          rw [show tt.parts.length - (i + 1) = tt.parts.length - 1 - i by omega, dr, ← List.append_assoc]
          refine Paired.snoc (Ents.firm f58 en5) ⟨e2, q1, z, rfl, f8.1 _ _ upd_same, ?_, hzt.firm ((f4.trans f5).trans f58)⟩
          rw [pV_snoc]
          exact f8.1 _ _ (s7 _ _ upd_same)
      · rintro σ H5 ⟨w5, wvs', rfl, sm5, f5, fl5, wl5, en5⟩
        rw [Nat.sub_self, List.drop_zero] at en5
        refine ⟨_, ?_, fvs ++ [.ref e1], wvs', fes ++ [(pa, tt)], _, _, _, _, rfl, ⟨sm5, S.nf, S.nw, nfw, fl5, wl5, Paired.snoc (Ents.firm (f4.trans f5) S.fe) ⟨e1, qa, .ref ap, rfl, f5.1 _ _ he1, (f4.trans f5).1 _ _ hq, ht.firm (f4.trans f5)⟩, en5, ?_⟩, rfl⟩
        · rw [List.reverse_append, List.reverse_append, List.reverse_reverse, List.reverse_singleton, List.singleton_append, flat_append, flat_cons, walk_eq, List.length_append, List.length_append, List.length_cons]
          dsimp only
          omega
        · rw [List.reverse_append, List.reverse_reverse, flat_append, ← all, walk_eq]
          simp
  · rintro σ H' Q1 Q2 hm ⟨v, e, k, hk, hq⟩
    exact ⟨v, e, k, hk, hm _ _ hq⟩
end
end Tw
set_option maxHeartbeats 4000000
/-! is_big_name, is_plain. -/
namespace Tw
open PySem PySem.Spec PyProof.Rows L2
abbrev sPlain : Stmt := top 17
section
variable {P : Program} {w : World} {K : PySem.W.Frag} {mg : Str → Option Value} {base : Heap} {C : Addr}
theorem FnOk.toR {CX : CXT} {k : Nat} {f : Addr} {fd : FuncData} {ps : List Str} {sp : Sp} (G : FnOk P w K mg base CX k f fd ps sp) (b : Binds K fd ps []) : FnR P w K mg base CX k f sp :=
  (G.raw b .nil).imp fun vs H Q E h => by rw [List.append_nil]; exact h
theorem okr_small {f : Addr} {fd : FuncData} (F : Fun K "is_small_letter" "is_small_letter" sSmall f fd) : FnR P w K mg base CX0 1 f (spOne isSmall) := FnOk.toR (ok_small F) (F.binds fun _ _ _ _ _ _ us hl => match us, hl with | [_], _ => rfl)
theorem okr_capital {f : Addr} {fd : FuncData} (F : Fun K "is_capital" "is_capital" sCapital f fd) : FnR P w K mg base CX0 1 f (spOne isCap) := FnOk.toR (ok_capital F) (F.binds fun _ _ _ _ _ _ us hl => match us, hl with | [_], _ => rfl)
theorem okr_digit (ml : mg "len" = none) {f : Addr} {fd : FuncData} (F : Fun K "is_digit" "is_digit" sDigit f fd) : FnR P w K mg base CX0 1 f spDigit := FnOk.toR (ok_digit ml F) (F.binds fun _ _ _ _ _ _ us hl => match us, hl with | [_], _ => rfl)
def signs (z : Str) : List V := z.cps.toList.map fun (c : Nat) => V.str ⟨#[c]⟩
theorem signs_len (z : Str) : (signs z).length = z.length := by simp [signs, Str.length]
theorem walk_signs {z : Str} : Walk (Its z) (signs z).length (fun _ => True) (YAt (signs z)) := by
  have w := walk_str (z := z)
  have e : (signs z).length = z.cps.size := signs_len z
  rw [e]
  refine w.mono (fun _ h => h) fun i H x H' hi _ y => ?_
  obtain ⟨e, c, hc, rfl⟩ := y
  refine ⟨e, ?_⟩
  simp only [signs, List.getElem?_map, Array.getElem?_toList, hc]
  rfl
theorem signs_get {z : Str} {i : Nat} {x : V} (h : (signs z)[i]? = some x) : ∃ c, z.cps.toList[i]? = some c ∧ x = .str ⟨#[c]⟩ := by
  rw [signs, List.getElem?_map] at h
  cases e : z.cps.toList[i]? with
  | none => rw [e] at h; cases h
  | some c => rw [e] at h; exact ⟨c, rfl, (Option.some.inj h).symm⟩
theorem digName_one (c : Nat) : digName (⟨#[c]⟩ : Str).cps.toList = isDig c := rfl
theorem bigName_cons (c : Nat) (r : List Nat) : bigName (c :: r) = (isCap c && (c :: r).all isWord && decide (r.length < 8)) := rfl
theorem all_map {α : Type} (p : α → Bool) : ∀ l : List α, (l.map p).all id = l.all p
  | [] => rfl
  | a :: r => by
    rw [List.map_cons, List.all_cons, List.all_cons, all_map p r]
    rfl
theorem ok_big (ml : mg "len" = none) (ma : mg "all" = none) {tk : Tok} (hM : mg "MOST_CHARACTERS" = some (.int 8 tk)) {fs fc fg : Addr} (gs : Gf K mg "is_small_letter" fs) (gc : Gf K mg "is_capital" fc) (gd : Gf K mg "is_digit" fg)
    (Fs : FnR P w K mg base CX0 1 fs (spOne isSmall)) (Fc : FnR P w K mg base CX0 1 fc (spOne isCap)) (Fd : FnR P w K mg base CX0 1 fg spDigit) {f : Addr} {fd : FuncData} (F : Fun K "is_big_name" "is_big_name" sBig f fd) : FnR P w K mg base CX0 2 f spBig := by
  refine okR F scB (fun vs H Q E h => ?_) (fun _ _ _ _ _ _ us hl => match us, hl with | [_], _ => rfl) (fun cdv A outer s H vs Q E hr h => ?_)
  · obtain ⟨z, rfl, _⟩ := h
    rfl
  obtain ⟨z, rfl, hz, q⟩ := h
  have hr1 : Room 1 _ := hr.mono (by decide)
  refine ⟨_, pss_cons (ps_if (PW.pt (pw_or (pt_not (pt_chain op_le op_le pe_int (pe_callB call_len_str (by rfl) ml PySem.boot_len (pa_cons (pv 0) pa_nil)) (pe_gi hM))) (pw_or1 (pt_not (pt_val (pe_cf Fc hr1 gc pass0 (pa_cons (pe_item_str (pv 0) pe_int (fun _ _ => rfl)) pa_nil))))))) (pss_one (ps_ret pe_bl)) pss_nil)
    (pss_one (ps_ret (pe_callB (cr_all rfl) (by rfl) ma (by decide +kernel) (pa_cons (pe_lc (own := [("sign", 1)]) (g := gName 1) (tt := tYes)
      (te := tOrV (tCf (spOne isCap) E0 (tCons (tVar 1) tNil)) (tOrV (tCf (spOne isSmall) E0 (tCons (tVar 1) tNil)) (tCf spDigit E0 (tCons (tVar 1) tNil)))) rfl scB.nd (pi_str (pv 0)) (blkOk_by (own := [("sign", 1)]) (N := ["name", "sign"]) (sc := defScope sBig) (by decide +kernel))
      (fun _ _ _ _ _ => by exact pg_name (i := 1) scB.nd rfl (Or.inl rfl)) (fun _ _ _ _ _ => by exact pts_nil) (fun _ _ _ _ _ => by exact pe_or (pe_cf Fc hr1 gc pass0 (pa_cons (pv 1) pa_nil)) (pe_or (pe_cf Fs hr1 gs pass0 (pa_cons (pv 1) pa_nil)) (pe_one (pe_cf Fd hr1 gd pass0 (pa_cons (pv 1) pa_nil)))))) pa_nil)))), ?_⟩
  refine ⟨_, rfl, z, rfl, hz, _, _, rfl, rfl, _, rfl, ?_⟩
  have tail : ∀ c r, z.cps.toList = c :: r → isCap c = true → r.length < 8 → 
     (tRet (tCB (rAll K) (tCons (tLc (iStr (tVar 0)) (gName 1) tYes (tOrV (tCf (spOne isCap) E0 (tCons (tVar 1) tNil)) (tOrV (tCf (spOne isSmall) E0 (tCons (tVar 1) tNil)) (tCf spDigit E0 (tCons (tVar 1) tNil)))) (List.map (fun x => x.snd) [(("sign" : Str), 1)])) tNil)))
      { nx := fun _ H' => Q .non H', rt := Q } [some (.str z), none] H := by
    intro c r ez hc hrl
    refine ⟨_, rfl, z, rfl, fun D hD => lc_map (ys := (z.cps.toList.map isWord).map V.bl) walk_signs hD (fun _ _ => trivial) (by rw [signs_len]; simp [Str.length]) (by rw [signs_len]; exact hz) (fun i x y H' R hx hy sm hR => ?_) ?_⟩
    · obtain ⟨c', hc', rfl⟩ := signs_get hx
      have ey : y = V.bl (isWord c') := by
        rw [List.map_map, List.getElem?_map, hc'] at hy
        exact (Option.some.inj hy).symm
      subst ey
      refine ⟨rfl, _, rfl, c', rfl, _, rfl, ?_⟩
      have ew : isWord c' = (isCap c' || isSmall c' || isDig c') := rfl
      refine ite2 (fun h => ?_) (fun h => ?_)
      · rw [ew, h] at hR
        exact hR
      · refine ⟨_, rfl, c', rfl, _, rfl, ?_⟩
        rw [ew, Bool.eq_false_iff.mpr h] at hR
        refine ite2 (fun h2 => ?_) (fun h2 => ?_)
        · rw [h2] at hR
          exact hR
        · rw [Bool.eq_false_iff.mpr h2] at hR
          exact ⟨_, rfl, _, rfl, (by rw [sizeLine_eq]; exact (by decide : 1 ≤ 16777216)), hR⟩
    · refine ⟨D, _, rfl, SqL.of upd_same, ?_⟩
      have e : bigName z.cps.toList = (z.cps.toList.map isWord).all id := by
        rw [all_map, ez, bigName_cons, hc, decide_eq_true hrl, Bool.true_and, Bool.and_true]
      rw [← e]
      exact q _ fun b o e => by rw [upd_ne (ne_of_none e hD)]; exact e
  have ln : z.cps.toList.length = z.length := by simp [Str.length]
  have no : (∀ c r, z.cps.toList = c :: r → isCap c = true → ¬ r.length < 8) → Q (.bl false) H := fun h => by
    have e : bigName z.cps.toList = false := by
      cases ez : z.cps.toList with
      | nil => rfl
      | cons c r =>
        rw [bigName_cons]
        cases hc : isCap c with
        | false => rfl
        | true => rw [decide_eq_false (h c r ez hc), Bool.and_false]
    have := q H (Same.refl H)
    rw [e] at this
    exact this
  refine ite2 (fun h1 => ?_) (fun h1 => ?_)
  · refine ⟨_, _, rfl, rfl, _, rfl, ?_⟩
    have h1' := of_decide_eq_true h1
    cases ez : z.cps.toList with
    | nil => rw [ez] at ln; simp at ln; omega
    | cons c r =>
      rw [ez, List.length_cons] at ln
      by_cases h2 : (z.length : Int) ≤ 8
      · rw [decide_eq_true h2]
        refine iteF ⟨_, rfl, _, _, c, rfl, rfl, by decide, by decide, by omega, by rw [← Array.getElem?_toList, ez]; rfl, _, rfl, _, rfl, ?_⟩
        cases hc : isCap c with
        | false =>
          refine iteT ?_
          refine no fun c' r' e hc' => ?_
          rw [ez] at e
          cases e
          rw [hc] at hc'
          cases hc'
        | true =>
          refine iteF ?_
          exact tail c r ez hc (by omega)
      · rw [decide_eq_false h2]
        refine iteT ?_
        refine no fun c' r' e _ => ?_
        rw [ez] at e
        cases e
        omega
  · have h1' := of_decide_eq_false (Bool.eq_false_iff.mpr h1)
    refine ⟨_, rfl, ?_⟩
    refine iteT ?_
    refine no fun c r e _ => ?_
    rw [e] at ln
    rw [List.length_cons] at ln
    omega
def holeName (n : Str) : Bool := decide (n = "_")
def plainTop (t : T) : Bool := if (holeName t.name || digName t.name.cps.toList) = true then t.parts.isEmpty else bigName t.name.cps.toList && decide (t.parts.length ≤ 3)
def spPlain (C : Addr) : Sp := fun vs H Q _ => ∃ (v : V) (t : T), vs = [v] ∧ TreeAt C H v t ∧ t.name.length ≤ sizeLine ∧ ∀ H', Same H H' → Q (.bl (plainTop t)) H'
theorem scPl : FnScope ["tree"] ["tree"] (defScope sPlain) := ⟨rfl, rfl, rfl, by decide +kernel, rfl, by decide +kernel, by decide +kernel⟩
theorem ok_plain (T1 : Tt K C) (ml : mg "len" = none) {tk tk2 : Tok} (hH : mg "HOLE" = some (.str "_" tk)) (hM : mg "MOST_PARTS" = some (.int 3 tk2)) {fb fg : Addr} (gb : Gf K mg "is_big_name" fb) (gd : Gf K mg "is_digit" fg)
    (Fb : FnR P w K mg base CX0 2 fb spBig) (Fd : FnR P w K mg base CX0 1 fg spDigit) {f : Addr} {fd : FuncData} (F : Fun K "is_plain" "is_plain" sPlain f fd) : FnR P w K mg base CX0 3 f (spPlain C) := by
  refine okR F scPl (fun vs H Q E h => ?_) (fun _ _ _ _ _ _ us hl => match us, hl with | [_], _ => rfl) (fun cdv A outer s H vs Q E hr h => ?_)
  · obtain ⟨v, t, rfl, _⟩ := h
    rfl
  obtain ⟨v, t, rfl, ht, hn, q⟩ := h
  have hr1 : Room 1 _ := hr.mono (by decide)
  refine ⟨_, pss_cons (ps_if (PW.pt (pw_or (pt_cmpR op_eq (pe_fld (pv 0) rfl) (pe_gs hH) (nomark _)) (pw_or1 (pt_val (pe_cf Fd hr1 gd pass0 (pa_cons (pe_fld (pv 0) rfl) pa_nil)))))) (pss_one (ps_ret (pe_notT (pe_fld (pv 0) rfl)))) pss_nil)
    (pss_one (ps_ret (pe_and (pe_cf Fb hr gb pass0 (pa_cons (pe_fld (pv 0) rfl) pa_nil)) (pe_one (pe_cmpR op_le (pe_callB call_len_seq (by rfl) ml PySem.boot_len (pa_cons (pe_fld (pv 0) rfl) pa_nil)) (pe_gi hM) (nomark _)))))), ?_⟩
  obtain ⟨a, dx, p, vs', rfl, h1, h2, h3⟩ := ht.ex
  have el := h3.len
  refine ⟨_, rfl, a, C, dx, _, _, rfl, h1, T1.cl, T1.nName, fT_name, rfl, _, rfl, ?_⟩
  have first : (holeName t.name || digName t.name.cps.toList) = true → 
      (tRet (tNotT K (tFld K (tVar 0) "parts"))) { nx := fun _ H' => Q .non H', rt := Q } [some (.ref a)] H := by
    intro hb
    refine ⟨_, rfl, a, C, dx, _, _, rfl, h1, T1.cl, T1.nParts, fT_parts, _, .inr (.inl ⟨vs', SqT.of h2, rfl⟩), ?_⟩
    have e : plainTop t = !(!vs'.isEmpty) := by
      unfold plainTop
      rw [if_pos hb, Bool.not_not]
      cases vs' with
      | nil =>
        have : t.parts = [] := List.eq_nil_of_length_eq_zero el.symm
        rw [this]
        rfl
      | cons x r =>
        cases hp : t.parts with
        | nil => rw [hp] at el; simp at el
        | cons y r' => rfl
    exact e ▸ q H (Same.refl H)
  refine ite2 (fun c => ?_) (fun c => ?_)
  · refine iteT ?_
    refine first ?_
    have : t.name = "_" := V.str.inj (of_decide_eq_true c)
    have : holeName t.name = true := decide_eq_true this
    rw [this, Bool.true_or]
  · have hh : holeName t.name = false := decide_eq_false fun e => c (decide_eq_true (congrArg V.str e))
    refine ⟨_, rfl, a, C, dx, _, _, rfl, h1, T1.cl, T1.nName, fT_name, _, rfl, hn, _, rfl, ?_⟩
    refine ite2 (fun c2 => ?_) (fun c2 => ?_)
    · exact first (by rw [c2, Bool.or_true])
    · have cb : (holeName t.name || digName t.name.cps.toList) = false := by rw [hh, Bool.eq_false_iff.mpr c2] <;> rfl
      have e : plainTop t = (bigName t.name.cps.toList && decide (t.parts.length ≤ 3)) := by
        unfold plainTop
        rw [cb, if_neg Bool.false_ne_true]
      refine ⟨_, rfl, a, C, dx, _, _, rfl, h1, T1.cl, T1.nName, fT_name, _, rfl, hn, fun H' sm => ⟨_, rfl, ?_⟩⟩
      have q' := q H' sm
      rw [e] at q'
      cases hb : bigName t.name.cps.toList with
      | true =>
        refine iteT ⟨_, rfl, a, C, dx, _, _, rfl, sm _ _ h1, T1.cl, T1.nParts, fT_parts, p, vs', rfl, .inr (SqT.of (sm _ _ h2)), _, _, rfl, rfl, ?_⟩
        rw [hb, Bool.true_and] at q'
        have : decide ((vs'.length : Int) ≤ 3) = decide (t.parts.length ≤ 3) := by
          rw [el]
          exact decide_eq_decide.mpr (by omega)
        rw [← this] at q'
        exact q'
      | false =>
        refine iteF ?_
        rw [hb, Bool.false_and] at q'
        exact q'
end
end Tw
set_option maxHeartbeats 4000000
/-! name_end. -/
namespace Tw
open PySem PySem.Spec PyProof.Rows L2
abbrev sNameEnd : Stmt := top 20
/-- the signs that end a name: ( ) , and the space -/
def spec : List Nat := [40, 41, 44, 32]
/-- how many signs of a name stand ahead -/
def nl : List Nat → Nat
  | [] => 0
  | c :: r => if c ∈ spec then 0 else nl r + 1
theorem nl_le : ∀ l, nl l ≤ l.length
  | [] => Nat.le_refl _
  | c :: r => by
    unfold nl
    have := nl_le r
    split
    · omega
    · rw [List.length_cons]; omega
def spNameEnd : Sp := fun vs H Q _ => ∃ (z : Str) (s : Nat), vs = [.str z, .int s] ∧ z.length ≤ sizeLine ∧ s ≤ z.length ∧ Q (.int ((s + nl (z.cps.toList.drop s) : Nat) : Int)) H
/-- a while: Pv by what is left; the test is read once, for whatever is wanted of it -/
theorem while_m {c : TT} {tb : TS} {D : Ends} {σ : L2.St} {H : Hp} (Pv : Nat → L2.St → Hp → Prop) (h0 : ∃ m, Pv m σ H)
    (hs : ∀ m σ H (R : Bool → Hp → Prop), Pv m σ H → (∀ H1, tb { D with nx := fun σ' H' => ∃ m', m' < m ∧ Pv m' σ' H', ct := fun σ' H' => ∃ m', m' < m ∧ Pv m' σ' H', bk := D.nx } σ H1 → R true H1) → (∀ H1, D.nx σ H1 → R false H1) → c σ H R) : tWhile c tb D σ H :=
  ⟨Pv, h0, fun m σ H p => hs m σ H _ p (fun H1 h => by
    show if true = true then _ else _
    rw [if_pos rfl]
    exact ⟨_, fun _ _ h => h, h⟩) fun H1 h => by
    show if false = true then _ else _
    rw [if_neg Bool.false_ne_true]
    exact h⟩
section
variable {P : Program} {w : World} {K : PySem.W.Frag} {mg : Str → Option Value} {base : Heap} {C : Addr}
theorem scNE : FnScope ["text", "start", "end"] ["text", "start"] (defScope sNameEnd) := ⟨rfl, rfl, rfl, by decide +kernel, rfl, by decide +kernel, by decide +kernel⟩
theorem len_list (z : Str) : z.cps.toList.length = z.length := by simp [Str.length]
theorem nl_drop {z : Str} {s c : Nat} (h : z.cps.toList[s]? = some c) : nl (z.cps.toList.drop s) = if c ∈ spec then 0 else nl (z.cps.toList.drop (s + 1)) + 1 := by
  obtain ⟨hk, e⟩ := List.getElem?_eq_some_iff.mp h
  rw [List.drop_eq_getElem_cons hk, e]
  rfl
theorem ok_nameEnd (ml : mg "len" = none) {f : Addr} {fd : FuncData} (F : Fun K "name_end" "name_end" sNameEnd f fd) : FnR P w K mg base CX0 1 f spNameEnd := by
  refine okR F scNE (fun vs H Q E h => ?_) (fun _ _ _ _ _ _ us hl => match us, hl with | [_, _], _ => rfl) (fun cdv A outer s H vs Q E hr h => ?_)
  · obtain ⟨z, s, rfl, _⟩ := h
    rfl
  obtain ⟨z, s0, rfl, hz, hs, q⟩ := h
  refine ⟨_, pss_cons (ps_set (i := 2) scNE.nd rfl (Or.inl rfl) (pv 1))
    (pss_cons (ps_while PassesOwn.never (PW.pt (pw_and (pt_cmpR op_lt (pv 2) (pe_callB call_len_str (by rfl) ml PySem.boot_len (pa_cons (pv 0) pa_nil)) (nomark _)) (pw_and1 (pt_cmpR op_notIn_sign (pe_item_str (pv 0) (pv 2) (fun _ _ => rfl)) pe_str (by rfl)))))
      (pss_one (ps_aug (i := 2) scNE.nd rfl (Or.inl rfl) pe_int ip_add)))
    (pss_one (ps_ret (pv 2)))), ?_⟩
  have ll := len_list z
  have sl := sizeLine_eq
  refine ⟨_, rfl, ?_⟩
  refine name_go ?_
  dsimp only
  refine seq_go ?_
  refine while_m (fun m σ H' => ∃ s : Nat, σ = [some (.str z), some (.int s0), some (.int s)] ∧ H' = H ∧ s ≤ z.length ∧ s + nl (z.cps.toList.drop s) = s0 + nl (z.cps.toList.drop s0) ∧ m = z.length - s)
    ⟨_, s0, rfl, rfl, hs, rfl, rfl⟩ ?_
  · rintro m σ H1 R ⟨s, rfl, rfl, hs1, he, rfl⟩ ht hf
    refine ⟨_, rfl, _, rfl, z, rfl, hz, _, _, rfl, rfl, _, rfl, ?_⟩
    refine ite2 (fun c => ?_) (fun c => ?_)
    · have c' : s < z.length := by
        have := of_decide_eq_true c
        omega
      obtain ⟨ch, hch⟩ : ∃ ch, z.cps.toList[s]? = some ch := ⟨_, List.getElem?_eq_getElem (by omega)⟩
      have nd := nl_drop hch
      refine ⟨_, rfl, _, rfl, _, _, ch, rfl, rfl, by omega, by omega, by omega, by rw [← Array.getElem?_toList]; exact hch, _, _, rfl, rfl, _, rfl, ?_⟩
      by_cases hc : ch ∈ spec
      · rw [if_pos hc] at nd
        rw [show decide (ch ∈ ("(), " : Str).cps.toList) = true from decide_eq_true hc]
        rw [nd] at he
        have : s = s0 + nl (z.cps.toList.drop s0) := by omega
        rw [← this] at q
        exact hf _ ⟨_, rfl, q⟩
      · rw [if_neg hc] at nd
        rw [show decide (ch ∈ ("(), " : Str).cps.toList) = false from decide_eq_false hc]
        exact ht _ ⟨_, rfl, _, _, rfl, rfl, _, by omega, s + 1, rfl, rfl, by omega, by omega, rfl⟩
    · have c' : s = z.length := by
        have := of_decide_eq_false (Bool.eq_false_iff.mpr c)
        omega
      have e0 : nl (z.cps.toList.drop s) = 0 := by rw [List.drop_of_length_le (by omega)]; rfl
      have : s = s0 + nl (z.cps.toList.drop s0) := by omega
      rw [← this] at q
      exact hf _ ⟨_, rfl, q⟩
end
end Tw
set_option maxHeartbeats 4000000
/-! What written_tree reads: the mirror. -/
namespace Tw
open PySem PySem.Spec PyProof.Rows L2
def mkS (l : List Nat) : Str := ⟨l.toArray⟩
theorem mkS_list (l : List Nat) : (mkS l).cps.toList = l := by simp [mkS]
theorem mkS_len (l : List Nat) : (mkS l).length = l.length := by simp [mkS, Str.length]
theorem str_ext {a b : Str} (h : a.cps.toList = b.cps.toList) : a = b := by
  obtain ⟨a⟩ := a
  obtain ⟨b⟩ := b
  congr
  exact Array.toList_inj.mp h
theorem mkS_of (z : Str) : mkS z.cps.toList = z := str_ext (mkS_list _)
abbrev Stack := List (Str × List T)
/-- the nodes that end here -/
def closing : Stack → T → List Nat → T × Stack × List Nat
  | [], t, r => (t, [], r)
  | (n, ps) :: rest, t, [] => (t, (n, ps) :: rest, [])
  | (n, ps) :: rest, t, c :: r => if c = 41 then closing rest (.node n (ps ++ [t])) r else (t, (n, ps) :: rest, c :: r)
/-- the tree that is written here, behind what is open; fuel: more than the signs -/
def wtF : Nat → Stack → List Nat → Option T
  | 0, _, _ => none
  | f + 1, stk, cs =>
    if nl cs = 0 then none
    else if (cs.drop (nl cs)).take 1 = [40] then wtF f ((mkS (cs.take (nl cs)), []) :: stk) (cs.drop (nl cs + 1))
    else match closing stk (.node (mkS (cs.take (nl cs))) []) (cs.drop (nl cs)) with
      | (t, [], r) => if r = [] then some t else none
      | (t, (n, ps) :: rest, r) => if r.take 2 = [44, 32] then wtF f ((n, ps ++ [t]) :: rest) (r.drop 2) else none
/-- text[s:e] -/
theorem cut_eq {z : Str} {s e : Nat} (hs : s ≤ z.length) (he : s ≤ e) : cutS z (some (s : Int)) (some (e : Int)) = mkS ((z.cps.toList.drop s).take (e - s)) := by
  refine str_ext ?_
  rw [mkS_list]
  unfold cutS
  rw [HT.sIx_nat, HT.sIx_nat, Nat.min_eq_left hs]
  show ((z.cps.toList.drop s).take (min e z.length - s)).toArray.toList = _
  rw [List.toList_toArray]
  by_cases h : e ≤ z.length
  · rw [Nat.min_eq_left h]
  · rw [Nat.min_eq_right (by omega), List.take_of_length_le (by rw [List.length_drop, len_list] <;> omega), List.take_of_length_le (by rw [List.length_drop, len_list]; omega)]
theorem mkS_inj {a b : List Nat} : mkS a = mkS b ↔ a = b := ⟨fun h => by rw [← mkS_list a, h, mkS_list], fun h => by rw [h]⟩
theorem mkS_is {l : List Nat} {z : Str} (m : List Nat) (h : z.cps.toList = m) : decide (V.str (mkS l) = V.str z) = decide (l = m) := by
  refine decide_eq_decide.mpr ⟨fun e => ?_, fun e => ?_⟩
  · rw [← h, ← V.str.inj e, mkS_list]
  · subst e
    rw [← h, mkS_of]
/-! the lengths of texts -/
def partsW (ps : List T) : Nat := (ps.map fun p => p.term.length + 2).sum
def stkW : Stack → Nat
  | [] => 0
  | (n, ps) :: r => n.length + 1 + partsW ps + stkW r
theorem partsW_snoc (ps : List T) (t : T) : partsW (ps ++ [t]) = partsW ps + (t.term.length + 2) := by
  unfold partsW
  rw [List.map_append, List.sum_append]
  simp
theorem partsW_terms : ∀ ps : List T, ((T.terms ps).map (·.length)).sum + ps.length * 2 = partsW ps
  | [] => by unfold T.terms partsW; rfl
  | p :: r => by
    have ih := partsW_terms r
    unfold T.terms
    unfold partsW at *
    rw [List.map_cons, List.sum_cons, List.map_cons, List.sum_cons, List.length_cons]
    omega
theorem partsW_len (ps : List T) : ps.length * 2 ≤ partsW ps := by
  rw [← partsW_terms]
  omega
theorem term_len_le (n : Str) (ps : List T) : (T.term (.node n ps)).length ≤ n.length + 2 + partsW ps := by
  cases ps with
  | nil => unfold T.term; omega
  | cons p r =>
    rw [term_cons n (by simp), add_len, add_len, add_len]
    have lj := join_len (T.terms (p :: r))
    have lt : (T.terms (p :: r)).length = (p :: r).length := by rw [terms_map, List.length_map]
    have lo : ("(" : Str).length = 1 := by decide
    have lc : (")" : Str).length = 1 := by decide
    rw [lt, partsW_terms] at lj
    omega
/-- .. where the last one has no comma behind it -/
theorem join_len2 : ∀ ys : List Str, ys ≠ [] → (Txt.join ", " ys).length + 2 = (ys.map (·.length)).sum + ys.length * 2
  | [], h => absurd rfl h
  | [y], _ => by
    rw [TL.join_eq]
    show y.length + 2 = _
    simp
  | y :: z :: r, _ => by
    have ih := join_len2 (z :: r) (by simp)
    have e : Txt.join ", " (y :: z :: r) = y ++ ", " ++ Txt.join ", " (z :: r) := by rw [TL.join_eq, TL.join_eq] <;> rfl
    rw [e, add_len, add_len]
    have e2 : (", " : Str).length = 2 := by decide
    rw [e2, List.map_cons, List.sum_cons, List.length_cons]
    omega
theorem term_len_snoc (n : Str) (ps : List T) (t : T) : (T.term (.node n (ps ++ [t]))).length ≤ n.length + 1 + partsW ps + t.term.length + 1 := by
  rw [term_cons n (by simp), add_len, add_len, add_len]
  have lj := join_len2 (T.terms (ps ++ [t])) (by rw [terms_map]; simp)
  have lt : (T.terms (ps ++ [t])).length = (ps ++ [t]).length := by rw [terms_map, List.length_map]
  have lo : ("(" : Str).length = 1 := by decide
  have lc : (")" : Str).length = 1 := by decide
  rw [lt, partsW_terms, partsW_snoc] at lj
  omega
end Tw
set_option maxHeartbeats 4000000
/-! Tree(..): a new tree. -/
namespace Tw
open PySem PySem.Spec PyProof.Rows L2
section
variable {X : Cx} {CX : CXT} {k : Nat} {f C : Addr} {sp : Sp} {E : XK} {x : Str} {e : Expr} {es : List Expr} {t : TA} {p pos : Pos}
/-- C(e, .., *y) -/
theorem pe_makeS2 (M : Mk X.K C f) (F : FnR X.prog X.w X.K X.mg X.base CX k f sp) (hr : Room (k + 1) X.A) (hm : X.mg x = some (.ref C)) (hx : Passes CX X E) (ha : PA X (e :: es) t) (hg : Gl X x := by rfl) (hd : (x == ("__debug__" : Str)) = false := by decide)
    (he : starEach (e :: es) X.env = (false, eval e X.env) :: starEach es X.env := by rfl) (hst : (backTo pos (starEach es X.env)).any (·.1) = true := by rfl) :
    PE X (.Call (.Name x p) (e :: es) [] pos) (StX.tMakeR C sp E t) := by
  refine ⟨fun pins s σ H Q I h => ?_⟩
  refine wpAny_Call_Name_kw (ld_glob I hg hm ?_ hd)
  refine PySem.W.callWith_S2 (h₀ := X.base) I.ok.mod.kin M.kp (thn (ha.run pos pins s σ H _ I h) fun us s1 ⟨vs, H1, I1, r, q⟩ => ⟨I1.kIn, ?_⟩) he hst
  exact StX.run_makeR M F hr hx I1 r q
end
/-- the promise of Tree.__init__ as its callers see it -/
def spMk (C : Addr) : Sp := fun vs H Q E => ∃ ws rest, vs = ws ++ rest ∧ ws.length = (["self", "name"] : List Str).length ∧ rest.length ≤ sizeLine ∧ ∀ p, H p = none → spInit C (ws ++ [V.ref p]) (upd H p (.tup rest)) Q E
/-- what a reading of Tree(n, ..) asks -/
theorem rd_make {C : Addr} {H1 : Hp} {n : Str} {ws : List V} {ts : List T} {Q : VK} {E : XK} (h : TreesAt C H1 ws ts) (fit : TermFits n ts) (hQ : ∀ a H', Same H1 H' → TreeAt C H' (.ref a) (.node n ts) → Q (.ref a) H') :
    ∀ x dx, H1 x = none → H1 dx = none → dx ≠ x → spMk C (V.ref x :: (.str n :: ws)) (upd (upd H1 dx (.own x)) x (.ins C dx [])) (fun v H2 => v = .non ∧ Q (.ref x) H2) E := by
  intro x dx nx ndx ne
  have s0 : Same H1 (upd (upd H1 dx (.own x)) x (.ins C dx [])) := fun b o e => by rw [upd_ne (ne_of_none e nx), upd_ne (ne_of_none e ndx)]; exact e
  have el := h.len
  have sl := sizeLine_eq
  refine ⟨[V.ref x, .str n], ws, rfl, rfl, by have := fit.2.1; omega, fun p hp => ?_⟩
  have s1 : Same (upd (upd H1 dx (.own x)) x (.ins C dx [])) (upd (upd (upd H1 dx (.own x)) x (.ins C dx [])) p (.tup ws)) := fun b o e => by rw [upd_ne (ne_of_none e hp)]; exact e
  have keep : ∀ H', (∀ b o, (upd (upd (upd H1 dx (.own x)) x (.ins C dx [])) p (.tup ws)) b = some o → b ≠ x → H' b = some o) → Same H1 H' := fun H' k b o e => k b o (s1 _ _ (s0 _ _ e)) (ne_of_none e nx)
  refine ⟨x, dx, p, n, ws, ts, rfl, s1 _ _ upd_same, upd_same, ne_of_none (upd_same (H := upd H1 dx (.own x)) (a := x) (o := .ins C dx [])) hp, fun H' k => h.mono (keep H' k), fit, fun H' e k => ⟨rfl, hQ x H' (keep H' k) (.mk e ?_ (h.mono (keep H' k)))⟩⟩
  exact k p _ upd_same (ne_of_none (upd_same (H := upd H1 dx (.own x)) (a := x) (o := .ins C dx [])) hp).symm
/-- Tree(n, ..): a new tree of these parts -/
def tMkT (C : Addr) (t : TA) : TE := fun σ H Q => t σ H fun vs H1 => ∃ (n : Str) (ws : List V) (ts : List T), vs = .str n :: ws ∧ TreesAt C H1 ws ts ∧ TermFits n ts ∧ ∀ a H', Same H1 H' → TreeAt C H' (.ref a) (.node n ts) → Q (.ref a) H'
section
variable {X : Cx} {f C : Addr} {x : Str} {e : Expr} {es : List Expr} {t : TA} {p pos : Pos}
theorem run_mkT {pins : List (Addr × Obj)} {σ : L2.St} {H1 : Hp} {s : Shared} {Q : VK} {us : List Value} {vs : List V} (M : Mk X.K C f) (F : FnR X.prog X.w X.K X.mg X.base CX0 3 f (spMk C)) (hr : Room 4 X.A) (I : Inv X pins σ H1 s) (r : Vals vs us)
    (q : ∃ (n : Str) (ws : List V) (ts : List T), vs = .str n :: ws ∧ TreesAt C H1 ws ts ∧ TermFits n ts ∧ ∀ a H', Same H1 H' → TreeAt C H' (.ref a) (.node n ts) → Q (.ref a) H') : wpAny (model X.prog X.w) X.A (call (.ref C) us) (EP X pins σ Q) X.xe s := by
  obtain ⟨n, ws, ts, rfl, h, fit, hQ⟩ := q
  exact StX.run_makeR (E := E0) M F hr pass0 I r (rd_make h fit hQ)
theorem pe_mk (M : Mk X.K C f) (F : FnR X.prog X.w X.K X.mg X.base CX0 3 f (spMk C)) (hr : Room 4 X.A) (hm : X.mg x = some (.ref C)) (ha : PA X (e :: es) t) (hg : Gl X x := by rfl) (hdb : (x == ("__debug__" : Str)) = false := by decide)
    (he : starEach (e :: es) X.env = (false, eval e X.env) :: starEach es X.env := by rfl) (hpl : (backTo pos (starEach es X.env)).any (·.1) = false := by rfl) : PE X (.Call (.Name x p) (e :: es) [] pos) (tMkT C t) := by
  refine ⟨fun pins s σ H Q I h => ?_⟩
  refine wpAny_Call_Name_kw (ld_glob I hg hm ?_ hdb)
  refine PySem.W.callWith_K (h₀ := X.base) I.ok.mod.kin M.kp (thn (ha.run pos pins s σ H _ I h) fun us s1 ⟨vs, H1, I1, r, q⟩ => ⟨I1.kIn, ?_⟩) he hpl
  exact run_mkT M F hr I1 r q
theorem pe_mkS (M : Mk X.K C f) (F : FnR X.prog X.w X.K X.mg X.base CX0 3 f (spMk C)) (hr : Room 4 X.A) (hm : X.mg x = some (.ref C)) (ha : PA X (e :: es) t) (hg : Gl X x := by rfl) (hdb : (x == ("__debug__" : Str)) = false := by decide)
    (he : starEach (e :: es) X.env = (false, eval e X.env) :: starEach es X.env := by rfl) (hst : (backTo pos (starEach es X.env)).any (·.1) = true := by rfl) : PE X (.Call (.Name x p) (e :: es) [] pos) (tMkT C t) := by
  refine ⟨fun pins s σ H Q I h => ?_⟩
  refine wpAny_Call_Name_kw (ld_glob I hg hm ?_ hdb)
  refine PySem.W.callWith_S2 (h₀ := X.base) I.ok.mod.kin M.kp (thn (ha.run pos pins s σ H _ I h) fun us s1 ⟨vs, H1, I1, r, q⟩ => ⟨I1.kIn, ?_⟩) he hst
  exact run_mkT M F hr I1 r q
end
end Tw
set_option maxHeartbeats 4000000
/-! written_tree. -/
namespace Tw
open PySem PySem.Spec PyProof.Rows L2
abbrev sWritten : Stmt := top 21
/-- what is open, the innermost first: a pair of a name and a list of parts each -/
inductive StkAt (C : Addr) (H0 H : Hp) : List V → List Addr → Stack → Prop
  | nil : StkAt C H0 H [] [] []
  | cons {e l : Addr} {n : Str} {pvs vs : List V} {ps : List T} {ls : List Addr} {stk : Stack} (h1 : H e = some (.tup [.str n, .ref l])) (h2 : H0 l = none) (h3 : H l = some (.lst pvs)) (h4 : TreesAt C H pvs ps) (h5 : l ∉ ls) (h6 : StkAt C H0 H vs ls stk) :
      StkAt C H0 H (.ref e :: vs) (l :: ls) ((n, ps) :: stk)
theorem StkAt.firm {C : Addr} {H0 H H' : Hp} (f : Firm H H') {vs : List V} {ls : List Addr} {stk : Stack} (s : StkAt C H0 H vs ls stk) : (∀ l ∈ ls, H' l = H l) → StkAt C H0 H' vs ls stk := by
  induction s with
  | nil => exact fun _ => .nil
  | cons h1 h2 h3 h4 h5 h6 ih => exact fun k => .cons (f.1 _ _ h1) h2 ((k _ List.mem_cons_self).trans h3) (h4.firm f) h5 (ih fun l hl => k l (List.mem_cons_of_mem _ hl))
theorem StkAt.len {C : Addr} {H0 H : Hp} {vs : List V} {ls : List Addr} {stk : Stack} (s : StkAt C H0 H vs ls stk) : vs.length = stk.length := by
  induction s with
  | nil => rfl
  | cons _ _ _ _ _ _ ih => rw [List.length_cons, List.length_cons, ih]
theorem StkAt.tracked {C : Addr} {H0 H : Hp} {vs : List V} {ls : List Addr} {stk : Stack} (s : StkAt C H0 H vs ls stk) : ∀ l ∈ ls, ∃ pvs, H l = some (.lst pvs) := by
  induction s with
  | nil => exact fun _ h => by cases h
  | cons h1 h2 h3 h4 h5 h6 ih =>
    intro l hl
    rcases List.mem_cons.mp hl with rfl | hl
    · exact ⟨_, h3⟩
    · exact ih l hl
structure WtSt (C : Addr) (z : Str) (H H' : Hp) (ab : Addr) (avs : List V) (ls : List Addr) (stk : Stack) (at_ : Nat) : Prop where
  same : Same H H'
  nab : H ab = none
  al : H' ab = some (.lst avs.reverse)
  st : StkAt C H H' avs ls stk
  nin : ab ∉ ls
  le : at_ ≤ z.length
/-- further new things change nothing -/
theorem WtSt.more {C : Addr} {z : Str} {H H' H2 : Hp} {ab : Addr} {avs : List V} {ls : List Addr} {stk : Stack} {at_ : Nat} (s : WtSt C z H H' ab avs ls stk at_) (k : Same H' H2) : WtSt C z H H2 ab avs ls stk at_ :=
  ⟨s.same.trans k, s.nab, k _ _ s.al, s.st.firm (.of k) fun l hl => by obtain ⟨pvs, e⟩ := s.st.tracked l hl; rw [e, k _ _ e], s.nin, s.le⟩
def spWritten (C : Addr) : Sp := fun vs H Q _ => ∃ z : Str, vs = [.str z] ∧ z.length ≤ 1000000 ∧ ∀ v H', Same H H' → (match wtF (z.length + 1) [] z.cps.toList with | none => v = .non | some t => TreeAt C H' v t) → Q v H'
section
variable {P : Program} {w : World} {K : PySem.W.Frag} {mg : Str → Option Value} {base : Heap} {C : Addr}
theorem scW : FnScope ["text", "above", "at", "end", "name", "tree", "parts"] ["text"] (defScope sWritten) := ⟨rfl, rfl, rfl, by decide +kernel, rfl, by decide +kernel, by decide +kernel⟩
theorem ok_written {fI fe : Addr} (M : Mk K C fI) (Fi : FnR P w K mg base CX0 3 fI (spMk C)) (gT : mg "Tree" = some (.ref C)) (ge : Gf K mg "name_end" fe) (Fe : FnR P w K mg base CX0 1 fe spNameEnd) (ml : mg "len" = none) {f : Addr} {fd : FuncData} (F : Fun K "written_tree" "written_tree" sWritten f fd) : FnR P w K mg base CX0 5 f (spWritten C) := by
  refine okR F scW (fun vs H Q E h => ?_) (fun _ _ _ _ _ _ us hl => match us, hl with | [_], _ => rfl) (fun cdv A outer s H vs Q E hr h => ?_)
  · obtain ⟨z, rfl, _⟩ := h
    rfl
  obtain ⟨z, rfl, hz, q⟩ := h
  have hr1 : Room 1 _ := hr.mono (by decide)
  refine ⟨_, pss_cons (ps_set (i := 1) scW.nd rfl (Or.inl rfl) (pe_lst pa_nil))
    (pss_cons (ps_set (i := 2) scW.nd rfl (Or.inl rfl) pe_int)
    (pss_one (ps_while PassesOwn.never (pt_val pe_bl)
      (pss_cons (ps_set (i := 3) scW.nd rfl (Or.inl rfl) (pe_cf Fe hr1 ge pass0 (pa_cons (pv 0) (pa_cons (pv 2) pa_nil))))
      (pss_cons (ps_if (pt_cmpR op_eq (pv 3) (pv 2) (nomark _)) (pss_one (ps_ret pe_non)) pss_nil)
      (pss_cons (ps_set (i := 4) scW.nd rfl (Or.inl rfl) (pe_slice sl_str (pv 0) (po_some (pv 2)) (po_some (pv 3))))
      (pss_cons (ps_if (pt_cmpR op_eq (pe_slice sl_str (pv 0) (po_some (pv 3)) (po_some (pe_op op_add (pv 3) pe_int))) pe_str (nomark _))
          (pss_cons (ps_expr (pe_bm PySem.F.plainAttrs_list PySem.F.slot_list_append PySem.F.type_list_append mt_append (pv 1) (pa_cons (pe_tup (pa_cons (pv 4) (pa_cons (pe_lst pa_nil) pa_nil))) pa_nil)))
          (pss_cons (ps_set (i := 2) scW.nd rfl (Or.inl rfl) (pe_op op_add (pv 3) pe_int))
          (pss_one ps_continue))) pss_nil)
      (pss_cons (ps_set (i := 5) scW.nd rfl (Or.inl rfl) (pe_mk M Fi hr gT (pa_cons (pv 4) pa_nil)))
      (pss_cons (ps_set (i := 2) scW.nd rfl (Or.inl rfl) (pv 3))
      (pss_cons (ps_while PassesOwn.never (PW.pt (pw_and (pt_truth (pv 1) (by intro _; rfl)) (pw_and1 (pt_cmpR op_eq (pe_slice sl_str (pv 0) (po_some (pv 2)) (po_some (pe_op op_add (pv 2) pe_int))) pe_str (nomark _)))))
          (pss_cons (ps_asg (pe_bm0 PySem.F.plainAttrs_list PySem.F.slot_list_pop PySem.F.type_list_pop mt_pop (pv 1)) (pg_tup (by rfl) (pgs_cons (pg_name (i := 4) scW.nd rfl (Or.inl rfl)) (pgs_cons (pg_name (i := 6) scW.nd rfl (Or.inl rfl)) pgs_nil))))
          (pss_cons (ps_expr (pe_bm PySem.F.plainAttrs_list PySem.F.slot_list_append PySem.F.type_list_append mt_append (pv 6) (pa_cons (pv 5) pa_nil)))
          (pss_cons (ps_set (i := 5) scW.nd rfl (Or.inl rfl) (pe_mkS M Fi hr gT (pa_cons (pv 4) (StX.pa_star (pv 6) pa_nil))))
          (pss_one (ps_aug (i := 2) scW.nd rfl (Or.inl rfl) pe_int ip_add))))))
      (pss_cons (ps_if (pt_not (pt_truth (pv 1) (by intro _; rfl))) (pss_one (ps_ret (pe_ifExp (pt_cmpR op_eq (pv 2) (pe_callB call_len_str (by rfl) ml PySem.boot_len (pa_cons (pv 0) pa_nil)) (nomark _)) (pv 5) pe_non))) pss_nil)
      (pss_cons (ps_if (pt_cmpR op_ne (pe_slice sl_str (pv 0) (po_some (pv 2)) (po_some (pe_op op_add (pv 2) pe_int))) pe_str (nomark _)) (pss_one (ps_ret pe_non)) pss_nil)
      (pss_cons (ps_expr (pe_bm PySem.F.plainAttrs_list PySem.F.slot_list_append PySem.F.type_list_append mt_append (pe_ix ix_tup (pe_ix ix_list (pv 1) (pe_un un_neg pe_int) (fun _ _ => rfl)) pe_int (fun _ _ => rfl)) (pa_cons (pv 5) pa_nil)))
      (pss_one (ps_aug (i := 2) scW.nd rfl (Or.inl rfl) pe_int ip_add))))))))))))))), ?_⟩
  have zl : (0 : Nat) ≤ sizeLine := Nat.zero_le _
  have sl := sizeLine_eq
  have ll := len_list z
  obtain ⟨res, hres0⟩ : ∃ res, wtF (z.length + 1) [] z.cps.toList = res := ⟨_, rfl⟩
  rw [hres0] at q
  refine ⟨zl, fun ab nab => ?_⟩
  refine name_go ?_
  dsimp only
  refine seq_go ?_
  refine name_go ?_
  dsimp only
  have s1 : Same H (upd H ab (.lst [])) := fun b o e => by rw [upd_ne (ne_of_none e nab)]; exact e
  refine while_m (fun m σ H' => ∃ (at_ : Nat) (stk : Stack) (avs : List V) (ls : List Addr) (v3 v4 v5 v6 : Option V) (fu : Nat), σ = [some (.str z), some (.ref ab), some (.int at_), v3, v4, v5, v6] ∧ WtSt C z H H' ab avs ls stk at_ ∧ stkW stk ≤ at_ ∧
      (z.cps.toList.drop at_).length < fu ∧ wtF fu stk (z.cps.toList.drop at_) = res ∧ m = z.length - at_)
    ⟨_, 0, [], [], [], none, none, none, none, z.length + 1, rfl, ⟨s1, nab, upd_same, .nil, by simp, Nat.zero_le _⟩, Nat.zero_le _, by rw [List.drop_zero, ll]; omega, by rw [List.drop_zero]; exact hres0, rfl⟩ ?_
  rintro m σ H1 R ⟨at_, stk, avs, ls, v3, v4, v5, v6, fu, rfl, S, hw, hfu, hres, rfl⟩ ht hf
  refine ⟨_, rfl, ht _ ?_⟩
  obtain ⟨fu', rfl⟩ : ∃ fu', fu = fu' + 1 := ⟨fu - 1, by omega⟩
  have hres' := hres
  generalize hcs : z.cps.toList.drop at_ = cs at hres' hfu
  have hle := S.le
  have csl : cs.length = z.length - at_ := by rw [← hcs, List.length_drop, ll]
  have nle := nl_le cs
  unfold wtF at hres'
  refine ⟨_, rfl, _, rfl, z, at_, rfl, by omega, S.le, ?_⟩
  rw [hcs]
  refine ⟨_, rfl, _, rfl, rfl, _, rfl, ?_⟩
  refine ite2 (fun c => ?_) (fun c => ?_)
  · -- no name
    have e0 : nl cs = 0 := by
      have := V.int.inj (of_decide_eq_true c)
      omega
    rw [if_pos e0] at hres'
    refine q _ _ S.same ?_
    rw [← hres']
  have n0 : nl cs ≠ 0 := fun e => c (decide_eq_true (by rw [e]; rfl))
  rw [if_neg n0] at hres'
  have le2 : at_ + nl cs ≤ z.length := by omega
  have d2 : z.cps.toList.drop (at_ + nl cs) = cs.drop (nl cs) := by rw [← hcs, List.drop_drop]
  -- name = text[at:end]
  refine ⟨_, rfl, _, rfl, _, rfl, _, rfl, _, rfl, z, rfl, by omega, ?_⟩
  have nm : cutS z (some (at_ : Int)) (some ((at_ + nl cs : Nat) : Int)) = mkS (cs.take (nl cs)) := by
    rw [cut_eq S.le (by omega), hcs, show at_ + nl cs - at_ = nl cs by omega]
  rw [nm]
  have nml : (mkS (cs.take (nl cs))).length = nl cs := by rw [mkS_len, List.length_take]; omega
  generalize mkS (cs.take (nl cs)) = name at hres' nml ⊢
  -- is it a (
  have c1 : cutS z (some ((at_ + nl cs : Nat) : Int)) (some (((at_ + nl cs : Nat) : Int) + 1)) = mkS ((cs.drop (nl cs)).take 1) := by
    have := cut_eq (z := z) (s := at_ + nl cs) (e := at_ + nl cs + 1) le2 (by omega)
    rw [d2, show at_ + nl cs + 1 - (at_ + nl cs) = 1 by omega] at this
    rw [← this]
    rfl
  refine ⟨_, rfl, _, rfl, _, rfl, _, rfl, _, _, rfl, rfl, _, rfl, z, rfl, by omega, rfl, _, rfl, ?_⟩
  rw [c1, mkS_is [40] (by decide +kernel)]
  refine ite2 (fun c2 => ?_) (fun c2 => ?_)
  · have c2' := of_decide_eq_true c2
    rw [if_pos c2'] at hres'
    have hlt : nl cs < cs.length := by
      rcases Nat.lt_or_ge (nl cs) cs.length with h | h
      · exact h
      · rw [List.drop_of_length_le h] at c2'
        cases c2'
    refine ⟨_, rfl, .inl ⟨rfl, _, SqL.of S.al⟩, _, rfl, zl, fun l nl' => ⟨by show 2 ≤ sizeLine; omega, fun e ne => ?_⟩⟩
    have k1 : Same H1 (upd H1 l (.lst [])) := fun b o h => by rw [upd_ne (ne_of_none h nl')]; exact h
    have k2 : Same (upd H1 l (.lst [])) (upd (upd H1 l (.lst [])) e (.tup [.str name, .ref l])) := fun b o h => by rw [upd_ne (ne_of_none h ne)]; exact h
    have S2 := S.more (k1.trans k2)
    have hl2 := k2 _ _ (upd_same (H := H1) (a := l) (o := .lst []))
    have he2 := upd_same (H := upd H1 l (.lst [])) (a := e) (o := .tup [.str name, .ref l])
    have nl0 : H l = none := S.same.free nl'
    have lab : l ≠ ab := (ne_of_none S.al nl').symm
    have lls : l ∉ ls := fun h => by obtain ⟨pvs, e⟩ := S.st.tracked l h; rw [nl'] at e; cases e
    have avl := S.st.len
    have stl : ∀ stk : Stack, stk.length ≤ stkW stk := fun stk => by
      induction stk with
      | nil => exact Nat.zero_le _
      | cons a r ih =>
        obtain ⟨n, ps⟩ := a
        unfold stkW
        rw [List.length_cons]
        omega
    have stk1 := stl stk
    refine ⟨ab, avs.reverse, .ref e, rfl, rfl, S2.al, by rw [List.length_reverse]; omega, ?_⟩
    have fm := Firm.list (o := .lst (avs.reverse ++ [.ref e])) S2.al
    refine ⟨_, rfl, _, _, rfl, rfl, ?_⟩
    refine ⟨_, ?_, at_ + nl cs + 1, (name, []) :: stk, .ref e :: avs, l :: ls, _, _, _, _, fu', rfl, ⟨fun b o h => ?_, S.nab, by rw [upd_same, List.reverse_cons], .cons (fm.1 _ _ he2) nl0 (by rw [upd_ne lab]; exact hl2) (by unfold TreesAt; trivial) lls (S2.st.firm fm fun l' hl' => upd_ne fun h => S.nin (h ▸ hl')), ?_, by omega⟩, ?_, ?_, ?_, rfl⟩
    · omega
    · rw [upd_ne (ne_of_none h S.nab)]
      exact S2.same b o h
    · intro h
      rcases List.mem_cons.mp h with h | h
      · exact lab h.symm
      · exact S.nin h
    · unfold stkW partsW
      rw [nml]
      simp
      omega
    · rw [List.length_drop, ll]
      omega
    · rw [← hres', ← hcs, List.drop_drop]
      rfl
  have c2' : ¬ (cs.drop (nl cs)).take 1 = [40] := of_decide_eq_false (Bool.eq_false_iff.mpr c2)
  rw [if_neg c2'] at hres'
  -- tree = Tree(name); at = end
  have fit0 : TermFits name [] := ⟨by omega, Nat.zero_le _, by unfold T.terms; simp⟩
  refine ⟨_, rfl, name, [], [], rfl, (by unfold TreesAt; trivial), fit0, fun a2 H2 k2 ta2 => ?_⟩
  have S2 := S.more k2
  refine ⟨_, rfl, ?_⟩
  refine name_go ?_
  dsimp only
  refine seq_go ?_
  have tl0 : (T.term (.node name [])).length = nl cs := by unfold T.term; exact nml
  obtain ⟨cl, hcl⟩ : ∃ cl, closing stk (.node name []) (cs.drop (nl cs)) = cl := ⟨_, rfl⟩
  rw [hcl] at hres'
  refine while_m (fun m σ H' => ∃ (at2 : Nat) (stk2 : Stack) (avs2 : List V) (ls2 : List Addr) (t : T) (a : Addr) (v4 v6 : Option V), σ = [some (.str z), some (.ref ab), some (.int at2), some (.int ((at_ + nl cs : Nat) : Int)), v4, some (.ref a), v6] ∧ WtSt C z H H' ab avs2 ls2 stk2 at2 ∧
      TreeAt C H' (.ref a) t ∧ t.term.length + stkW stk2 ≤ at2 ∧ at_ < at2 ∧ closing stk2 t (z.cps.toList.drop at2) = cl ∧ m = stk2.length)
    ⟨_, at_ + nl cs, stk, avs, ls, .node name [], a2, some (.str name), v6, rfl, ⟨S2.same, S2.nab, S2.al, S2.st, S2.nin, le2⟩, ta2, by omega, by omega, by rw [d2]; exact hcl, rfl⟩ ?_
  clear k2 ta2 S2
  rintro m2 σ2 H3 R2 ⟨at2, stk2, avs2, ls2, t, a, w4, w6, rfl, S3, ta, hw3, hlt, hcl2, rfl⟩ ht2 hf2
  generalize hcs2 : z.cps.toList.drop at2 = cs2 at hcl2
  have le3 := S3.le
  have cs2l : cs2.length = z.length - at2 := by rw [← hcs2, List.length_drop, ll]
  have c3 : cutS z (some (at2 : Int)) (some ((at2 : Int) + 1)) = mkS (cs2.take 1) := by
    have := cut_eq (z := z) (s := at2) (e := at2 + 1) le3 (by omega)
    rw [hcs2, show at2 + 1 - at2 = 1 by omega] at this
    rw [← this]
    rfl
  -- what comes behind the inner loop
  have after : closing stk2 t cs2 = (t, stk2, cs2) → R2 false H3 := by
    intro e0
    rw [e0] at hcl2
    rw [← hcl2] at hres'
    refine hf2 _ ?_
    refine ⟨_, rfl, !avs2.reverse.isEmpty, .inl ⟨avs2.reverse, SqL.of S3.al, rfl⟩, ?_⟩
    cases hst : S3.st with
    | nil =>
      refine iteT ?_
      refine ⟨_, rfl, _, rfl, z, rfl, by omega, rfl, _, rfl, ?_⟩
      refine ite2 (fun c5 => ?_) (fun c5 => ?_)
      · have e5 : at2 = z.length := by
          have := V.int.inj (of_decide_eq_true c5)
          omega
        have e6 : cs2 = [] := List.eq_nil_of_length_eq_zero (by omega)
        refine ⟨_, rfl, q _ _ S3.same ?_⟩
        rw [← hres']
        dsimp only
        rw [if_pos e6]
        exact ta
      · have e6 : cs2 ≠ [] := fun h => by
          rw [h] at cs2l
          exact c5 (decide_eq_true (congrArg V.int (by simp at cs2l; omega)))
        refine q _ _ S3.same ?_
        rw [← hres']
        dsimp only
        rw [if_neg e6]
    | @cons e l n pvs vs ps ls' stk' h1 h2 h3 h4 h5 h6 =>
      rw [show (!(V.ref e :: vs).reverse.isEmpty) = true by simp]
      refine iteF ?_
      have c6 : cutS z (some (at2 : Int)) (some ((at2 : Int) + 2)) = mkS (cs2.take 2) := by
        have := cut_eq (z := z) (s := at2) (e := at2 + 2) le3 (by omega)
        rw [hcs2, show at2 + 2 - at2 = 2 by omega] at this
        rw [← this]
        rfl
      refine ⟨_, rfl, _, rfl, _, rfl, _, rfl, _, _, rfl, rfl, _, rfl, z, rfl, by omega, rfl, _, rfl, ?_⟩
      rw [c6, mkS_is [44, 32] (by decide +kernel)]
      dsimp only at hres'
      by_cases c7 : cs2.take 2 = [44, 32]
      · rw [decide_eq_true c7]
        rw [if_pos c7] at hres'
        refine iteF ?_
        have al := S3.al
        rw [List.reverse_cons] at al
        unfold stkW at hw3
        have pl := partsW_len ps
        have pvl := h4.len
        have lc2 : 2 ≤ cs2.length := by
          have := congrArg List.length c7
          rw [List.length_take] at this
          simp at this
          omega
        refine ⟨_, rfl, _, rfl, ab, _, _, .ref e, rfl, rfl, SqL.of al, atI_last _ _, e, _, _, .ref l, rfl, rfl, SqT.of h1, atI_nat (j := 1) rfl, .inl ⟨rfl, _, SqL.of h3⟩, _, rfl, l, pvs, .ref a, rfl, rfl, h3, by omega, ?_⟩
        have fm := Firm.list (o := .lst (pvs ++ [.ref a])) h3
        have nab : ab ≠ l := fun h => S3.nin (by rw [h]; exact List.mem_cons_self)
        refine ⟨_, rfl, _, _, rfl, rfl, _, ?_, at2 + 2, (n, ps ++ [t]) :: stk', .ref e :: vs, l :: ls', _, _, _, _, fu', rfl, ⟨fun b o h => ?_, S3.nab, ?_, .cons (fm.1 _ _ h1) h2 upd_same (TreesAt.snoc (ta.firm fm) (h4.firm fm)) h5 (h6.firm fm fun l' hl' => upd_ne fun h => h5 (h ▸ hl')), S3.nin, by omega⟩, ?_, ?_, ?_, rfl⟩
        · omega
        · rw [upd_ne (ne_of_none h h2)]
          exact S3.same b o h
        · rw [upd_ne nab, List.reverse_cons]
          exact al
        · unfold stkW
          rw [partsW_snoc]
          omega
        · rw [List.length_drop, ll]
          omega
        · rw [← hres', ← hcs2, List.drop_drop]
      · rw [decide_eq_false c7]
        rw [if_neg c7] at hres'
        refine iteT ?_
        refine q _ _ S3.same ?_
        rw [← hres']
  refine ⟨_, rfl, !avs2.reverse.isEmpty, .inl ⟨avs2.reverse, SqL.of S3.al, rfl⟩, ?_⟩
  cases hst : S3.st with
  | nil =>
    refine iteF ?_
    exact after (by unfold closing; rfl)
  | @cons e l n pvs vs ps ls' stk' h1 h2 h3 h4 h5 h6 =>
    rw [show (!(V.ref e :: vs).reverse.isEmpty) = true by simp]
    refine iteT ?_
    refine ⟨_, rfl, _, rfl, _, rfl, _, rfl, _, _, rfl, rfl, _, rfl, z, rfl, by omega, rfl, _, rfl, ?_⟩
    rw [c3, mkS_is [41] (by decide +kernel)]
    by_cases c4 : cs2.take 1 = [41]
    · rw [decide_eq_true c4]
      refine ht2 _ ?_
      obtain ⟨r, rfl⟩ : ∃ r, cs2 = 41 :: r := by
        cases cs2 with
        | nil => cases c4
        | cons x r =>
          have : x = 41 := by simpa using c4
          subst this
          exact ⟨r, rfl⟩
      have al := S3.al
      rw [List.reverse_cons] at al
      unfold stkW at hw3
      have pl := partsW_len ps
      have pvl := h4.len
      rw [List.length_cons] at cs2l
      have nab : ab ≠ l := fun h => S3.nin (by rw [h]; exact List.mem_cons_self)
      refine ⟨_, rfl, .inl ⟨rfl, _, SqL.of al⟩, ab, _, .ref e, rfl, rfl, al, by simp, ?_⟩
      rw [List.dropLast_concat]
      have f4 := Firm.list (o := .lst vs.reverse) al
      have h3' : (upd H3 ab (.lst vs.reverse)) l = some (.lst pvs) := by rw [upd_ne nab.symm]; exact h3
      refine ⟨e, _, rfl, SqT.of (f4.1 _ _ h1), rfl, _, _, rfl, _, _, rfl, rfl, ?_⟩
      refine ⟨_, rfl, .inl ⟨rfl, _, SqL.of h3'⟩, _, rfl, l, pvs, .ref a, rfl, rfl, h3', by omega, ?_⟩
      have f5 := Firm.list (o := .lst (pvs ++ [.ref a])) h3'
      have f45 := f4.trans f5
      have tr5 : TreesAt C (upd (upd H3 ab (.lst vs.reverse)) l (.lst (pvs ++ [.ref a]))) (pvs ++ [.ref a]) (ps ++ [t]) := TreesAt.snoc (ta.firm f45) (h4.firm f45)
      have ts := partsW_terms (ps ++ [t])
      rw [partsW_snoc] at ts
      have fit : TermFits n (ps ++ [t]) := ⟨by omega, by rw [List.length_append, List.length_singleton]; omega, by omega⟩
      have tsn := term_len_snoc n ps t
      refine ⟨_, rfl, _, rfl, l, _, rfl, .inr (SqL.of upd_same), n, pvs ++ [.ref a], ps ++ [t], by simp, tr5, fit, fun a3 H6 k6 ta3 => ?_⟩
      have same5 : Same H (upd (upd H3 ab (.lst vs.reverse)) l (.lst (pvs ++ [.ref a]))) := fun b o h => by
        rw [upd_ne (ne_of_none h h2), upd_ne (ne_of_none h S3.nab)]
        exact S3.same b o h
      have S5 : WtSt C z H (upd (upd H3 ab (.lst vs.reverse)) l (.lst (pvs ++ [.ref a]))) ab vs ls' stk' (at2 + 1) := by
        refine ⟨same5, S3.nab, by rw [upd_ne nab, upd_same], h6.firm f45 fun l' hl' => ?_, fun h => S3.nin (List.mem_cons_of_mem _ h), by omega⟩
        have n1 : l' ≠ l := fun h => h5 (h ▸ hl')
        have n2 : l' ≠ ab := fun h => S3.nin (h ▸ List.mem_cons_of_mem _ hl')
        rw [upd_ne n1, upd_ne n2]
      refine ⟨_, rfl, _, _, rfl, rfl, _, ?_, at2 + 1, stk', vs, ls', .node n (ps ++ [t]), a3, _, _, rfl, S5.more k6, ta3, by omega, by omega, ?_, rfl⟩
      · rw [List.length_cons]
        omega
      · unfold closing at hcl2
        rw [if_pos rfl] at hcl2
        rw [← hcl2, ← List.drop_drop, hcs2]
        rfl
    · rw [decide_eq_false c4]
      refine after ?_
      cases hc : cs2 with
      | nil => unfold closing; rfl
      | cons x r =>
        unfold closing
        rw [if_neg]
        rintro rfl
        rw [hc] at c4
        exact c4 rfl
end
end Tw
set_option maxHeartbeats 4000000
/-! Comprehensions whose elements make new things. -/
namespace Tw
open PySem PySem.Spec PyProof.Rows L2
theorem lc_mapS {J : It} {xs ys : List V} {G : Hp → Prop} (w : Walk J xs.length G (YAt xs)) {g : TG} {te : TE} {vs : List Nat} {σ : L2.St} {H1 : Hp} {D : Addr} {Qd : Hp → Prop} (hD : H1 D = none) (hG : ∀ H, Same H1 H → G H) (hl : ys.length = xs.length) (hz : xs.length ≤ sizeLine)
    (hs : ∀ (i : Nat) x y H (R : VK), xs[i]? = some x → ys[i]? = some y → Same H1 H → (∀ H4, Same H H4 → R y H4) → g x (wipe σ vs) H fun σ2 H2 => wipe σ2 vs = wipe σ vs ∧ te σ2 H2 R)
    (hd : ∀ H', Same H1 H' → H' D = some (.lst ys) → Qd H') :
    ∃ W : Nat → Nat → Hp → Prop, (∃ m, W 0 m (upd H1 D (.lst []))) ∧ ∀ i m H, W i m H →
      (J.stop i H ∧ Qd H) ∨ (J.go i H ∧ ∃ Nx : Hp → Prop, (∀ H', Nx H' → ∃ m', m' < m ∧ W (i + 1) m' H') ∧ ∀ x H', J.yld i H x H' → g x (wipe σ vs) H' fun σ2 H2 => wipe σ2 vs = wipe σ vs ∧ tYes σ2 H2 fun b H3 =>
        if b = true then te σ2 H3 fun y H4 => ∃ acc, H4 D = some (.lst acc) ∧ acc.length < sizeLine ∧ Nx (upd H4 D (.lst (acc ++ [y]))) else Nx H3) := by
  refine lc_it w (fun i H => Same H1 H ∧ H D = some (.lst (ys.take i))) ⟨fun b o e => by rw [upd_ne (ne_of_none e hD)]; exact e, upd_same⟩ (fun i H _ e => hG _ e.1) (fun i x H H' hi e y => ?_) (fun H e => ?_)
  · obtain ⟨rfl, hx⟩ := y
    obtain ⟨sm, hDl⟩ := e
    have hi' : i < ys.length := by omega
    have hy : ys[i]? = some ys[i] := by simp [hi']
    have := hs i x ys[i] H' (fun y H4 => ∃ acc, H4 D = some (.lst acc) ∧ acc.length < sizeLine ∧ Same H1 (upd H4 D (.lst (acc ++ [y]))) ∧ (upd H4 D (.lst (acc ++ [y]))) D = some (.lst (ys.take (i + 1)))) hx hy sm
      (fun H4 k => ⟨ys.take i, k _ _ hDl, by rw [List.length_take]; omega, fun b o e => by rw [upd_ne (ne_of_none e hD)]; exact k _ _ (sm _ _ e), by rw [upd_same, take_snoc hy]⟩)
    exact this
  · obtain ⟨sm, hDl⟩ := e
    rw [← hl, List.take_length] at hDl
    exact hd _ sm hDl
/-- the elements are told by a relation -/
theorem lc_rel {J : It} {xs : List V} {G : Hp → Prop} (w : Walk J xs.length G (YAt xs)) {g : TG} {te : TE} {vs : List Nat} {σ : L2.St} {H1 : Hp} {D : Addr} {Qd : Hp → Prop} (hD : H1 D = none) (hG : ∀ H, Same H1 H → G H) (hz : xs.length ≤ sizeLine) (Rel : Nat → V → Hp → Prop)
    (m1 : ∀ j v H H', Same H1 H → Same H H' → Rel j v H → Rel j v H') (m2 : ∀ j v H l l', Same H1 H → H D = some (.lst l) → Rel j v H → Rel j v (upd H D (.lst l')))
    (hs : ∀ (i : Nat) x H (R : VK), xs[i]? = some x → Same H1 H → (∃ l, H D = some (.lst l)) → (∀ y H4, Same H H4 → Rel i y H4 → R y H4) → g x (wipe σ vs) H fun σ2 H2 => wipe σ2 vs = wipe σ vs ∧ te σ2 H2 R)
    (hd : ∀ H' ys, Same H1 H' → H' D = some (.lst ys) → ys.length = xs.length → (∀ j v, ys[j]? = some v → Rel j v H') → Qd H') :
    ∃ W : Nat → Nat → Hp → Prop, (∃ m, W 0 m (upd H1 D (.lst []))) ∧ ∀ i m H, W i m H →
      (J.stop i H ∧ Qd H) ∨ (J.go i H ∧ ∃ Nx : Hp → Prop, (∀ H', Nx H' → ∃ m', m' < m ∧ W (i + 1) m' H') ∧ ∀ x H', J.yld i H x H' → g x (wipe σ vs) H' fun σ2 H2 => wipe σ2 vs = wipe σ vs ∧ tYes σ2 H2 fun b H3 =>
        if b = true then te σ2 H3 fun y H4 => ∃ acc, H4 D = some (.lst acc) ∧ acc.length < sizeLine ∧ Nx (upd H4 D (.lst (acc ++ [y]))) else Nx H3) := by
  refine lc_it w (fun i H => Same H1 H ∧ ∃ ys, H D = some (.lst ys) ∧ ys.length = i ∧ ∀ j v, ys[j]? = some v → Rel j v H) ⟨fun b o e => by rw [upd_ne (ne_of_none e hD)]; exact e, [], upd_same, rfl, fun j v e => by simp at e⟩ (fun i H _ e => hG _ e.1) (fun i x H H' hi e y => ?_) (fun H e => ?_)
  · obtain ⟨rfl, hx⟩ := y
    obtain ⟨sm, ys, hDl, hyl, hR⟩ := e
    refine hs i x H' (fun y H4 => ∃ acc, H4 D = some (.lst acc) ∧ acc.length < sizeLine ∧ Same H1 (upd H4 D (.lst (acc ++ [y]))) ∧ ∃ ys, (upd H4 D (.lst (acc ++ [y]))) D = some (.lst ys) ∧ ys.length = i + 1 ∧ ∀ j v, ys[j]? = some v → Rel j v (upd H4 D (.lst (acc ++ [y])))) hx sm ⟨ys, hDl⟩
      (fun y H4 k r => ⟨ys, k _ _ hDl, by omega, fun b o e => by rw [upd_ne (ne_of_none e hD)]; exact k _ _ (sm _ _ e), ys ++ [y], upd_same, by rw [List.length_append, hyl] <;> rfl, fun j v e => ?_⟩)
    refine m2 j v H4 ys _ (sm.trans k) (k _ _ hDl) ?_
    by_cases hj : j < ys.length
    · rw [List.getElem?_append_left hj] at e
      exact m1 j v _ _ sm k (hR j v e)
    · have : j = ys.length := by
        have := (List.getElem?_eq_some_iff.mp e).1
        rw [List.length_append, List.length_singleton] at this
        omega
      subst this
      rw [List.getElem?_append_right (Nat.le_refl _), Nat.sub_self] at e
      have : y = v := by simpa using e
      subst this
      rw [hyl]
      exact r
  · obtain ⟨sm, ys, hDl, hyl, hR⟩ := e
    exact hd _ ys sm hDl hyl hR
end Tw
set_option maxHeartbeats 4000000
/-! What wtF gives: sizes and names. -/
namespace Tw
open PySem PySem.Spec PyProof.Rows L2
mutual
def T.allN (p : Str → Prop) : T → Prop
  | .node n ps => p n ∧ T.allNs p ps
def T.allNs (p : Str → Prop) : List T → Prop
  | [] => True
  | t :: r => T.allN p t ∧ T.allNs p r
end
theorem allNs_snoc {p : Str → Prop} {t : T} (h : t.allN p) : ∀ {ps : List T}, T.allNs p ps → T.allNs p (ps ++ [t])
  | [], _ => by
    show T.allNs p [t]
    unfold T.allNs
    exact ⟨h, by unfold T.allNs; trivial⟩
  | a :: r, h' => by
    unfold T.allNs at h'
    show T.allNs p (a :: (r ++ [t]))
    unfold T.allNs
    exact ⟨h'.1, allNs_snoc h h'.2⟩
mutual
theorem allN_walk {p : Str → Prop} : ∀ (t : T) (pa : Path), t.allN p → ∀ e ∈ t.walk pa, p e.2.name
  | .node n ps, pa, h, e, he => by
    unfold T.allN at h
    unfold T.walk at he
    rcases List.mem_cons.mp he with rfl | he
    · exact h.1
    · exact allNs_walks ps pa 0 h.2 e he
theorem allNs_walks {p : Str → Prop} : ∀ (ps : List T) (pa : Path) (i : Nat), T.allNs p ps → ∀ e ∈ T.walks pa i ps, p e.2.name
  | [], _, _, _, e, he => by unfold T.walks at he; cases he
  | t :: r, pa, i, h, e, he => by
    unfold T.allNs at h
    unfold T.walks at he
    rcases List.mem_append.mp he with he | he
    · exact allN_walk t _ h.1 e he
    · exact allNs_walks r pa _ h.2 e he
end
theorem sizes_snoc (t : T) : ∀ ps : List T, T.sizes (ps ++ [t]) = T.sizes ps + t.size
  | [] => by
    show T.sizes [t] = T.sizes [] + t.size
    unfold T.sizes T.sizes
    omega
  | a :: r => by
    show T.sizes (a :: (r ++ [t])) = T.sizes (a :: r) + t.size
    unfold T.sizes
    rw [sizes_snoc t r]
    omega
theorem node_size (n : Str) (ps : List T) : (T.node n ps).size = 1 + T.sizes ps := by unfold T.size; rfl
def szStk : Stack → Nat
  | [] => 0
  | (_, ps) :: r => 1 + T.sizes ps + szStk r
theorem szStk_cons (n : Str) (ps : List T) (r : Stack) : szStk ((n, ps) :: r) = 1 + T.sizes ps + szStk r := rfl
theorem szStk_nil : szStk [] = 0 := rfl
def okStk (p : Str → Prop) : Stack → Prop
  | [] => True
  | (n, ps) :: r => p n ∧ T.allNs p ps ∧ okStk p r
theorem closing_size : ∀ (stk : Stack) (t : T) (r : List Nat), (closing stk t r).1.size + szStk (closing stk t r).2.1 = t.size + szStk stk ∧ (closing stk t r).2.2.length ≤ r.length
  | [], t, r => ⟨rfl, Nat.le_refl _⟩
  | (n, ps) :: rest, t, [] => ⟨rfl, Nat.le_refl _⟩
  | (n, ps) :: rest, t, c :: r => by
    unfold closing
    split
    · have ih := closing_size rest (.node n (ps ++ [t])) r
      rw [node_size, sizes_snoc] at ih
      rw [szStk_cons, List.length_cons]
      constructor
      · have := ih.1
        omega
      · omega
    · exact ⟨rfl, Nat.le_refl _⟩
theorem closing_ok {p : Str → Prop} : ∀ (stk : Stack) (t : T) (r : List Nat), t.allN p → okStk p stk → (closing stk t r).1.allN p ∧ okStk p (closing stk t r).2.1
  | [], t, r, h1, h2 => ⟨h1, h2⟩
  | (n, ps) :: rest, t, [], h1, h2 => ⟨h1, h2⟩
  | (n, ps) :: rest, t, c :: r, h1, h2 => by
    unfold closing
    split
    · unfold okStk at h2
      exact closing_ok rest _ r (by unfold T.allN; exact ⟨h2.1, allNs_snoc h1 h2.2.1⟩) h2.2.2
    · exact ⟨h1, h2⟩
theorem nl_free : ∀ (cs : List Nat), ∀ c ∈ cs.take (nl cs), c ∉ spec
  | [], c, h => by simp at h
  | x :: r, c, h => by
    unfold nl at h
    split at h
    · simp at h
    · rename_i hx
      rw [List.take_succ_cons] at h
      rcases List.mem_cons.mp h with rfl | h
      · exact hx
      · exact nl_free r c h
/-- a name of a term, of at most B signs -/
def nameOk (B : Nat) (n : Str) : Prop := n.cps.toList ≠ [] ∧ (∀ c ∈ n.cps.toList, c ∉ spec) ∧ n.length ≤ B
theorem nameOk_take {B : Nat} {cs : List Nat} (h0 : nl cs ≠ 0) (hB : cs.length ≤ B) : nameOk B (mkS (cs.take (nl cs))) := by
  have := nl_le cs
  refine ⟨?_, ?_, ?_⟩
  · rw [mkS_list]
    intro e
    have := congrArg List.length e
    rw [List.length_take, List.length_nil] at this
    omega
  · rw [mkS_list]
    exact nl_free cs
  · rw [mkS_len, List.length_take]
    omega
theorem wt_size : ∀ (f : Nat) (stk : Stack) (cs : List Nat) (t : T), wtF f stk cs = some t → t.size ≤ szStk stk + cs.length
  | 0, _, _, _, h => by cases h
  | f + 1, stk, cs, t, h => by
    have nle := nl_le cs
    unfold wtF at h
    split at h
    · cases h
    · rename_i n0
      split at h
      · have ih := wt_size f _ _ t h
        rw [szStk_cons, List.length_drop] at ih
        unfold T.sizes at ih
        omega
      · have cz := closing_size stk (.node (mkS (cs.take (nl cs))) []) (cs.drop (nl cs))
        rw [node_size, List.length_drop] at cz
        unfold T.sizes at cz
        generalize closing stk (.node (mkS (cs.take (nl cs))) []) (cs.drop (nl cs)) = cl at h cz
        obtain ⟨t', stk', r'⟩ := cl
        cases stk' with
        | nil =>
          dsimp only at h
          split at h
          · cases h
            have := cz.1
            rw [szStk_nil] at this
            dsimp only at *
            omega
          · cases h
        | cons a rest =>
          obtain ⟨n, ps⟩ := a
          dsimp only at h
          split at h
          · have ih := wt_size f _ _ t h
            rw [szStk_cons, sizes_snoc, List.length_drop] at ih
            have z1 := cz.1
            have z2 := cz.2
            dsimp only at z1 z2
            rw [szStk_cons] at z1
            omega
          · cases h
theorem wt_names {B : Nat} : ∀ (f : Nat) (stk : Stack) (cs : List Nat) (t : T), wtF f stk cs = some t → okStk (nameOk B) stk → cs.length ≤ B → t.allN (nameOk B)
  | 0, _, _, _, h, _, _ => by cases h
  | f + 1, stk, cs, t, h, ho, hB => by
    have nle := nl_le cs
    unfold wtF at h
    split at h
    · cases h
    · rename_i n0
      have nk := nameOk_take n0 hB
      split at h
      · exact wt_names f _ _ t h (by unfold okStk T.allNs; exact ⟨nk, trivial, ho⟩) (by rw [List.length_drop]; omega)
      · have cz := closing_size stk (.node (mkS (cs.take (nl cs))) []) (cs.drop (nl cs))
        have co := closing_ok (p := nameOk B) stk (.node (mkS (cs.take (nl cs))) []) (cs.drop (nl cs)) (by unfold T.allN T.allNs; exact ⟨nk, trivial⟩) ho
        rw [List.length_drop] at cz
        generalize closing stk (.node (mkS (cs.take (nl cs))) []) (cs.drop (nl cs)) = cl at h cz co
        obtain ⟨t', stk', r'⟩ := cl
        cases stk' with
        | nil =>
          dsimp only at h
          split at h
          · cases h
            exact co.1
          · cases h
        | cons a rest =>
          obtain ⟨n, ps⟩ := a
          dsimp only at h
          split at h
          · have c2 := co.2
            unfold okStk at c2
            refine wt_names f _ _ t h (by unfold okStk; exact ⟨c2.1, allNs_snoc co.1 c2.2.1, c2.2.2⟩) ?_
            have := cz.2
            dsimp only at this
            rw [List.length_drop]
            omega
          · cases h
end Tw
set_option maxHeartbeats 4000000
/-! The two errors; Tree.read. -/
namespace Tw
open PySem PySem.Spec PyProof.Rows L2
abbrev sBadTerm : Stmt := inClass (top 3) 0
abbrev sNoPlace : Stmt := inClass (top 4) 0
abbrev sRead : Stmt := sTree 3
def spEx (C : Addr) (f : Str) : Sp := fun vs H Q _ => ∃ (a : Addr) (v : V), vs = [.ref a, v] ∧ H a = some (exo a C none) ∧ ∀ dx, H dx = none → dx ≠ a → Q .non (upd (upd H dx (exd dx [(f, v)])) a (exo a C (some dx)))
/-- what the top says of an error's class -/
structure Ext (K : PySem.W.Frag) (mg : Str → Option Value) (x : Str) (C fI : Addr) (f : Str) : Prop where
  oex : OexC K C
  noF : PySem.W.findIn K (.ref C) f = some none
  iC : PySem.W.findIn K (.ref C) "__init__" = some (some (.ref fI))
  tI : PySem.W.typeIn K (.ref fI) = some (.type "function")
  gC : mg x = some (.ref C)
  te : PySem.W.exmOne K (.ref C) (.ref C) = some true
section
variable {P : Program} {w : World} {K : PySem.W.Frag} {mg : Str → Option Value} {base : Heap} {C : Addr}
theorem scBT : FnScope ["self", "term"] ["self", "term"] (defScope sBadTerm) := ⟨rfl, rfl, rfl, by decide +kernel, rfl, by decide +kernel, by decide +kernel⟩
theorem scNP : FnScope ["self", "path"] ["self", "path"] (defScope sNoPlace) := ⟨rfl, rfl, rfl, by decide +kernel, rfl, by decide +kernel, by decide +kernel⟩
theorem ok_badTerm {fI : Addr} {x : Str} (T : Ext K mg x C fI "term") {fd : FuncData} (F : Fun K "__init__" "BadTerm.__init__" sBadTerm fI fd) : FnOk P w K mg base CX0 1 fI fd ["self", "term"] (spEx C "term") := by
  refine F.ok scBT (fun vs H Q E h => ?_) (fun cdv A outer s H vs Q E hr h => ?_)
  · obtain ⟨a, v, rfl, _⟩ := h
    rfl
  obtain ⟨a, v, rfl, ha, q⟩ := h
  exact ⟨_, pss_one (ps_ost (pv 0) (pv 1)), _, rfl, _, rfl, a, C, rfl, T.oex, T.noF, .inl ⟨ha, q⟩⟩
theorem ok_noPlace {fI : Addr} {x : Str} (T : Ext K mg x C fI "path") {fd : FuncData} (F : Fun K "__init__" "NoPlace.__init__" sNoPlace fI fd) : FnOk P w K mg base CX0 1 fI fd ["self", "path"] (spEx C "path") := by
  refine F.ok scNP (fun vs H Q E h => ?_) (fun cdv A outer s H vs Q E hr h => ?_)
  · obtain ⟨a, v, rfl, _⟩ := h
    rfl
  obtain ⟨a, v, rfl, ha, q⟩ := h
  exact ⟨_, pss_one (ps_ost (pv 0) (pv 1)), _, rfl, _, rfl, a, C, rfl, T.oex, T.noF, .inl ⟨ha, q⟩⟩
end
/-- raising it: a new dict with the field -/
theorem rd_mkO {C : Addr} {f : Str} {σ : L2.St} {i : Nat} {v : V} {H : Hp} {Q : XK} (hv : σ[i]? = some (some v)) (q : ∀ d, H d = none → Q (.ref C) (some d) (upd H d (.xd [(f, v)]))) : tMkO C (spEx C f) [] (tCons (tVar i) tNil) σ H Q := by
  refine ⟨v, hv, by simp, fun a na => ?_⟩
  refine ⟨a, v, rfl, upd_same, fun dx ndx ne => ⟨rfl, dx, [(f, v)], upd_same, by rw [upd_ne ne, upd_same], ?_, ?_⟩⟩
  · rw [upd_ne ne] at ndx
    exact ndx
  · have nd : H dx = none := by rw [upd_ne ne] at ndx; exact ndx
    have e : upd (del (upd (upd (upd H a (exo a C none)) dx (exd dx [(f, v)])) a (exo a C (some dx))) a) dx (.xd [(f, v)]) = upd H dx (.xd [(f, v)]) := by
      funext b
      by_cases hb : b = dx
      · subst hb; rw [upd_same, upd_same]
      · rw [upd_ne hb, upd_ne hb]
        by_cases ha : b = a
        · subst ha; rw [del_same, na]
        · rw [del_ne ha, upd_ne ha, upd_ne hb, upd_ne ha]
    rw [e]
    exact q dx nd
def plainAll (t : T) : Bool := (t.walk []).all fun e => plainTop e.2
/-- what Tree.read reads -/
def readT (z : Str) : Option T := match wtF (z.length + 1) [] z.cps.toList with
  | none => none
  | some t => if plainAll t = true then some t else none
def spRead (C CB : Addr) : Sp := fun vs H Q E => ∃ z : Str, vs = [.ref C, .str z] ∧ z.length ≤ 1000000 ∧ (∀ t, readT z = some t → ∀ v H', Same H H' → TreeAt C H' v t → Q v H') ∧
  (readT z = none → ∀ d H', H d = none → Same H H' → H' d = some (.xd [("term", .str z)]) → E (.ref CB) (some d) H')
section
variable {P : Program} {w : World} {K : PySem.W.Frag} {mg : Str → Option Value} {base : Heap} {C CB fB : Addr}
theorem scR : FnScope ["cls", "term", "tree", "_", "part"] ["cls", "term"] (defScope sRead) := ⟨rfl, rfl, rfl, by decide +kernel, rfl, by decide +kernel, by decide +kernel⟩
theorem ok_read {fw fp fq : Addr} (gw : Gf K mg "written_tree" fw) (Fw : FnR P w K mg base CX0 5 fw (spWritten C)) (gp : Gf K mg "places" fp) (Fp : FnR P w K mg base CX0 1 fp (spPlaces C)) (gq : Gf K mg "is_plain" fq) (Fq : FnR P w K mg base CX0 3 fq (spPlain C)) (ma : mg "all" = none)
    (B : Ext K mg "BadTerm" CB fB "term") {fdB : FuncData} (FB : Fun K "__init__" "BadTerm.__init__" sBadTerm fB fdB) {f : Addr} {fd : FuncData} (F : Fun K "read" "Tree.read" sRead f fd) : FnR P w K mg base (L2.CX P w) 6 f (spRead C CB) := by
  have bB : Binds K fdB ["self", "term"] [] := FB.binds fun _ _ _ _ _ _ us hl => match us, hl with | [_, _], _ => rfl
  have GB : FnOk P w K mg base CX0 1 fB fdB ["self", "term"] (spEx CB "term") := ok_badTerm B FB
  refine FnOk.toR (fd := fd) (ps := ["cls", "term"]) ?_ (F.binds fun _ _ _ _ _ _ us hl => match us, hl with | [_, _], _ => rfl)
  refine F.okX scR (fun vs H Q E h => ?_) (fun cdv A outer s H vs Q E hr h => ?_)
  · obtain ⟨z, rfl, _⟩ := h
    rfl
  obtain ⟨z, rfl, hz, q1, q2⟩ := h
  have hr1 : Room 1 _ := hr.mono (by decide)
  have hr2 : Room 2 _ := hr.mono (by decide)
  have hr3 : Room 3 _ := hr.mono (by decide)
  refine ⟨_, pss_cons (ps_set (i := 2) scR.nd rfl (Or.inl rfl) (pe_cf Fw hr gw pass0 (pa_cons (pv 1) pa_nil)))
    (pss_cons (ps_if (PW.pt (pw_or (pt_cmp (pc_isN (pv 2))) (pw_or1 (pt_not (pt_val (pe_callB (cr_all rfl) (by rfl) ma (by decide +kernel) (pa_cons
        (pe_lc (own := [("_", 3), ("part", 4)]) (g := gTup K 2 (gCons (gName 3) (gCons (gName 4) gNil))) (tt := tYes) (te := tCf (spPlain C) E0 (tCons (tVar 4) tNil)) rfl scR.nd (pi_list (pe_cf Fp hr1 gp pass0 (pa_cons (pv 2) pa_nil))) (blkOk_by (own := [("_", 3), ("part", 4)]) (N := ["cls", "term", "tree", "_", "part"]) (sc := defScope sRead) (by decide +kernel))
          (fun _ _ _ _ _ => by exact pg_tup (by rfl) (pgs_cons (pg_name (i := 3) scR.nd rfl (Or.inl rfl)) (pgs_cons (pg_name (i := 4) scR.nd rfl (Or.inl rfl)) pgs_nil))) (fun _ _ _ _ _ => by exact pts_nil) (fun _ _ _ _ _ => by exact pe_cf Fq hr3 gq pass0 (pa_cons (pv 4) pa_nil))) pa_nil)))))))
        (pss_one (ps_raise rfl (takes_of rfl rfl rfl rfl) (pmk_oex B.oex B.iC B.tI GB hr2 bB .nil pass0 rfl B.gC (pa_cons (pv 1) pa_nil)))) pss_nil)
    (pss_one (ps_ret (pv 2)))), ?_⟩
  refine ⟨_, rfl, z, rfl, hz, fun v H1 k1 hv => ?_⟩
  have sl := sizeLine_eq
  have fail : ∀ (v : V) (H2 : Hp), readT z = none → Same H H2 → tMkO CB (spEx CB "term") [] (tCons (tVar 1) tNil) [some (.ref C), some (.str z), some v, none, none] H2 (fun cls d H' => E cls d H') := fun v H2 hn k => by
    refine rd_mkO rfl fun d nd => q2 hn d _ (k.free nd) (fun b o e => ?_) upd_same
    rw [upd_ne (ne_of_none (k b o e) nd)]
    exact k b o e
  cases hw : wtF (z.length + 1) [] z.cps.toList with
  | none =>
    rw [hw] at hv
    have hv' : v = .non := hv
    subst hv'
    refine ⟨_, rfl, _, rfl, iteT ?_⟩
    refine iteT ?_
    exact fail _ H1 (by unfold readT; rw [hw]) k1
  | some t =>
    rw [hw] at hv
    have hv' : TreeAt C H1 v t := hv
    obtain ⟨a, dx, p, vs', rfl, h1, h2, h3⟩ := hv'.ex
    have tsz := wt_size _ _ _ _ hw
    rw [szStk_nil, len_list] at tsz
    have tnm := wt_names (B := z.length) _ _ _ _ hw (by unfold okStk; trivial) (by rw [len_list]; omega)
    refine ⟨_, rfl, _, rfl, iteF ?_⟩
    refine ⟨_, rfl, .ref a, t, rfl, hv', by omega, fun l H2 ws k2 nl hl en => ⟨l, rfl, ⟨_, SqL.of hl⟩, fun D hD => lc_mapS (ys := ((t.walk []).map fun e => plainTop e.2).map V.bl) walk_list hD (fun H' s => s.seq (SqL.of hl)) ?_ ?_ (fun i x y H' R hx hy sm hR => ?_) (fun H' sm hD' => ?_)⟩⟩
    · rw [List.length_map, List.length_map, paired_len en]
    · rw [paired_len en, walk_len]
      omega
    · obtain ⟨e, he, ⟨ae, q, we, rfl, g1, g2, g3⟩⟩ := paired_get en hx
      have ey : y = V.bl (plainTop e.2) := by
        rw [List.map_map, List.getElem?_map, he] at hy
        exact (Option.some.inj hy).symm
      subst ey
      have hn := allN_walk t [] tnm e (List.mem_of_getElem? he)
      exact ⟨ae, _, rfl, SqT.of (sm _ _ g1), rfl, _, _, rfl, _, _, rfl, rfl, rfl, _, rfl, we, e.2, rfl, g3.mono sm, (by have := hn.2.2; omega), fun H4 k4 => hR H4 k4⟩
    · refine ⟨D, _, rfl, SqL.of hD', _, rfl, ?_⟩
      have k3 : Same H H' := k1.trans (k2.trans sm)
      have ea : (((t.walk []).map fun e => plainTop e.2).all id) = plainAll t := all_map _ _
      rw [ea]
      cases hp : plainAll t with
      | true =>
        refine iteF ?_
        refine ⟨_, rfl, q1 t ?_ _ H' k3 (hv'.mono (k2.trans sm))⟩
        unfold readT
        rw [hw]
        dsimp only
        rw [if_pos hp]
      | false =>
        refine iteT ?_
        refine fail _ H' ?_ k3
        unfold readT
        rw [hw]
        dsimp only
        rw [hp, if_neg Bool.false_ne_true]
end
end Tw
set_option maxHeartbeats 4000000
/-! Order of pairs and of trees. -/
namespace Tw
open PySem PySem.Spec PyProof.Rows L2
/-- (int, text) < (int, text) -/
def pairLt (a : Int) (s : Str) (b : Int) (t : Str) : Bool := if a = b then decide (s.cps.toList < t.cps.toList) else decide (a < b)
def pairLe (a : Int) (s : Str) (b : Int) (t : Str) : Bool := if a = b then (if s = t then true else !decide (t.cps.toList < s.cps.toList)) else decide (a ≤ b)
def rPair (K : PySem.W.Frag) (f : Int → Str → Int → Str → Bool) : R2 := fun x y H Q => ∃ (p q : Addr) (a b : Int) (s t : Str), x = .ref p ∧ y = .ref q ∧ SqT K H p [.int a, .str s] ∧ SqT K H q [.int b, .str t] ∧ Q (.bl (f a s b t)) H
theorem two_vals {a : Int} {s : Str} {its : List Value} (r : Vals [V.int a, V.str s] its) : ∃ t u, its = [Value.int a t, Value.str s u] := by
  obtain ⟨u1, u2, rfl, r1, r2⟩ := vals2 r
  obtain ⟨t, rfl⟩ := r1
  obtain ⟨u, rfl⟩ := r2
  exact ⟨t, u, rfl⟩
def sel (p q : Bool) : Nat → Bool
  | 0 => p
  | _ => q
theorem eq_at2 {A : Around} {sh : Shared} {a b : Int} {s t : Str} {t1 t2 t3 t4 : Tok} : ∀ j (h1 : j < (#[Value.int a t1, Value.str s t2] : Array Value).size) (h2 : j < (#[Value.int b t3, Value.str t t4] : Array Value).size), SeqAt.EqAt A sh (#[Value.int a t1, Value.str s t2] : Array Value)[j] (#[Value.int b t3, Value.str t t4] : Array Value)[j] (sel (a == b) (s == t) j)
  | 0, _, _ => SeqAt.EqAt.int_int a t1 b t3
  | 1, _, _ => SeqAt.EqAt.str_str s t2 t t4
  | j + 2, h, _ => absurd h (by simp)
theorem op_pairLt {X : Cx} (hu : X.A.units < cLine) : OpR X (compareOp .Lt) (rPair X.K pairLt) := by
  intro pins sh σ H x y v u Q I rx ry h
  obtain ⟨p, q, a, b, s, t, rfl, rfl, ha, hb, qq⟩ := h
  cases rx
  cases ry
  obtain ⟨its, r1, p1, _⟩ := I.tuple ha
  obtain ⟨its2, r2, p2, _⟩ := I.tuple hb
  obtain ⟨t1, t2, rfl⟩ := two_vals r1
  obtain ⟨t3, t4, rfl⟩ := two_vals r2
  have R := Ob.RcOp.tuples_lt (A := X.A) (s := sh) (e := sel (a == b) (s == t)) (r := sel (decide (a < b)) (decide (s.cps.toList < t.cps.toList))) p1 p2 hu eq_at2 (fun j h1 h2 _ => by
    match j, h1 with
    | 0, _ => exact Ob.RcOp.lt_int _ _ _ _
    | 1, _ => exact fun _ _ _ _ h => PyProof.Rows.lt_str h
    | j + 2, h => exact absurd h (by simp))
  have e : Ob.lexAt (sel (a == b) (s == t)) (sel (decide (a < b)) (decide (s.cps.toList < t.cps.toList))) (decide ((#[Value.int a t1, Value.str s t2] : Array Value).size < (#[Value.int b t3, Value.str t t4] : Array Value).size)) 0 (min (#[Value.int a t1, Value.str s t2] : Array Value).size (#[Value.int b t3, Value.str t t4] : Array Value).size) = pairLt a s b t := by
    show (if (a == b) = true then (if (s == t) = true then false else decide (s.cps.toList < t.cps.toList)) else decide (a < b)) = _
    unfold pairLt
    by_cases h1 : a = b
    · rw [if_pos (beq_iff_eq.mpr h1), if_pos h1]
      by_cases h2 : s = t
      · subst h2
        rw [if_pos (beq_self_eq_true s)]
        exact (decide_eq_false (List.lt_irrefl _)).symm
      · rw [if_neg (fun z => h2 (beq_iff_eq.mp z))]
    · rw [if_neg (fun z => h1 (beq_iff_eq.mp z)), if_neg h1]
  have z : wpAny (model X.prog X.w) X.A (compareOp .Lt (.ref p) (.ref q)) (EP X pins σ Q) X.xe sh := R X.prog X.w X.xe (EP X pins σ Q) ⟨.bl _, H, I, rfl, e ▸ qq⟩
  exact z
theorem op_pairLe {X : Cx} (hu : X.A.units < cLine) : OpR X (compareOp .LtE) (rPair X.K pairLe) := by
  intro pins sh σ H x y v u Q I rx ry h
  obtain ⟨p, q, a, b, s, t, rfl, rfl, ha, hb, qq⟩ := h
  cases rx
  cases ry
  obtain ⟨its, r1, p1, _⟩ := I.tuple ha
  obtain ⟨its2, r2, p2, _⟩ := I.tuple hb
  obtain ⟨t1, t2, rfl⟩ := two_vals r1
  obtain ⟨t3, t4, rfl⟩ := two_vals r2
  have R := Ob.RcOp.tuples_le (A := X.A) (s := sh) (e := sel (a == b) (s == t)) (r := sel (decide (a ≤ b)) (!decide (t.cps.toList < s.cps.toList))) p1 p2 hu eq_at2 (fun j h1 h2 _ => by
    match j, h1 with
    | 0, _ => exact Ob.RcOp.le_int _ _ _ _
    | 1, _ => exact fun _ _ _ _ h => PySem.P.le_str h
    | j + 2, h => exact absurd h (by simp))
  have e : Ob.lexAt (sel (a == b) (s == t)) (sel (decide (a ≤ b)) (!decide (t.cps.toList < s.cps.toList))) (decide ((#[Value.int a t1, Value.str s t2] : Array Value).size ≤ (#[Value.int b t3, Value.str t t4] : Array Value).size)) 0 (min (#[Value.int a t1, Value.str s t2] : Array Value).size (#[Value.int b t3, Value.str t t4] : Array Value).size) = pairLe a s b t := by
    show (if (a == b) = true then (if (s == t) = true then true else !decide (t.cps.toList < s.cps.toList)) else decide (a ≤ b)) = _
    unfold pairLe
    by_cases h1 : a = b
    · rw [if_pos (beq_iff_eq.mpr h1), if_pos h1]
      by_cases h2 : s = t
      · subst h2
        rw [if_pos (beq_self_eq_true s), if_pos rfl]
      · rw [if_neg (fun z => h2 (beq_iff_eq.mp z)), if_neg h2]
    · rw [if_neg (fun z => h1 (beq_iff_eq.mp z)), if_neg h1]
  have z : wpAny (model X.prog X.w) X.A (compareOp .LtE (.ref p) (.ref q)) (EP X pins σ Q) X.xe sh := R X.prog X.w X.xe (EP X pins σ Q) ⟨.bl _, H, I, rfl, e ▸ qq⟩
  exact z
def pairEq (a : Int) (s : Str) (b : Int) (t : Str) : Bool := (a == b) && (s == t)
theorem op_pairEq {X : Cx} (hu : X.A.units < cLine) : OpR X (compareOp .Eq) (rPair X.K pairEq) := by
  intro pins sh σ H x y v u Q I rx ry h
  obtain ⟨p, q, a, b, s, t, rfl, rfl, ha, hb, qq⟩ := h
  cases rx
  cases ry
  obtain ⟨its, r1, p1, _⟩ := I.tuple ha
  obtain ⟨its2, r2, p2, _⟩ := I.tuple hb
  obtain ⟨t1, t2, rfl⟩ := two_vals r1
  obtain ⟨t3, t4, rfl⟩ := two_vals r2
  have R := SeqAt.RcAt.tuples (A := X.A) (s := sh) (e := sel (a == b) (s == t)) p1 p2 hu eq_at2
  have e : ((List.range (min (#[Value.int a t1, Value.str s t2] : Array Value).size (#[Value.int b t3, Value.str t t4] : Array Value).size)).all (sel (a == b) (s == t)) && (#[Value.int a t1, Value.str s t2] : Array Value).size == (#[Value.int b t3, Value.str t t4] : Array Value).size) = pairEq a s b t := by
    show (((a == b) && ((s == t) && true)) && true) = _
    unfold pairEq
    rw [Bool.and_true, Bool.and_true]
  have z : wpAny (model X.prog X.w) X.A (compareOp .Eq (.ref p) (.ref q)) (EP X pins σ Q) X.xe sh := R X.prog X.w X.xe (EP X pins σ Q) ⟨.bl _, H, I, rfl, e ▸ qq⟩
  exact z
/-- x op y of two instances of the class at C by its own def at g -/
def rOwnD (C : Addr) (sp : Sp) (E : XK) : R2 := fun x y H Q => ∃ a dx fs b dy gs, x = .ref a ∧ y = .ref b ∧ H a = some (.ins C dx fs) ∧ H b = some (.ins C dy gs) ∧ sp [x, y] H Q E
theorem op_ownD {X : Cx} {CX : CXT} {C g : Addr} {n : Nat} {sp : Sp} {E : XK} {op : CmpOp} (hop : ∀ a b, compareOp op a b = richCompare op a b) (hs : PySem.W.findIn X.K (.ref C) (cmpInfo op).2.1 = some (some (.ref g))) (hf : PySem.W.isFn X.K (.ref g) = true) (hn : PySem.W.notFirst X.K C (.ref C) = true) (F : FnR X.prog X.w X.K X.mg X.base CX n g sp)
    (hr : Room n X.A) (hx : Passes CX X E) : OpR X (compareOp op) (rOwnD C sp E) := by
  intro pins s σ H x y v u Q I rx ry h
  obtain ⟨a, dx, fs, b, dy, gs, rfl, rfl, ha, hb, q⟩ := h
  cases (show v = Value.ref a from rx)
  cases (show u = Value.ref b from ry)
  obtain ⟨mA, O, _⟩ := ins_get I.hok ha
  obtain ⟨od, J, _⟩ := O.look
  obtain ⟨mB, O', _⟩ := ins_get I.hok hb
  obtain ⟨od', J', _⟩ := O'.look
  obtain ⟨m, hF⟩ := I.fr
  rw [hop]
  refine PySem.W.cmp_K (op := op) (tb := .ref C) hr.units0 hF I.ok.mod.kin J J'.type hn hs hf ?_
  refine wpAny_mono (wpAny_call (run_fnR (us := [.ref a, .ref b]) (vs := [.ref a, .ref b]) F hr hx I (.cons rfl (.cons rfl .nil)) q)) (fun w s' z => ?_) fun _ _ x => x
  obtain ⟨z', H', I', rz, qz⟩ := z
  exact SlX.cmpback rz ⟨z', H', I', rz, qz⟩
end Tw
set_option maxHeartbeats 4000000
/-! whole, __eq__, __lt__, __le__, __contains__, __getitem__. -/
namespace Tw
open PySem PySem.Spec PyProof.Rows L2
abbrev sWhole : Stmt := sTree 4
abbrev sEq : Stmt := sTree 5
abbrev sLt : Stmt := sTree 6
abbrev sLe : Stmt := sTree 7
/-- what isinstance asks of the class -/
structure Ti (K : PySem.W.Frag) (C : Addr) : Prop where
  ca : PySem.W.findIn K (.ref C) "__class__" = some (some (.builtin "object.__class__"))
  cn : PySem.W.specialIn K (.builtin "object.__class__") "__get__" = some (some (.builtin "getset_descriptor.__get__"))
  ct : PySem.W.takesIn K (.builtin "object.__class__") = some true
  cm : PySem.W.mroIn K C (.type "object") = some true
theorem kit_self (K : PySem.W.Frag) (v : Value) (h : (v == v) = true) : PySem.W.kitOne K v v = some true := if_pos h
theorem kit_ref (K : PySem.W.Frag) (C : Addr) : PySem.W.kitOne K (.ref C) (.ref C) = some true := kit_self K _ (by simp)
def spWhole (C : Addr) : Sp := fun vs H Q _ => ∃ (v : V) (t : T), vs = [v] ∧ TreeAt C H v t ∧ Q (.bl (decide (t.gaps = 0))) H
def spCmp (C : Addr) (f : T → T → Bool) : Sp := fun vs H Q _ => ∃ (v w : V) (t u : T), vs = [v, w] ∧ TreeAt C H v t ∧ TreeAt C H w u ∧ ∀ H', Same H H' → Q (.bl (f t u)) H'
def tLt (t u : T) : Bool := pairLt t.size t.term u.size u.term
def tLe (t u : T) : Bool := pairLe t.size t.term u.size u.term
def tEq (t u : T) : Bool := pairEq t.size t.term u.size u.term
section
variable {P : Program} {w : World} {K : PySem.W.Frag} {mg : Str → Option Value} {base : Heap} {C : Addr}
theorem scWh : FnScope ["self"] ["self"] (defScope sWhole) := ⟨rfl, rfl, rfl, by decide +kernel, rfl, by decide +kernel, by decide +kernel⟩
theorem ok_whole (T1 : Tt K C) {f : Addr} {fd : FuncData} (F : Fun K "whole" "Tree.whole" sWhole f fd) : FnOk P w K mg base CX0 1 f fd ["self"] (spWhole C) := by
  refine F.ok scWh (fun vs H Q E h => ?_) (fun cdv A outer s H vs Q E hr h => ?_)
  · obtain ⟨v, t, rfl, _⟩ := h
    rfl
  obtain ⟨v, t, rfl, ht, q⟩ := h
  obtain ⟨a, dx, p, vs', rfl, h1, h2, h3⟩ := ht.ex
  refine ⟨_, pss_one (ps_ret (pe_cmpR op_eq (pe_fld (pv 0) rfl) pe_int (nomark _))), _, rfl, a, C, dx, _, _, rfl, h1, T1.cl, T1.nGaps, fT_gaps, rfl, ?_⟩
  have e : decide (V.int (t.gaps : Int) = V.int 0) = decide (t.gaps = 0) := decide_eq_decide.mpr ⟨fun h => by have := V.int.inj h; omega, fun h => by rw [h]; rfl⟩
  show Q (.bl (decide (V.int (t.gaps : Int) = V.int 0))) H
  rw [e]
  exact q
theorem scEq : FnScope ["self", "other"] ["self", "other"] (defScope sEq) := ⟨rfl, rfl, rfl, by decide +kernel, rfl, by decide +kernel, by decide +kernel⟩
theorem scLt : FnScope ["self", "other"] ["self", "other"] (defScope sLt) := ⟨rfl, rfl, rfl, by decide +kernel, rfl, by decide +kernel, by decide +kernel⟩
theorem scLe : FnScope ["self", "other"] ["self", "other"] (defScope sLe) := ⟨rfl, rfl, rfl, by decide +kernel, rfl, by decide +kernel, by decide +kernel⟩
theorem ok_lt (T1 : Tt K C) (T2 : Ti K C) (gT : mg "Tree" = some (.ref C)) (mi : mg "isinstance" = none) {f : Addr} {fd : FuncData} (F : Fun K "__lt__" "Tree.__lt__" sLt f fd) : FnR P w K mg base CX0 1 f (spCmp C tLt) := by
  refine okR F scLt (fun vs H Q E h => ?_) (fun _ _ _ _ _ _ us hl => match us, hl with | [_, _], _ => rfl) (fun cdv A outer s H vs Q E hr h => ?_)
  · obtain ⟨v, w, t, u, rfl, _⟩ := h
    rfl
  obtain ⟨v, w, t, u, rfl, ht, hu, q⟩ := h
  obtain ⟨a, dx, p, vs', rfl, h1, _, _⟩ := ht.ex
  obtain ⟨b, dy, p', ws', rfl, g1, _, _⟩ := hu.ex
  refine ⟨_, pss_cons (ps_if (pt_not (pt_val (pe_callB call_isi (by rfl) mi (by decide +kernel) (pa_cons (pv 1) (pa_cons (pe_gr gT) pa_nil))))) (pss_one ps_never) pss_nil)
    (pss_one (ps_ret (pe_cmpR (op_pairLt hr.units0) (pe_tup (pa_cons (pe_fld (pv 0) rfl) (pa_cons (pe_fld (pv 0) rfl) pa_nil))) (pe_tup (pa_cons (pe_fld (pv 1) rfl) (pa_cons (pe_fld (pv 1) rfl) pa_nil))) (nomark _)))), ?_⟩
  have sl := sizeLine_eq
  refine ⟨_, rfl, _, .ref C, _, _, true, rfl, .own C, .base (.ins g1 T1.cl T2.ca T2.cn T2.ct T2.cm), kit_ref K C, _, rfl, iteF ?_⟩
  refine ⟨_, rfl, a, C, dx, _, _, rfl, h1, T1.cl, T1.nSize, fT_size, _, rfl, a, C, dx, _, _, rfl, h1, T1.cl, T1.nTerm, fT_term, (by show 2 ≤ sizeLine; omega), fun q1 nq1 => ?_⟩
  have k1 : Same H (upd H q1 (.tup [.int t.size, .str t.term])) := fun b o e => by rw [upd_ne (ne_of_none e nq1)]; exact e
  refine ⟨_, rfl, b, C, dy, _, _, rfl, k1 _ _ g1, T1.cl, T1.nSize, fT_size, _, rfl, b, C, dy, _, _, rfl, k1 _ _ g1, T1.cl, T1.nTerm, fT_term, (by show 2 ≤ sizeLine; omega), fun q2 nq2 => ?_⟩
  have k2 : Same (upd H q1 (.tup [.int t.size, .str t.term])) (upd (upd H q1 (.tup [.int t.size, .str t.term])) q2 (.tup [.int u.size, .str u.term])) := fun b o e => by rw [upd_ne (ne_of_none e nq2)]; exact e
  exact ⟨q1, q2, _, _, _, _, rfl, rfl, SqT.of (k2 _ _ upd_same), SqT.of upd_same, q _ (k1.trans k2)⟩
theorem ok_le (T1 : Tt K C) (T2 : Ti K C) (gT : mg "Tree" = some (.ref C)) (mi : mg "isinstance" = none) {f : Addr} {fd : FuncData} (F : Fun K "__le__" "Tree.__le__" sLe f fd) : FnR P w K mg base CX0 1 f (spCmp C tLe) := by
  refine okR F scLe (fun vs H Q E h => ?_) (fun _ _ _ _ _ _ us hl => match us, hl with | [_, _], _ => rfl) (fun cdv A outer s H vs Q E hr h => ?_)
  · obtain ⟨v, w, t, u, rfl, _⟩ := h
    rfl
  obtain ⟨v, w, t, u, rfl, ht, hu, q⟩ := h
  obtain ⟨a, dx, p, vs', rfl, h1, _, _⟩ := ht.ex
  obtain ⟨b, dy, p', ws', rfl, g1, _, _⟩ := hu.ex
  refine ⟨_, pss_cons (ps_if (pt_not (pt_val (pe_callB call_isi (by rfl) mi (by decide +kernel) (pa_cons (pv 1) (pa_cons (pe_gr gT) pa_nil))))) (pss_one ps_never) pss_nil)
    (pss_one (ps_ret (pe_cmpR (op_pairLe hr.units0) (pe_tup (pa_cons (pe_fld (pv 0) rfl) (pa_cons (pe_fld (pv 0) rfl) pa_nil))) (pe_tup (pa_cons (pe_fld (pv 1) rfl) (pa_cons (pe_fld (pv 1) rfl) pa_nil))) (nomark _)))), ?_⟩
  have sl := sizeLine_eq
  refine ⟨_, rfl, _, .ref C, _, _, true, rfl, .own C, .base (.ins g1 T1.cl T2.ca T2.cn T2.ct T2.cm), kit_ref K C, _, rfl, iteF ?_⟩
  refine ⟨_, rfl, a, C, dx, _, _, rfl, h1, T1.cl, T1.nSize, fT_size, _, rfl, a, C, dx, _, _, rfl, h1, T1.cl, T1.nTerm, fT_term, (by show 2 ≤ sizeLine; omega), fun q1 nq1 => ?_⟩
  have k1 : Same H (upd H q1 (.tup [.int t.size, .str t.term])) := fun b o e => by rw [upd_ne (ne_of_none e nq1)]; exact e
  refine ⟨_, rfl, b, C, dy, _, _, rfl, k1 _ _ g1, T1.cl, T1.nSize, fT_size, _, rfl, b, C, dy, _, _, rfl, k1 _ _ g1, T1.cl, T1.nTerm, fT_term, (by show 2 ≤ sizeLine; omega), fun q2 nq2 => ?_⟩
  have k2 : Same (upd H q1 (.tup [.int t.size, .str t.term])) (upd (upd H q1 (.tup [.int t.size, .str t.term])) q2 (.tup [.int u.size, .str u.term])) := fun b o e => by rw [upd_ne (ne_of_none e nq2)]; exact e
  exact ⟨q1, q2, _, _, _, _, rfl, rfl, SqT.of (k2 _ _ upd_same), SqT.of upd_same, q _ (k1.trans k2)⟩
theorem ok_eq (T1 : Tt K C) (T2 : Ti K C) (gT : mg "Tree" = some (.ref C)) (mi : mg "isinstance" = none) {f : Addr} {fd : FuncData} (F : Fun K "__eq__" "Tree.__eq__" sEq f fd) : FnR P w K mg base CX0 1 f (spCmp C tEq) := by
  refine okR F scEq (fun vs H Q E h => ?_) (fun _ _ _ _ _ _ us hl => match us, hl with | [_, _], _ => rfl) (fun cdv A outer s H vs Q E hr h => ?_)
  · obtain ⟨v, w, t, u, rfl, _⟩ := h
    rfl
  obtain ⟨v, w, t, u, rfl, ht, hu, q⟩ := h
  obtain ⟨a, dx, p, vs', rfl, h1, _, _⟩ := ht.ex
  obtain ⟨b, dy, p', ws', rfl, g1, _, _⟩ := hu.ex
  refine ⟨_, pss_cons (ps_if (pt_not (pt_val (pe_callB call_isi (by rfl) mi (by decide +kernel) (pa_cons (pv 1) (pa_cons (pe_gr gT) pa_nil))))) (pss_one ps_never) pss_nil)
    (pss_one (ps_ret (pe_cmpR (op_pairEq hr.units0) (pe_tup (pa_cons (pe_fld (pv 0) rfl) (pa_cons (pe_fld (pv 0) rfl) pa_nil))) (pe_tup (pa_cons (pe_fld (pv 1) rfl) (pa_cons (pe_fld (pv 1) rfl) pa_nil))) (nomark _)))), ?_⟩
  have sl := sizeLine_eq
  refine ⟨_, rfl, _, .ref C, _, _, true, rfl, .own C, .base (.ins g1 T1.cl T2.ca T2.cn T2.ct T2.cm), kit_ref K C, _, rfl, iteF ?_⟩
  refine ⟨_, rfl, a, C, dx, _, _, rfl, h1, T1.cl, T1.nSize, fT_size, _, rfl, a, C, dx, _, _, rfl, h1, T1.cl, T1.nTerm, fT_term, (by show 2 ≤ sizeLine; omega), fun q1 nq1 => ?_⟩
  have k1 : Same H (upd H q1 (.tup [.int t.size, .str t.term])) := fun b o e => by rw [upd_ne (ne_of_none e nq1)]; exact e
  refine ⟨_, rfl, b, C, dy, _, _, rfl, k1 _ _ g1, T1.cl, T1.nSize, fT_size, _, rfl, b, C, dy, _, _, rfl, k1 _ _ g1, T1.cl, T1.nTerm, fT_term, (by show 2 ≤ sizeLine; omega), fun q2 nq2 => ?_⟩
  have k2 : Same (upd H q1 (.tup [.int t.size, .str t.term])) (upd (upd H q1 (.tup [.int t.size, .str t.term])) q2 (.tup [.int u.size, .str u.term])) := fun b o e => by rw [upd_ne (ne_of_none e nq2)]; exact e
  exact ⟨q1, q2, _, _, _, _, rfl, rfl, SqT.of (k2 _ _ upd_same), SqT.of upd_same, q _ (k1.trans k2)⟩
end
end Tw
set_option maxHeartbeats 4000000
/-! in, [] and the walk over an instance of one's own. -/
namespace Tw
open PySem PySem.Spec PyProof.Rows L2
/-- x in y, y an instance of the class at C with its own def for it at g, which answers a truth value -/
def rInD (C : Addr) (sp : Sp) (E : XK) : R2 := fun x y H Q => ∃ a dx fs, y = .ref a ∧ H a = some (.ins C dx fs) ∧ sp [y, x] H (fun v H' => ∃ b, v = .bl b ∧ Q (.bl b) H') E
theorem op_inD {X : Cx} {CX : CXT} {C g : Addr} {n : Nat} {sp : Sp} {E : XK} (hs : PySem.W.findIn X.K (.ref C) "__contains__" = some (some (.ref g))) (hf : PySem.W.isFn X.K (.ref g) = true) (F : FnR X.prog X.w X.K X.mg X.base CX n g sp)
    (hr : Room n X.A) (hx : Passes CX X E) : OpR X (compareOp .In) (rInD C sp E) := by
  intro pins s σ H x y v u Q I rx ry h
  obtain ⟨a, dx, fs, rfl, ha, q⟩ := h
  cases (show u = Value.ref a from ry)
  obtain ⟨mA, O, _⟩ := ins_get I.hok ha
  obtain ⟨od, J, _⟩ := O.look
  obtain ⟨m, hF⟩ := I.fr
  refine PySem.W.in_K hF I.ok.mod.kin J hs hf ?_
  refine wpAny_mono (wpAny_call (run_fnR (us := [.ref a, v]) (vs := [.ref a, x]) F hr hx I (.cons rfl (.cons rx .nil)) q)) (fun w s' z => ?_) fun _ _ x => x
  obtain ⟨z', H', I', rz, b, rfl, qz⟩ := z
  cases (show w = Value.bool b from rz)
  exact wpAny_truthy_bool ⟨.bl b, H', I', rfl, qz⟩
/-- y[x], y an instance of the class at C with its own def for it at g -/
def rIxD (C : Addr) (sp : Sp) (E : XK) : R2 := fun x y H Q => ∃ a dx fs, x = .ref a ∧ H a = some (.ins C dx fs) ∧ sp [x, y] H Q E
theorem pe_ixD {X : Cx} {CX : CXT} {C g : Addr} {n : Nat} {sp : Sp} {E : XK} {a b : Expr} {ta tb : TE} {pos : Pos} (hs : PySem.W.findIn X.K (.ref C) "__getitem__" = some (some (.ref g))) (hf : PySem.W.fnIn X.K g = true) (hfn : PySem.W.isFn X.K (.ref g) = true) (F : FnR X.prog X.w X.K X.mg X.base CX n g sp)
    (hr : Room (n + 1) X.A) (hx : Passes CX X E) (ha : PE X a ta) (hb : PE X b tb) (hsl : ∀ (x : Addr) (i : Value), subscripted b true (.ref x) i = runValue (.builtin "lifetime.subscript" ⟨[.ref x, i], []⟩) := by intro _ _; with_unfolding_all rfl) :
    PE X (.Subscript a b pos) (tOp (rIxD C sp E) ta tb) := by
  refine ⟨fun pins s σ H Q I h => ?_⟩
  refine Subscript_ (binT ha hb I h fun v u s2 x y H2 I2 rx ry q => ?_)
  obtain ⟨p, dx, fs, rfl, hp, q⟩ := q
  cases (show v = Value.ref p from rx)
  obtain ⟨mA, O, _⟩ := ins_get I2.hok hp
  obtain ⟨od, J, _⟩ := O.look
  obtain ⟨m, hF⟩ := I2.fr
  refine PySem.W.sub_K hF I2.ok.mod.kin J hs hf hfn (wpAny_call (SlX.run_at (us := [.ref p, u]) (ws := [.ref p, y]) F hr.in1 I2.env0.in1 hx I2 (.cons rfl (.cons ry .nil)) q)) (hsl _ _)
/-! ### iter(a tuple) -/
def itT (it p : Addr) : HO := .ext fun h => h.IsTupleIter it p 0
theorem itT_ok {P : Program} {w : World} {H : Hp} {h : Heap} {it p : Addr} (e : h.IsTupleIter it p 0) : ObjOk P w H h it (itT it p) := by
  obtain ⟨o, ho, r⟩ := id e
  refine ⟨e, ⟨o, ho⟩, fun h1 h2 q k => ?_⟩
  obtain ⟨o', ho', r'⟩ := q
  exact ⟨o', k _ ho', r'⟩
def rIterT (K : PySem.W.Frag) (n : Nat) : List V → Hp → VK → Prop := fun xs H Q => ∃ (l : Addr) (zs : List V), xs = [.ref l] ∧ SqT K H l zs ∧ ∀ it, H it = none → n ≤ it → Q (.ref it) (upd H it (itT it l))
theorem call_iterT {X : Cx} : CallR X (.builtin "iter") (rIterT X.K X.s_0.heap.objs.size) := by
  intro pins s σ H xs us Q I r h
  obtain ⟨l, zs, rfl, hq, q⟩ := h
  obtain rfl := Vals.ref1 r
  obtain ⟨its, rv, pl, hz⟩ := I.tuple hq
  refine Calls.call_function_entry (by decide +kernel) (by decide +kernel) PySem.W.kdk_entry_iter (PySem.W.kdk_args_iter _) ?_
  unfold Builtin.«iter»
  refine wpAny_bind (m := someArgs "iter" 1 2 _) (wpAny_of_eq (a := [Value.ref l]) (by first | rfl | kernel_rfl!) ?_)
  show wpAny _ _ (pyIter (.ref l) >>= _) _ _ _
  refine wpAny_bind (wpAny_pyIter_tuple (show s.heap.IsTuple l its.toArray from pl) ?_)
  refine wpAny_pure ⟨_, rfl, ?_⟩
  exact ⟨.ref s.heap.objs.size, _, I.laid (t' := s.toks) (fun b u e => Heap.get?_push_of_some _ e) (Nat.le_refl _) (itT_ok ⟨_, Heap.get?_push_size _ rfl, rfl, rfl⟩), rfl, q _ (I.hok.fresh (Nat.le_refl _)) I.sz⟩
/-! ### a def whose promise may speak of the state it is called in -/
section
variable {CX : CXT} {P : Program} {w : World} {K : PySem.W.Frag} {mg : Str → Option Value} {base : Heap} {k : Nat} {f : Addr} {name qual : Str} {params : Arguments} {body : List Stmt} {scope : Scope} {dV kV doc pm cdv ct oc : Value} {an od : Option Addr}
  {osl : Array (Option Value)} {N ps : List Str}
theorem run_s {A : Around} {outer : List Env} {s : Shared} {H : Hp} {us : List Value} {vs : List V} {Q : VK} {E : XK} (lk : K.lookup f = some ⟨oc, od, .func (PySem.W.fnOf name qual params body scope dV kV doc pm an cdv ct), osl⟩) (hcd : PySem.W.codeIn K cdv qual = true)
    (S : FnScope N ps scope) (hr : Room (k + 1) A) (e0 : Env0 P w K mg base A outer s H) (hb : bindArgs (PySem.W.fnOf name qual params body scope dV kV doc pm an cdv ct) ⟨us, []⟩ = pure (ps.zip us)) (r : Vals vs us) (hl : vs.length = ps.length)
    (hbody : Room k (A.deeper (envOfC qual scope s.heap.objs.size f cdv)) → ∃ t, PSs (cxOf CX P w K mg base N qual scope f cdv A outer s H E) body t ∧ t { nx := fun _ H' => Q .non H', rt := Q } (start N vs) H) :
    codeAny (model P w) A (.call (.ref f) ⟨us, []⟩) (CR CX outer P w H s Q E) s := by
  have KX : K.In s.heap := e0.mod.kin.keeps fun b o e => (e0.bs b o e).1
  have lim : s.heap.NoLimit := e0.mod.nolimit.keeps fun b o e => (e0.bs b o e).1
  refine codeAny_call_function hr.depth (KX _ _ lk) rfl S.co S.gen rfl (PySem.W.codeRec_of KX hcd) ?_
  rw [hb]
  refine wpAny_pure ?_
  have hkind : ∀ y ∈ ps.zip us, scope.names.lookup y.1 = some .local ∨ (scope.names.lookup y.1 = some .cell ∧ ((cellsFrom (s.heap.objs.size + 1) scope.names []).lookup y.1).isSome = true) := fun y hy => by
    rcases S.par y.1 (List.of_mem_zip hy).1 with q | q
    · exact .inl q
    · exact .inr ⟨q, PySem.W.cellsFrom_some _ _ _ (.inl q)⟩
  refine wpAny_newFunctionEnv_cells (s := s) S.kind hkind fun env he s1 x => ?_
  subst he
  refine ⟨lim.keeps x.toInCall.keep, codeAny_func ?_⟩
  obtain ⟨t, ht, hq⟩ := hbody (hr.deeper _)
  have I : Inv (cxOf CX P w K mg base N qual scope f cdv A outer s H E) [] (start N vs) H s1 := inv_start S hr.hd e0 hl r x
  refine wpAny_mono (ht.run [] s1 _ _ _ I hq) (fun fl s' hs => ?_) fun e s' hs => ?_
  · have fin : ∀ {σ' : L2.St} {H' : Hp} {v' : V} {u' : Value}, Inv (cxOf CX P w K mg base N qual scope f cdv A outer s H E) [] σ' H' s' → RelV v' u' → Q v' H' → CE outer P w H s Q u' s' :=
      fun {σ' H' v' u'} J rv' q => ⟨v', H', J.os, J.bare, J.base, J.hok, rv', q⟩
    cases fl with
    | ret u' =>
      obtain ⟨v', σ', H', J, rv', q⟩ := hs
      exact fin J rv' q
    | next =>
      obtain ⟨σ', H', J, q⟩ := hs
      exact fin (v' := V.non) (u' := Value.none) J rfl q
    | brk =>
      obtain ⟨_, _, _, q⟩ := hs
      exact False.elim q
    | cont =>
      obtain ⟨_, _, _, q⟩ := hs
      exact False.elim q
  · exact hs
end
end Tw
set_option maxHeartbeats 4000000
/-! The walk over a tree's parts; __contains__, __getitem__. -/
namespace Tw
open PySem PySem.Spec PyProof.Rows L2
abbrev sContains : Stmt := sTree 10
abbrev sGetitem : Stmt := sTree 11
abbrev sIter : Stmt := sTree 12
theorem scIt : FnScope ["self"] ["self"] (defScope sIter) := ⟨rfl, rfl, rfl, by decide +kernel, rfl, by decide +kernel, by decide +kernel⟩
def iOwn (K : PySem.W.Frag) (C : Addr) (te : TE) : TI := fun σ H R => te σ H fun v H1 => ∃ a dx t p ws, v = .ref a ∧ H1 a = some (.ins C dx (fT p t)) ∧ H1 p = some (.tup ws) ∧ ∀ H2, Same H1 H2 → R (Itt K p) H2
section
variable {X : Cx} {C fIt : Addr} {fd : FuncData}
theorem pi_own {tg e : Expr} {te : TE} (T1 : Tt X.K C) (F : Fun X.K "__iter__" "Tree.__iter__" sIter fIt fd) (mi : X.mg "iter" = none) (hs : PySem.W.findIn X.K (.ref C) "__iter__" = some (some (.ref fIt))) (hf : PySem.W.isFn X.K (.ref fIt) = true) (hr : Room 1 X.A) (he : PE X e te) : PI X tg e (iOwn X.K C te) := by
  refine ⟨fun pins s σ H R I h => ?_⟩
  refine thn (he.run pins s σ H _ I h) fun v s1 ⟨x, H1, I1, r1, a, dx, t, p, ws, ex, ha, hp, q⟩ => ?_
  subst ex
  obtain rfl : v = Value.ref a := r1
  obtain ⟨mA, O, _⟩ := ins_get I1.hok ha
  obtain ⟨od, J, _⟩ := O.look
  obtain ⟨m, hF⟩ := I1.fr
  refine PySem.W.owit_iter hF I1.ok.mod.kin J hs hf (wpAny_call ?_)
  obtain ⟨oc, od', kV, doc, pm, an, cdv, ct, osl, rfl, lk, hcd⟩ := F.ex
  have run := run_s (CX := CX0) (A := X.A) (outer := X.stack) (s := s1) (H := H1) (us := [.ref a]) (vs := [.ref a]) (Q := fun v H' => ∃ it, v = .ref it ∧ H1 it = none ∧ s1.heap.objs.size ≤ it ∧ H' = upd H1 it (itT it p)) (E := E0) (k := 0) lk hcd scIt hr I1.env0 rfl (.cons rfl .nil) rfl (fun _ =>
    ⟨_, pss_one (ps_ret (pe_callB call_iterT (by rfl) mi (by decide +kernel) (pa_cons (pe_fld (pv 0) rfl) pa_nil))), _, rfl, a, C, dx, _, _, rfl, ha, T1.cl, T1.nParts, fT_parts, p, ws, rfl, SqT.of hp, fun it nit hn => ⟨it, rfl, nit, hn, rfl⟩⟩)
  refine codeAny_mono run fun r s' hq => ?_
  cases r with
  | error e => exact hq.elim
  | ok fl =>
    cases fl with
    | next => exact False.elim hq
    | brk => exact False.elim hq
    | cont => exact False.elim hq
    | ret u =>
      obtain ⟨v', H', I2, rv, it, ev, nit, hn, eH⟩ := I1.after hq
      subst ev eH
      obtain rfl : u = Value.ref it := rv
      have hit : s'.heap.IsTupleIter it p 0 := by
        have z : ObjOk X.prog X.w (upd H1 it (itT it p)) s'.heap it (itT it p) := I2.hok it _ upd_same
        exact z.1
      have hn0 : X.s_0.heap.objs.size ≤ it := Nat.le_trans I1.sz hn
      have fp := ItX.inv_fp I2 (u := itT it p) upd_same hn0
      have I3 := ItX.inv_drop I2 (φ := fun h => h.IsTupleIter it p 0) upd_same
      unfold PySem.W.OwitIt
      refine wpAny_specialOf (name := Str.ofString "__next__") hit.typeIs PySem.F.slot_tuple_iterator_next.lookup ?_
      refine ⟨it, [it], _, _, _, rfl, I3, turn_tuple p it, hit, fun b hb => ?_, q _ ?_⟩
      · have e : b = it := by simpa using hb
        subst e
        exact fp
      · intro b o e
        have nb : b ≠ it := ne_of_none e nit
        rw [ItX.dropH_ne nb, upd_ne nb]
        exact e
end
/-- the part at a path of any ints -/
def atP : List Int → T → Option T
  | [], t => some t
  | i :: r, t => if 0 ≤ i ∧ i < (t.parts.length : Int) then (t.parts[i.toNat]?).bind (atP r) else none
def spContains (K : PySem.W.Frag) (C : Addr) : Sp := fun vs H Q _ => ∃ (v : V) (t : T) (pa : Addr) (is : List Int), vs = [v, .ref pa] ∧ TreeAt C H v t ∧ SqT K H pa (is.map V.int) ∧ Q (.bl (atP is t).isSome) H
def spGetitem (K : PySem.W.Frag) (C CN : Addr) : Sp := fun vs H Q E => ∃ (v : V) (t : T) (pa : Addr) (is : List Int), vs = [v, .ref pa] ∧ TreeAt C H v t ∧ SqT K H pa (is.map V.int) ∧
  (∀ u, atP is t = some u → ∀ w, TreeAt C H w u → Q w H) ∧ (atP is t = none → ∀ d, H d = none → E (.ref CN) (some d) (upd H d (.xd [("path", .ref pa)])))
section
variable {P : Program} {w : World} {K : PySem.W.Frag} {mg : Str → Option Value} {base : Heap} {C : Addr}
theorem scCo : FnScope ["self", "path", "here", "at"] ["self", "path"] (defScope sContains) := ⟨rfl, rfl, rfl, by decide +kernel, rfl, by decide +kernel, by decide +kernel⟩
theorem scGe : FnScope ["self", "path", "here", "at"] ["self", "path"] (defScope sGetitem) := ⟨rfl, rfl, rfl, by decide +kernel, rfl, by decide +kernel, by decide +kernel⟩
theorem atP_drop {is : List Int} {j : Nat} {i : Int} (h : is[j]? = some i) (t : T) : atP (is.drop j) t = if 0 ≤ i ∧ i < (t.parts.length : Int) then (t.parts[i.toNat]?).bind (atP (is.drop (j + 1))) else none := by
  obtain ⟨hk, e⟩ := List.getElem?_eq_some_iff.mp h
  rw [List.drop_eq_getElem_cons hk, e]
  rfl
theorem ok_contains (T1 : Tt K C) (ml : mg "len" = none) {f : Addr} {fd : FuncData} (F : Fun K "__contains__" "Tree.__contains__" sContains f fd) : FnR P w K mg base CX0 1 f (spContains K C) := by
  refine okR F scCo (fun vs H Q E h => ?_) (fun _ _ _ _ _ _ us hl => match us, hl with | [_, _], _ => rfl) (fun cdv A outer s H vs Q E hr h => ?_)
  · obtain ⟨v, t, pa, is, rfl, _⟩ := h
    rfl
  obtain ⟨v, t, pa, is, rfl, ht, hpa, q⟩ := h
  refine ⟨_, pss_cons (ps_set (i := 2) scCo.nd rfl (Or.inl rfl) (pv 0))
    (pss_cons (ps_for PassesOwn.never rfl (pi_tup (pv 1)) (pg_name (i := 3) scCo.nd rfl (Or.inl rfl))
      (pss_cons (ps_if (pt_not (pt_chain op_le op_lt pe_int (pv 3) (pe_callB call_len_seq (by rfl) ml PySem.boot_len (pa_cons (pe_fld (pv 2) rfl) pa_nil)))) (pss_one (ps_ret pe_bl)) pss_nil)
      (pss_one (ps_set (i := 2) scCo.nd rfl (Or.inl rfl) (pe_ix ix_tup (pe_fld (pv 2) rfl) (pv 3) (fun _ _ => rfl))))))
    (pss_one (ps_ret pe_bl))), ?_⟩
  refine ⟨_, rfl, _, rfl, pa, rfl, ⟨_, hpa⟩, for_tup (K := K) (a := pa) (xs := is.map V.int) (fun i σ H' => H' = H ∧ ∃ (hv : V) (u : T) (w4 : Option V), σ = [some v, some (.ref pa), some hv, w4] ∧ TreeAt C H hv u ∧ atP (is.drop i) u = atP is t)
    ⟨rfl, v, t, none, rfl, ht, by rw [List.drop_zero]⟩ (fun i σ H' _ ⟨e, _⟩ => e ▸ hpa) ?_ ?_⟩
  · rintro j x σ H' hj ⟨rfl, hv, u, w4, rfl, hu, he⟩
    obtain ⟨i, hi, rfl⟩ : ∃ i, is[j]? = some i ∧ x = V.int i := by
      rw [List.getElem?_map] at hj
      cases e : is[j]? with
      | none => rw [e] at hj; cases hj
      | some i => rw [e] at hj; exact ⟨i, rfl, (Option.some.inj hj).symm⟩
    rw [atP_drop hi] at he
    obtain ⟨a, dx, p, ws, rfl, h1, h2, h3⟩ := hu.ex
    have el := h3.len
    refine ⟨_, rfl, _, _, rfl, rfl, _, rfl, ?_⟩
    have no : ¬ (0 ≤ i ∧ i < (u.parts.length : Int)) → Q (.bl false) H' := fun h => by
      rw [if_neg h] at he
      rw [← he] at q
      exact q
    refine ite2 (fun c => ?_) (fun c => ?_)
    · have c' := of_decide_eq_true c
      refine ⟨_, rfl, a, C, dx, _, _, rfl, h1, T1.cl, T1.nParts, fT_parts, p, ws, rfl, .inr (SqT.of h2), _, _, rfl, rfl, _, rfl, ?_⟩
      by_cases c2 : i < (ws.length : Int)
      · rw [decide_eq_true c2]
        refine iteF ?_
        rw [if_pos ⟨c', by omega⟩] at he
        have hlt : i.toNat < ws.length := by omega
        have hw : ws[i.toNat]? = some ws[i.toNat] := List.getElem?_eq_getElem hlt
        obtain ⟨u', hu', hat⟩ := h3.get hw
        rw [hu', Option.bind_some] at he
        refine ⟨_, rfl, a, C, dx, _, _, rfl, h1, T1.cl, T1.nParts, fT_parts, _, rfl, p, ws, i, _, rfl, rfl, SqT.of h2, at_of (j := i.toNat) (by omega) hw, rfl, _, u', _, rfl, hat, he⟩
      · rw [decide_eq_false c2]
        refine iteT ?_
        exact no fun h => c2 (by omega)
    · have c' := of_decide_eq_false (Bool.eq_false_iff.mpr c)
      refine ⟨_, rfl, ?_⟩
      refine iteT ?_
      exact no fun h => c' h.1
  · rintro σ H' ⟨rfl, hv, u, w4, rfl, hu, he⟩
    rw [List.length_map, List.drop_length] at he
    rw [← he] at q
    exact q
theorem ok_getitem (T1 : Tt K C) (ml : mg "len" = none) {CN fN : Addr} (B : Ext K mg "NoPlace" CN fN "path") {fdN : FuncData} (FN : Fun K "__init__" "NoPlace.__init__" sNoPlace fN fdN) {f : Addr} {fd : FuncData} (F : Fun K "__getitem__" "Tree.__getitem__" sGetitem f fd) : FnR P w K mg base (L2.CX P w) 3 f (spGetitem K C CN) := by
  have bN : Binds K fdN ["self", "path"] [] := FN.binds fun _ _ _ _ _ _ us hl => match us, hl with | [_, _], _ => rfl
  have GN : FnOk P w K mg base CX0 1 fN fdN ["self", "path"] (spEx CN "path") := ok_noPlace B FN
  refine FnOk.toR (fd := fd) (ps := ["self", "path"]) ?_ (F.binds fun _ _ _ _ _ _ us hl => match us, hl with | [_, _], _ => rfl)
  refine F.okX scGe (fun vs H Q E h => ?_) (fun cdv A outer s H vs Q E hr h => ?_)
  · obtain ⟨v, t, pa, is, rfl, _⟩ := h
    rfl
  obtain ⟨v, t, pa, is, rfl, ht, hpa, q1, q2⟩ := h
  refine ⟨_, pss_cons (ps_set (i := 2) scGe.nd rfl (Or.inl rfl) (pv 0))
    (pss_cons (ps_for (passes_of rfl) rfl (pi_tup (pv 1)) (pg_name (i := 3) scGe.nd rfl (Or.inl rfl))
      (pss_cons (ps_if (pt_not (pt_chain op_le op_lt pe_int (pv 3) (pe_callB call_len_seq (by rfl) ml PySem.boot_len (pa_cons (pe_fld (pv 2) rfl) pa_nil)))) (pss_one (ps_raise rfl (takes_of rfl rfl rfl rfl) (pmk_oex B.oex B.iC B.tI GN hr bN .nil pass0 rfl B.gC (pa_cons (pv 1) pa_nil)))) pss_nil)
      (pss_one (ps_set (i := 2) scGe.nd rfl (Or.inl rfl) (pe_ix ix_tup (pe_fld (pv 2) rfl) (pv 3) (fun _ _ => rfl))))))
    (pss_one (ps_ret (pv 2)))), ?_⟩
  refine ⟨_, rfl, _, rfl, pa, rfl, ⟨_, hpa⟩, for_tup (K := K) (a := pa) (xs := is.map V.int) (fun i σ H' => H' = H ∧ ∃ (hv : V) (u : T) (w4 : Option V), σ = [some v, some (.ref pa), some hv, w4] ∧ TreeAt C H hv u ∧ atP (is.drop i) u = atP is t)
    ⟨rfl, v, t, none, rfl, ht, by rw [List.drop_zero]⟩ (fun i σ H' _ ⟨e, _⟩ => e ▸ hpa) ?_ ?_⟩
  · rintro j x σ H' hj ⟨rfl, hv, u, w4, rfl, hu, he⟩
    obtain ⟨i, hi, rfl⟩ : ∃ i, is[j]? = some i ∧ x = V.int i := by
      rw [List.getElem?_map] at hj
      cases e : is[j]? with
      | none => rw [e] at hj; cases hj
      | some i => rw [e] at hj; exact ⟨i, rfl, (Option.some.inj hj).symm⟩
    rw [atP_drop hi] at he
    obtain ⟨a, dx, p, ws, rfl, h1, h2, h3⟩ := hu.ex
    have el := h3.len
    refine ⟨_, rfl, _, _, rfl, rfl, _, rfl, ?_⟩
    have no : ¬ (0 ≤ i ∧ i < (u.parts.length : Int)) → tMkO CN (spEx CN "path") [] (tCons (tVar 1) tNil) [some v, some (.ref pa), some (.ref a), some (.int i)] H' (fun cls d H2 => E cls d H2) := fun h => by
      rw [if_neg h] at he
      exact rd_mkO rfl fun d nd => q2 he.symm d nd
    refine ite2 (fun c => ?_) (fun c => ?_)
    · have c' := of_decide_eq_true c
      refine ⟨_, rfl, a, C, dx, _, _, rfl, h1, T1.cl, T1.nParts, fT_parts, p, ws, rfl, .inr (SqT.of h2), _, _, rfl, rfl, _, rfl, ?_⟩
      by_cases c2 : i < (ws.length : Int)
      · rw [decide_eq_true c2]
        refine iteF ?_
        rw [if_pos ⟨c', by omega⟩] at he
        have hlt : i.toNat < ws.length := by omega
        have hw : ws[i.toNat]? = some ws[i.toNat] := List.getElem?_eq_getElem hlt
        obtain ⟨u', hu', hat⟩ := h3.get hw
        rw [hu', Option.bind_some] at he
        refine ⟨_, rfl, a, C, dx, _, _, rfl, h1, T1.cl, T1.nParts, fT_parts, _, rfl, p, ws, i, _, rfl, rfl, SqT.of h2, at_of (j := i.toNat) (by omega) hw, rfl, _, u', _, rfl, hat, he⟩
      · rw [decide_eq_false c2]
        refine iteT ?_
        exact no fun h => c2 (by omega)
    · have c' := of_decide_eq_false (Bool.eq_false_iff.mpr c)
      refine ⟨_, rfl, ?_⟩
      refine iteT ?_
      exact no fun h => c' h.1
  · rintro σ H' ⟨rfl, hv, u, w4, rfl, hu, he⟩
    rw [List.length_map, List.drop_length] at he
    exact ⟨_, rfl, q1 u he.symm hv hu⟩
end
end Tw
set_option maxHeartbeats 4000000
/-! The law's pool and its draws. -/
namespace Tw
open PySem PySem.Spec PyProof.Rows L2
abbrev sPool : Stmt := top 23
abbrev sDraw : Stmt := top 24
abbrev sName : Stmt := top 25
/-- the pool: what is left of the great numbers, the seed, the count -/
def PoolAt (H : Hp) (p r : Addr) : Prop := p ≠ r ∧ ∃ (rows : List Int) (s c : Int), H p = some (.lst [.ref r, .int s, .int c]) ∧ H r = some (.lst (rows.map V.int)) ∧ rows.length ≤ 63
/-- all but these stands -/
def KeptBut (l : List Addr) (H H' : Hp) : Prop := ∀ b o, H b = some o → b ∉ l → H' b = some o
theorem KeptBut.refl (l : List Addr) (H : Hp) : KeptBut l H H := fun _ _ e _ => e
theorem KeptBut.trans {l : List Addr} {H H1 H2 : Hp} (a : KeptBut l H H1) (b : KeptBut l H1 H2) : KeptBut l H H2 := fun x o e n => b x o (a x o e n) n
theorem KeptBut.of {l : List Addr} {H H' : Hp} (s : Same H H') : KeptBut l H H' := fun b o e _ => s b o e
theorem KeptBut.mono {l m : List Addr} {H H' : Hp} (h : KeptBut l H H') (s : ∀ a ∈ l, a ∈ m) : KeptBut m H H' := fun b o e n => h b o e fun hb => n (s b hb)
theorem KeptBut.upd {l : List Addr} {H : Hp} {a : Addr} {o : HO} (h : a ∈ l) : KeptBut l H (upd H a o) := fun b o' e n => by rw [upd_ne (fun z => n (by rw [z]; exact h))]; exact e
theorem i31 : (0 : Int) < 2147483647 := by decide
theorem i10007 : (0 : Int) < 10007 := by decide
theorem i65521 : (0 : Int) < 65521 := by decide
theorem shaped_ints (rows : List Int) : SeqAt.shaped (.list (rows.map PyData.int)) = true := by
  have h1 : ∀ rs : List Int, PyData.canLayAll0 (rs.map PyData.int) = true := fun rs => by
    induction rs with
    | nil => rfl
    | cons x r ih => rw [List.map_cons]; unfold PyData.canLayAll0; rw [ih]; rfl
  have h2 : ∀ rs : List Int, PyData.depthAll (rs.map PyData.int) = 0 := fun rs => by
    induction rs with
    | nil => rfl
    | cons x r ih => rw [List.map_cons]; unfold PyData.depthAll; rw [ih]; rfl
  unfold SeqAt.shaped
  refine Bool.and_eq_true_iff.mpr ⟨?_, decide_eq_true ?_⟩
  · unfold PyData.canLay0; exact h1 rows
  · unfold PyData.depth; rw [h2]; decide
theorem dpall_ints {K : PySem.W.Frag} {H : Hp} : ∀ rows : List Int, DpAll K H (rows.map V.int) (rows.map PyData.int)
  | [] => .nil
  | x :: r => .cons (.int x) (dpall_ints r)
def spPool (K : PySem.W.Frag) : Sp := fun vs H Q _ => ∃ (a : Addr) (ns : List Int), vs = [.ref a] ∧ SqL K H a (ns.map V.int) ∧ ∀ p r H', Same H H' → H p = none → H r = none → PoolAt H' p r → Q (.ref p) H'
/-- a draw: any number below many -/
def spDraw : Sp := fun vs H Q _ => ∃ (p r : Addr) (m : Nat), vs = [.ref p, .int (m : Int)] ∧ PoolAt H p r ∧ 0 < m ∧ m ≤ 1000000 ∧ ∀ d H', d < m → PoolAt H' p r → KeptBut [p, r] H H' → Firm H H' → Q (.int ((d : Nat) : Int)) H'
section
variable {P : Program} {w : World} {K : PySem.W.Frag} {mg : Str → Option Value} {base : Heap}
theorem scDr : FnScope ["pool", "many", "rows", "pick", "mixed"] ["pool", "many"] (defScope sDraw) := ⟨rfl, rfl, rfl, by decide +kernel, rfl, by decide +kernel, by decide +kernel⟩
theorem scPo : FnScope ["script", "seed", "rows", "cell"] ["script"] (defScope sPool) := ⟨rfl, rfl, rfl, by decide +kernel, rfl, by decide +kernel, by decide +kernel⟩
theorem ok_draw (mi : mg "int" = none) {f : Addr} {fd : FuncData} (F : Fun K "_law_draw" "_law_draw" sDraw f fd) : FnR P w K mg base CX0 1 f spDraw := by
  refine okR F scDr (fun vs H Q E h => ?_) (fun _ _ _ _ _ _ us hl => match us, hl with | [_, _], _ => rfl) (fun cdv A outer s H vs Q E hr h => ?_)
  · obtain ⟨p, r, m, rfl, _⟩ := h
    rfl
  obtain ⟨p, r, m, rfl, ⟨hne, rows, sd, c, hp, hrw, hlen⟩, hm, hm2, q⟩ := h
  refine ⟨_, pss_cons (ps_set (i := 2) scDr.nd rfl (Or.inl rfl) (pe_ix ix_list (pv 0) pe_int (fun _ _ => rfl)))
    (pss_cons (ps_if (pt_cmpR (op_neD hr.units) (pv 2) (pe_lst pa_nil) (nomark _))
      (pss_cons (ps_set (i := 3) scDr.nd rfl (Or.inl rfl) (pe_op op_mod (pe_callTy call_int1 (by rfl) mi (by decide +kernel) (pa_cons (pe_ix ix_list (pv 2) pe_int (fun _ _ => rfl)) pa_nil)) (pv 1)))
      (pss_cons (ps_asg (pe_op op_fdiv (pe_ix ix_list (pv 2) pe_int (fun _ _ => rfl)) (pv 1)) (pg_sub (pv 2) pe_int set_list))
      (pss_cons (ps_if (pt_cmpR op_eq (pe_ix ix_list (pv 2) pe_int (fun _ _ => rfl)) pe_int (nomark _))
        (pss_one (ps_expr (pe_bm PySem.F.plainAttrs_list PySem.F.slot_list_pop PySem.F.type_list_pop mt_popAt (pv 2) (pa_cons pe_int pa_nil)))) pss_nil)
      (pss_one (ps_ret (pv 3)))))) pss_nil)
    (pss_cons (ps_asg (pe_op op_add (pe_ix ix_list (pv 0) pe_int (fun _ _ => rfl)) pe_int) (pg_sub (pv 0) pe_int set_list))
    (pss_cons (ps_set (i := 4) scDr.nd rfl (Or.inl rfl) (pe_op op_mod (pe_callTy call_int1 (by rfl) mi (by decide +kernel) (pa_cons (pe_op op_add (pe_ix ix_list (pv 0) pe_int (fun _ _ => rfl)) (pe_op op_mul (pe_ix ix_list (pv 0) pe_int (fun _ _ => rfl)) pe_int)) pa_nil)) pe_int))
    (pss_cons (ps_set (i := 4) scDr.nd rfl (Or.inl rfl) (pe_op op_mod (pe_callTy call_int1 (by rfl) mi (by decide +kernel) (pa_cons (pe_op op_mul (pv 4) pe_int) pa_nil)) pe_int))
    (pss_one (ps_ret (pe_op op_mod (pe_op op_mod (pe_callTy call_int1 (by rfl) mi (by decide +kernel) (pa_cons (pe_op op_add (pe_op op_fdiv (pv 4) pe_int) (pe_op op_mul (pe_op op_mod (pe_callTy call_int1 (by rfl) mi (by decide +kernel) (pa_cons (pv 4) pa_nil)) pe_int) (pe_ix ix_list (pv 0) pe_int (fun _ _ => rfl)))) pa_nil)) pe_int) (pv 1)))))))), ?_⟩
  have sl := sizeLine_eq
  have mpos : (0 : Int) < (m : Int) := by omega
  have md : ∀ x : Int, ∃ d : Nat, x % (m : Int) = (d : Int) ∧ d < m := fun x => by
    have h1 := Int.emod_nonneg x (show (m : Int) ≠ 0 by omega)
    have h2 := Int.emod_lt_of_pos x mpos
    exact ⟨(x % (m : Int)).toNat, by omega, by omega⟩
  refine ⟨_, rfl, p, _, _, .ref r, rfl, rfl, SqL.of hp, rfl, ?_⟩
  refine ⟨_, rfl, Nat.zero_le _, fun e ne => ?_⟩
  have k0 : Same H (upd H e (.lst [])) := fun b o h => by rw [upd_ne (ne_of_none h ne)]; exact h
  refine ⟨_, _, .lst (SqL.of (k0 _ _ hrw)) (dpall_ints rows), .lst (SqL.of upd_same) .nil, shaped_ints rows, rfl, ?_⟩
  cases rows with
  | nil =>
    refine ⟨_, rfl, iteF ?_⟩
    refine ⟨_, rfl, p, _, _, .int c, rfl, rfl, SqL.of (k0 _ _ hp), rfl, _, _, rfl, rfl, ?_⟩
    refine ⟨_, rfl, p, _, 2, 2, rfl, rfl, k0 _ _ hp, rfl, ?_⟩
    have hp2 : (upd (upd H e (.lst [])) p (.lst ([V.ref r, .int sd, .int c].set 2 (.int (c + 1))))) p = some (.lst [.ref r, .int sd, .int (c + 1)]) := upd_same
    have hr2 : (upd (upd H e (.lst [])) p (.lst ([V.ref r, .int sd, .int c].set 2 (.int (c + 1))))) r = some (.lst []) := by rw [upd_ne (Ne.symm hne)]; exact k0 _ _ hrw
    have kb2 : KeptBut [p, r] H (upd (upd H e (.lst [])) p (.lst ([V.ref r, .int sd, .int c].set 2 (.int (c + 1))))) := (KeptBut.of k0).trans (KeptBut.upd List.mem_cons_self)
    have fm2 : Firm H (upd (upd H e (.lst [])) p (.lst ([V.ref r, .int sd, .int c].set 2 (.int (c + 1))))) := (Firm.of k0).trans (Firm.list (k0 _ _ hp))
    generalize (upd (upd H e (.lst [])) p (.lst ([V.ref r, .int sd, .int c].set 2 (.int (c + 1))))) = H2 at hp2 hr2 kb2 fm2 ⊢
    refine ⟨_, rfl, p, _, _, .int sd, rfl, rfl, SqL.of hp2, rfl, _, rfl, p, _, _, .int (c + 1), rfl, rfl, SqL.of hp2, rfl, _, _, rfl, rfl, .inr (by decide), _, _, rfl, rfl, .inl ⟨_, rfl, _, _, rfl, rfl, i31, ?_⟩⟩
    refine ⟨_, rfl, _, _, rfl, rfl, .inr (by decide), .inl ⟨_, rfl, _, _, rfl, rfl, i31, ?_⟩⟩
    have mb : ∀ x : Int, -(2 ^ 64 : Int) < x % 10007 ∧ x % 10007 < 2 ^ 64 := fun x => by
      have h1 := Int.emod_nonneg x (show (10007 : Int) ≠ 0 by decide)
      have h2 := Int.emod_lt_of_pos x (show (0 : Int) < 10007 by decide)
      omega
    refine ⟨_, rfl, _, _, rfl, rfl, ⟨by decide, by decide⟩, _, rfl, .inl ⟨_, rfl, _, _, rfl, rfl, i10007, _, rfl, p, _, _, .int (c + 1), rfl, rfl, SqL.of hp2, rfl, _, _, rfl, rfl, .inl (mb _), _, _, rfl, rfl, .inl ⟨_, rfl, _, _, rfl, rfl, i65521, _, rfl, _, _, rfl, rfl, mpos, ?_⟩⟩⟩
    obtain ⟨d, e1, e2⟩ := md ((((sd + (c + 1) * 69621) % 2147483647 * 48271 % 2147483647 / 7) + (((sd + (c + 1) * 69621) % 2147483647 * 48271 % 2147483647) % 10007 * (c + 1))) % 65521)
    dsimp only
    rw [e1]
    exact q d _ e2 ⟨hne, [], sd, c + 1, hp2, hr2, Nat.zero_le _⟩ kb2 fm2
  | cons x rows =>
    refine ⟨_, rfl, iteT ?_⟩
    have hr1 := k0 _ _ hrw
    have hp1 := k0 _ _ hp
    have kb1 : KeptBut [p, r] H (upd H e (.lst [])) := KeptBut.of k0
    have fm1 : Firm H (upd H e (.lst [])) := Firm.of k0
    generalize upd H e (.lst []) = H1 at hr1 hp1 kb1 fm1 ⊢
    obtain ⟨d, e1, e2⟩ := md x
    have ix0 : ixN ((x :: rows).map V.int).length 0 = some 0 := by unfold ixN; rw [if_pos (by decide), if_pos (by rw [List.length_map, List.length_cons]; omega)]; rfl
    have sq0 : seqIndex? 0 (((x / (m : Int)) :: rows).map V.int).length = some 0 := seqIndex_of (by decide) (by rw [List.length_map, List.length_cons]; omega)
    refine ⟨_, rfl, r, _, _, .int x, rfl, rfl, SqL.of hr1, atI_nat (j := 0) rfl, .inl ⟨_, rfl, _, rfl, _, _, rfl, rfl, mpos, ?_⟩⟩
    refine name_go ?_
    dsimp only
    rw [e1]
    refine ⟨_, rfl, r, _, _, .int x, rfl, rfl, SqL.of hr1, atI_nat (j := 0) rfl, _, rfl, _, _, rfl, rfl, ⟨mpos, by omega⟩, ?_⟩
    refine ⟨_, rfl, r, _, 0, 0, rfl, rfl, hr1, ix0, ?_⟩
    have hr2 : (upd H1 r (.lst (((x :: rows).map V.int).set 0 (.int (x / (m : Int)))))) r = some (.lst (((x / (m : Int)) :: rows).map V.int)) := upd_same
    have hp2 : (upd H1 r (.lst (((x :: rows).map V.int).set 0 (.int (x / (m : Int)))))) p = some (.lst [.ref r, .int sd, .int c]) := by rw [upd_ne hne]; exact hp1
    have kb2 : KeptBut [p, r] H (upd H1 r (.lst (((x :: rows).map V.int).set 0 (.int (x / (m : Int)))))) := kb1.trans (KeptBut.upd (List.mem_cons_of_mem _ List.mem_cons_self))
    have fm2 : Firm H (upd H1 r (.lst (((x :: rows).map V.int).set 0 (.int (x / (m : Int)))))) := fm1.trans (Firm.list hr1)
    generalize (upd H1 r (.lst (((x :: rows).map V.int).set 0 (.int (x / (m : Int)))))) = H2 at hp2 hr2 kb2 fm2 ⊢
    refine ⟨_, rfl, r, _, _, .int (x / (m : Int)), rfl, rfl, SqL.of hr2, atI_nat (j := 0) rfl, rfl, ?_⟩
    refine ⟨_, rfl, ?_⟩
    refine ite2 (fun z => ?_) (fun z => ?_)
    · refine ⟨_, rfl, .inl ⟨rfl, _, SqL.of hr2⟩, r, _, 0, 0, _, rfl, rfl, hr2, by decide, by decide, sq0, rfl, ?_⟩
      refine ⟨_, rfl, ?_⟩
      exact q d _ e2 ⟨hne, rows, sd, c, by rw [upd_ne hne]; exact hp2, upd_same, by simp at hlen; omega⟩ (kb2.trans (KeptBut.upd (List.mem_cons_of_mem _ List.mem_cons_self))) (fm2.trans (Firm.list hr2))
    · exact ⟨_, rfl, q d _ e2 ⟨hne, _, sd, c, hp2, hr2, by simpa using hlen⟩ kb2 fm2⟩
end
end Tw
set_option maxHeartbeats 4000000
/-! The law's pool is made. -/
namespace Tw
open PySem PySem.Spec PyProof.Rows L2
theorem SqL.same {K : PySem.W.Frag} {H H' : Hp} {a : Addr} {xs : List V} (s : Same H H') (h : SqL K H a xs) : SqL K H' a xs := by
  rcases h with h | h
  · exact .inl (h.elim (fun e => .inl (s _ _ e)) fun ⟨i, e⟩ => .inr ⟨i, s _ _ e⟩)
  · exact .inr h
section
variable {P : Program} {w : World} {K : PySem.W.Frag} {mg : Str → Option Value} {base : Heap}
theorem ok_pool (mi : mg "int" = none) (ma : mg "abs" = none) {f : Addr} {fd : FuncData} (F : Fun K "_law_pool_of" "_law_pool_of" sPool f fd) : FnR P w K mg base CX0 1 f (spPool K) := by
  refine okR F scPo (fun vs H Q E h => ?_) (fun _ _ _ _ _ _ us hl => match us, hl with | [_], _ => rfl) (fun cdv A outer s H vs Q E hr h => ?_)
  · obtain ⟨a, ns, rfl, _⟩ := h
    rfl
  obtain ⟨a, ns, rfl, ha, q⟩ := h
  refine ⟨_, pss_cons (ps_set (i := 1) scPo.nd rfl (Or.inl rfl) pe_int)
    (pss_cons (ps_set (i := 2) scPo.nd rfl (Or.inl rfl) (pe_lst pa_nil))
    (pss_cons (ps_for PassesOwn.never rfl (pi_list (pe_slice sl_list (pv 0) po_none (po_some pe_int))) (pg_name (i := 3) scPo.nd rfl (Or.inl rfl))
      (pss_one (ps_if (pt_cmpR op_ge (pe_callB call_abs (by rfl) ma (by decide +kernel) (pa_cons (pv 3) pa_nil)) (pe_op op_pow pe_int pe_int) (nomark _))
        (pss_one (ps_expr (pe_bm PySem.F.plainAttrs_list PySem.F.slot_list_append PySem.F.type_list_append mt_append (pv 2) (pa_cons (pe_callB call_abs (by rfl) ma (by decide +kernel) (pa_cons (pv 3) pa_nil)) pa_nil))))
        (pss_one (ps_set (i := 1) scPo.nd rfl (Or.inl rfl) (pe_op op_mod (pe_callTy call_int1 (by rfl) mi (by decide +kernel) (pa_cons (pe_op op_add (pe_op op_mul (pv 1) pe_int) (pv 3)) pa_nil)) pe_int))))))
    (pss_one (ps_ret (pe_lst (pa_cons (pv 2) (pa_cons (pv 1) (pa_cons pe_int pa_nil)))))))), ?_⟩
  have sl := sizeLine_eq
  refine ⟨Nat.zero_le _, fun r nr => ?_⟩
  refine name_go ?_
  dsimp only
  have k0 : Same H (upd H r (.lst [])) := fun b o h => by rw [upd_ne (ne_of_none h nr)]; exact h
  have ha1 : SqL K (upd H r (.lst [])) a (ns.map V.int) := Tw.SqL.same k0 ha
  refine ⟨_, rfl, 63, rfl, a, _, rfl, ha1, fun cs ncs => ⟨cs, rfl, ⟨_, SqL.of upd_same⟩, ?_⟩⟩
  have e63 : cutV (ns.map V.int) none (some 63) = (ns.take 63).map V.int := by
    unfold cutV
    rw [HT.sIx_none, show (63 : Int) = ((63 : Nat) : Int) from rfl, HT.sIx_nat, List.drop_zero, Nat.sub_zero, List.map_take]
    by_cases h : 63 ≤ (ns.map V.int).length
    · rw [Nat.min_eq_left h]
    · rw [Nat.min_eq_right (by omega), List.take_of_length_le (Nat.le_refl _), List.take_of_length_le (by omega)]
  rw [e63]
  have l63 : (ns.take 63).length ≤ 63 := by rw [List.length_take]; omega
  generalize ns.take 63 = ms at l63 ⊢
  have nrc : r ≠ cs := fun h => by rw [← h, upd_same] at ncs; cases ncs
  refine for_list (xs := ms.map V.int) (fun i σ H' => ∃ (sd : Int) (rows : List Int) (w3 : Option V), σ = [some (.ref a), some (.int sd), some (.ref r), w3] ∧ Same H H' ∧ H' r = some (.lst (rows.map V.int)) ∧ H' cs = some (.lst (ms.map V.int)) ∧ rows.length ≤ i)
    ⟨26, [], none, rfl, fun b o e => ?_, ?_, upd_same, Nat.zero_le _⟩ (fun i σ H' hi z => ?_) ?_ ?_
  · have h1 := k0 b o e
    rw [upd_ne (ne_of_none h1 ncs)]
    exact h1
  · rw [upd_ne nrc]
    exact upd_same
  · obtain ⟨sd, rows, w3, _, _, _, h3, _⟩ := z
    exact SqL.of h3
  · rintro i x σ H1 hx ⟨sd, rows, w3, rfl, sm, h1, h2, h3⟩
    obtain ⟨y, hy, rfl⟩ : ∃ y : Int, ms[i]? = some y ∧ V.int y = x := by
      rw [List.getElem?_map] at hx
      cases h : ms[i]? with
      | none => rw [h] at hx; cases hx
      | some y => rw [h] at hx; exact ⟨y, rfl, Option.some.inj hx⟩
    have il : i < 63 := by
      have := (List.getElem?_eq_some_iff.mp hy).1
      omega
    refine name_go ?_
    dsimp only
    refine ⟨_, rfl, y, rfl, _, _, rfl, rfl, ⟨by decide, by decide, by decide⟩, _, _, rfl, rfl, _, rfl, ?_⟩
    refine ite2 (fun z => ?_) (fun z => ?_)
    · refine ⟨_, rfl, .inl ⟨rfl, _, SqL.of h1⟩, _, rfl, y, rfl, r, _, _, rfl, rfl, h1, by rw [List.length_map]; omega, ?_⟩
      refine ⟨sd, rows ++ [if y < 0 then -y else y], _, rfl, fun b o e => ?_, ?_, ?_, by rw [List.length_append, List.length_singleton]; omega⟩
      · rw [upd_ne (ne_of_none e nr)]
        exact sm b o e
      · rw [upd_same, List.map_append]
        rfl
      · rw [upd_ne (Ne.symm nrc)]
        exact h2
    · refine ⟨_, rfl, _, _, rfl, rfl, .inr (by decide), _, rfl, _, _, rfl, rfl, .inl ⟨_, rfl, _, _, rfl, rfl, i31, ?_⟩⟩
      exact ⟨_, rows, _, rfl, sm, h1, h2, by omega⟩
  · rintro σ H1 ⟨sd, rows, w3, rfl, sm, h1, h2, h3⟩
    rw [List.length_map] at h3
    refine ⟨_, rfl, _, rfl, by (show 3 ≤ sizeLine; omega), fun p np => ?_⟩
    have npr : p ≠ r := fun h => by rw [h, h1] at np; cases np
    exact q p r _ (fun b o e => by rw [upd_ne (ne_of_none (sm b o e) np)]; exact sm b o e) (sm.free np) nr ⟨npr, rows, sd, 0, upd_same, by rw [upd_ne (Ne.symm npr)]; exact h1, by omega⟩
end
end Tw
set_option maxHeartbeats 4000000
/-! The law's names. -/
namespace Tw
open PySem PySem.Spec PyProof.Rows L2
theorem add_list (a b : Str) : (a ++ b).cps.toList = a.cps.toList ++ b.cps.toList := by
  show (a.cps ++ b.cps).toList = _
  simp
def spName : Sp := fun vs H Q _ => ∃ (p r : Addr), vs = [.ref p] ∧ PoolAt H p r ∧ ∀ z H', bigName z.cps.toList = true → PoolAt H' p r → KeptBut [p, r] H H' → Firm H H' → Q (.str z) H'
def wordSigns : Str := "ABCDEFGHIJKLMNOPQRSTUVWXYZabcdefghijklmnopqrstuvwxyz0123456789"
theorem word_len : wordSigns.length = 62 := by decide +kernel
theorem word_capb : ((wordSigns.cps.toList.take 26).all isCap) = true := by decide +kernel
theorem word_allb : (wordSigns.cps.toList.all isWord) = true := by decide +kernel
theorem word_at {d : Nat} (h : d < 62) : ∃ c, atI wordSigns.cps.toList (d : Int) = some c ∧ isWord c = true ∧ (d < 26 → isCap c = true) := by
  have hl : wordSigns.cps.toList.length = 62 := by rw [len_list]; exact word_len
  have hd : d < wordSigns.cps.toList.length := by omega
  refine ⟨wordSigns.cps.toList[d], atI_nat (List.getElem?_eq_getElem hd), List.all_eq_true.mp word_allb _ (List.getElem_mem hd), fun h26 => ?_⟩
  refine List.all_eq_true.mp word_capb _ ?_
  rw [List.mem_take_iff_getElem]
  exact ⟨d, by omega, rfl⟩
section
variable {P : Program} {w : World} {K : PySem.W.Frag} {mg : Str → Option Value} {base : Heap}
theorem scNm : FnScope ["pool", "signs", "word", "k"] ["pool"] (defScope sName) := ⟨rfl, rfl, rfl, by decide +kernel, rfl, by decide +kernel, by decide +kernel⟩
theorem ok_name {fd0 : Addr} (gd : Gf K mg "_law_draw" fd0) (Fd : FnR P w K mg base CX0 1 fd0 spDraw) (mr : mg "range" = none) {f : Addr} {fd : FuncData} (F : Fun K "_law_name_of" "_law_name_of" sName f fd) : FnR P w K mg base CX0 2 f spName := by
  refine okR F scNm (fun vs H Q E h => ?_) (fun _ _ _ _ _ _ us hl => match us, hl with | [_], _ => rfl) (fun cdv A outer s H vs Q E hr h => ?_)
  · obtain ⟨p, r, rfl, _⟩ := h
    rfl
  obtain ⟨p, r, rfl, hp, q⟩ := h
  refine ⟨_, pss_cons (ps_set (i := 1) scNm.nd rfl (Or.inl rfl) pe_str)
    (pss_cons (ps_set (i := 2) scNm.nd rfl (Or.inl rfl) (pe_ix ix_str (pv 1) (pe_cf Fd hr gd pass0 (pa_cons (pv 0) (pa_cons pe_int pa_nil))) (fun _ _ => rfl)))
    (pss_cons (ps_for PassesOwn.never rfl (pi_range1 (by rfl) mr (pa_cons (pe_cf Fd hr gd pass0 (pa_cons (pv 0) (pa_cons pe_int pa_nil))) pa_nil)) (pg_name (i := 3) scNm.nd rfl (Or.inl rfl))
      (pss_one (ps_set (i := 2) scNm.nd rfl (Or.inl rfl) (pe_op op_add_str (pv 2) (pe_ix ix_str (pv 1) (pe_cf Fd hr gd pass0 (pa_cons (pv 0) (pa_cons pe_int pa_nil))) (fun _ _ => rfl))))))
    (pss_one (ps_ret (pv 2))))), ?_⟩
  have sl := sizeLine_eq
  have wl := word_len
  refine ⟨_, rfl, _, rfl, p, r, 26, rfl, hp, by decide, by decide, fun d H1 hd hp1 kb1 fm1 => ?_⟩
  obtain ⟨c, hc, hcw, hcc⟩ := word_at (d := d) (by omega)
  refine ⟨wordSigns, _, c, rfl, rfl, by omega, hc, ?_⟩
  refine ⟨_, rfl, p, r, 8, rfl, hp1, by decide, by decide, fun n H2 hn hp2 kb2 fm2 => ?_⟩
  refine ⟨_, rfl, by omega, by omega, ?_⟩
  refine for_range (n := n) (fun i σ H' => ∃ (l : List Nat) (w3 : Option V), σ = [some (.ref p), some (.str wordSigns), some (.str (mkS l)), w3] ∧ PoolAt H' p r ∧ KeptBut [p, r] H H' ∧ Firm H H' ∧ ∃ rest, l = c :: rest ∧ rest.length = i ∧ rest.all isWord = true)
    ⟨[c], none, rfl, hp2, kb1.trans kb2, fm1.trans fm2, [], rfl, rfl, rfl⟩ ?_ ?_
  · rintro i σ H3 hi ⟨l, w3, rfl, hp3, kb3, fm3, rest, rfl, hr1, hr2⟩
    refine name_go ?_
    dsimp only
    refine ⟨_, rfl, _, rfl, _, rfl, p, r, 62, rfl, hp3, by decide, by decide, fun e H4 he hp4 kb4 fm4 => ?_⟩
    obtain ⟨x, hx, hxw, _⟩ := word_at (d := e) he
    refine ⟨wordSigns, _, x, rfl, rfl, by omega, hx, _, _, rfl, rfl, ?_, ?_⟩
    · rw [mkS_len, List.length_cons]
      show rest.length + 1 + 1 ≤ sizeLine
      omega
    · refine ⟨c :: (rest ++ [x]), some (.int (0 + (i : Int))), ?_, hp4, kb3.trans kb4, fm3.trans fm4, rest ++ [x], rfl, by rw [List.length_append, hr1] <;> rfl, ?_⟩
      · have : (mkS (c :: rest) ++ (⟨#[x]⟩ : Str)) = mkS (c :: (rest ++ [x])) := by
          refine str_ext ?_
          rw [add_list, mkS_list, mkS_list]
          rfl
        rw [this]
        rfl
      · rw [List.all_append, hr2]
        simp [hxw]
  · rintro σ H3 ⟨l, w3, rfl, hp3, kb3, fm3, rest, rfl, hr1, hr2⟩
    refine ⟨_, rfl, q _ _ ?_ hp3 kb3 fm3⟩
    rw [mkS_list]
    show (isCap c && (c :: rest).all isWord && decide (rest.length < 8)) = true
    rw [hcc (by omega), List.all_cons, hcw, hr2, decide_eq_true (by omega)]
    rfl
end
end Tw
set_option maxHeartbeats 4000000
/-! The law's trees of tuples; they grow. -/
namespace Tw
open PySem PySem.Spec PyProof.Rows L2
mutual
/-- v is a pair of a name and a tuple of parts that stands for t -/
def TupAt (H : Hp) : V → T → Prop
  | v, .node n ps => ∃ a c vs, v = .ref a ∧ H a = some (.tup [.str n, .ref c]) ∧ H c = some (.tup vs) ∧ TupsAt H vs ps
def TupsAt (H : Hp) : List V → List T → Prop
  | [], [] => True
  | v :: vs, t :: ts => TupAt H v t ∧ TupsAt H vs ts
  | [], _ :: _ => False
  | _ :: _, [] => False
end
theorem TupAt.ex {H : Hp} {v : V} {t : T} (h : TupAt H v t) : ∃ a c vs, v = .ref a ∧ H a = some (.tup [.str t.name, .ref c]) ∧ H c = some (.tup vs) ∧ TupsAt H vs t.parts := by
  cases t with
  | node n ps =>
    unfold TupAt at h
    exact h
theorem TupAt.mk {H : Hp} {a c : Addr} {n : Str} {vs : List V} {ps : List T} (h1 : H a = some (.tup [.str n, .ref c])) (h2 : H c = some (.tup vs)) (h3 : TupsAt H vs ps) : TupAt H (.ref a) (.node n ps) := by
  unfold TupAt
  exact ⟨a, c, vs, rfl, h1, h2, h3⟩
theorem TupsAt.nil {H : Hp} : TupsAt H [] [] := by unfold TupsAt; trivial
theorem TupsAt.cons {H : Hp} {v : V} {t : T} {vs : List V} {ts : List T} (h1 : TupAt H v t) (h2 : TupsAt H vs ts) : TupsAt H (v :: vs) (t :: ts) := by unfold TupsAt; exact ⟨h1, h2⟩
theorem TupsAt.len {H : Hp} : ∀ {vs : List V} {ts : List T}, TupsAt H vs ts → vs.length = ts.length
  | [], [], _ => rfl
  | _ :: _, _ :: _, h => by
    unfold TupsAt at h
    rw [List.length_cons, List.length_cons, TupsAt.len h.2]
  | [], _ :: _, h => by unfold TupsAt at h; exact h.elim
  | _ :: _, [], h => by unfold TupsAt at h; exact h.elim
theorem TupsAt.get {H : Hp} : ∀ {vs : List V} {ts : List T} {i : Nat} {v : V}, TupsAt H vs ts → vs[i]? = some v → ∃ t, ts[i]? = some t ∧ TupAt H v t
  | [], _, i, v, _, e => by simp at e
  | v' :: vs, t :: ts, 0, v, h, e => by
    unfold TupsAt at h
    have : v' = v := by simpa using e
    subst this
    exact ⟨t, rfl, h.1⟩
  | v' :: vs, t :: ts, i + 1, v, h, e => by
    unfold TupsAt at h
    obtain ⟨t', e', h'⟩ := TupsAt.get (i := i) (v := v) h.2 (by simpa using e)
    exact ⟨t', by simpa using e', h'⟩
  | _ :: _, [], _, _, h, _ => by unfold TupsAt at h; exact h.elim
theorem TupsAt.snoc {H : Hp} {v : V} {t : T} (h1 : TupAt H v t) : ∀ {vs : List V} {ts : List T}, TupsAt H vs ts → TupsAt H (vs ++ [v]) (ts ++ [t])
  | [], [], _ => .cons h1 .nil
  | _ :: _, _ :: _, h => by
    unfold TupsAt at h
    exact .cons h.1 (TupsAt.snoc h1 h.2)
  | [], _ :: _, h => by unfold TupsAt at h; exact h.elim
  | _ :: _, [], h => by unfold TupsAt at h; exact h.elim
mutual
theorem TupAt.firm {H H' : Hp} (s : Firm H H') : ∀ {v : V} {t : T}, TupAt H v t → TupAt H' v t
  | v, .node n ps, h => by
    obtain ⟨a, c, vs, rfl, h1, h2, h3⟩ := h.ex
    exact .mk (s.1 _ _ h1) (s.1 _ _ h2) (TupsAt.firm s h3)
theorem TupsAt.firm {H H' : Hp} (s : Firm H H') : ∀ {vs : List V} {ts : List T}, TupsAt H vs ts → TupsAt H' vs ts
  | [], [], _ => .nil
  | v :: vs, t :: ts, h => by
    unfold TupsAt at h
    exact .cons (TupAt.firm s h.1) (TupsAt.firm s h.2)
  | [], _ :: _, h => by unfold TupsAt at h; exact h.elim
  | _ :: _, [], h => by unfold TupsAt at h; exact h.elim
end
/-! ### right names and right trees -/
def leafName (n : Str) : Bool := decide (n.cps.toList = [95]) || digName n.cps.toList
mutual
def T.fine : T → Bool
  | .node n ps => (leafName n && ps.isEmpty) || (bigName n.cps.toList && decide (ps.length ≤ 3) && T.fines ps)
def T.fines : List T → Bool
  | [] => true
  | t :: r => t.fine && T.fines r
end
theorem fines_snoc {t : T} (h : t.fine = true) : ∀ {l : List T}, T.fines l = true → T.fines (l ++ [t]) = true
  | [], _ => by
    show T.fines [t] = true
    unfold T.fines
    rw [h]
    unfold T.fines
    rfl
  | a :: l, z => by
    unfold T.fines at z
    show T.fines (a :: (l ++ [t])) = true
    unfold T.fines
    rw [Bool.and_eq_true] at z ⊢
    exact ⟨z.1, fines_snoc h z.2⟩
theorem fine_leaf {n : Str} (h : leafName n = true) : (T.node n []).fine = true := by
  unfold T.fine
  rw [h]
  rfl
theorem fine_big {n : Str} {ps : List T} (h : bigName n.cps.toList = true) (l : ps.length ≤ 3) (f : T.fines ps = true) : (T.node n ps).fine = true := by
  unfold T.fine
  rw [h, f, decide_eq_true l]
  simp
theorem fine_mem : ∀ {l : List T}, T.fines l = true → ∀ t ∈ l, t.fine = true
  | a :: l, z, t, h => by
    unfold T.fines at z
    rw [Bool.and_eq_true] at z
    rcases List.mem_cons.mp h with rfl | h
    · exact z.1
    · exact fine_mem z.2 t h
theorem mostFrom_le {k : Nat} : ∀ {l : List T} {m : Nat}, m ≤ k → (∀ t ∈ l, t.levels ≤ k) → T.mostFrom m l ≤ k
  | [], m, h, _ => by unfold T.mostFrom; exact h
  | a :: l, m, h, z => by
    unfold T.mostFrom
    refine mostFrom_le ?_ fun t ht => z t (List.mem_cons_of_mem _ ht)
    have := z a List.mem_cons_self
    split <;> omega
abbrev sGrow : Stmt := top 26
/-- the names in use -/
def NamesAt (H : Hp) (nl : Addr) : Prop := ∃ names : List Str, H nl = some (.lst (names.map V.str)) ∧ names ≠ [] ∧ names.length ≤ 5 ∧ ∀ n ∈ names, bigName n.cps.toList = true
def RoomAt (H : Hp) (ro : Addr) : Prop := ∃ k : Int, H ro = some (.lst [.int k])
def spGrow (D : Nat) : Sp := fun vs H Q _ => ∃ (p r nl ro : Addr) (deep : Nat), vs = [.ref p, .ref nl, .ref ro, .int (deep : Int)] ∧ deep ≤ D ∧ PoolAt H p r ∧ NamesAt H nl ∧ RoomAt H ro ∧ nl ∉ [p, r, ro] ∧ ro ∉ [p, r] ∧
  ∀ v t H', TupAt H' v t → t.fine = true → t.levels ≤ deep + 1 → PoolAt H' p r → RoomAt H' ro → KeptBut [p, r, ro] H H' → Firm H H' → Q v H'
theorem NamesAt.kept {H H' : Hp} {nl : Addr} {l : List Addr} (h : NamesAt H nl) (k : KeptBut l H H') (n : nl ∉ l) : NamesAt H' nl := by
  obtain ⟨names, e, r⟩ := h
  exact ⟨names, k _ _ e n, r⟩
theorem sameN {H : Hp} {a : Addr} {o : HO} (h : H a = none) : Same H (upd H a o) := fun b x e => by rw [upd_ne (ne_of_none e h)]; exact e
theorem PoolAt.same {H H' : Hp} {p r : Addr} (s : Same H H') (h : PoolAt H p r) : PoolAt H' p r := by
  obtain ⟨ne, rows, sd, c, e1, e2, l⟩ := h
  exact ⟨ne, rows, sd, c, s _ _ e1, s _ _ e2, l⟩
theorem RoomAt.same {H H' : Hp} {ro : Addr} (s : Same H H') (h : RoomAt H ro) : RoomAt H' ro := by
  obtain ⟨k, e⟩ := h
  exact ⟨k, s _ _ e⟩
theorem PoolAt.kept {H H' : Hp} {p r : Addr} {l : List Addr} (k : KeptBut l H H') (n1 : p ∉ l) (n2 : r ∉ l) (h : PoolAt H p r) : PoolAt H' p r := by
  obtain ⟨ne, rows, sd, c, e1, e2, le⟩ := h
  exact ⟨ne, rows, sd, c, k _ _ e1 n1, k _ _ e2 n2, le⟩
theorem KeptBut.updNew {l : List Addr} {H H' : Hp} {a : Addr} {o : HO} (k : KeptBut l H H') (n : H a = none) : KeptBut l H (L2.upd H' a o) := fun b x e nb => by rw [upd_ne (ne_of_none e n)]; exact k b x e nb
theorem seq_join {t u : TS} {D : Ends} {σ : L2.St} {H : Hp} (Pv : L2.St → Hp → Prop) (h1 : ∀ nx : L2.St → Hp → Prop, (∀ σ' H', Pv σ' H' → nx σ' H') → t { D with nx := nx } σ H) (h2 : ∀ σ' H', Pv σ' H' → u D σ' H') : tSeq t u D σ H := h1 (u D) h2
theorem pick8 : ∀ d : Nat, d < 12 → ∃ e : Nat, e < 12 ∧ atI [V.int 2, .int 3, .int 5, .int 6, .int 7, .int 9, .int 10, .int 11] ((d : Int) % 8) = some (.int (e : Int))
  | 0, _ => ⟨2, by decide, rfl⟩
  | 1, _ => ⟨3, by decide, rfl⟩
  | 2, _ => ⟨5, by decide, rfl⟩
  | 3, _ => ⟨6, by decide, rfl⟩
  | 4, _ => ⟨7, by decide, rfl⟩
  | 5, _ => ⟨9, by decide, rfl⟩
  | 6, _ => ⟨10, by decide, rfl⟩
  | 7, _ => ⟨11, by decide, rfl⟩
  | 8, _ => ⟨2, by decide, rfl⟩
  | 9, _ => ⟨3, by decide, rfl⟩
  | 10, _ => ⟨5, by decide, rfl⟩
  | 11, _ => ⟨6, by decide, rfl⟩
  | n + 12, h => absurd h (by omega)
def digSigns : Str := "0123456789"
theorem dig_at : ∀ d : Nat, d < 10 → ∃ c, atI digSigns.cps.toList (d : Int) = some c ∧ isDig c = true
  | 0, _ => ⟨48, rfl, by decide⟩
  | 1, _ => ⟨49, rfl, by decide⟩
  | 2, _ => ⟨50, rfl, by decide⟩
  | 3, _ => ⟨51, rfl, by decide⟩
  | 4, _ => ⟨52, rfl, by decide⟩
  | 5, _ => ⟨53, rfl, by decide⟩
  | 6, _ => ⟨54, rfl, by decide⟩
  | 7, _ => ⟨55, rfl, by decide⟩
  | 8, _ => ⟨56, rfl, by decide⟩
  | 9, _ => ⟨57, rfl, by decide⟩
  | n + 10, h => absurd h (by omega)
section
variable {P : Program} {w : World} {K : PySem.W.Frag} {mg : Str → Option Value} {base : Heap}
theorem scGr : FnScope ["pool", "names", "room", "deep", "pick", "name", "parts", "k"] ["pool", "names", "room", "deep"] (defScope sGrow) := ⟨rfl, rfl, rfl, by decide +kernel, rfl, by decide +kernel, by decide +kernel⟩
theorem grow_step {fd0 : Addr} (gd : Gf K mg "_law_draw" fd0) (Fd : FnR P w K mg base CX0 1 fd0 spDraw) (mr : mg "range" = none) (mi : mg "int" = none) (ml : mg "len" = none) (mt : mg "tuple" = none) {f : Addr} {fd : FuncData} (F : Fun K "_law_grow" "_law_grow" sGrow f fd)
    (gg : Gf K mg "_law_grow" f) {k D : Nat} {sp : Sp} (FG : FnR P w K mg base CX0 (k + 1) f sp) (hD : ∀ vs H Q E, D ≠ 0 → spGrow (D - 1) vs H Q E → sp vs H Q E) : FnR P w K mg base CX0 (k + 2) f (spGrow D) := by
  refine okR F scGr (fun vs H Q E h => ?_) (fun _ _ _ _ _ _ us hl => match us, hl with | [_, _, _, _], _ => rfl) (fun cdv A outer s H vs Q E hr h => ?_)
  · obtain ⟨p, r, nl, ro, deep, rfl, _⟩ := h
    rfl
  obtain ⟨p, r, nl, ro, deep, rfl, hdp, hp, hn, ⟨rk, hro⟩, nnl, nro, q⟩ := h
  have hr1 : Room 1 _ := hr.mono (by omega)
  refine ⟨_, pss_cons (ps_asg (pe_op op_sub (pe_ix ix_list (pv 2) pe_int (fun _ _ => rfl)) pe_int) (pg_sub (pv 2) pe_int set_list))
    (pss_cons (ps_set (i := 4) scGr.nd rfl (Or.inl rfl) (pe_cf Fd hr1 gd pass0 (pa_cons (pv 0) (pa_cons pe_int pa_nil))))
    (pss_cons (ps_if (pt_cmpR op_gt (pv 3) pe_int (nomark _)) (pss_one (ps_set (i := 4) scGr.nd rfl (Or.inl rfl) (pe_ix ix_list (pe_lst (pa_cons pe_int (pa_cons pe_int (pa_cons pe_int (pa_cons pe_int (pa_cons pe_int (pa_cons pe_int (pa_cons pe_int (pa_cons pe_int pa_nil))))))))) (pe_op op_mod (pe_callTy call_int1 (by rfl) mi (by decide +kernel) (pa_cons (pv 4) pa_nil)) pe_int) (fun _ _ => rfl)))) pss_nil)
    (pss_cons (ps_if (pt_cmpR op_eq (pv 4) pe_int (nomark _)) (pss_one (ps_ret (pe_tup (pa_cons pe_str (pa_cons (pe_tup pa_nil) pa_nil))))) pss_nil)
    (pss_cons (ps_if (pt_cmpR op_eq (pv 4) pe_int (nomark _)) (pss_one (ps_ret (pe_tup (pa_cons (pe_ix ix_str pe_str (pe_cf Fd hr1 gd pass0 (pa_cons (pv 0) (pa_cons pe_int pa_nil))) (fun _ _ => rfl)) (pa_cons (pe_tup pa_nil) pa_nil))))) pss_nil)
    (pss_cons (ps_set (i := 5) scGr.nd rfl (Or.inl rfl) (pe_ix ix_list (pv 1) (pe_cf Fd hr1 gd pass0 (pa_cons (pv 0) (pa_cons (pe_callB call_len_seq (by rfl) ml PySem.boot_len (pa_cons (pv 1) pa_nil)) pa_nil))) (fun _ _ => rfl)))
    (pss_cons (ps_set (i := 6) scGr.nd rfl (Or.inl rfl) (pe_lst pa_nil))
    (pss_cons (ps_if (PW.pt (pw_and (pt_cmpR op_gt (pv 3) pe_int (nomark _)) (pw_and1 (pt_cmpR op_gt (pe_ix ix_list (pv 2) pe_int (fun _ _ => rfl)) pe_int (nomark _)))))
      (pss_one (ps_for PassesOwn.never rfl (pi_range1 (by rfl) mr (pa_cons (pe_op op_mod (pe_callTy call_int1 (by rfl) mi (by decide +kernel) (pa_cons (pv 4) pa_nil)) pe_int) pa_nil)) (pg_name (i := 7) scGr.nd rfl (Or.inl rfl))
        (pss_one (ps_expr (pe_bm PySem.F.plainAttrs_list PySem.F.slot_list_append PySem.F.type_list_append mt_append (pv 6) (pa_cons (pe_cf FG hr gg pass0 (pa_cons (pv 0) (pa_cons (pv 1) (pa_cons (pv 2) (pa_cons (pe_op op_sub (pv 3) pe_int) pa_nil))))) pa_nil)))))) pss_nil)
    (pss_one (ps_ret (pe_tup (pa_cons (pv 5) (pa_cons (pe_callTy call_tuple_of (by rfl) mt (by decide +kernel) (pa_cons (pv 6) pa_nil)) pa_nil)))))))))))), ?_⟩
  have sl := sizeLine_eq
  have rk2 : [p, r, ro] = [p, r] ++ [ro] := rfl
  have leaf : ∀ (n : Str) (H3 : Hp) (c a : Addr), leafName n = true → PoolAt H3 p r → RoomAt H3 ro → KeptBut [p, r, ro] H H3 → Firm H H3 → H3 c = none → (upd H3 c (.tup [])) a = none → Q (.ref a) (upd (upd H3 c (.tup [])) a (.tup [.str n, .ref c])) := by
    intro n H3 c a hl h1 h2 h3 h4 nc na
    have s1 : Same H3 (upd H3 c (.tup [])) := sameN nc
    have s2 : Same (upd H3 c (.tup [])) (upd (upd H3 c (.tup [])) a (.tup [.str n, .ref c])) := sameN na
    have s12 := s1.trans s2
    refine q _ (.node n []) _ (.mk upd_same (s2 _ _ upd_same) .nil) (fine_leaf hl) ?_ (h1.same s12) (h2.same s12) (h3.trans (.of s12)) (h4.trans (.of s12))
    unfold T.levels T.mostFrom
    omega
  -- room[0] = room[0] - 1
  refine ⟨_, rfl, ro, _, _, .int rk, rfl, rfl, SqL.of hro, rfl, _, _, rfl, rfl, _, rfl, ro, _, 0, 0, rfl, rfl, hro, rfl, ?_⟩
  have npo : p ≠ ro := fun h => nro (h ▸ List.mem_cons_self)
  have nqo : r ≠ ro := fun h => nro (h ▸ List.mem_cons_of_mem _ List.mem_cons_self)
  have k1 : KeptBut [p, r, ro] H (upd H ro (.lst ([V.int rk].set 0 (.int (rk - 1))))) := KeptBut.upd (by simp)
  have f1 : Firm H (upd H ro (.lst ([V.int rk].set 0 (.int (rk - 1))))) := Firm.list hro
  have ko : KeptBut [ro] H (upd H ro (.lst ([V.int rk].set 0 (.int (rk - 1))))) := KeptBut.upd (by simp)
  have p1 : PoolAt (upd H ro (.lst ([V.int rk].set 0 (.int (rk - 1))))) p r := hp.kept ko (by simpa using npo) (by simpa using nqo)
  have o1 : RoomAt (upd H ro (.lst ([V.int rk].set 0 (.int (rk - 1))))) ro := ⟨rk - 1, upd_same⟩
  have n1 := hn.kept k1 nnl
  generalize (upd H ro (.lst ([V.int rk].set 0 (.int (rk - 1))))) = H1 at k1 f1 p1 o1 n1 ⊢
  -- pick
  refine ⟨_, rfl, p, r, 12, rfl, p1, by decide, by decide, fun d H2 hd p2 kb2 f2 => ?_⟩
  have k2 : KeptBut [p, r, ro] H H2 := k1.trans (kb2.mono (by simp))
  have o2 : RoomAt H2 ro := by
    obtain ⟨k, e⟩ := o1
    exact ⟨k, kb2 _ _ e nro⟩
  have n2 := hn.kept k2 nnl
  refine name_go ?_
  dsimp only
  have f12 := f1.trans f2
  refine seq_join (fun σ H' => ∃ e : Nat, σ = [some (.ref p), some (.ref nl), some (.ref ro), some (.int (deep : Int)), some (.int (e : Int)), none, none, none] ∧ PoolAt H' p r ∧ RoomAt H' ro ∧ KeptBut [p, r, ro] H H' ∧ Firm H H') (fun nx hnx => ?_) ?_
  · refine ⟨_, rfl, _, _, rfl, rfl, _, rfl, ?_⟩
    refine ite2 (fun _ => ?_) (fun _ => hnx _ _ ⟨d, rfl, p2, o2, k2, f12⟩)
    obtain ⟨e, he, hat⟩ := pick8 d hd
    refine ⟨by (show 8 ≤ sizeLine; omega), fun a na => ?_⟩
    have s := sameN (o := .lst [V.int 2, .int 3, .int 5, .int 6, .int 7, .int 9, .int 10, .int 11]) na
    refine ⟨_, rfl, .inl ⟨_, rfl, _, _, rfl, rfl, (by show (0 : Int) < 8; decide), a, _, _, _, rfl, rfl, SqL.of upd_same, hat, ?_⟩⟩
    exact hnx _ _ ⟨e, rfl, p2.same s, o2.same s, k2.trans (.of s), f12.trans (.of s)⟩
  clear p2 o2 k2 f12 n2 f2 kb2 hd
  rintro σ H3 ⟨e, rfl, p3, o3, k3, f3⟩
  have n3 := hn.kept k3 nnl
  refine ⟨_, rfl, rfl, _, rfl, ?_⟩
  refine ite2 (fun _ => ?_) (fun _ => ?_)
  · exact ⟨Nat.zero_le _, fun c nc => ⟨by (show 2 ≤ sizeLine; omega), fun a na => leaf _ H3 c a (by decide +kernel) p3 o3 k3 f3 nc na⟩⟩
  refine ⟨_, rfl, rfl, _, rfl, ?_⟩
  refine ite2 (fun _ => ?_) (fun _ => ?_)
  · refine ⟨_, rfl, p, r, 10, rfl, p3, by decide, by decide, fun d H4 hd p4 kb4 f4 => ?_⟩
    obtain ⟨x, hx, hxd⟩ := dig_at d hd
    refine ⟨digSigns, _, x, rfl, rfl, (by show 10 ≤ sizeLine; omega), hx, ?_⟩
    have o4 : RoomAt H4 ro := by
      obtain ⟨k, e⟩ := o3
      exact ⟨k, kb4 _ _ e nro⟩
    refine ⟨Nat.zero_le _, fun c nc => ⟨by (show 2 ≤ sizeLine; omega), fun a na => leaf _ H4 c a ?_ p4 o4 (k3.trans (kb4.mono (by simp))) (f3.trans f4) nc na⟩⟩
    unfold leafName
    show (_ || isDig x) = true
    rw [hxd]
    simp
  -- a name
  obtain ⟨names, hnl, nne, nle, nbig⟩ := n3
  have nlen : 0 < names.length := List.length_pos_iff.mpr nne
  refine ⟨_, rfl, _, rfl, _, rfl, nl, _, rfl, .inl (SqL.of hnl), p, r, names.length, ?_, p3, nlen, by omega, fun d H4 hd p4 kb4 f4 => ?_⟩
  · rw [List.length_map]
  have hnm : ∃ n, names[d]? = some n := ⟨_, List.getElem?_eq_getElem hd⟩
  obtain ⟨n, hnd⟩ := hnm
  have o4 : RoomAt H4 ro := by
    obtain ⟨k, e⟩ := o3
    exact ⟨k, kb4 _ _ e nro⟩
  have nn2 : nl ∉ [p, r] := fun h => nnl (List.mem_append_left [ro] h)
  have hnl4 := kb4 _ _ hnl nn2
  refine ⟨nl, _, _, .str n, rfl, rfl, SqL.of hnl4, atI_nat (by rw [List.getElem?_map, hnd] <;> rfl), ?_⟩
  have hbig := nbig n (List.mem_of_getElem? hnd)
  have k4 : KeptBut [p, r, ro] H H4 := k3.trans (kb4.mono (by simp))
  have f34 := f3.trans f4
  refine name_go ?_
  dsimp only
  -- parts = []
  refine ⟨Nat.zero_le _, fun pl npl => ?_⟩
  refine name_go ?_
  dsimp only
  have s5 := sameN (o := .lst []) npl
  have inUse : ∀ b, b ∈ [p, r, ro] → ∀ H', PoolAt H' p r → RoomAt H' ro → H' b ≠ none := fun b hb H' ⟨_, rows, sd, c, e1, e2, _⟩ ⟨k, e3⟩ => by
    simp at hb
    rcases hb with rfl | rfl | rfl
    · rw [e1]; simp
    · rw [e2]; simp
    · rw [e3]; simp
  have npl3 : pl ∉ [p, r, ro] := fun h => inUse pl h H4 p4 o4 npl
  have nplH : H pl = none := by
    cases h : H pl with
    | none => rfl
    | some o => exact absurd (k4 _ _ h npl3) (by rw [npl]; simp)
  refine seq_join (fun σ H' => ∃ (e : Nat) (vs : List V) (ts : List T) (w7 : Option V), σ = [some (.ref p), some (.ref nl), some (.ref ro), some (.int (deep : Int)), some (.int (e : Int)), some (.str n), some (.ref pl), w7] ∧ H' pl = some (.lst vs) ∧ TupsAt H' vs ts ∧ ts.length ≤ 3 ∧ T.fines ts = true ∧ (∀ u ∈ ts, u.levels ≤ deep) ∧
      PoolAt H' p r ∧ RoomAt H' ro ∧ KeptBut [p, r, ro] H H' ∧ Firm H H') (fun nx hnx => ?_) ?_
  · have skip : nx [some (.ref p), some (.ref nl), some (.ref ro), some (.int (deep : Int)), some (.int (e : Int)), some (.str n), some (.ref pl), none] (upd H4 pl (.lst [])) := hnx _ _ ⟨e, [], [], _, rfl, upd_same, TupsAt.nil, Nat.zero_le _, (by unfold T.fines; rfl), (fun u hu => absurd hu List.not_mem_nil), p4.same s5, o4.same s5, k4.updNew nplH, f34.trans (.of s5)⟩
    refine ⟨_, rfl, _, _, rfl, rfl, _, rfl, ?_⟩
    refine ite2 (fun hpos => ?_) (fun _ => skip)
    have dpos : 0 < deep := by
      have := of_decide_eq_true hpos
      omega
    obtain ⟨k5, e5⟩ := o4.same s5
    refine ⟨_, rfl, ro, _, _, .int k5, rfl, rfl, SqL.of e5, rfl, _, _, rfl, rfl, _, rfl, ?_⟩
    refine ite2 (fun _ => ?_) (fun _ => skip)
    obtain ⟨j, hj, hj4⟩ : ∃ j : Nat, (e : Int) % 4 = (j : Int) ∧ j < 4 := ⟨e % 4, by omega, by omega⟩
    refine ⟨_, rfl, .inl ⟨_, rfl, _, _, rfl, rfl, (by show (0 : Int) < 4; decide), ?_⟩⟩
    dsimp only
    rw [hj]
    refine ⟨_, rfl, by omega, by omega, ?_⟩
    refine for_range (lo := 0) (n := j) (D := { nx := nx, rt := Q }) (fun i σ H' => ∃ (vs : List V) (ts : List T) (w7 : Option V), σ = [some (.ref p), some (.ref nl), some (.ref ro), some (.int (deep : Int)), some (.int (e : Int)), some (.str n), some (.ref pl), w7] ∧ H' pl = some (.lst vs) ∧ TupsAt H' vs ts ∧ ts.length = i ∧ T.fines ts = true ∧ (∀ u ∈ ts, u.levels ≤ deep) ∧
      PoolAt H' p r ∧ RoomAt H' ro ∧ KeptBut [p, r, ro] H H' ∧ Firm H H') ⟨[], [], _, rfl, upd_same, TupsAt.nil, rfl, (by unfold T.fines; rfl), (fun u hu => absurd hu List.not_mem_nil), p4.same s5, o4.same s5, k4.updNew nplH, f34.trans (.of s5)⟩ ?_ ?_
    · rintro i σ H6 hi ⟨vs, ts, w7, rfl, hpl, hts, htl, htf, htv, p6, o6, k6, f6⟩
      have hvl := hts.len
      refine name_go ?_
      dsimp only
      refine ⟨_, rfl, .inl ⟨rfl, _, SqL.of hpl⟩, _, rfl, _, rfl, _, rfl, _, rfl, _, _, rfl, rfl, ?_⟩
      refine hD _ _ _ _ (by omega) ⟨p, r, nl, ro, deep - 1, ?_, by omega, p6, hn.kept k6 nnl, o6, nnl, nro, fun v u H7 hv hu1 hu2 p7 o7 k7 f7 => ?_⟩
      · dsimp only
        rw [show ((deep : Int) - 1) = ((deep - 1 : Nat) : Int) by omega]
      have hpl7 := k7 _ _ hpl npl3
      refine ⟨pl, vs, v, rfl, rfl, hpl7, by omega, ?_⟩
      have f8 := Firm.list (o := .lst (vs ++ [v])) hpl7
      have kp : KeptBut [pl] H7 (upd H7 pl (.lst (vs ++ [v]))) := KeptBut.upd (by simp)
      refine ⟨vs ++ [v], ts ++ [u], _, rfl, upd_same, TupsAt.snoc (hv.firm f8) (hts.firm (f7.trans f8)), by rw [List.length_append, htl] <;> rfl, fines_snoc hu1 htf, fun x hx => ?_, p7.kept kp (fun h => npl3 (by simp at h; simp [h])) (fun h => npl3 (by simp at h; simp [h])), ?_, (k6.trans k7).updNew nplH, (f6.trans f7).trans f8⟩
      · rcases List.mem_append.mp hx with hx | hx
        · exact htv x hx
        · rw [List.mem_singleton.mp hx]
          omega
      · obtain ⟨k8, e8⟩ := o7
        exact ⟨k8, kp _ _ e8 (fun h => npl3 (by simp at h; simp [h]))⟩
    · rintro σ H6 ⟨vs, ts, w7, rfl, hpl, hts, htl, htf, htv, p6, o6, k6, f6⟩
      exact hnx _ _ ⟨e, vs, ts, w7, rfl, hpl, hts, by omega, htf, htv, p6, o6, k6, f6⟩
  · rintro σ H6 ⟨e, vs, ts, w7, rfl, hpl, hts, htl, htf, htv, p6, o6, k6, f6⟩
    refine ⟨_, rfl, _, rfl, pl, _, rfl, .inl ⟨SqL.of hpl, fun c nc => ?_⟩⟩
    have s7 := sameN (o := .tup vs) nc
    refine ⟨by (show 2 ≤ sizeLine; omega), fun a na => ?_⟩
    have s8 := sameN (o := .tup [V.str n, .ref c]) na
    have s78 := s7.trans s8
    refine q _ (.node n ts) _ (.mk upd_same (s8 _ _ upd_same) (hts.firm (.of s78))) (fine_big hbig htl htf) ?_ (p6.same s78) (o6.same s78) (k6.trans (.of s78)) (f6.trans (.of s78))
    unfold T.levels
    have := mostFrom_le (k := deep) (m := 0) (Nat.zero_le _) htv
    omega
theorem ok_grow {fd0 : Addr} (gd : Gf K mg "_law_draw" fd0) (Fd : FnR P w K mg base CX0 1 fd0 spDraw) (mr : mg "range" = none) (mi : mg "int" = none) (ml : mg "len" = none) (mt : mg "tuple" = none) {f : Addr} {fd : FuncData} (F : Fun K "_law_grow" "_law_grow" sGrow f fd)
    (gg : Gf K mg "_law_grow" f) : ∀ D : Nat, FnR P w K mg base CX0 (D + 2) f (spGrow D)
  | 0 => grow_step gd Fd mr mi ml mt F gg (sp := fun _ _ _ _ => False) (fun _ _ _ _ _ _ _ _ _ _ _ hs => hs.elim) fun _ _ _ _ h => absurd rfl h
  | D + 1 => grow_step gd Fd mr mi ml mt F gg (ok_grow gd Fd mr mi ml mt F gg D) fun _ _ _ _ _ h => h
end
end Tw
set_option maxHeartbeats 4000000
/-! t[::-1] of a tuple. -/
namespace Tw
open PySem PySem.Spec PyProof.Rows L2
section
variable {prog : Program} {w : World} {A : Around} {E : Value → Shared → Prop} {s : Shared}
theorem fm_congr {α β : Type} {f g : α → Option β} : ∀ {l : List α}, (∀ x ∈ l, f x = g x) → l.filterMap f = l.filterMap g
  | [], _ => rfl
  | a :: l, h => by
    have ih := fm_congr (l := l) fun x hx => h x (List.mem_cons_of_mem _ hx)
    rw [List.filterMap_cons, List.filterMap_cons, h a List.mem_cons_self, ih]
theorem adjust_rev (n : Nat) : Builtin.Slice.sliceAdjust none none (-1) (n : Int) = ((n : Int) - 1, -1) := by
  unfold Builtin.Slice.sliceAdjust
  simp
theorem places_rev (n : Nat) : Builtin.Slice.slicePlaces ((n : Int) - 1) (-1) (-1) = n := by
  unfold Builtin.Slice.slicePlaces
  have h1 : ¬ ((-1 : Int) > 0) := by omega
  simp only [h1, if_false]
  split
  · have : ((n : Int) - 1 - -1 - 1) / (- -1) = (n : Int) - 1 := by
      rw [show (- -1 : Int) = 1 by decide, Int.ediv_one]
      omega
    rw [this]
    omega
  · omega
theorem pick_rev (xs : Array Value) : ((List.range xs.size).filterMap fun (m : Nat) => xs[((xs.size : Int) - 1 + (m : Int) * (-1)).toNat]?).toArray = xs.toList.reverse.toArray := by
  have e : ((List.range xs.size).filterMap fun (m : Nat) => xs[((xs.size : Int) - 1 + (m : Int) * (-1)).toNat]?) = ((List.range xs.size).map fun k => xs.size - 1 - k).filterMap (xs[·]?) := by
    rw [List.filterMap_map]
    refine fm_congr fun m hm => ?_
    have := List.mem_range.mp hm
    have e1 : ((xs.size : Int) - 1 + (m : Int) * (-1)).toNat = xs.size - 1 - m := by omega
    rw [e1]
    rfl
  rw [e, PySem.W.krv_range, List.filterMap_reverse, PySem.W.krv_all]
theorem sliceApplied_rev {sl : Addr} {vk : Value} {n : Nat} {Q : Int × Int × Nat → Shared → Prop} (hs : s.heap.IsSliceOf sl .none .none vk) (pk : IsPart vk (some (-1)))
    (h : Q ((n : Int) - 1, -1, n) s) : wpAny (model prog w) A (Builtin.Slice.sliceApplied (.ref sl) (pure (n : Int))) Q E s := by
  obtain ⟨os, hos, hcs, hds⟩ := id hs
  unfold Builtin.Slice.sliceApplied Builtin.Slice.sliceFields
  refine wpAny_bind (wpAny_bind (wpAny_field hos hds (x := .none) rfl (wpAny_bind (wpAny_field hos hds (x := .none) rfl (wpAny_bind (wpAny_field hos hds (x := vk) rfl (wpAny_pure ?_)))))))
  refine wpAny_bind (HT.slicePart_ pk ?_)
  show wpAny _ _ (if ((-1 : Int) == 0) = true then _ else _) _ _ s
  rw [if_neg (by decide)]
  refine wpAny_bind (HT.slicePart_ .none (wpAny_bind (HT.slicePart_ .none (wpAny_bind (wpAny_pure ?_)))))
  show wpAny _ _ (match Builtin.Slice.sliceAdjust none none (-1) (n : Int) with | (lo, hi) => pure (lo, (-1 : Int), Builtin.Slice.slicePlaces lo hi (-1))) _ _ s
  rw [adjust_rev n]
  show wpAny _ _ (pure ((n : Int) - 1, (-1 : Int), Builtin.Slice.slicePlaces ((n : Int) - 1) (-1) (-1))) _ _ s
  rw [places_rev]
  exact wpAny_pure h
theorem getItem_tuple_rev {t sl : Addr} {items : Array Value} {vk : Value} {Q : Value → Shared → Prop} (ht : IsTup s.heap t items) (hs : s.heap.IsSliceOf sl .none .none vk) (pk : IsPart vk (some (-1)))
    (h : Q (.ref s.heap.objs.size) { s with heap := s.heap.push { cls := .type "tuple", data := .seq items.toList.reverse.toArray } })
    (hsz : items.size ≤ sizeLine) : wpAny (model prog w) A (getItem (.ref t) (.ref sl)) Q E s := by
  have htake : sizeOk (.seq items.toList.reverse.toArray) := by
    show items.toList.reverse.toArray.size ≤ sizeLine
    rw [List.size_toArray, List.length_reverse, Array.length_toList]
    omega
  obtain ⟨os, hos, hcs, hds⟩ := id hs
  have hTs : s.TypeIs (.ref sl) "slice" := ⟨os, hos, hcs⟩
  unfold getItem
  try with_reducible refine wpAny_holding ?_
  first | refine wpAny_bind (wpAny_pure ?_) | skip
  refine wpAny_bind (wpAny_sequenceKey ht.typeIs (by decide) ?_)
  refine wpAny_bind (wpAny_callSpecial?_slot (name := Str.ofString "__getitem__") ht.typeIs PyProof.Rows.slot_tuple_getitem
    (wpAny_call_entry PyProof.Rows.slot_tuple_getitem ht.typeIs entry_tuple_getitem ?_ (args_tuple_getitem _ _)))
  show wpAny _ _ (Builtin.Tuple.tupleItemsOf (.ref t) >>= _) _ _ s
  refine wpAny_bind (tupleItemsOf_ ht ?_)
  refine wpAny_bind (wpAny_typeOf hTs ?_)
  rw [if_pos (by decide)]
  refine wpAny_bind (sliceApplied_rev hs pk ?_)
  have hno : ¬ ((((items.size : Int) - 1) == 0 && (-1 : Int) == 1 && items.size == items.size) = true) := by
    intro q
    rw [Bool.and_eq_true, Bool.and_eq_true] at q
    exact absurd q.1.2 (by decide)
  show wpAny _ _ (if (((items.size : Int) - 1) == 0 && (-1 : Int) == 1 && items.size == items.size) = true then _ else _) _ _ s
  rw [if_neg hno, pick_rev]
  first
    | exact wpAny_bind (m := Builtin.Tuple.tupleExact _) (wpAny_newObj_type (wpAny_pure ⟨_, rfl, wpAny_pure h⟩) htake)
    | exact wpAny_bind (m := Builtin.Tuple.tupleExact _) (wpAny_newObj_type (wpAny_bind (wpAny_pure (wpAny_pure ⟨_, rfl, wpAny_pure h⟩))) htake)
    | exact wpAny_bind (wpAny_bind (m := Builtin.Tuple.tupleExact _) (wpAny_newObj_type (wpAny_pure (wpAny_pure ⟨_, rfl, wpAny_pure h⟩)) htake))
    | exact wpAny_bind (wpAny_bind (m := Builtin.Tuple.tupleExact _) (wpAny_newObj_type (wpAny_pure ⟨_, rfl, wpAny_pure h⟩) htake))
end
/-- t[::-1] -/
def tRevT (K : PySem.W.Frag) (te : TE) : TE := fun σ H Q => te σ H fun x H1 => ∃ a xs, x = .ref a ∧ SqT K H1 a xs ∧ ∀ p, H1 p = none → Q (.ref p) (upd H1 p (.tup xs.reverse))
section
variable {X : Cx}
theorem pe_revT {e : Expr} {te : TE} {k : Nat} {p1 p2 p3 pos : Pos} (he : PE X e te) : PE X (.Subscript e (.Slice none none (some (.UnaryOp .USub (.Constant (.int 1) k p1) p2)) p3) pos) (tRevT X.K te) := by
  refine ⟨fun pins s σ H Q I h => ?_⟩
  refine Subscript_ (thn (he.run pins s σ H _ I h) fun v s1 ⟨x, H1, I1, r1, q1⟩ => ?_)
  obtain ⟨a, xs, ex, hx, q⟩ := q1
  subst ex
  cases r1
  have hst : PO X (some (.UnaryOp .USub (.Constant (.int 1) k p1) p2)) (tPart (tUn (rU fun i => .int (-i)) (tC (.int 1)))) := po_some (pe_un un_neg pe_int)
  refine wpAny_Slice (thn (po_none.run pins s1 σ H1 (fun o H2 => o = none ∧ H2 = H1) I1 ⟨rfl, rfl⟩) fun vl s2 ⟨l, H2, I2, pl, el, e2⟩ => ?_)
  subst el e2
  refine thn (po_none.run pins s2 σ H2 (fun o H3 => o = none ∧ H3 = H2) I2 ⟨rfl, rfl⟩) fun vu s3 ⟨u, H3, I3, pu, eu, e3⟩ => ?_
  subst eu e3
  cases pl
  cases pu
  refine thn (hst.run pins s3 σ H3 (fun o H4 => o = some (-1) ∧ H4 = H3) I3 ⟨1, rfl, -1, rfl, rfl, rfl⟩) fun vs s4 ⟨o, H4, I4, ps, eo, e4⟩ => ?_
  subst eo e4
  have I5 : Inv X pins σ H4 { s4 with heap := s4.heap.push { cls := .type "slice", data := .fields #[.none, .none, vs] } } := I4.kept (t' := s4.toks) fun b ob q => Heap.get?_push_of_some _ q
  obtain ⟨its, r, ht, hz⟩ := I5.tuple hx
  have hlen := r.length
  show wpAny (model X.prog X.w) X.A (subscriptTail e (.Slice none none (some (.UnaryOp .USub (.Constant (.int 1) k p1) p2)) p3) (.ref a) (.ref s4.heap.objs.size)) (EP X pins σ Q) X.xe { s4 with heap := s4.heap.push { cls := .type "slice", data := .fields #[.none, .none, vs] } }
  refine tail_any (ops := [.ref a, .ref s4.heap.objs.size]) ht.typeIs (PyProof.Rows.slot_tuple_getitem.lookup) ?_ (by with_unfolding_all rfl)
  refine getItem_tuple_rev ht (Heap.IsSliceOf.new _ .none .none vs) ps ?_ (by rw [List.size_toArray]; omega)
  refine ⟨.ref _, _, I5.laid (t' := s4.toks) (o := .tup xs.reverse) (fun b ob q => Heap.get?_push_of_some _ q) (Nat.le_refl _) ?_, rfl, q _ (I5.hok.fresh (Nat.le_refl _))⟩
  exact ⟨by rw [List.length_reverse]; exact hz, _, r.reverse, IsTup.new _ _⟩
end
end Tw
set_option maxHeartbeats 4000000
/-! The law's mirrored trees, and Trees made of them. -/
namespace Tw
open PySem PySem.Spec PyProof.Rows L2
abbrev sMake : Stmt := top 36
theorem TupAt.mono {H H' : Hp} (s : Same H H') {v : V} {t : T} (h : TupAt H v t) : TupAt H' v t := h.firm (.of s)
theorem rel_tups {H : Hp} {F : T → Prop} : ∀ {ys : List V}, (∀ (j : Nat) (v : V), ys[j]? = some v → ∃ u, TupAt H v u ∧ F u) → ∃ us, TupsAt H ys us ∧ us.length = ys.length ∧ ∀ u ∈ us, F u
  | [], _ => ⟨[], .nil, rfl, fun u h => absurd h List.not_mem_nil⟩
  | y :: ys, h => by
    obtain ⟨u, hu, fu⟩ := h 0 y rfl
    obtain ⟨us, hus, hl, hf⟩ := rel_tups (ys := ys) fun j v e => h (j + 1) v (by simpa using e)
    refine ⟨u :: us, .cons hu hus, by rw [List.length_cons, List.length_cons, hl], fun x hx => ?_⟩
    rcases List.mem_cons.mp hx with rfl | hx
    · exact fu
    · exact hf x hx
theorem fines_of : ∀ {l : List T}, (∀ t ∈ l, t.fine = true) → T.fines l = true
  | [], _ => by unfold T.fines; rfl
  | a :: l, h => by
    unfold T.fines
    rw [h a List.mem_cons_self, fines_of fun t ht => h t (List.mem_cons_of_mem _ ht)]
    rfl
theorem fine_ex {n : Str} {ps : List T} (h : (T.node n ps).fine = true) : (leafName n = true ∧ ps = []) ∨ (bigName n.cps.toList = true ∧ ps.length ≤ 3 ∧ T.fines ps = true) := by
  unfold T.fine at h
  rw [Bool.or_eq_true] at h
  rcases h with h | h
  · rw [Bool.and_eq_true] at h
    exact .inl ⟨h.1, List.isEmpty_iff.mp h.2⟩
  · rw [Bool.and_eq_true, Bool.and_eq_true] at h
    exact .inr ⟨h.1.1, of_decide_eq_true h.1.2, h.2⟩
theorem fine_parts {t : T} (h : t.fine = true) : t.parts.length ≤ 3 ∧ ∀ u ∈ t.parts, u.fine = true := by
  cases t with
  | node n ps =>
    rcases fine_ex h with ⟨_, e⟩ | ⟨_, l, f⟩
    · subst e
      exact ⟨Nat.zero_le _, fun u hu => absurd hu List.not_mem_nil⟩
    · exact ⟨l, fine_mem f⟩
theorem mostFrom_ge {m k : Nat} : ∀ {l : List T}, m ≤ k → m ≤ T.mostFrom k l
  | [], h => by unfold T.mostFrom; exact h
  | a :: l, h => by
    unfold T.mostFrom
    refine mostFrom_ge ?_
    split <;> omega
theorem mostFrom_mem {t : T} : ∀ {l : List T} {m : Nat}, t ∈ l → t.levels ≤ T.mostFrom m l
  | a :: l, m, h => by
    unfold T.mostFrom
    rcases List.mem_cons.mp h with rfl | h
    · refine mostFrom_ge ?_
      split <;> omega
    · exact mostFrom_mem h
theorem levels_node (n : Str) (ps : List T) : (T.node n ps).levels = 1 + T.mostFrom 0 ps := by unfold T.levels; rfl
theorem size_node (n : Str) (ps : List T) : (T.node n ps).size = 1 + T.sizes ps := by unfold T.size; rfl
theorem levels_part {t u : T} (h : u ∈ t.parts) : u.levels + 1 ≤ t.levels := by
  cases t with
  | node n ps =>
    have := mostFrom_mem (m := 0) (l := ps) h
    rw [levels_node]
    omega
theorem levels_pos (t : T) : 1 ≤ t.levels := by
  cases t
  unfold T.levels
  omega
theorem levels_of {n : Str} {ps : List T} {k : Nat} (h : ∀ u ∈ ps, u.levels ≤ k) : (T.node n ps).levels ≤ k + 1 := by
  unfold T.levels
  have := mostFrom_le (m := 0) (Nat.zero_le _) h
  omega
theorem sizes_mem {t : T} : ∀ {l : List T}, t ∈ l → t.size ≤ T.sizes l
  | a :: l, h => by
    unfold T.sizes
    rcases List.mem_cons.mp h with rfl | h
    · omega
    · have := sizes_mem h
      omega
theorem size_part {t u : T} (h : u ∈ t.parts) : u.size + 1 ≤ t.size := by
  cases t with
  | node n ps =>
    have := sizes_mem (l := ps) h
    rw [size_node]
    omega
theorem name_small {t : T} (h : t.fine = true) : t.name.length ≤ 8 := by
  cases t with
  | node n ps =>
    show n.length ≤ 8
    rw [← len_list]
    rcases fine_ex h with ⟨hl, _⟩ | ⟨hb, _⟩
    · unfold leafName at hl
      rw [Bool.or_eq_true] at hl
      rcases hl with hl | hl
      · rw [of_decide_eq_true hl]
        decide
      · match e : n.cps.toList with
        | [] => simp
        | [c] => simp
        | a :: b :: r => rw [e] at hl; cases hl
    · match e : n.cps.toList with
      | [] => simp
      | c :: r =>
        rw [e] at hb
        have : (isCap c && (c :: r).all isWord && decide (r.length < 8)) = true := hb
        rw [Bool.and_eq_true] at this
        have := of_decide_eq_true this.2
        rw [List.length_cons]
        omega
mutual
theorem term_small : ∀ {t : T}, t.fine = true → t.term.length + 2 ≤ 12 * t.size
  | .node n ps, h => by
    have h1 := name_small h
    have h2 := partsW_small (ps := ps) (fine_parts h).2
    have h3 := term_len_le n ps
    have h4 : n.length ≤ 8 := h1
    unfold T.size
    omega
theorem partsW_small : ∀ {ps : List T}, (∀ u ∈ ps, u.fine = true) → partsW ps ≤ 12 * T.sizes ps
  | [], _ => by unfold partsW T.sizes; simp
  | p :: r, h => by
    have h1 := term_small (h p List.mem_cons_self)
    have h2 := partsW_small (ps := r) fun u hu => h u (List.mem_cons_of_mem _ hu)
    unfold partsW at h2 ⊢
    unfold T.sizes
    rw [List.map_cons, List.sum_cons]
    omega
end
theorem fits_small {n : Str} {ps : List T} (h : (T.node n ps).fine = true) (hs : (T.node n ps).size ≤ 10000) : TermFits n ps := by
  have h1 := name_small h
  have h2 := partsW_small (ps := ps) (fine_parts h).2
  have h3 := (fine_parts h).1
  have h4 := partsW_terms ps
  have h5 : n.length ≤ 8 := h1
  have h6 : ps.length ≤ 3 := h3
  unfold T.size at hs
  exact ⟨by omega, by omega, by omega⟩
end Tw
set_option maxHeartbeats 4000000
/-! Trees made of the law's trees. -/
namespace Tw
open PySem PySem.Spec PyProof.Rows L2
def spMakeL (C : Addr) (D : Nat) : Sp := fun vs H Q _ => ∃ (v : V) (t : T), vs = [v] ∧ TupAt H v t ∧ t.fine = true ∧ t.size ≤ 10000 ∧ t.levels ≤ D + 1 ∧ ∀ v' H', Same H H' → TreeAt C H' v' t → Q v' H'
theorem rel_trees {C : Addr} {H : Hp} : ∀ {ys : List V} {ts : List T}, ys.length = ts.length → (∀ (j : Nat) (v : V), ys[j]? = some v → ∃ u, ts[j]? = some u ∧ TreeAt C H v u) → TreesAt C H ys ts
  | [], [], _, _ => by unfold TreesAt; trivial
  | [], _ :: _, l, _ => by simp at l
  | _ :: _, [], l, _ => by simp at l
  | y :: ys, t :: ts, l, h => by
    unfold TreesAt
    obtain ⟨u, hu, h0⟩ := h 0 y rfl
    have e : t = u := by simpa using hu
    subst e
    exact ⟨h0, rel_trees (by simpa using l) fun j v e => h (j + 1) v (by simpa using e)⟩
section
variable {P : Program} {w : World} {K : PySem.W.Frag} {mg : Str → Option Value} {base : Heap} {C : Addr}
theorem scMa : FnScope ["tree", "parts", "one"] ["tree"] (defScope sMake) := ⟨rfl, rfl, rfl, by decide +kernel, rfl, by decide +kernel, by decide +kernel⟩
theorem make_step {fI : Addr} (M : Mk K C fI) (Fi : FnR P w K mg base CX0 3 fI (spMk C)) (gT : mg "Tree" = some (.ref C)) (ml : mg "len" = none) {f : Addr} {fd : FuncData} (F : Fun K "_law_make" "_law_make" sMake f fd) (gm : Gf K mg "_law_make" f) {k D : Nat} {sp : Sp}
    (FM : FnR P w K mg base CX0 (k + 4) f sp) (hD : ∀ vs H Q E, D ≠ 0 → spMakeL C (D - 1) vs H Q E → sp vs H Q E) : FnR P w K mg base CX0 (k + 5) f (spMakeL C D) := by
  refine okR F scMa (fun vs H Q E h => ?_) (fun _ _ _ _ _ _ us hl => match us, hl with | [_], _ => rfl) (fun cdv A outer s H vs Q E hr h => ?_)
  · obtain ⟨v, t, rfl, _⟩ := h
    rfl
  obtain ⟨v, t, rfl, ht, hf, hz, hl, q⟩ := h
  have hr4 : Room 4 _ := hr.mono (by omega)
  refine ⟨_, pss_cons (ps_setLc (i := 1) (own := [("one", 2)]) (g := gName 2) (tt := tYes) (te := tCf sp E0 (tCons (tVar 2) tNil)) rfl scMa.nd rfl rfl (by rfl) (pi_tup (pe_ix ix_tup (pv 0) pe_int (fun _ _ => rfl))) (blkOk_by (own := [("one", 2)]) (N := ["tree", "parts", "one"]) (sc := defScope sMake) (by decide +kernel))
      (fun _ _ _ _ _ => by exact pg_name (i := 2) scMa.nd rfl (Or.inl rfl)) (fun _ _ _ _ _ => by exact pts_nil) (fun _ _ _ _ _ => by exact pe_cf FM hr gm pass0 (pa_cons (pv 2) pa_nil)))
    (pss_cons (ps_if (pt_cmpR op_eq (pe_callB call_len_seq (by rfl) ml PySem.boot_len (pa_cons (pv 1) pa_nil)) pe_int (nomark _)) (pss_one (ps_ret (pe_mk M Fi hr4 gT (pa_cons (pe_ix ix_tup (pv 0) pe_int (fun _ _ => rfl)) pa_nil)))) pss_nil)
    (pss_cons (ps_if (pt_cmpR op_eq (pe_callB call_len_seq (by rfl) ml PySem.boot_len (pa_cons (pv 1) pa_nil)) pe_int (nomark _)) (pss_one (ps_ret (pe_mk M Fi hr4 gT (pa_cons (pe_ix ix_tup (pv 0) pe_int (fun _ _ => rfl)) (pa_cons (pe_ix ix_list (pv 1) pe_int (fun _ _ => rfl)) pa_nil))))) pss_nil)
    (pss_cons (ps_if (pt_cmpR op_eq (pe_callB call_len_seq (by rfl) ml PySem.boot_len (pa_cons (pv 1) pa_nil)) pe_int (nomark _)) (pss_one (ps_ret (pe_mk M Fi hr4 gT (pa_cons (pe_ix ix_tup (pv 0) pe_int (fun _ _ => rfl)) (pa_cons (pe_ix ix_list (pv 1) pe_int (fun _ _ => rfl)) (pa_cons (pe_ix ix_list (pv 1) pe_int (fun _ _ => rfl)) pa_nil)))))) pss_nil)
    (pss_one (ps_ret (pe_mk M Fi hr4 gT (pa_cons (pe_ix ix_tup (pv 0) pe_int (fun _ _ => rfl)) (pa_cons (pe_ix ix_list (pv 1) pe_int (fun _ _ => rfl)) (pa_cons (pe_ix ix_list (pv 1) pe_int (fun _ _ => rfl)) (pa_cons (pe_ix ix_list (pv 1) pe_int (fun _ _ => rfl)) pa_nil)))))))))), ?_⟩
  have sl := sizeLine_eq
  obtain ⟨a, c, ws, rfl, h1, h2, h3⟩ := ht.ex
  have hlen := h3.len
  obtain ⟨hp3, hpf⟩ := fine_parts hf
  have hfit : TermFits t.name t.parts := by
    cases t
    exact fits_small hf hz
  have et : t = .node t.name t.parts := by cases t; rfl
  refine ⟨_, rfl, a, _, _, .ref c, rfl, rfl, SqT.of h1, rfl, c, rfl, ⟨_, SqT.of h2⟩, fun D' hD' => ?_⟩
  refine lc_rel walk_tup hD' (fun H' s => SqT.of (s _ _ h2)) (by omega) (fun j v H' => ∃ u, t.parts[j]? = some u ∧ TreeAt C H' v u) ?_ ?_ ?_ ?_
  · rintro j v H1 H2 _ s ⟨u, e, hu⟩
    exact ⟨u, e, hu.mono s⟩
  · rintro j v H1 l l' _ e1 ⟨u, e, hu⟩
    exact ⟨u, e, hu.firm (Firm.list e1)⟩
  · intro i x H1 R hx sm _ hR
    obtain ⟨u, hu, hux⟩ := h3.get hx
    have hum := List.mem_of_getElem? hu
    have hlv := levels_part hum
    have hsv := size_part hum
    have hu1 := levels_pos u
    refine ⟨rfl, _, rfl, ?_⟩
    exact hD _ _ _ _ (by omega) ⟨x, u, rfl, hux.mono sm, hpf u hum, by omega, by omega, fun v' H' k' hv' => hR v' H' k' ⟨u, hu, hv'⟩⟩
  · intro H1 ys sm hys hyl hyr
    have hts : TreesAt C H1 ys t.parts := rel_trees (by omega) hyr
    refine name_go ?_
    dsimp only
    have hyl' : ys.length = t.parts.length := by omega
    have h1' := sm _ _ h1
    have done : ∀ a' H', Same H1 H' → TreeAt C H' (.ref a') (.node t.name t.parts) → Q (.ref a') H' := fun a' H' k' h => q _ H' (sm.trans k') (et ▸ h)
    match ys, hyl', hts, hys with
    | [], e, hts, hys =>
      refine ⟨_, rfl, D', _, rfl, .inl (SqL.of hys), rfl, _, rfl, iteT ?_⟩
      exact ⟨_, rfl, a, _, _, .str t.name, rfl, rfl, SqT.of h1', rfl, t.name, _, t.parts, rfl, hts, hfit, done⟩
    | [y0], e, hts, hys =>
      refine ⟨_, rfl, D', _, rfl, .inl (SqL.of hys), rfl, _, rfl, iteF ?_⟩
      refine ⟨_, rfl, D', _, rfl, .inl (SqL.of hys), rfl, _, rfl, iteT ?_⟩
      exact ⟨_, rfl, a, _, _, .str t.name, rfl, rfl, SqT.of h1', rfl, _, rfl, D', _, _, y0, rfl, rfl, SqL.of hys, rfl, t.name, _, t.parts, rfl, hts, hfit, done⟩
    | [y0, y1], e, hts, hys =>
      refine ⟨_, rfl, D', _, rfl, .inl (SqL.of hys), rfl, _, rfl, iteF ?_⟩
      refine ⟨_, rfl, D', _, rfl, .inl (SqL.of hys), rfl, _, rfl, iteF ?_⟩
      refine ⟨_, rfl, D', _, rfl, .inl (SqL.of hys), rfl, _, rfl, iteT ?_⟩
      exact ⟨_, rfl, a, _, _, .str t.name, rfl, rfl, SqT.of h1', rfl, _, rfl, D', _, _, y0, rfl, rfl, SqL.of hys, rfl, _, rfl, D', _, _, y1, rfl, rfl, SqL.of hys, rfl, t.name, _, t.parts, rfl, hts, hfit, done⟩
    | [y0, y1, y2], e, hts, hys =>
      refine ⟨_, rfl, D', _, rfl, .inl (SqL.of hys), rfl, _, rfl, iteF ?_⟩
      refine ⟨_, rfl, D', _, rfl, .inl (SqL.of hys), rfl, _, rfl, iteF ?_⟩
      refine ⟨_, rfl, D', _, rfl, .inl (SqL.of hys), rfl, _, rfl, iteF ?_⟩
      exact ⟨_, rfl, a, _, _, .str t.name, rfl, rfl, SqT.of h1', rfl, _, rfl, D', _, _, y0, rfl, rfl, SqL.of hys, rfl, _, rfl, D', _, _, y1, rfl, rfl, SqL.of hys, rfl, _, rfl, D', _, _, y2, rfl, rfl, SqL.of hys, rfl, t.name, _, t.parts, rfl, hts, hfit, done⟩
    | _ :: _ :: _ :: _ :: r, e, hts, hys => simp at e; omega
theorem ok_make {fI : Addr} (M : Mk K C fI) (Fi : FnR P w K mg base CX0 3 fI (spMk C)) (gT : mg "Tree" = some (.ref C)) (ml : mg "len" = none) {f : Addr} {fd : FuncData} (F : Fun K "_law_make" "_law_make" sMake f fd) (gm : Gf K mg "_law_make" f) : ∀ D : Nat, FnR P w K mg base CX0 (D + 5) f (spMakeL C D)
  | 0 => make_step M Fi gT ml F gm (k := 0) (sp := fun _ _ _ _ => False) (fun _ _ _ _ _ _ _ _ _ _ _ hs => hs.elim) fun _ _ _ _ h => absurd rfl h
  | D + 1 => make_step M Fi gT ml F gm (k := D + 1) (ok_make M Fi gT ml F gm D) fun _ _ _ _ _ h => h
end
end Tw
set_option maxHeartbeats 4000000
/-! What the law tells of a tree. -/
namespace Tw
open PySem PySem.Spec PyProof.Rows L2
abbrev sTold : Stmt := top 37
/-- the row of a tree -/
def dueV (t : T) (l : Addr) : List V := [.int t.size, .int t.levels, .str t.term, .str t.name, .ref l]
mutual
/-- v is what is due for t; no list of it is at X -/
def DueAt (X : List Addr) (H : Hp) : V → T → Prop
  | v, .node n ps => ∃ a l vs, v = .ref a ∧ H a = some (.tup (dueV (.node n ps) l)) ∧ l ∉ X ∧ H l = some (.lst vs) ∧ DuesAt X H vs ps
def DuesAt (X : List Addr) (H : Hp) : List V → List T → Prop
  | [], [] => True
  | v :: vs, t :: ts => DueAt X H v t ∧ DuesAt X H vs ts
  | [], _ :: _ => False
  | _ :: _, [] => False
end
theorem DueAt.ex {X : List Addr} {H : Hp} {v : V} {t : T} (h : DueAt X H v t) : ∃ a l vs, v = .ref a ∧ H a = some (.tup (dueV t l)) ∧ l ∉ X ∧ H l = some (.lst vs) ∧ DuesAt X H vs t.parts := by
  cases t with
  | node n ps =>
    unfold DueAt at h
    exact h
theorem DueAt.mk {X : List Addr} {H : Hp} {a l : Addr} {t : T} {vs : List V} (h1 : H a = some (.tup (dueV t l))) (h2 : l ∉ X) (h3 : H l = some (.lst vs)) (h4 : DuesAt X H vs t.parts) : DueAt X H (.ref a) t := by
  cases t with
  | node n ps =>
    unfold DueAt
    exact ⟨a, l, vs, rfl, h1, h2, h3, h4⟩
theorem DuesAt.len {X : List Addr} {H : Hp} : ∀ {vs : List V} {ts : List T}, DuesAt X H vs ts → vs.length = ts.length
  | [], [], _ => rfl
  | _ :: _, _ :: _, h => by
    unfold DuesAt at h
    rw [List.length_cons, List.length_cons, DuesAt.len h.2]
  | [], _ :: _, h => by unfold DuesAt at h; exact h.elim
  | _ :: _, [], h => by unfold DuesAt at h; exact h.elim
theorem DuesAt.get {X : List Addr} {H : Hp} : ∀ {vs : List V} {ts : List T} {i : Nat} {v : V}, DuesAt X H vs ts → vs[i]? = some v → ∃ t, ts[i]? = some t ∧ DueAt X H v t
  | [], _, i, v, _, e => by simp at e
  | v' :: vs, t :: ts, 0, v, h, e => by
    unfold DuesAt at h
    have : v' = v := by simpa using e
    subst this
    exact ⟨t, rfl, h.1⟩
  | v' :: vs, t :: ts, i + 1, v, h, e => by
    unfold DuesAt at h
    obtain ⟨t', e', h'⟩ := DuesAt.get (i := i) (v := v) h.2 (by simpa using e)
    exact ⟨t', by simpa using e', h'⟩
  | _ :: _, [], _, _, h, _ => by unfold DuesAt at h; exact h.elim
mutual
theorem DueAt.kept {X Y : List Addr} {H H' : Hp} (k : KeptBut X H H') (f : Firm H H') (y : ∀ a ∈ Y, a ∈ X) : ∀ {v : V} {t : T}, DueAt X H v t → DueAt Y H' v t
  | v, .node n ps, h => by
    obtain ⟨a, l, vs, rfl, h1, h2, h3, h4⟩ := h.ex
    exact .mk (f.1 _ _ h1) (fun z => h2 (y l z)) (k _ _ h3 h2) (DuesAt.kept k f y h4)
theorem DuesAt.kept {X Y : List Addr} {H H' : Hp} (k : KeptBut X H H') (f : Firm H H') (y : ∀ a ∈ Y, a ∈ X) : ∀ {vs : List V} {ts : List T}, DuesAt X H vs ts → DuesAt Y H' vs ts
  | [], [], _ => by unfold DuesAt; trivial
  | v :: vs, t :: ts, h => by
    unfold DuesAt at h ⊢
    exact ⟨DueAt.kept k f y h.1, DuesAt.kept k f y h.2⟩
  | [], _ :: _, h => by unfold DuesAt at h; exact h.elim
  | _ :: _, [], h => by unfold DuesAt at h; exact h.elim
end
theorem DueAt.mono {X : List Addr} {H H' : Hp} (s : Same H H') {v : V} {t : T} (h : DueAt X H v t) : DueAt X H' v t := h.kept (.of s) (.of s) fun _ h => h
theorem rel_dues {X : List Addr} {H : Hp} : ∀ {ys : List V} {ts : List T}, ys.length = ts.length → (∀ (j : Nat) (v : V), ys[j]? = some v → ∃ u, ts[j]? = some u ∧ DueAt X H v u) → DuesAt X H ys ts
  | [], [], _, _ => by unfold DuesAt; trivial
  | [], _ :: _, l, _ => by simp at l
  | _ :: _, [], l, _ => by simp at l
  | y :: ys, t :: ts, l, h => by
    unfold DuesAt
    obtain ⟨u, hu, h0⟩ := h 0 y rfl
    have e : t = u := by simpa using hu
    subst e
    exact ⟨h0, rel_dues (by simpa using l) fun j v e => h (j + 1) v (by simpa using e)⟩
def spTold (D : Nat) : Sp := fun vs H Q _ => ∃ (v : V) (t : T) (X : List Addr), vs = [v] ∧ TupAt H v t ∧ t.fine = true ∧ t.size ≤ 10000 ∧ t.levels ≤ D + 1 ∧ (∀ x ∈ X, H x ≠ none) ∧ ∀ v' H', Same H H' → DueAt X H' v' t → Q v' H'
section
variable {P : Program} {w : World} {K : PySem.W.Frag} {mg : Str → Option Value} {base : Heap}
theorem scTo : FnScope ["tree", "parts", "below", "one", "term", "size"] ["tree"] (defScope sTold) := ⟨rfl, rfl, rfl, by decide +kernel, rfl, by decide +kernel, by decide +kernel⟩
theorem told_step (ml : mg "len" = none) (hs : mg "sum" = none) {f : Addr} {fd : FuncData} (F : Fun K "_law_told" "_law_told" sTold f fd) (gm : Gf K mg "_law_told" f) {k D : Nat} {sp : Sp}
    (FM : FnR P w K mg base CX0 k f sp) (hD : ∀ vs H Q E, D ≠ 0 → spTold (D - 1) vs H Q E → sp vs H Q E) : FnR P w K mg base CX0 (k + 1) f (spTold D) := by
  refine okR F scTo (fun vs H Q E h => ?_) (fun _ _ _ _ _ _ us hl => match us, hl with | [_], _ => rfl) (fun cdv A outer s H vs Q E hr h => ?_)
  · obtain ⟨v, t, X, rfl, _⟩ := h
    rfl
  obtain ⟨v, t, X, rfl, ht, hf, hz, hl, hX, q⟩ := h
  refine ⟨_, pss_cons (ps_setLc (i := 1) (own := [("one", 3)]) (g := gName 3) (tt := tYes) (te := tCf sp E0 (tCons (tVar 3) tNil)) rfl scTo.nd rfl rfl (by rfl) (pi_tup (pe_ix ix_tup (pv 0) pe_int (fun _ _ => rfl))) (blkOk_by (own := [("one", 3)]) (N := ["tree", "parts", "below", "one", "term", "size"]) (sc := defScope sTold) (by decide +kernel))
      (fun _ _ _ _ _ => by exact pg_name (i := 3) scTo.nd rfl (Or.inl rfl)) (fun _ _ _ _ _ => by exact pts_nil) (fun _ _ _ _ _ => by exact pe_cf FM hr gm pass0 (pa_cons (pv 3) pa_nil)))
    (pss_cons (ps_set (i := 2) scTo.nd rfl (Or.inl rfl) pe_int)
    (pss_cons (ps_for PassesOwn.never rfl (pi_list (pv 1)) (pg_name (i := 3) scTo.nd rfl (Or.inl rfl))
      (pss_one (ps_if (pt_cmpR op_gt (pe_ix ix_tup (pv 3) pe_int (fun _ _ => rfl)) (pv 2) (nomark _)) (pss_one (ps_set (i := 2) scTo.nd rfl (Or.inl rfl) (pe_ix ix_tup (pv 3) pe_int (fun _ _ => rfl)))) pss_nil)))
    (pss_cons (ps_set (i := 4) scTo.nd rfl (Or.inl rfl) (pe_ix ix_tup (pv 0) pe_int (fun _ _ => rfl)))
    (pss_cons (ps_if (pt_cmpR op_gt (pe_callB call_len_seq (by rfl) ml PySem.boot_len (pa_cons (pv 1) pa_nil)) pe_int (nomark _))
      (pss_one (ps_set (i := 4) scTo.nd rfl (Or.inl rfl) (pe_op op_add_str (pe_op op_add_str (pe_op op_add_str (pv 4) pe_str) (pe_join pe_str
        (pe_lc (own := [("one", 3)]) (g := gName 3) (tt := tYes) (te := tOp (rIxT K) (tVar 3) (tC (.int 2))) rfl scTo.nd (pi_list (pv 1)) (blkOk_by (own := [("one", 3)]) (N := ["tree", "parts", "below", "one", "term", "size"]) (sc := defScope sTold) (by decide +kernel)) (fun _ _ _ _ _ => by exact pg_name (i := 3) scTo.nd rfl (Or.inl rfl)) (fun _ _ _ _ _ => by exact pts_nil) (fun _ _ _ _ _ => by exact pe_ix ix_tup (pv 3) pe_int (fun _ _ => rfl))))) pe_str))) pss_nil)
    (pss_cons (ps_set (i := 5) scTo.nd rfl (Or.inl rfl) (pe_op op_add pe_int (pe_callB (cr_sum rfl) (by rfl) hs (by decide +kernel) (pa_cons
        (pe_lc (own := [("one", 3)]) (g := gName 3) (tt := tYes) (te := tOp (rIxT K) (tVar 3) (tC (.int 0))) rfl scTo.nd (pi_list (pv 1)) (blkOk_by (own := [("one", 3)]) (N := ["tree", "parts", "below", "one", "term", "size"]) (sc := defScope sTold) (by decide +kernel)) (fun _ _ _ _ _ => by exact pg_name (i := 3) scTo.nd rfl (Or.inl rfl)) (fun _ _ _ _ _ => by exact pts_nil) (fun _ _ _ _ _ => by exact pe_ix ix_tup (pv 3) pe_int (fun _ _ => rfl))) pa_nil))))
    (pss_one (ps_ret (pe_tup (pa_cons (pv 5) (pa_cons (pe_op op_add pe_int (pv 2)) (pa_cons (pv 4) (pa_cons (pe_ix ix_tup (pv 0) pe_int (fun _ _ => rfl)) (pa_cons (pv 1) pa_nil)))))))))))))  , ?_⟩
  have sl := sizeLine_eq
  obtain ⟨a, c, ws, rfl, h1, h2, h3⟩ := ht.ex
  have hlen := h3.len
  obtain ⟨hp3, hpf⟩ := fine_parts hf
  have hfit : TermFits t.name t.parts := by
    cases t
    exact fits_small hf hz
  have et : t = .node t.name t.parts := by cases t; rfl
  refine ⟨_, rfl, a, _, _, .ref c, rfl, rfl, SqT.of h1, rfl, c, rfl, ⟨_, SqT.of h2⟩, fun D' hD' => ?_⟩
  refine lc_rel walk_tup hD' (fun H' s => SqT.of (s _ _ h2)) (by omega) (fun j v H' => ∃ u, t.parts[j]? = some u ∧ DueAt (D' :: X) H' v u) ?_ ?_ ?_ ?_
  · rintro j v H1 H2 _ s ⟨u, e, hu⟩
    exact ⟨u, e, hu.mono s⟩
  · rintro j v H1 l l' _ e1 ⟨u, e, hu⟩
    exact ⟨u, e, hu.kept (KeptBut.upd List.mem_cons_self) (Firm.list e1) fun _ h => h⟩
  · intro i x H1 R hx sm ⟨l1, hl1⟩ hR
    obtain ⟨u, hu, hux⟩ := h3.get hx
    have hum := List.mem_of_getElem? hu
    have hlv := levels_part hum
    have hsv := size_part hum
    have hu1 := levels_pos u
    refine ⟨rfl, _, rfl, ?_⟩
    refine hD _ _ _ _ (by omega) ⟨x, u, D' :: X, rfl, hux.mono sm, hpf u hum, by omega, by omega, fun b hb => ?_, fun v' H' k' hv' => hR v' H' k' ⟨u, hu, hv'⟩⟩
    rcases List.mem_cons.mp hb with rfl | hb
    · rw [hl1]; simp
    · intro hn
      cases e : H b with
      | none => exact hX b hb e
      | some o => rw [sm _ _ e] at hn; cases hn
  · intro H1 ys sm hys hyl hyr
    have hds : DuesAt (D' :: X) H1 ys t.parts := rel_dues (by omega) hyr
    refine name_go ?_
    dsimp only
    have hyl' : ys.length = t.parts.length := by omega
    have h1' := sm _ _ h1
    have nDX : D' ∉ X := fun h => hX _ h hD'
    refine ⟨_, rfl, D', rfl, ⟨_, SqL.of hys⟩, for_list (xs := ys) (fun i σ H' => H' = H1 ∧ ∃ v3, σ = [some (.ref a), some (.ref D'), some (.int (T.mostFrom 0 (t.parts.take i) : Nat)), v3, none, none])
      ⟨rfl, none, rfl⟩ (fun i σ H' _ ⟨e, _⟩ => e ▸ SqL.of hys) ?_ ?_⟩
    · rintro i x σ H' hi ⟨rfl, v3, rfl⟩
      obtain ⟨u, e, hu⟩ := hds.get hi
      obtain ⟨ua, ul, uvs, rfl, g1, g2, g3, g4⟩ := hu.ex
      have en : T.mostFrom 0 (t.parts.take (i + 1)) = if u.levels > T.mostFrom 0 (t.parts.take i) then u.levels else T.mostFrom 0 (t.parts.take i) := by
        rw [take_snoc e, mostFrom_snoc]
      refine ⟨_, rfl, ua, _, _, .int u.levels, rfl, rfl, SqT.of g1, rfl, _, rfl, _, _, rfl, rfl, _, rfl, ?_⟩
      refine ite2 (fun c => ?_) (fun c => ?_)
      · have c' : u.levels > T.mostFrom 0 (t.parts.take i) := by
          have := of_decide_eq_true c
          omega
        refine ⟨_, rfl, ua, _, _, .int u.levels, rfl, rfl, SqT.of g1, rfl, rfl, some (.ref ua), ?_⟩
        rw [en, if_pos c']
        rfl
      · have c' : ¬ u.levels > T.mostFrom 0 (t.parts.take i) := by
          have := of_decide_eq_false (Bool.eq_false_iff.mpr c)
          omega
        refine ⟨rfl, some (.ref ua), ?_⟩
        rw [en, if_neg c']
        rfl
    · rintro σ H' ⟨rfl, v3, rfl⟩
      rw [hyl', List.take_length]
      refine ⟨_, rfl, a, _, _, .str t.name, rfl, rfl, SqT.of h1', rfl, ?_⟩
      refine name_go ?_
      dsimp only
      refine seq_join (fun σ H2 => ∃ v3, σ = [some (.ref a), some (.ref D'), some (.int (T.mostFrom 0 t.parts : Nat)), v3, some (.str t.term), none] ∧ Same H' H2) (fun nx hnx => ?_) ?_
      · refine ⟨_, rfl, D', _, rfl, .inl (SqL.of hys), _, _, rfl, rfl, _, rfl, ?_⟩
        refine ite2 (fun cp => ?_) (fun cp => ?_)
        · have ne : t.parts ≠ [] := fun e => by
            rw [e] at hyl'
            have := of_decide_eq_true cp
            simp [hyl'] at this
          obtain ⟨l1, l2, l3⟩ := hfit
          have lt : (T.terms t.parts).length = t.parts.length := by rw [terms_map, List.length_map]
          have lj := join_len (T.terms t.parts)
          rw [lt] at lj
          have lo : ("(" : Str).length = 1 := by decide
          have lc : (")" : Str).length = 1 := by decide
          have b1 : t.name.length + ("(" : Str).length ≤ sizeLine := by omega
          refine ⟨_, rfl, _, _, rfl, rfl, b1, ⟨_, rfl⟩, _, rfl, D', rfl, ⟨_, SqL.of hys⟩, fun D2 hD2 => lc_map (ys := (T.terms t.parts).map V.str) walk_list hD2 (fun H' s => SqL.of (s _ _ hys)) (by rw [terms_map]; simp [hyl']) (by omega) (fun i x y H2 R hx hy s2 hR => ?_) ?_⟩
          · obtain ⟨u, e, hu⟩ := hds.get hx
            obtain ⟨ua, ul, uvs, rfl, g1, g2, g3, g4⟩ := hu.ex
            rw [terms_map, List.map_map] at hy
            have ey := get_map (f := V.str ∘ T.term) e hy
            subst ey
            exact ⟨rfl, _, rfl, ua, _, _, .str u.term, rfl, rfl, SqT.of (s2 _ _ g1), rfl, hR⟩
          · have hsum : ((T.terms t.parts).map (·.length)).sum + (T.terms t.parts).length * (", " : Str).length ≤ 16777216 := by
              have h3 : (", " : Str).length = 2 := by decide
              rw [lt, h3]
              omega
            have b2 : (t.name ++ "(" : Str).length + (Txt.join ", " (T.terms t.parts)).length ≤ sizeLine := by rw [add_len]; omega
            have b3 : (t.name ++ "(" ++ Txt.join ", " (T.terms t.parts) : Str).length + (")" : Str).length ≤ sizeLine := by rw [add_len, add_len]; omega
            refine ⟨_, D2, T.terms t.parts, rfl, rfl, .inl (SqL.of upd_same), hsum, _, _, rfl, rfl, b2, _, _, rfl, rfl, b3, ?_⟩
            refine hnx _ _ ⟨v3, ?_, sameN hD2⟩
            have e : t.name ++ "(" ++ Txt.join ", " (T.terms t.parts) ++ ")" = t.term := by rw [← term_cons t.name ne, ← et]
            rw [e]
            rfl
        · have e0 : t.parts = [] := by
            have := of_decide_eq_false (Bool.eq_false_iff.mpr cp)
            exact List.eq_nil_of_length_eq_zero (by omega)
          have et2 : t.term = t.name := by
            rw [et, e0]
            unfold T.term
            rfl
          refine hnx _ _ ⟨v3, ?_, Same.refl _⟩
          rw [et2]
          rfl
      · rintro σ H2 ⟨v3, rfl, s2⟩
        refine ⟨_, rfl, D', rfl, ⟨_, SqL.of (s2 _ _ hys)⟩, fun D2 hD2 => lc_map (ys := (t.parts.map fun u => (u.size : Int)).map V.int) walk_list hD2 (fun H' s => SqL.of (s _ _ (s2 _ _ hys))) (by simp [hyl']) (by omega) (fun i x y H3 R hx hy s3 hR => ?_) ?_⟩
        · obtain ⟨u, e, hu⟩ := hds.get hx
          obtain ⟨ua, ul, uvs, rfl, g1, g2, g3, g4⟩ := hu.ex
          rw [List.map_map] at hy
          have ey := get_map (f := V.int ∘ fun u => (u.size : Int)) e hy
          subst ey
          exact ⟨rfl, _, rfl, ua, _, _, .int u.size, rfl, rfl, SqT.of (s3 _ _ (s2 _ _ g1)), rfl, hR⟩
        · have s4 := sameN (o := .lst ((t.parts.map fun u => (u.size : Int)).map V.int)) hD2
          refine ⟨D2, _, rfl, SqL.of upd_same, _, _, rfl, rfl, ?_⟩
          refine name_go ?_
          dsimp only
          have h1'' := s4 _ _ (s2 _ _ h1')
          have hys'' := s4 _ _ (s2 _ _ hys)
          refine ⟨_, rfl, _, rfl, _, _, rfl, rfl, _, rfl, _, rfl, a, _, _, .str t.name, rfl, rfl, SqT.of h1'', rfl, _, rfl, by (show 5 ≤ sizeLine; omega), fun b nb => ?_⟩
          have s5 := sameN (o := .tup [V.int (1 + (t.parts.map fun u => (u.size : Int)).sum), .int (1 + (T.mostFrom 0 t.parts : Nat)), .str t.term, .str t.name, .ref D']) nb
          have s25 := s2.trans (s4.trans s5)
          have k25 : KeptBut (D' :: X) H' _ := KeptBut.of s25
          refine q _ _ (sm.trans s25) (.mk (l := D') (vs := ys) ?_ nDX (s25 _ _ hys) (hds.kept k25 (.of s25) fun _ h => List.mem_cons_of_mem _ h))
          rw [upd_same]
          have e1 : (1 + (t.parts.map fun u => (u.size : Int)).sum : Int) = (t.size : Int) := by
            rw [sizes_sum]
            conv => rhs; rw [et, size_node]
            omega
          have e2 : (1 + (T.mostFrom 0 t.parts : Nat) : Int) = (t.levels : Int) := by
            conv => rhs; rw [et, levels_node]
            omega
          unfold dueV
          dsimp only
          rw [e1, e2]
theorem ok_told (ml : mg "len" = none) (hs : mg "sum" = none) {f : Addr} {fd : FuncData} (F : Fun K "_law_told" "_law_told" sTold f fd) (gm : Gf K mg "_law_told" f) : ∀ D : Nat, FnR P w K mg base CX0 (D + 1) f (spTold D)
  | 0 => told_step ml hs F gm (sp := fun _ _ _ _ => False) (fun _ _ _ _ _ _ _ _ _ _ _ hs => hs.elim) fun _ _ _ _ h => absurd rfl h
  | D + 1 => told_step ml hs F gm (ok_told ml hs F gm D) fun _ _ _ _ _ h => h
end
end Tw
set_option maxHeartbeats 4000000
/-! The law's six trees. -/
namespace Tw
open PySem PySem.Spec PyProof.Rows L2
def rLenQ (K : PySem.W.Frag) : List V → Hp → VK → Prop := fun xs H Q => ∃ a ys, xs = [.ref a] ∧ (SqL K H a ys ∨ SqT K H a ys) ∧ Q (.int ys.length) H
/-- names[draw(pool, len(names))] -/
theorem rd_nm {K : PySem.W.Frag} {σ : L2.St} {H : Hp} {Q : VK} {i j : Nat} {p r nl : Addr} (h1 : σ[i]? = some (some (.ref nl))) (h2 : σ[j]? = some (some (.ref p))) (hp : PoolAt H p r) (hn : NamesAt H nl) (nn : nl ∉ [p, r])
    (hQ : ∀ n H', bigName n.cps.toList = true → PoolAt H' p r → KeptBut [p, r] H H' → Firm H H' → Q (.str n) H') :
    tOp (rIxL K) (tVar i) (tCf spDraw E0 (tCons (tVar j) (tCons (tCB (rLenQ K) (tCons (tVar i) tNil)) tNil))) σ H Q := by
  obtain ⟨names, hnl, nne, nle, nbig⟩ := hn
  have nlen : 0 < names.length := List.length_pos_iff.mpr nne
  refine ⟨_, h1, _, h2, _, h1, nl, _, rfl, .inl (SqL.of hnl), p, r, names.length, ?_, hp, nlen, by omega, fun d H4 hd p4 kb4 f4 => ?_⟩
  · rw [List.length_map]
  have hnm : ∃ n, names[d]? = some n := ⟨_, List.getElem?_eq_getElem hd⟩
  obtain ⟨n, hnd⟩ := hnm
  exact ⟨nl, _, _, .str n, rfl, rfl, SqL.of (kb4 _ _ hnl nn), atI_nat (by rw [List.getElem?_map, hnd] <;> rfl), hQ n H4 (nbig n (List.mem_of_getElem? hnd)) p4 kb4 f4⟩
end Tw
set_option maxHeartbeats 4000000
/-! The law's six trees. -/
namespace Tw
open PySem PySem.Spec PyProof.Rows L2
mutual
theorem size_pow : ∀ {t : T}, t.fine = true → 2 * t.size + 1 ≤ 3 ^ t.levels
  | .node n ps, h => by
    obtain ⟨h1, h2⟩ := fine_parts h
    have h3 : ps.length ≤ 3 := h1
    have h4 := sizes_pow (ps := ps) (k := T.mostFrom 0 ps) h2 fun u hu => mostFrom_mem hu
    rw [size_node, levels_node, Nat.pow_add]
    have hx : 0 < 3 ^ T.mostFrom 0 ps := Nat.pow_pos (by decide)
    generalize 3 ^ T.mostFrom 0 ps = x at h4 hx ⊢
    generalize ps.length = l at h3 h4
    match l, h3 with
    | 0, _ => omega
    | 1, _ => omega
    | 2, _ => omega
    | 3, _ => omega
    | l + 4, h => omega
theorem sizes_pow {k : Nat} : ∀ {ps : List T}, (∀ u ∈ ps, u.fine = true) → (∀ u ∈ ps, u.levels ≤ k) → 2 * T.sizes ps + ps.length ≤ ps.length * 3 ^ k
  | [], _, _ => by unfold T.sizes; simp
  | p :: r, h, hl => by
    have h1 := size_pow (h p List.mem_cons_self)
    have h2 := sizes_pow (k := k) (ps := r) (fun u hu => h u (List.mem_cons_of_mem _ hu)) fun u hu => hl u (List.mem_cons_of_mem _ hu)
    have h3 : 3 ^ p.levels ≤ 3 ^ k := Nat.pow_le_pow_right (by decide) (hl p List.mem_cons_self)
    unfold T.sizes
    rw [List.length_cons, Nat.add_mul, Nat.one_mul]
    omega
end
theorem big_cut {z : Str} {a b : List Nat} (h : bigName z.cps.toList = true) : bigName ((z.cps.toList ++ [48, 65]).take 8) = true ∧ bigName (z.cps.toList.take 1) = true := by
  match e : z.cps.toList with
  | [] => rw [e] at h; cases h
  | c :: r =>
    rw [e] at h
    have h' : (isCap c && (c :: r).all isWord && decide (r.length < 8)) = true := h
    rw [Bool.and_eq_true, Bool.and_eq_true] at h'
    obtain ⟨⟨h1, h2⟩, h3⟩ := h'
    have hw : isWord c = true := by
      rw [List.all_cons, Bool.and_eq_true] at h2
      exact h2.1
    constructor
    · show (isCap c && (c :: (r ++ [48, 65]).take 7).all isWord && decide (((r ++ [48, 65]).take 7).length < 8)) = true
      have h4 : ((c :: (r ++ [48, 65]).take 7).all isWord) = true := by
        rw [List.all_eq_true] at h2 ⊢
        intro x hx
        rcases List.mem_cons.mp hx with rfl | hx
        · exact hw
        · have := List.mem_of_mem_take hx
          rcases List.mem_append.mp this with h | h
          · exact h2 x (List.mem_cons_of_mem _ h)
          · simp at h
            rcases h with rfl | rfl <;> decide
      rw [h1, h4, decide_eq_true (by rw [List.length_take]; omega)]
      rfl
    · show (isCap c && [c].all isWord && decide (([] : List Nat).length < 8)) = true
      rw [h1]
      simp [hw]
end Tw
set_option maxHeartbeats 4000000
/-! The law's six trees. -/
namespace Tw
open PySem PySem.Spec PyProof.Rows L2
/-- a right tree of the law -/
structure Ok (t : T) : Prop where
  fine : t.fine = true
  size : t.size ≤ 9000
  levels : t.levels ≤ 58
theorem Ok.of {t : T} (h : t.fine = true) (hl : t.levels ≤ 8) : Ok t := by
  have h1 := size_pow h
  have h2 : 3 ^ t.levels ≤ 3 ^ 8 := Nat.pow_le_pow_right (by decide) hl
  have h3 : 3 ^ 8 = 6561 := by decide
  exact ⟨h, by omega, by omega⟩
theorem TupsAt.mono {H H' : Hp} (s : Same H H') {vs : List V} {ts : List T} (h : TupsAt H vs ts) : TupsAt H' vs ts := h.firm (.of s)
def spSix : Sp := fun vs H Q _ => ∃ (p r : Addr), vs = [.ref p] ∧ PoolAt H p r ∧ ∀ l us ts H', H' l = some (.lst us) → H l = none → TupsAt H' us ts → ts.length = 6 → (∀ t ∈ ts, Ok t) → PoolAt H' p r → KeptBut [p, r] H H' → Firm H H' → Q (.ref l) H'
theorem cut0 {z : Str} {e : Nat} : cutS z none (some (e : Int)) = mkS (z.cps.toList.take e) := by
  refine str_ext ?_
  rw [mkS_list]
  unfold cutS
  rw [HT.sIx_nat, HT.sIx_none]
  show ((z.cps.toList.drop 0).take (min e z.length - 0)).toArray.toList = _
  rw [List.toList_toArray, List.drop_zero, Nat.sub_zero]
  by_cases h : e ≤ z.length
  · rw [Nat.min_eq_left h]
  · rw [Nat.min_eq_right (by omega), List.take_of_length_le (by rw [len_list] <;> omega), List.take_of_length_le (by rw [len_list]; omega)]
theorem KeptBut.fresh {l : List Addr} {H H1 H2 : Hp} {a : Addr} {o : HO} (k : KeptBut l H H1) (n : H1 a = none) (ha : a ∉ l) (k2 : KeptBut (l ++ [a]) (L2.upd H1 a o) H2) : KeptBut l H H2 := by
  intro b x e nb
  have e1 := k b x e nb
  have ne := ne_of_none e1 n
  exact k2 b x (by rw [upd_ne ne]; exact e1) (by simp [nb, ne])
/-- the pool and the names, as they stand -/
structure SixSt (H H1 : Hp) (p r nl : Addr) : Prop where
  pool : PoolAt H1 p r
  names : NamesAt H1 nl
  kept : KeptBut [p, r] H H1
  firm : Firm H H1
theorem SixSt.more {H H1 H2 : Hp} {p r nl : Addr} (s : SixSt H H1 p r nl) (k : Same H1 H2) : SixSt H H2 p r nl := by
  obtain ⟨a, ⟨names, e, r⟩, c, d⟩ := s
  exact ⟨a.same k, ⟨names, k _ _ e, r⟩, c.trans (.of k), d.trans (.of k)⟩
theorem SixSt.drawn {H H1 H2 : Hp} {p r nl : Addr} (S : SixSt H H1 p r nl) (npr : nl ∉ [p, r]) (p' : PoolAt H2 p r) (k' : KeptBut [p, r] H1 H2) (f' : Firm H1 H2) : SixSt H H2 p r nl := ⟨p', S.names.kept k' npr, S.kept.trans k', S.firm.trans f'⟩
theorem SixSt.fresh {H H1 : Hp} {p r nl ro : Addr} (S : SixSt H H1 p r nl) (nro : H1 ro = none) : ro ∉ [p, r] ∧ nl ≠ ro ∧ H ro = none := by
  have ro1 : ro ∉ [p, r] := fun h => by
    obtain ⟨_, rows, sd, c, e1, e2, _⟩ := S.pool
    simp at h
    rcases h with rfl | rfl
    · rw [e1] at nro; cases nro
    · rw [e2] at nro; cases nro
  refine ⟨ro1, fun h => ?_, ?_⟩
  · obtain ⟨names, e, _⟩ := S.names
    rw [← h, e] at nro; cases nro
  · cases h : H ro with
    | none => rfl
    | some o => exact absurd (S.kept _ _ h ro1) (by rw [nro]; simp)
theorem three {p r nl ro : Addr} (npr : nl ∉ [p, r]) (ron : nl ≠ ro) : nl ∉ [p, r, ro] := fun h => by
  rcases List.mem_append.mp (show nl ∈ [p, r] ++ [ro] from h) with h | h
  · exact npr h
  · exact ron (by simpa using h)
theorem SixSt.grown {H H1 H2 : Hp} {p r nl ro : Addr} (S : SixSt H H1 p r nl) (nn : nl ∉ [p, r, ro]) (hro : H ro = none) (p' : PoolAt H2 p r) (k' : KeptBut [p, r, ro] H1 H2) (f' : Firm H1 H2) : SixSt H H2 p r nl := by
  refine ⟨p', S.names.kept k' nn, fun b o e nb => k' b o (S.kept b o e nb) fun h => ?_, S.firm.trans f'⟩
  rcases List.mem_append.mp (show b ∈ [p, r] ++ [ro] from h) with h | h
  · exact nb h
  · have : b = ro := by simpa using h
    subst this
    rw [hro] at e
    cases e
end Tw
set_option maxHeartbeats 4000000
/-! The signs of terms. -/
namespace Tw
open PySem PySem.Spec PyProof.Rows L2
theorem join_mem {x : Nat} (h1 : x ≠ 44) (h2 : x ≠ 32) : ∀ ys : List Str, (x ∈ (Txt.join ", " ys).cps.toList ↔ ∃ y ∈ ys, x ∈ y.cps.toList)
  | [] => by
    rw [TL.join_eq]
    show x ∈ Str.empty.cps.toList ↔ _
    have : Str.empty.cps.toList = [] := rfl
    rw [this]
    simp
  | [y] => by
    rw [TL.join_eq]
    show x ∈ y.cps.toList ↔ _
    simp
  | y :: z :: r => by
    have ih := join_mem h1 h2 (z :: r)
    have e : Txt.join ", " (y :: z :: r) = y ++ ", " ++ Txt.join ", " (z :: r) := by rw [TL.join_eq, TL.join_eq] <;> rfl
    have e2 : (", " : Str).cps.toList = [44, 32] := by decide +kernel
    rw [e, add_list, add_list, List.mem_append, List.mem_append, e2, ih]
    constructor
    · rintro ((h | h) | ⟨w, hw, hx⟩)
      · exact ⟨y, List.mem_cons_self, h⟩
      · simp at h; omega
      · exact ⟨w, List.mem_cons_of_mem _ hw, hx⟩
    · rintro ⟨w, hw, hx⟩
      rcases List.mem_cons.mp hw with rfl | hw
      · exact .inl (.inl hx)
      · exact .inr ⟨w, hw, hx⟩
theorem term_mem {x : Nat} (h : x ∉ spec) (n : Str) (ps : List T) : x ∈ (T.term (.node n ps)).cps.toList ↔ x ∈ n.cps.toList ∨ ∃ p ∈ ps, x ∈ p.term.cps.toList := by
  have h1 : x ≠ 44 := fun e => h (by rw [e]; decide)
  have h2 : x ≠ 32 := fun e => h (by rw [e]; decide)
  have h3 : x ≠ 40 := fun e => h (by rw [e]; decide)
  have h4 : x ≠ 41 := fun e => h (by rw [e]; decide)
  cases ps with
  | nil =>
    unfold T.term
    simp
  | cons p r =>
    have e1 : ("(" : Str).cps.toList = [40] := by decide +kernel
    have e2 : (")" : Str).cps.toList = [41] := by decide +kernel
    rw [term_cons n (by simp), add_list, add_list, add_list, e1, e2, List.mem_append, List.mem_append, List.mem_append, join_mem h1 h2, terms_map]
    simp only [List.mem_singleton, List.mem_map]
    constructor
    · rintro (((h | h) | ⟨y, ⟨a, ha, rfl⟩, hx⟩) | h)
      · exact .inl h
      · exact absurd h h3
      · exact .inr ⟨a, ha, hx⟩
      · exact absurd h h4
    · rintro (h | ⟨a, ha, hx⟩)
      · exact .inl (.inl (.inl h))
      · exact .inl (.inr ⟨_, ⟨a, ha, rfl⟩, hx⟩)
/-- a name's signs: letters and digits, or the hole's -/
theorem big_signs {n : Str} (h : bigName n.cps.toList = true) : ∀ c ∈ n.cps.toList, isWord c = true := by
  intro c hc
  cases e : n.cps.toList with
  | nil => rw [e] at hc; cases hc
  | cons a r =>
    rw [e] at h hc
    have h' : (isCap a && (a :: r).all isWord && decide (r.length < 8)) = true := h
    rw [Bool.and_eq_true, Bool.and_eq_true] at h'
    exact List.all_eq_true.mp h'.1.2 c hc
theorem word_small {c : Nat} (h : isWord c = true) : c < 123 ∧ c ≠ 95 := by
  unfold isWord isCap isSmall isDig at h
  simp at h
  omega
theorem leaf_signs {n : Str} (h : leafName n = true) : (n.cps.toList = [95]) ∨ (∃ c, n.cps.toList = [c] ∧ isDig c = true) := by
  unfold leafName at h
  rw [Bool.or_eq_true] at h
  rcases h with h | h
  · exact .inl (of_decide_eq_true h)
  · match e : n.cps.toList with
    | [] => rw [e] at h; cases h
    | [c] => rw [e] at h; exact .inr ⟨c, rfl, h⟩
    | a :: b :: r => rw [e] at h; cases h
theorem dig_small {c : Nat} (h : isDig c = true) : c < 123 ∧ c ≠ 95 := by
  unfold isDig at h
  simp at h
  omega
theorem name_signs {t : T} (h : t.fine = true) : ∀ c ∈ t.name.cps.toList, c < 123 := by
  cases t with
  | node n ps =>
    intro c hc
    have hc : c ∈ n.cps.toList := hc
    rcases fine_ex h with ⟨hl, _⟩ | ⟨hb, _⟩
    · rcases leaf_signs hl with e | ⟨d, e, hd⟩
      · rw [e] at hc
        simp at hc
        omega
      · rw [e] at hc
        have : c = d := by simpa using hc
        subst this
        exact (dig_small hd).1
    · exact (word_small (big_signs hb c hc)).1
mutual
theorem term_signs : ∀ {t : T}, t.fine = true → ∀ c ∈ t.term.cps.toList, c < 123
  | .node n ps, h, c, hc => by
    by_cases hs : c ∈ spec
    · unfold spec at hs
      simp at hs
      omega
    · rcases (term_mem hs n ps).mp hc with hc | ⟨p, hp, hc⟩
      · exact name_signs h c hc
      · exact terms_signs (fine_parts h).2 p hp c hc
theorem terms_signs : ∀ {ps : List T}, (∀ u ∈ ps, u.fine = true) → ∀ p ∈ ps, ∀ c ∈ p.term.cps.toList, c < 123
  | a :: r, h, p, hp, c, hc => by
    rcases List.mem_cons.mp hp with e | hp
    · rw [e] at hc
      exact term_signs (h a List.mem_cons_self) c hc
    · exact terms_signs (fun u hu => h u (List.mem_cons_of_mem _ hu)) p hp c hc
end
mutual
theorem gaps_term : ∀ {t : T}, t.fine = true → (0 < t.gaps ↔ 95 ∈ t.term.cps.toList)
  | .node n ps, h => by
    have hs : (95 : Nat) ∉ spec := by decide
    rw [term_mem hs n ps]
    have e95 : ("_" : Str).cps.toList = [95] := by decide +kernel
    unfold T.gaps
    by_cases hn : n = "_" ∧ ps = []
    · rw [if_pos hn]
      refine ⟨fun _ => .inl ?_, fun _ => by decide⟩
      rw [hn.1, e95]
      simp
    · rw [if_neg hn, gapsL_term (ps := ps) (fine_parts h).2]
      constructor
      · exact .inr
      · rintro (hc | hc)
        · exfalso
          rcases fine_ex h with ⟨hl, e0⟩ | ⟨hb, _⟩
          · rcases leaf_signs hl with e | ⟨d, e, hd⟩
            · exact hn ⟨str_ext (by rw [e, e95]), e0⟩
            · rw [e] at hc
              have : 95 = d := by simpa using hc
              exact (dig_small hd).2 this.symm
          · exact (word_small (big_signs hb 95 hc)).2 rfl
        · exact hc
theorem gapsL_term : ∀ {ps : List T}, (∀ u ∈ ps, u.fine = true) → (0 < T.gapsL ps ↔ ∃ p ∈ ps, 95 ∈ p.term.cps.toList)
  | [], _ => by
    unfold T.gapsL
    simp
  | a :: r, h => by
    have h1 := gaps_term (h a List.mem_cons_self)
    have h2 := gapsL_term (ps := r) fun u hu => h u (List.mem_cons_of_mem _ hu)
    unfold T.gapsL
    rw [show (0 < a.gaps + T.gapsL r) ↔ (0 < a.gaps ∨ 0 < T.gapsL r) by omega, h1, h2]
    simp
end
theorem whole_term {t : T} (h : t.fine = true) : decide (t.gaps = 0) = !decide (95 ∈ t.term.cps.toList) := by
  have := gaps_term h
  by_cases e : t.gaps = 0
  · rw [decide_eq_true e, decide_eq_false (fun z => by have := this.mpr z; omega)]
    rfl
  · rw [decide_eq_false e, decide_eq_true (this.mp (by omega))]
    rfl
theorem term_ok {t : T} (h : t.fine = true) : PyData.strOk t.term = true := by
  unfold PyData.strOk
  rw [Array.all_eq_true']
  intro c hc
  have := term_signs h c (by simpa using hc)
  exact decide_eq_true (by omega)
end Tw
set_option maxHeartbeats 4000000
/-! The common part, covering, gaps, filling: the mathematics. -/
namespace Tw
open PySem PySem.Spec PyProof.Rows L2
def hole : T := .node "_" []
def T.isH (t : T) : Bool := decide (t.name = "_") && t.parts.isEmpty
mutual
def tcom : T → T → T
  | .node n ps, .node m qs => if n = m ∧ ps.length = qs.length then .node n (tcoms ps qs) else .node "_" []
def tcoms : List T → List T → List T
  | p :: ps, q :: qs => tcom p q :: tcoms ps qs
  | [], _ => []
  | _ :: _, [] => []
end
mutual
def tov : T → T → Bool
  | .node n ps, .node m qs => if n = "_" ∧ ps = [] then true else if n = m ∧ ps.length = qs.length then tovs ps qs else false
def tovs : List T → List T → Bool
  | p :: ps, q :: qs => tov p q && tovs ps qs
  | [], _ => true
  | _ :: _, [] => true
end
theorem tcom_eq (n m : Str) (ps qs : List T) : tcom (.node n ps) (.node m qs) = if n = m ∧ ps.length = qs.length then .node n (tcoms ps qs) else .node "_" [] := by
  conv => lhs; unfold tcom
theorem tov_eq (n m : Str) (ps qs : List T) : tov (.node n ps) (.node m qs) = if n = "_" ∧ ps = [] then true else if n = m ∧ ps.length = qs.length then tovs ps qs else false := by
  conv => lhs; unfold tov
theorem tcoms_cons (p q : T) (ps qs : List T) : tcoms (p :: ps) (q :: qs) = tcom p q :: tcoms ps qs := by conv => lhs; unfold tcoms
theorem tcoms_nil (qs : List T) : tcoms [] qs = [] := by conv => lhs; unfold tcoms
theorem tcoms_nil2 (ps : List T) : tcoms ps [] = [] := by cases ps <;> (conv => lhs; unfold tcoms)
theorem tovs_cons (p q : T) (ps qs : List T) : tovs (p :: ps) (q :: qs) = (tov p q && tovs ps qs) := by conv => lhs; unfold tovs
theorem tovs_nil (qs : List T) : tovs [] qs = true := by conv => lhs; unfold tovs
theorem tcoms_len : ∀ (ps qs : List T), ps.length = qs.length → (tcoms ps qs).length = ps.length
  | [], qs, _ => by rw [tcoms_nil]
  | p :: ps, [], h => by simp at h
  | p :: ps, q :: qs, h => by
    rw [tcoms_cons, List.length_cons, List.length_cons, tcoms_len ps qs (by simpa using h)]
theorem tcoms_get : ∀ (ps qs : List T) (i : Nat) {p q : T}, ps[i]? = some p → qs[i]? = some q → (tcoms ps qs)[i]? = some (tcom p q)
  | [], _, i, p, q, h, _ => by simp at h
  | _ :: _, [], i, p, q, _, h => by simp at h
  | a :: ps, b :: qs, 0, p, q, h1, h2 => by
    rw [tcoms_cons]
    have e1 : a = p := by simpa using h1
    have e2 : b = q := by simpa using h2
    subst e1 e2
    rfl
  | a :: ps, b :: qs, i + 1, p, q, h1, h2 => by
    rw [tcoms_cons]
    simpa using tcoms_get ps qs i (by simpa using h1) (by simpa using h2)
/-- a hole covers all -/
theorem tov_hole (t : T) : tov hole t = true := by
  cases t
  unfold hole
  rw [tov_eq, if_pos ⟨rfl, rfl⟩]
mutual
theorem tov_refl : ∀ t : T, tov t t = true
  | .node n ps => by
    rw [tov_eq]
    split
    · rfl
    · rw [if_pos ⟨rfl, rfl⟩]
      exact tovs_refl ps
theorem tovs_refl : ∀ ps : List T, tovs ps ps = true
  | [] => tovs_nil _
  | p :: ps => by rw [tovs_cons, tov_refl p, tovs_refl ps]; rfl
end
mutual
theorem tcom_comm : ∀ a b : T, tcom a b = tcom b a
  | .node n ps, .node m qs => by
    rw [tcom_eq, tcom_eq]
    by_cases h : n = m ∧ ps.length = qs.length
    · rw [if_pos h, if_pos ⟨h.1.symm, h.2.symm⟩, tcoms_comm ps qs, h.1]
    · rw [if_neg h, if_neg fun z => h ⟨z.1.symm, z.2.symm⟩]
theorem tcoms_comm : ∀ a b : List T, tcoms a b = tcoms b a
  | [], b => by rw [tcoms_nil, tcoms_nil2]
  | p :: ps, [] => by rw [tcoms_nil, tcoms_nil2]
  | p :: ps, q :: qs => by rw [tcoms_cons, tcoms_cons, tcom_comm p q, tcoms_comm ps qs]
end
mutual
/-- it covers the first one -/
theorem tov_com : ∀ a b : T, tov (tcom a b) a = true
  | .node n ps, .node m qs => by
    rw [tcom_eq]
    by_cases h : n = m ∧ ps.length = qs.length
    · rw [if_pos h, tov_eq]
      split
      · rfl
      · rw [if_pos ⟨rfl, tcoms_len ps qs h.2⟩]
        exact tovs_com ps qs
    · rw [if_neg h]
      exact tov_hole _
theorem tovs_com : ∀ a b : List T, tovs (tcoms a b) a = true
  | [], b => by rw [tcoms_nil]; exact tovs_nil _
  | p :: ps, [] => by rw [tcoms_nil2]; exact tovs_nil _
  | p :: ps, q :: qs => by rw [tcoms_cons, tovs_cons, tov_com p q, tovs_com ps qs]; rfl
end
theorem tov_com2 (a b : T) : tov (tcom a b) b = true := by rw [tcom_comm]; exact tov_com b a
theorem und_fine {ps : List T} (h : (T.node "_" ps).fine = true) : ps = [] := by
  rcases fine_ex h with ⟨_, e⟩ | ⟨hb, _, _⟩
  · exact e
  · exact absurd hb (by decide +kernel)
/-- a tree covers the common part just if it is it -/
theorem tov_com_eq_l {a b : T} (h : a = tcom a b) : tov a (tcom a b) = true := by rw [← h]; exact tov_refl a
mutual
theorem tov_anti : ∀ a b : T, tov a b = true → tov b a = true → b.fine = true → a.fine = true → a = b
  | .node n ps, .node m qs, h1, h2, f2, f1 => by
    rw [tov_eq] at h1 h2
    by_cases e1 : n = "_" ∧ ps = []
    · obtain ⟨rfl, rfl⟩ := e1
      by_cases e2 : m = "_" ∧ qs = []
      · obtain ⟨rfl, rfl⟩ := e2
        rfl
      · rw [if_neg e2] at h2
        split at h2
        · rename_i h
          obtain ⟨rfl, h⟩ := h
          exact absurd ⟨rfl, List.eq_nil_of_length_eq_zero h⟩ e2
        · cases h2
    · rw [if_neg e1] at h1
      split at h1
      · rename_i h
        obtain ⟨rfl, hl⟩ := h
        by_cases e2 : n = "_" ∧ qs = []
        · obtain ⟨rfl, rfl⟩ := e2
          exact absurd ⟨rfl, List.eq_nil_of_length_eq_zero hl⟩ e1
        · rw [if_neg e2, if_pos ⟨rfl, hl.symm⟩] at h2
          rw [tovs_anti ps qs h1 h2 (fine_parts f2).2 (fine_parts f1).2 hl]
      · cases h1
theorem tovs_anti : ∀ a b : List T, tovs a b = true → tovs b a = true → (∀ u ∈ b, u.fine = true) → (∀ u ∈ a, u.fine = true) → a.length = b.length → a = b
  | [], [], _, _, _, _, _ => rfl
  | [], _ :: _, _, _, _, _, h => by simp at h
  | _ :: _, [], _, _, _, _, h => by simp at h
  | p :: ps, q :: qs, h1, h2, f2, f1, hl => by
    rw [tovs_cons, Bool.and_eq_true] at h1 h2
    rw [tov_anti p q h1.1 h2.1 (f2 q List.mem_cons_self) (f1 p List.mem_cons_self), tovs_anti ps qs h1.2 h2.2 (fun u hu => f2 u (List.mem_cons_of_mem _ hu)) (fun u hu => f1 u (List.mem_cons_of_mem _ hu)) (by simpa using hl)]
end
mutual
theorem tcom_fine : ∀ a b : T, a.fine = true → (tcom a b).fine = true
  | .node n ps, .node m qs, h => by
    rw [tcom_eq]
    split
    · rename_i e
      have hl := tcoms_len ps qs e.2
      rcases fine_ex h with ⟨h1, h2⟩ | ⟨h1, h2, h3⟩
      · subst h2
        rw [tcoms_nil]
        exact fine_leaf h1
      · exact fine_big h1 (by omega) (fines_of (tcoms_fine ps qs (fine_parts h).2))
    · exact fine_leaf (by decide +kernel)
theorem tcoms_fine : ∀ a b : List T, (∀ u ∈ a, u.fine = true) → ∀ u ∈ tcoms a b, u.fine = true
  | [], b, _, u, hu => by rw [tcoms_nil] at hu; cases hu
  | p :: ps, [], _, u, hu => by rw [tcoms_nil2] at hu; cases hu
  | p :: ps, q :: qs, h, u, hu => by
    rw [tcoms_cons] at hu
    rcases List.mem_cons.mp hu with rfl | hu
    · exact tcom_fine p q (h p List.mem_cons_self)
    · exact tcoms_fine ps qs (fun v hv => h v (List.mem_cons_of_mem _ hv)) u hu
end
theorem sizes_cons (t : T) (r : List T) : T.sizes (t :: r) = t.size + T.sizes r := by conv => lhs; unfold T.sizes
theorem sizes_nil : T.sizes [] = 0 := by unfold T.sizes; rfl
mutual
theorem tcom_size : ∀ a b : T, (tcom a b).size ≤ a.size
  | .node n ps, .node m qs => by
    rw [tcom_eq]
    split
    · rename_i e
      rw [size_node, size_node]
      have := tcoms_size ps qs
      omega
    · rw [size_node, size_node, sizes_nil]
      omega
theorem tcoms_size : ∀ a b : List T, T.sizes (tcoms a b) ≤ T.sizes a
  | [], b => by rw [tcoms_nil]; exact Nat.le_refl _
  | p :: ps, [] => by rw [tcoms_nil2, sizes_nil]; omega
  | p :: ps, q :: qs => by
    rw [tcoms_cons, sizes_cons, sizes_cons]
    have := tcom_size p q
    have := tcoms_size ps qs
    omega
end
mutual
theorem tcom_levels : ∀ a b : T, (tcom a b).levels ≤ a.levels
  | .node n ps, .node m qs => by
    rw [tcom_eq]
    split
    · rename_i e
      rw [levels_node n ps, Nat.add_comm]
      exact levels_of (tcoms_levels ps qs fun u hu => mostFrom_mem hu)
    · rw [levels_node, levels_node]
      have : T.mostFrom 0 [] = 0 := by unfold T.mostFrom; rfl
      omega
theorem tcoms_levels {k : Nat} : ∀ a b : List T, (∀ u ∈ a, u.levels ≤ k) → ∀ u ∈ tcoms a b, u.levels ≤ k
  | [], b, _, u, hu => by rw [tcoms_nil] at hu; cases hu
  | p :: ps, [], _, u, hu => by rw [tcoms_nil2] at hu; cases hu
  | p :: ps, q :: qs, h, u, hu => by
    rw [tcoms_cons] at hu
    rcases List.mem_cons.mp hu with rfl | hu
    · exact Nat.le_trans (tcom_levels p q) (h p List.mem_cons_self)
    · exact tcoms_levels ps qs (fun v hv => h v (List.mem_cons_of_mem _ hv)) u hu
end
mutual
/-- what covers the common part covers both, and the other way round -/
theorem tov_glb : ∀ x a b : T, a.fine = true → b.fine = true → x.fine = true → tov x (tcom a b) = (tov x a && tov x b)
  | .node k rs, .node n ps, .node m qs, fa, fb, fx => by
    rw [tcom_eq]
    by_cases hx : k = "_" ∧ rs = []
    · obtain ⟨rfl, rfl⟩ := hx
      have := tov_hole
      unfold hole at this
      rw [this, this, this]
      rfl
    · by_cases h : n = m ∧ ps.length = qs.length
      · rw [if_pos h, tov_eq, tov_eq, tov_eq, if_neg hx, if_neg hx, if_neg hx, tcoms_len ps qs h.2]
        by_cases h2 : k = n ∧ rs.length = ps.length
        · rw [if_pos h2, if_pos h2, if_pos ⟨h2.1.trans h.1, h2.2.trans h.2⟩]
          exact tovs_glb rs ps qs (fine_parts fa).2 (fine_parts fb).2 (fine_parts fx).2 h2.2 h.2
        · rw [if_neg h2, if_neg h2, if_neg fun z => h2 ⟨z.1.trans h.1.symm, z.2.trans h.2.symm⟩]
          rfl
      · rw [if_neg h, tov_eq, tov_eq, tov_eq, if_neg hx, if_neg hx, if_neg hx]
        have e0 : ¬ (k = "_" ∧ rs.length = ([] : List T).length) := fun z => hx ⟨z.1, List.eq_nil_of_length_eq_zero z.2⟩
        rw [if_neg e0]
        by_cases h2 : k = n ∧ rs.length = ps.length
        · rw [if_pos h2, if_neg fun z => h ⟨h2.1.symm.trans z.1, h2.2.symm.trans z.2⟩, Bool.and_false]
        · rw [if_neg h2, Bool.false_and]
theorem tovs_glb : ∀ x a b : List T, (∀ u ∈ a, u.fine = true) → (∀ u ∈ b, u.fine = true) → (∀ u ∈ x, u.fine = true) → x.length = a.length → a.length = b.length → tovs x (tcoms a b) = (tovs x a && tovs x b)
  | [], a, b, _, _, _, _, _ => by rw [tovs_nil, tovs_nil, tovs_nil]; rfl
  | _ :: _, [], b, _, _, _, h, _ => by simp at h
  | _ :: _, _ :: _, [], _, _, _, _, h => by simp at h
  | r :: rs, p :: ps, q :: qs, fa, fb, fx, h1, h2 => by
    rw [tcoms_cons, tovs_cons, tovs_cons, tovs_cons, tov_glb r p q (fa p List.mem_cons_self) (fb q List.mem_cons_self) (fx r List.mem_cons_self), tovs_glb rs ps qs (fun u hu => fa u (List.mem_cons_of_mem _ hu)) (fun u hu => fb u (List.mem_cons_of_mem _ hu)) (fun u hu => fx u (List.mem_cons_of_mem _ hu)) (by simpa using h1) (by simpa using h2)]
    cases tov r p <;> cases tov r q <;> cases tovs rs ps <;> rfl
end
/-- associative, by antisymmetry -/
theorem tcom_assoc {a b c : T} (fa : a.fine = true) (fb : b.fine = true) (fc : c.fine = true) : tcom (tcom a b) c = tcom a (tcom b c) := by
  have fab := tcom_fine a b fa
  have fbc := tcom_fine b c fb
  have f1 := tcom_fine (tcom a b) c fab
  have f2 := tcom_fine a (tcom b c) fa
  refine tov_anti _ _ ?_ ?_ f2 f1
  · have h1 := tov_com (tcom a b) c
    have h2 := tov_com2 (tcom a b) c
    rw [tov_glb _ _ _ fa fb f1, Bool.and_eq_true] at h1
    rw [tov_glb _ _ _ fa fbc f1, tov_glb _ _ _ fb fc f1, h1.1, h1.2, h2]
    rfl
  · have h1 := tov_com a (tcom b c)
    have h2 := tov_com2 a (tcom b c)
    rw [tov_glb _ _ _ fb fc f2, Bool.and_eq_true] at h2
    rw [tov_glb _ _ _ fab fc f2, tov_glb _ _ _ fa fb f2, h1, h2.1, h2.2]
    rfl
theorem tov_com_iff {a b : T} (fa : a.fine = true) : tov a (tcom a b) = true ↔ a = tcom a b :=
  ⟨fun h => tov_anti _ _ h (tov_com a b) (tcom_fine a b fa) fa, fun h => by rw [← h]; exact tov_refl a⟩
/-! ### gaps and filling -/
mutual
def T.hs (pa : Path) : T → List Path
  | .node n ps => if n = "_" then [pa] else T.hsL pa 0 ps
def T.hsL (pa : Path) : Nat → List T → List Path
  | _, [] => []
  | i, p :: r => p.hs (pa ++ [i]) ++ T.hsL pa (i + 1) r
end
mutual
/-- the parts of the second one at the gaps of the first one -/
def tsel : T → T → List T
  | .node n ps, t => if n = "_" then [t] else tsels ps t.parts
def tsels : List T → List T → List T
  | p :: ps, q :: qs => tsel p q ++ tsels ps qs
  | [], _ => []
  | _ :: _, [] => []
end
theorem hs_eq (pa : Path) (n : Str) (ps : List T) : (T.node n ps).hs pa = if n = "_" then [pa] else T.hsL pa 0 ps := by conv => lhs; unfold T.hs
theorem hsL_cons (pa : Path) (i : Nat) (p : T) (r : List T) : T.hsL pa i (p :: r) = p.hs (pa ++ [i]) ++ T.hsL pa (i + 1) r := by conv => lhs; unfold T.hsL
theorem hsL_nil (pa : Path) (i : Nat) : T.hsL pa i [] = [] := by conv => lhs; unfold T.hsL
theorem tsel_eq (n : Str) (ps : List T) (t : T) : tsel (.node n ps) t = if n = "_" then [t] else tsels ps t.parts := by conv => lhs; unfold tsel
theorem tsels_cons (p q : T) (ps qs : List T) : tsels (p :: ps) (q :: qs) = tsel p q ++ tsels ps qs := by conv => lhs; unfold tsels
theorem tsels_nil (qs : List T) : tsels [] qs = [] := by conv => lhs; unfold tsels
theorem gaps_eq (n : Str) (ps : List T) : (T.node n ps).gaps = if n = "_" ∧ ps = [] then 1 else T.gapsL ps := by conv => lhs; unfold T.gaps
theorem gapsL_cons (p : T) (r : List T) : T.gapsL (p :: r) = p.gaps + T.gapsL r := by conv => lhs; unfold T.gapsL
theorem gapsL_nil : T.gapsL [] = 0 := by unfold T.gapsL; rfl
mutual
theorem hs_len : ∀ (t : T) (pa : Path), t.fine = true → (t.hs pa).length = t.gaps
  | .node n ps, pa, h => by
    rw [hs_eq, gaps_eq]
    by_cases e : n = "_"
    · subst e
      have := und_fine h
      subst this
      rw [if_pos rfl, if_pos ⟨rfl, rfl⟩]
      rfl
    · rw [if_neg e, if_neg fun z => e z.1]
      exact hsL_len ps 0 pa (fine_parts h).2
theorem hsL_len : ∀ (ps : List T) (i : Nat) (pa : Path), (∀ u ∈ ps, u.fine = true) → (T.hsL pa i ps).length = T.gapsL ps
  | [], i, pa, _ => by rw [hsL_nil, gapsL_nil]; rfl
  | p :: r, i, pa, h => by
    rw [hsL_cons, gapsL_cons, List.length_append, hs_len p _ (h p List.mem_cons_self), hsL_len r _ _ fun u hu => h u (List.mem_cons_of_mem _ hu)]
end
mutual
theorem tsel_len : ∀ (c t : T), c.fine = true → tov c t = true → (tsel c t).length = c.gaps
  | .node n ps, .node m qs, h, o => by
    rw [tsel_eq, gaps_eq]
    by_cases e : n = "_"
    · subst e
      have := und_fine h
      subst this
      rw [if_pos rfl, if_pos ⟨rfl, rfl⟩]
      rfl
    · rw [if_neg e, if_neg fun z => e z.1]
      rw [tov_eq, if_neg fun z => e z.1] at o
      split at o
      · rename_i hl
        exact tsels_len ps qs (fine_parts h).2 hl.2 o
      · cases o
theorem tsels_len : ∀ (cs ts : List T), (∀ u ∈ cs, u.fine = true) → cs.length = ts.length → tovs cs ts = true → (tsels cs ts).length = T.gapsL cs
  | [], ts, _, _, _ => by rw [tsels_nil, gapsL_nil]; rfl
  | _ :: _, [], _, h, _ => by simp at h
  | c :: cs, t :: ts, h, hl, o => by
    rw [tovs_cons, Bool.and_eq_true] at o
    rw [tsels_cons, gapsL_cons, List.length_append, tsel_len c t (h c List.mem_cons_self) o.1, tsels_len cs ts (fun u hu => h u (List.mem_cons_of_mem _ hu)) (by simpa using hl) o.2]
end
/-- the part at a path -/
def T.sub : Path → T → Option T
  | [], t => some t
  | i :: r, t => (t.parts[i]?).bind (T.sub r)
theorem sub_append (a b : Path) : ∀ t : T, T.sub (a ++ b) t = (T.sub a t).bind (T.sub b) := by
  induction a with
  | nil => intro t; rfl
  | cons i r ih =>
    intro t
    show (t.parts[i]?).bind (T.sub (r ++ b)) = ((t.parts[i]?).bind (T.sub r)).bind (T.sub b)
    cases t.parts[i]? with
    | none => rfl
    | some u => exact ih u
mutual
/-- the parts at the gaps, found by their paths -/
theorem sel_hs : ∀ (c t r : T) (pa : Path), c.fine = true → tov c t = true → T.sub pa r = some t → (c.hs pa).map (fun p => T.sub p r) = (tsel c t).map some
  | .node n ps, .node m qs, r, pa, h, o, e => by
    rw [hs_eq, tsel_eq]
    by_cases en : n = "_"
    · rw [if_pos en, if_pos en]
      show [T.sub pa r] = _
      rw [e]
      rfl
    · rw [if_neg en, if_neg en]
      rw [tov_eq, if_neg fun z => en z.1] at o
      split at o
      · rename_i hl
        exact sels_hs ps qs r pa 0 (fine_parts h).2 hl.2 o fun j u hu => by
          rw [sub_append, e, Nat.zero_add]
          show ((T.node m qs).parts[j]?).bind (T.sub []) = _
          rw [show (T.node m qs).parts = qs from rfl, hu]
          rfl
      · cases o
theorem sels_hs : ∀ (cs ts : List T) (r : T) (pa : Path) (i : Nat), (∀ u ∈ cs, u.fine = true) → cs.length = ts.length → tovs cs ts = true → (∀ j u, ts[j]? = some u → T.sub (pa ++ [i + j]) r = some u) → (T.hsL pa i cs).map (fun p => T.sub p r) = (tsels cs ts).map some
  | [], ts, r, pa, i, _, _, _, _ => by rw [tsels_nil, hsL_nil]; rfl
  | _ :: _, [], r, pa, i, _, h, _, _ => by simp at h
  | c :: cs, t :: ts, r, pa, i, h, hl, o, e => by
    rw [tovs_cons, Bool.and_eq_true] at o
    rw [tsels_cons, hsL_cons, List.map_append, List.map_append, sel_hs c t r (pa ++ [i]) (h c List.mem_cons_self) o.1 (e 0 t rfl),
      sels_hs cs ts r pa (i + 1) (fun u hu => h u (List.mem_cons_of_mem _ hu)) (by simpa using hl) o.2 fun j u hu => by
        have := e (j + 1) u (by simpa using hu)
        rw [show i + 1 + j = i + (j + 1) by omega]
        exact this]
end
mutual
/-- the walk's holes are the gaps -/
theorem walk_hs : ∀ (t : T) (pa : Path), t.fine = true → ((t.walk pa).filter fun e => e.2.isH).map (·.1) = t.hs pa
  | .node n ps, pa, h => by
    have ew : (T.node n ps).walk pa = (pa, .node n ps) :: T.walks pa 0 ps := by conv => lhs; unfold T.walk
    rw [ew, hs_eq]
    by_cases e : n = "_"
    · subst e
      have := und_fine h
      subst this
      have e2 : T.walks pa 0 [] = [] := by unfold T.walks; rfl
      rw [e2, if_pos rfl]
      rfl
    · have e2 : (T.node n ps).isH = false := by
        show (decide (n = "_") && ps.isEmpty) = false
        rw [decide_eq_false e]
        rfl
      rw [if_neg e, List.filter_cons]
      show (List.map _ (if (T.node n ps).isH = true then _ else _)) = _
      rw [e2, if_neg (by simp)]
      exact walks_hs ps 0 pa (fine_parts h).2
theorem walks_hs : ∀ (ps : List T) (i : Nat) (pa : Path), (∀ u ∈ ps, u.fine = true) → ((T.walks pa i ps).filter fun e => e.2.isH).map (·.1) = T.hsL pa i ps
  | [], i, pa, _ => by
    have e2 : T.walks pa i [] = [] := by unfold T.walks; rfl
    rw [e2, hsL_nil]
    rfl
  | p :: r, i, pa, h => by
    have e2 : T.walks pa i (p :: r) = p.walk (pa ++ [i]) ++ T.walks pa (i + 1) r := by conv => lhs; unfold T.walks
    rw [e2, hsL_cons, List.filter_append, List.map_append, walk_hs p _ (h p List.mem_cons_self), walks_hs r _ _ fun u hu => h u (List.mem_cons_of_mem _ hu)]
end
end Tw
set_option maxHeartbeats 4000000
/-! _law_is. -/
namespace Tw
open PySem PySem.Spec PyProof.Rows L2
abbrev sIs : Stmt := top 38
theorem kit_ib (K : PySem.W.Frag) : PySem.W.kitOne K (.type "int") (.type "bool") = some false := by
  unfold PySem.W.kitOne PySem.W.kitCls
  rw [if_neg (by decide)]
  dsimp only
  rw [if_pos (by decide +kernel)]
  unfold PySem.W.subIn
  show (PySem.fastBuiltinMro "int").map (fun x => x.contains (Value.type "bool")) = some false
  decide +kernel
def spIs : Sp := fun vs H Q _ => ∃ i : Int, vs = [.int i, .int i] ∧ Q (.bl true) H
section
variable {P : Program} {w : World} {K : PySem.W.Frag} {mg : Str → Option Value} {base : Heap}
theorem scIs : FnScope ["actual", "due"] ["actual", "due"] (defScope sIs) := ⟨rfl, rfl, rfl, by decide +kernel, rfl, by decide +kernel, by decide +kernel⟩
theorem ok_is (mI : mg "isinstance" = none) (mi : mg "int" = none) (mb : mg "bool" = none) {f : Addr} {fd : FuncData} (F : Fun K "_law_is" "_law_is" sIs f fd) : FnR P w K mg base CX0 1 f spIs := by
  refine okR F scIs (fun vs H Q E h => ?_) (fun _ _ _ _ _ _ us hl => match us, hl with | [_, _], _ => rfl) (fun cdv A outer s H vs Q E hr h => ?_)
  · obtain ⟨i, rfl, _⟩ := h
    rfl
  obtain ⟨i, rfl, q⟩ := h
  refine ⟨_, pss_cons (ps_if (PW.pt (pw_or (pt_not (pt_val (pe_callB call_isi (by rfl) mI (by decide +kernel) (pa_cons (pv 0) (pa_cons (pe_bltn (v := .ty "int") (by rfl) mi (by decide +kernel) rfl) pa_nil))))) (pw_or1 (pt_val (pe_callB call_isi (by rfl) mI (by decide +kernel) (pa_cons (pv 0) (pa_cons (pe_bltn (v := .ty "bool") (by rfl) mb (by decide +kernel) rfl) pa_nil))))))) (pss_one (ps_ret pe_bl)) pss_nil)
    (pss_one (ps_ret (pe_cmpR op_eq (pv 0) (pv 1) (nomark _)))), ?_⟩
  refine ⟨_, rfl, _, .ty "int", _, _, true, rfl, .ty "int", .base (.int i), kit_self K _ rfl, _, rfl, ?_⟩
  refine iteF ?_
  refine ⟨_, rfl, _, .ty "bool", _, _, false, rfl, .ty "bool", .base (.int i), kit_ib K, _, rfl, ?_⟩
  refine iteF ?_
  refine ⟨_, rfl, _, rfl, rfl, ?_⟩
  rw [decide_eq_true rfl]
  exact q
end
end Tw
set_option maxHeartbeats 4000000
/-! _law_good. -/
namespace Tw
open PySem PySem.Spec PyProof.Rows L2
abbrev sGood : Stmt := top 39
def txtL (l : List Str) : PyData := .list (l.map PyData.str)
theorem dp_strs {K : PySem.W.Frag} {H : Hp} {a : Addr} {l : List Str} (h : H a = some (.lst (l.map V.str))) : Dp K H (.ref a) (txtL l) := by
  have h1 : ∀ l : List Str, DpAll K H (l.map V.str) (l.map PyData.str) := fun l => by
    induction l with
    | nil => exact .nil
    | cons x r ih => exact .cons (.str x) ih
  exact .lst (SqL.of h) (h1 l)
theorem eqv_strs (l : List Str) : PyData.eqv (txtL l) (txtL l) = true := by
  have h1 : ∀ l : List Str, PyData.eqvAll (l.map PyData.str) (l.map PyData.str) = true := fun l => by
    induction l with
    | nil => unfold PyData.eqvAll; rfl
    | cons x r ih =>
      rw [List.map_cons]
      unfold PyData.eqvAll
      rw [ih]
      unfold PyData.eqv
      simp
  unfold txtL PyData.eqv
  exact h1 l
theorem shaped_strs {l : List Str} (h : ∀ x ∈ l, PyData.strOk x = true) : SeqAt.shaped (txtL l) = true := by
  have h1 : ∀ l : List Str, (∀ x ∈ l, PyData.strOk x = true) → PyData.canLayAll0 (l.map PyData.str) = true := fun l => by
    induction l with
    | nil => exact fun _ => rfl
    | cons x r ih =>
      intro h
      rw [List.map_cons]
      unfold PyData.canLayAll0
      rw [ih fun y hy => h y (List.mem_cons_of_mem _ hy)]
      unfold PyData.canLay0
      rw [h x List.mem_cons_self]
      rfl
  have h2 : ∀ l : List Str, PyData.depthAll (l.map PyData.str) = 0 := fun l => by
    induction l with
    | nil => rfl
    | cons x r ih => rw [List.map_cons]; unfold PyData.depthAll; rw [ih]; rfl
  unfold SeqAt.shaped txtL
  refine Bool.and_eq_true_iff.mpr ⟨?_, decide_eq_true ?_⟩
  · unfold PyData.canLay0; exact h1 l h
  · unfold PyData.depth; rw [h2]; decide
def spGood (C : Addr) (D : Nat) : Sp := fun vs H Q _ => ∃ (v d : V) (t : T) (X : List Addr), vs = [v, d] ∧ TreeAt C H v t ∧ DueAt X H d t ∧ t.fine = true ∧ t.levels ≤ D + 1 ∧ ∀ H', Same H H' → Q (.bl true) H'
/-- the property whole -/
structure Wh (K : PySem.W.Frag) (C pW gW : Addr) (fdW : FuncData) : Prop where
  prop : PropOf K C "whole" pW gW
  binds : Binds K fdW ["self"] []
section
variable {P : Program} {w : World} {K : PySem.W.Frag} {mg : Str → Option Value} {base : Heap} {C : Addr}
theorem scGo : FnScope ["actual", "due", "one", "k"] ["actual", "due"] (defScope sGood) := ⟨rfl, rfl, rfl, by decide +kernel, rfl, by decide +kernel, by decide +kernel⟩
theorem good_step {fIt fi pW gW : Addr} {fdIt fdW : FuncData} (T1 : Tt K C) (T2 : Ti K C) (gT : mg "Tree" = some (.ref C)) (Fit : Fun K "__iter__" "Tree.__iter__" sIter fIt fdIt) (hs : PySem.W.findIn K (.ref C) "__iter__" = some (some (.ref fIt))) (hfn : PySem.W.isFn K (.ref fIt) = true)
    (Wp : Wh K C pW gW fdW) (Fw : FnOk P w K mg base CX0 1 gW fdW ["self"] (spWhole C)) (gi : Gf K mg "_law_is" fi) (Fi : FnR P w K mg base CX0 1 fi spIs) (mI : mg "isinstance" = none) (mt : mg "tuple" = none) (mb : mg "bool" = none) (ml : mg "len" = none) (mr : mg "range" = none) (mit : mg "iter" = none)
    {f : Addr} {fd : FuncData} (F : Fun K "_law_good" "_law_good" sGood f fd) (gm : Gf K mg "_law_good" f) {k D : Nat} {sp : Sp} (FM : FnR P w K mg base CX0 (k + 2) f sp) (hD : ∀ vs H Q E, D ≠ 0 → spGood C (D - 1) vs H Q E → sp vs H Q E) : FnR P w K mg base CX0 (k + 3) f (spGood C D) := by
  refine okR F scGo (fun vs H Q E h => ?_) (fun _ _ _ _ _ _ us hl => match us, hl with | [_, _], _ => rfl) (fun cdv A outer s H vs Q E hr h => ?_)
  · obtain ⟨v, d, t, X, rfl, _⟩ := h
    rfl
  obtain ⟨v, d, t, X, rfl, ht, hd, hf, hl, q⟩ := h
  have hr1 : Room 1 _ := hr.mono (by omega)
  have hr2 : Room 2 _ := hr.mono (by omega)
  refine ⟨_, pss_cons (ps_if (PW.pt (pw_or (pt_not (pt_val (pe_callB call_isi (by rfl) mI (by decide +kernel) (pa_cons (pv 0) (pa_cons (pe_gr gT) pa_nil))))) (pw_or1 (pt_not (pt_val (pe_callB call_isi (by rfl) mI (by decide +kernel) (pa_cons (pe_fld (pv 0) rfl) (pa_cons (pe_bltn (v := .ty "tuple") (by rfl) mt (by decide +kernel) rfl) pa_nil)))))))) (pss_one (ps_ret pe_bl)) pss_nil)
    (pss_cons (ps_if (PW.pt (pw_or (pt_cmpR op_ne (pe_fld (pv 0) rfl) (pe_ix ix_tup (pv 1) pe_int (fun _ _ => rfl)) (nomark _)) (pw_or1 (pt_cmpR op_ne (pe_fld (pv 0) rfl) (pe_ix ix_tup (pv 1) pe_int (fun _ _ => rfl)) (nomark _))))) (pss_one (ps_ret pe_bl)) pss_nil)
    (pss_cons (ps_if (PW.pt (pw_or (pt_not (pt_val (pe_cf Fi hr1 gi pass0 (pa_cons (pe_fld (pv 0) rfl) (pa_cons (pe_ix ix_tup (pv 1) pe_int (fun _ _ => rfl)) pa_nil))))) (pw_or1 (pt_not (pt_val (pe_cf Fi hr1 gi pass0 (pa_cons (pe_fld (pv 0) rfl) (pa_cons (pe_ix ix_tup (pv 1) pe_int (fun _ _ => rfl)) pa_nil)))))))) (pss_one (ps_ret pe_bl)) pss_nil)
    (pss_cons (ps_if (PW.pt (pw_or (pt_not (pt_val (pe_callB call_isi (by rfl) mI (by decide +kernel) (pa_cons (pe_prop (E := E0) (pv 0) T1.cl Wp.prop Fw hr2 Wp.binds .nil pass0 (by rfl)) (pa_cons (pe_bltn (v := .ty "bool") (by rfl) mb (by decide +kernel) rfl) pa_nil))))) (pw_or1 (pt_cmpR op_ne (pe_prop (E := E0) (pv 0) T1.cl Wp.prop Fw hr2 Wp.binds .nil pass0 (by rfl)) (pe_cmpR op_notIn_sign pe_str (pe_ix ix_tup (pv 1) pe_int (fun _ _ => rfl)) (by rfl)) (nomark _))))) (pss_one (ps_ret pe_bl)) pss_nil)
    (pss_cons (ps_if (pt_cmpR (op_neD hr.units)
        (pe_lc (own := [("one", 2)]) (g := gName 2) (tt := tYes) (te := tFld K (tVar 2) "term") rfl scGo.nd (pi_own T1 Fit mit hs hfn hr1 (pv 0)) (blkOk_by (own := [("one", 2)]) (N := ["actual", "due", "one", "k"]) (sc := defScope sGood) (by decide +kernel)) (fun _ _ _ _ _ => by exact pg_name (i := 2) scGo.nd rfl (Or.inl rfl)) (fun _ _ _ _ _ => by exact pts_nil) (fun _ _ _ _ _ => by exact pe_fld (pv 2) rfl))
        (pe_lc (own := [("one", 2)]) (g := gName 2) (tt := tYes) (te := tOp (rIxT K) (tVar 2) (tC (.int 2))) rfl scGo.nd (pi_list (pe_ix ix_tup (pv 1) pe_int (fun _ _ => rfl))) (blkOk_by (own := [("one", 2)]) (N := ["actual", "due", "one", "k"]) (sc := defScope sGood) (by decide +kernel)) (fun _ _ _ _ _ => by exact pg_name (i := 2) scGo.nd rfl (Or.inl rfl)) (fun _ _ _ _ _ => by exact pts_nil) (fun _ _ _ _ _ => by exact pe_ix ix_tup (pv 2) pe_int (fun _ _ => rfl))) (nomark _)) (pss_one (ps_ret pe_bl)) pss_nil)
    (pss_cons (ps_if (pt_cmpR op_ne (pe_callB call_len_seq (by rfl) ml PySem.boot_len (pa_cons (pe_fld (pv 0) rfl) pa_nil)) (pe_callB call_len_seq (by rfl) ml PySem.boot_len (pa_cons (pe_ix ix_tup (pv 1) pe_int (fun _ _ => rfl)) pa_nil)) (nomark _)) (pss_one (ps_ret pe_bl)) pss_nil)
    (pss_cons (ps_for PassesOwn.never rfl (pi_range1 (by rfl) mr (pa_cons (pe_callB call_len_seq (by rfl) ml PySem.boot_len (pa_cons (pe_ix ix_tup (pv 1) pe_int (fun _ _ => rfl)) pa_nil)) pa_nil)) (pg_name (i := 3) scGo.nd rfl (Or.inl rfl))
      (pss_one (ps_if (pt_not (pt_val (pe_cf FM hr gm pass0 (pa_cons (pe_ix ix_tup (pe_fld (pv 0) rfl) (pv 3) (fun _ _ => rfl)) (pa_cons (pe_ix ix_list (pe_ix ix_tup (pv 1) pe_int (fun _ _ => rfl)) (pv 3) (fun _ _ => rfl)) pa_nil))))) (pss_one (ps_ret pe_bl)) pss_nil)))
    (pss_one (ps_ret pe_bl)))))))), ?_⟩
  have sl := sizeLine_eq
  obtain ⟨a, dx, pp, ws, rfl, h1, h2, h3⟩ := ht.ex
  obtain ⟨da, dl, dvs, rfl, g1, g2, g3, g4⟩ := hd.ex
  obtain ⟨hp3, hpf⟩ := fine_parts hf
  have hwl := h3.len
  have hdl := g4.len
  refine ⟨_, rfl, _, .ref C, _, _, true, rfl, .own C, .base (.ins h1 T1.cl T2.ca T2.cn T2.ct T2.cm), kit_ref K C, _, rfl, iteF ?_⟩
  refine ⟨_, rfl, a, C, dx, _, _, rfl, h1, T1.cl, T1.nParts, fT_parts, _, .ty "tuple", _, _, true, rfl, .ty "tuple", .base (.tup h2), kit_self K _ rfl, _, rfl, iteF ?_⟩
  refine ⟨_, rfl, a, C, dx, _, _, rfl, h1, T1.cl, T1.nName, fT_name, _, rfl, da, _, _, .str t.name, rfl, rfl, SqT.of g1, rfl, rfl, _, rfl, ite2 (fun c => absurd c (by simp)) (fun _ => ?_)⟩
  refine ⟨_, rfl, a, C, dx, _, _, rfl, h1, T1.cl, T1.nTerm, fT_term, _, rfl, da, _, _, .str t.term, rfl, rfl, SqT.of g1, rfl, rfl, _, rfl, ite2 (fun c => absurd c (by simp)) (fun _ => ?_)⟩
  refine ⟨_, rfl, a, C, dx, _, _, rfl, h1, T1.cl, T1.nSize, fT_size, _, rfl, da, _, _, .int t.size, rfl, rfl, SqT.of g1, rfl, t.size, rfl, _, rfl, iteF ?_⟩
  refine ⟨_, rfl, a, C, dx, _, _, rfl, h1, T1.cl, T1.nLevels, fT_levels, _, rfl, da, _, _, .int t.levels, rfl, rfl, SqT.of g1, rfl, t.levels, rfl, _, rfl, iteF ?_⟩
  refine ⟨_, rfl, a, dx, _, rfl, h1, _, t, rfl, ht, _, .ty "bool", _, _, true, rfl, .ty "bool", .base (.bl _), kit_self K _ rfl, _, rfl, iteF ?_⟩
  refine ⟨_, rfl, a, dx, _, rfl, h1, _, t, rfl, ht, _, rfl, da, _, _, .str t.term, rfl, rfl, SqT.of g1, rfl, 95, t.term, rfl, rfl, rfl, _, rfl, ite2 (fun c => ?_) (fun _ => ?_)⟩
  · exfalso
    rw [whole_term hf] at c
    simp at c
  -- the parts' terms
  refine ⟨_, rfl, a, dx, t, pp, ws, rfl, h1, h2, fun H1 s1 D1 hD1 => lc_map (ys := (T.terms t.parts).map V.str) walk_tup hD1 (fun H' s => SqT.of (s _ _ (s1 _ _ h2))) (by rw [terms_map]; simp [hwl]) (by omega) (fun i x y H' R hx hy sm hR => ?_) ?_⟩
  · obtain ⟨u, e, hu⟩ := h3.get hx
    obtain ⟨ua, ux, up, uvs, rfl, u1, u2, u3⟩ := hu.ex
    rw [terms_map, List.map_map] at hy
    have ey := get_map (f := V.str ∘ T.term) e hy
    subst ey
    exact ⟨rfl, _, rfl, ua, C, ux, _, _, rfl, sm _ _ (s1 _ _ u1), T1.cl, T1.nTerm, fT_term, hR⟩
  have s2 := s1.trans (sameN (o := .lst ((T.terms t.parts).map V.str)) hD1)
  have e1 : (upd H1 D1 (.lst ((T.terms t.parts).map V.str))) D1 = some (.lst ((T.terms t.parts).map V.str)) := upd_same
  generalize upd H1 D1 (.lst ((T.terms t.parts).map V.str)) = H2 at s2 e1 ⊢
  refine ⟨_, rfl, da, _, _, .ref dl, rfl, rfl, SqT.of (s2 _ _ g1), rfl, dl, rfl, ⟨_, SqL.of (s2 _ _ g3)⟩, fun D2 hD2 => lc_map (ys := (T.terms t.parts).map V.str) walk_list hD2 (fun H' s => SqL.of (s _ _ (s2 _ _ g3))) (by rw [terms_map]; simp [hdl]) (by omega) (fun i x y H' R hx hy sm hR => ?_) ?_⟩
  · obtain ⟨u, e, hu⟩ := g4.get hx
    obtain ⟨ua, ul, uvs, rfl, u1, u2, u3, u4⟩ := hu.ex
    rw [terms_map, List.map_map] at hy
    have ey := get_map (f := V.str ∘ T.term) e hy
    subst ey
    exact ⟨rfl, _, rfl, ua, _, _, .str u.term, rfl, rfl, SqT.of (sm _ _ (s2 _ _ u1)), rfl, hR⟩
  have s3 := s2.trans (sameN (o := .lst ((T.terms t.parts).map V.str)) hD2)
  have e2 : (upd H2 D2 (.lst ((T.terms t.parts).map V.str))) D2 = some (.lst ((T.terms t.parts).map V.str)) := upd_same
  have e1' := sameN (o := .lst ((T.terms t.parts).map V.str)) hD2 _ _ e1
  generalize upd H2 D2 (.lst ((T.terms t.parts).map V.str)) = H3 at s3 e2 e1' ⊢
  have shp : SeqAt.shaped (txtL (T.terms t.parts)) = true := shaped_strs fun x hx => by
    rw [terms_map] at hx
    obtain ⟨u, hu, rfl⟩ := List.mem_map.mp hx
    exact term_ok (hpf u hu)
  refine ⟨_, _, dp_strs e1', dp_strs e2, shp, shp, ?_⟩
  rw [eqv_strs]
  refine ⟨_, rfl, iteF ?_⟩
  -- their number
  refine ⟨_, rfl, a, C, dx, _, _, rfl, s3 _ _ h1, T1.cl, T1.nParts, fT_parts, pp, ws, rfl, .inr (SqT.of (s3 _ _ h2)), _, rfl, da, _, _, .ref dl, rfl, rfl, SqT.of (s3 _ _ g1), rfl, dl, dvs, rfl, .inl (SqL.of (s3 _ _ g3)), rfl, _, rfl, ite2 (fun c => absurd c ?_) (fun _ => ?_)⟩
  · rw [hwl, hdl]
    simp
  -- each of them
  refine ⟨_, rfl, da, _, _, .ref dl, rfl, rfl, SqT.of (s3 _ _ g1), rfl, dl, dvs, rfl, .inl (SqL.of (s3 _ _ g3)), _, rfl, by omega, by omega, ?_⟩
  refine for_range (n := dvs.length) (fun i σ H' => Same H H' ∧ ∃ w3, σ = [some (.ref a), some (.ref da), none, w3]) ⟨s3, none, rfl⟩ ?_ ?_
  · rintro i σ H4 hi ⟨s4, w3, rfl⟩
    refine name_go ?_
    dsimp only
    rw [Int.zero_add]
    obtain ⟨x, hx⟩ : ∃ x, ws[i]? = some x := ⟨_, List.getElem?_eq_getElem (by omega)⟩
    obtain ⟨y, hy⟩ : ∃ y, dvs[i]? = some y := ⟨_, List.getElem?_eq_getElem hi⟩
    obtain ⟨u, hu, hux⟩ := h3.get hx
    obtain ⟨u', hu', huy⟩ := g4.get hy
    rw [hu] at hu'
    cases hu'
    have hum := List.mem_of_getElem? hu
    have hlv := levels_part hum
    have hu1 := levels_pos u
    refine ⟨_, rfl, a, C, dx, _, _, rfl, s4 _ _ h1, T1.cl, T1.nParts, fT_parts, _, rfl, pp, ws, _, x, rfl, rfl, SqT.of (s4 _ _ h2), atI_nat hx, _, rfl, da, _, _, .ref dl, rfl, rfl, SqT.of (s4 _ _ g1), rfl, _, rfl, dl, dvs, _, y, rfl, rfl, SqL.of (s4 _ _ g3), atI_nat hy, ?_⟩
    refine hD _ _ _ _ (by omega) ⟨x, y, u, X, rfl, hux.mono s4, huy.mono s4, hpf u hum, by omega, fun H5 s5 => ⟨_, rfl, iteF ⟨s4.trans s5, _, rfl⟩⟩⟩
  · rintro σ H4 ⟨s4, w3, rfl⟩
    exact q H4 s4
theorem ok_good {fIt fi pW gW : Addr} {fdIt fdW : FuncData} (T1 : Tt K C) (T2 : Ti K C) (gT : mg "Tree" = some (.ref C)) (Fit : Fun K "__iter__" "Tree.__iter__" sIter fIt fdIt) (hs : PySem.W.findIn K (.ref C) "__iter__" = some (some (.ref fIt))) (hfn : PySem.W.isFn K (.ref fIt) = true)
    (Wp : Wh K C pW gW fdW) (Fw : FnOk P w K mg base CX0 1 gW fdW ["self"] (spWhole C)) (gi : Gf K mg "_law_is" fi) (Fi : FnR P w K mg base CX0 1 fi spIs) (mI : mg "isinstance" = none) (mt : mg "tuple" = none) (mb : mg "bool" = none) (ml : mg "len" = none) (mr : mg "range" = none) (mit : mg "iter" = none)
    {f : Addr} {fd : FuncData} (F : Fun K "_law_good" "_law_good" sGood f fd) (gm : Gf K mg "_law_good" f) : ∀ D : Nat, FnR P w K mg base CX0 (D + 3) f (spGood C D)
  | 0 => good_step T1 T2 gT Fit hs hfn Wp Fw gi Fi mI mt mb ml mr mit F gm (k := 0) (sp := fun _ _ _ _ => False) (fun _ _ _ _ _ _ _ _ _ _ _ hs => hs.elim) fun _ _ _ _ h => absurd rfl h
  | D + 1 => good_step T1 T2 gT Fit hs hfn Wp Fw gi Fi mI mt mb ml mr mit F gm (k := D + 1) (ok_good T1 T2 gT Fit hs hfn Wp Fw gi Fi mI mt mb ml mr mit F gm D) fun _ _ _ _ _ h => h
end
end Tw
set_option maxHeartbeats 4000000
/-! _law_walk. -/
namespace Tw
open PySem PySem.Spec PyProof.Rows L2
/-- a row of the walk: a path and what is due there -/
def RowAt (X : List Addr) (H : Hp) (v : V) (e : Path × T) : Prop := ∃ a q d, v = .ref a ∧ H a = some (.tup [.ref q, d]) ∧ H q = some (.tup (pV e.1)) ∧ DueAt X H d e.2
theorem RowAt.kept {X : List Addr} {H H' : Hp} (k : KeptBut X H H') (f : Firm H H') {v : V} {e : Path × T} (h : RowAt X H v e) : RowAt X H' v e := by
  obtain ⟨a, q, d, rfl, h1, h2, h3⟩ := h
  exact ⟨a, q, d, rfl, f.1 _ _ h1, f.1 _ _ h2, h3.kept k f fun _ h => h⟩
abbrev Rows (X : List Addr) (H : Hp) : List V → List (Path × T) → Prop := Paired (RowAt X H)
theorem Rows.kept {X : List Addr} {H H' : Hp} (k : KeptBut X H H') (f : Firm H H') {vs : List V} {es : List (Path × T)} (h : Rows X H vs es) : Rows X H' vs es := Paired.mapP h fun _ _ x => x.kept k f
theorem Rows.mono {X : List Addr} {H H' : Hp} (s : Same H H') {vs : List V} {es : List (Path × T)} (h : Rows X H vs es) : Rows X H' vs es := h.kept (.of s) (.of s)
theorem paired_append {α β : Type} {F : α → β → Prop} : ∀ {l₁ m₁ : List α} {l₂ m₂ : List β}, Paired F l₁ l₂ → Paired F m₁ m₂ → Paired F (l₁ ++ m₁) (l₂ ++ m₂)
  | _, _, _, _, .nil, h => h
  | _, _, _, _, .cons r t, h => .cons r (paired_append t h)
theorem walks_snoc (pa : Path) (t : T) : ∀ (l : List T) (j : Nat), T.walks pa j (l ++ [t]) = T.walks pa j l ++ t.walk (pa ++ [j + l.length])
  | [], j => by
    show T.walks pa j [t] = _
    unfold T.walks
    unfold T.walks
    simp
  | a :: l, j => by
    have ih := walks_snoc pa t l (j + 1)
    show T.walks pa j (a :: (l ++ [t])) = T.walks pa j (a :: l) ++ _
    unfold T.walks
    rw [ih, List.append_assoc, List.length_cons, show j + 1 + l.length = j + (l.length + 1) by omega]
theorem sizes_take : ∀ (l : List T) (i : Nat), T.sizes (l.take i) ≤ T.sizes l
  | [], i => by rw [List.take_nil]; exact Nat.le_refl _
  | a :: l, 0 => by rw [List.take_zero]; unfold T.sizes; omega
  | a :: l, i + 1 => by
    have := sizes_take l i
    rw [List.take_succ_cons]
    unfold T.sizes
    omega
theorem walks_le (pa : Path) (j : Nat) (l : List T) (i : Nat) : (T.walks pa j (l.take i)).length ≤ T.sizes l := by
  rw [walks_len]
  exact sizes_take l i
theorem sizes_le (t : T) : T.sizes t.parts + 1 = t.size := by
  cases t with
  | node n ps =>
    rw [size_node]
    show T.sizes ps + 1 = _
    omega
end Tw
set_option maxHeartbeats 4000000
/-! isinstance of a caught error that has attributes of its own. -/
namespace Tw
open PySem PySem.Spec PySem.Calls PyProof.Rows
section
variable {prog : Program} {w : World} {A : Around} {E : Value → Shared → Prop} {sh : Shared} {K : PySem.W.Frag} {err D : Addr} {oe : Obj} {own : Option Obj}
/-- the error's class, asked by its attribute; what it finds is a data descriptor's -/
theorem own_class (T : L2.ExcC K D) (kin : K.In sh.heap) (at_ : PySem.W.InstAt sh.heap err oe D own)
    (found : PySem.W.findObj K D own "__class__" = some (.bind (.builtin "getset_descriptor.__get__") (.builtin "object.__class__"))) {R : Option Value → Shared → Prop} (hR : R (some (.ref D)) { sh with toks := sh.toks + 1 }) :
    wpAny (model prog w) A (getAttr? (.ref err) "__class__") R E sh := by
  obtain ⟨hp, gs, dr, tk, os⟩ := sh
  have ty := at_.type (M := model prog w)
  have isE : PySem.W.Looks (model prog w) hp (isInstance (.ref err) (.type "BaseException")) true := ty.andThen (PySem.W.looks_subIn kin T.hs)
  have noHook : (onTheHeap (Value.ref D) && Value.builtin "BaseException.__getattribute__" == Value.builtin "object.__getattribute__") = false := by rw [Bool.and_eq_false_iff]; exact .inr (by decide +kernel)
  unfold getAttr? getAttrBy? getAttrBy
  refine wpAny_bind (wpAny_mkText (wpAny_bind (wpAny_attempt (wpAny_holding (wpAny_bind (ty.at (wpAny_bind ((PySem.W.looks_findIn (M := model prog w) kin T.hg).at ?_))))))))
  show wpAny _ _ (ite (_ = true) _ _) _ _ _
  rw [noHook, if_neg (by decide)]
  unfold getAttrByItsOwn hookBefore
  refine wpAny_bind ?_
  rw [if_pos (by rfl)]
  refine (PySem.W.looks_findIn (M := model prog w) kin T.hk).at ?_
  unfold callGetattribute
  refine wpAny_bind (wpAny_attempt (wpAny_holding ?_))
  rw [Bool.false_and, if_neg (by decide)]
  unfold boundAndCalled
  rw [PySem.F.excAttr_ValueError.ga.bind (.ref err)]
  refine wpAny_bind (wpAny_pure (wpAny_call (codeAny_call_builtin PySem.F.excAttr_ValueError.ga.plain PySem.F.entry_bexc_ga ?_)))
  refine @PySem.W.check_slot (model prog w) _ _ { heap := hp, gens := gs, drawn := dr, toks := tk + 1, os := os } "BaseException.__getattribute__" "BaseException" "__getattribute__" (.ref err) [.str "__class__" tk] [] _ (by decide +kernel) (by decide +kernel) isE (PySem.F.args_bexc_ga _ _) ?_
  unfold Builtin.«object.__getattribute__»
  refine wpAny_bind (wpAny_of_eq (a := (Value.ref err, [Value.str "__class__" tk])) (by first | rfl | (simp only [slotArgs]; rfl)) (wpAny_bind (wpAny_pure (wpAny_bind (ty.at (wpAny_bind ((PySem.W.looks_find (M := model prog w) kin at_ found).at ?_)))))))
  show wpAny _ _ (holding [Value.builtin "object.__class__"] (call (.builtin "getset_descriptor.__get__") [.builtin "object.__class__", .ref err, .ref D]) >>= ret) _ _ _
  refine wpAny_bind (wpAny_holding (wpAny_call (PySem.W.class_get (s := { heap := hp, gens := gs, drawn := dr, toks := tk + 1, os := os }) (ox := oe) (od := own) kin at_ T.hm (wpAny_pure ?_))))
  show wpAny _ _ (handedOut (.ref D)) _ _ _
  rw [PySem.W.handedOut_of (v := .ref D) rfl]
  first
    | exact wpAny_pure (wpAny_pure hR)
    | exact wpAny_pure hR
theorem own_kit {od : Obj} (T : L2.ExcC K D) (self : PySem.W.kitCls K (.ref D) (.ref D) = some true) : PySem.W.KitX K (.ref err) (.ref D) (fun h => PySem.W.InstAt h err oe D (some od)) where
  ty := fun _ _ _ I => I.type
  it := fun M h kin _ => (PySem.W.kit_cls (M := M) kin self).2.1
  ne := fun h tp dd its n sl kin e => (PySem.W.handS_kitx_exc (x := err) (ox := oe) T.hg T.hk T.hs T.hd T.ha T.hn T.ht T.hm).ne h tp dd its n sl kin e
  ca := fun kin at_ q => own_class T kin at_ (PySem.W.findObj_data (by obtain ⟨cd, hc, _⟩ := PySem.W.any_some T.hd; rw [hc]; rfl) T.ha T.hn T.ht) q
end
open L2
/-- isinstance(e, c), e the caught error with its own attributes -/
def rIsO (K : PySem.W.Frag) (a D : Addr) (cls : Value) (d : Option Addr) : List V → Hp → VK → Prop := fun xs H Q => ∃ (c : V) (cv : Value) (b : Bool) (dd : Addr) (fs : List (Str × V)), xs = [.ref a, c] ∧ cls = .ref D ∧ d = some dd ∧ ClsV c cv ∧ H dd = some (.xd fs) ∧ PySem.W.kitOne K (.ref D) cv = some b ∧ Q (.bl b) H
theorem call_isO {X : Cx} {a D : Addr} {cls : Value} {d : Option Addr} {oe : Obj} {pn : List (Addr × Obj)} (T : ExcC X.K D) (self : PySem.W.kitCls X.K (.ref D) (.ref D) = some true) (hz : Zc cls d oe) (hf : ∃ vs, oe.data = .fields vs) : CallR (X.suite a ((a, oe) :: pn)) (.builtin "isinstance") (rIsO X.K a D cls d) := by
  intro pins s σ H xs us Q I r h
  obtain ⟨c, cv, b, dd, fs, rfl, rfl, rfl, hc, hd, e, q⟩ := h
  obtain ⟨u1, u2, rfl, r1, r2⟩ := vals2 r
  have e2 := hc.eq r2
  subst e2
  obtain rfl : u1 = Value.ref a := r1
  obtain ⟨ha, _⟩ := I.pin (a, oe) (List.mem_append_left _ List.mem_cons_self)
  obtain ⟨vs, hv⟩ := hf
  have hx : ObjOk X.prog X.w H s.heap dd (.xd fs) := I.hok dd _ hd
  obtain ⟨mA, hns, _⟩ := hx
  obtain ⟨od, ho, _⟩ := lookIn_ns hns
  have J : PySem.W.InstAt s.heap a oe D (some od) := ⟨ha, hz.1, by unfold PySem.W.notCls; rw [hv] <;> rfl, by rw [hz.2]; exact ho⟩
  exact PySem.W.kia_one (own_kit T self) I.kIn J e (fun z => nomatch z) fun tk => ⟨.bl b, H, I.tok tk, rfl, q⟩
/-- what the top says of an error's class to those that catch it: CW the class above, CO the other one -/
structure Er (K : PySem.W.Frag) (mg : Str → Option Value) (x f : Str) (C CW CO : Addr) : Prop where
  gC : mg x = some (.ref C)
  xf : XfC K C
  ex : ExcC K C
  nf : PySem.W.findIn K (.ref C) f = some none
  te : PySem.W.exmOne K (.ref C) (.ref C) = some true
  self : PySem.W.kitCls K (.ref C) (.ref C) = some true
  kW : PySem.W.kitOne K (.ref C) (.ref CW) = some true
  kV : PySem.W.kitOne K (.ref C) (.type "ValueError") = some true
  kO : PySem.W.kitOne K (.ref C) (.ref CO) = some false
end Tw
set_option maxHeartbeats 4000000
/-! y[x] and C.m(..), what they raise wished for at the slots as they stand. -/
namespace Tw
open PySem PySem.Spec PyProof.Rows L2 ClX
section
variable {X : Cx} {CX : CXT} {n : Nat} {C g : Addr} {sp : Sp} {E : L2.St → XK}
theorem run_slots {A : Around} {pins : List (Addr × Obj)} {σ : L2.St} {H : Hp} {sh : Shared} {Q : VK} {us : List Value} {ws : List V} (F : FnR X.prog X.w X.K X.mg X.base CX n g sp) (hr : Room n A) (e0 : Env0 X.prog X.w X.K X.mg X.base A X.stack sh H) (hx : PassesAt CX X σ (E σ)) (I : Inv X pins σ H sh)
    (r : Vals ws us) (h : sp ws H Q (E σ)) : codeAny (model X.prog X.w) A (.call (.ref g) ⟨us, []⟩) (fun r s' => match r with | .ok (.ret v) => EP X pins σ Q v s' | .ok _ => False | .error e => X.xe e s') sh := by
  refine codeAny_mono (F A X.stack sh H us ws Q (E σ) hr e0 r h) fun r s' z => ?_
  rcases r with e | fl
  · exact hx pins H sh e s' I z
  · rcases fl with _ | _ | _ | u <;> first | exact I.after z | exact z.elim
def tIxS (C : Addr) (sp : Sp) (E : L2.St → XK) (ta tb : TE) : TE := fun σ H Q => ta σ H fun x H1 => tb σ H1 fun y H2 => ∃ a dx fs, x = .ref a ∧ H2 a = some (.ins C dx fs) ∧ sp [x, y] H2 Q (E σ)
theorem pe_ixS {a b : Expr} {ta tb : TE} {pos : Pos} (hs : PySem.W.findIn X.K (.ref C) "__getitem__" = some (some (.ref g))) (hf : PySem.W.fnIn X.K g = true) (hfn : PySem.W.isFn X.K (.ref g) = true) (F : FnR X.prog X.w X.K X.mg X.base CX n g sp) (hr : Room (n + 1) X.A) (hx : ∀ σ, PassesAt CX X σ (E σ)) (ha : PE X a ta) (hb : PE X b tb)
    (hsl : ∀ (x : Addr) (i : Value), subscripted b true (.ref x) i = runValue (.builtin "lifetime.subscript" ⟨[.ref x, i], []⟩) := by intro _ _; with_unfolding_all rfl) : PE X (.Subscript a b pos) (tIxS C sp E ta tb) := by
  refine ⟨fun pins sh σ H Q I h => Subscript_ ?_⟩
  refine binT (R := fun x y H2 => ∃ a dx fs, x = .ref a ∧ H2 a = some (.ins C dx fs) ∧ sp [x, y] H2 Q (E σ)) ha hb I h fun v u s2 x y H2 I2 rx ry q => ?_
  obtain ⟨p, dx, fs, rfl, hp, q⟩ := q
  cases (show v = Value.ref p from rx)
  obtain ⟨mA, O, _⟩ := ins_get I2.hok hp
  obtain ⟨od, J, _⟩ := O.look
  obtain ⟨m, hF⟩ := I2.fr
  exact PySem.W.sub_K hF I2.ok.mod.kin J hs hf hfn (wpAny_call (run_slots (us := [.ref p, u]) (ws := [.ref p, y]) F hr.in1 I2.env0.in1 (hx σ) I2 (.cons rfl (.cons ry .nil)) q)) (hsl _ _)
def tCmS (C : Addr) (sp : Sp) (E : L2.St → XK) (ta : TE) (t : TA) : TE := fun σ H Q => ta σ H fun x H1 => x = .ref C ∧ t σ H1 fun vs H2 => sp (.ref C :: vs) H2 Q (E σ)
theorem pe_cmS {mc : Value} {o e : Expr} {es : List Expr} {m : Str} {p : Addr} {pos apos : Pos} {ta : TE} {t : TA} {pl : Sem Bool} (he : PE X o ta) (rd : CRead X.K C mc) (c : CMet X.K C mc m p g) (F : FnR X.prog X.w X.K X.mg X.base CX n g sp) (hr : Room n X.A) (hx : ∀ σ, PassesAt CX X σ (E σ)) (ha : PA X (e :: es) t)
    (hst : starEach (e :: es) X.env = (false, eval e X.env) :: starEach es X.env := by rfl) (hpl : (backTo pos (starEach es X.env)).any (·.1) = false := by rfl)
    (ht : eval (.Call (.Attribute o m apos) (e :: es) [] pos) X.env = (do
      let v ← eval o X.env
      standAt apos.atName
      let (f, ahead) ← holding [v] (getMethod v m pl)
      callWith pos f ahead (backTo pos (starEach (e :: es) X.env)) (backToKw pos (keywordEach [] X.env))) := by rfl) : PE X (.Call (.Attribute o m apos) (e :: es) [] pos) (tCmS C sp E ta t) := by
  refine ⟨fun pins sh σ H Q I h => PySem.W.methodCall_KW (pl := pl) (thn (he.run pins sh σ H _ I h) fun u s1 z => ?_) ht⟩
  obtain ⟨x, H1, I1, rx, rfl, q⟩ := z
  cases (show u = Value.ref C from rx)
  refine getmethcm_ok I1 rd c fun s2 I2 => callwith_cm I2 (base_none I1 (Nat.le_refl _)) c.fi (thn (ha.run pos _ s2 σ H1 _ I2 q) fun us s3 z3 => ?_) hst hpl
  obtain ⟨vs, H2, I3, rv, q2⟩ := z3
  refine ⟨⟨pin_at I3, I3.kIn⟩, ?_⟩
  have run := run_slots (us := .ref C :: us) (ws := .ref C :: vs) F hr I3.env0 (hx σ) I3 (.cons rfl rv) q2
  exact thn (wpAny_call (PySem.W.method_call (pin_at I3) run)) fun _ _ y => unpinE y
end
end Tw
set_option maxHeartbeats 4000000
/-! &, is_hole, covers. -/
namespace Tw
open PySem PySem.Spec PyProof.Rows L2 RZ
abbrev sIsHole : Stmt := top 16
abbrev sAnd : Stmt := sTree 8
abbrev sCovers : Stmt := sTree 9
/-- x op y of two instances of the class at C by its own def at g -/
theorem op_binD {X : Cx} {CX : CXT} {C g : Addr} {n : Nat} {sp : Sp} {E : XK} {op : Operator} (hc : PySem.W.selfFirst X.K C = true) (hs : PySem.W.findIn X.K (.ref C) (PySem.dunder op.info.2) = some (some (.ref g))) (hf : PySem.W.isFn X.K (.ref g) = true) (F : FnR X.prog X.w X.K X.mg X.base CX n g sp)
    (hr : Room n X.A) (hx : Passes CX X E) : OpR X (binaryOp op) (rOwnD C sp E) := by
  intro pins s σ H x y v u Q I rx ry h
  obtain ⟨a, dx, fs, b, dy, gs, rfl, rfl, ha, hb, q⟩ := h
  cases (show v = Value.ref a from rx)
  cases (show u = Value.ref b from ry)
  obtain ⟨mA, O, _⟩ := ins_get I.hok ha
  obtain ⟨od, J, _⟩ := O.look
  obtain ⟨mB, O', _⟩ := ins_get I.hok hb
  obtain ⟨od', J', _⟩ := O'.look
  obtain ⟨m, hF⟩ := I.fr
  refine PySem.W.binop_K (op := op) hF I.ok.mod.kin J J'.type hc hs hf ?_
  refine wpAny_mono (wpAny_call (run_fnR (us := [.ref a, .ref b]) (vs := [.ref a, .ref b]) F hr hx I (.cons rfl (.cons rfl .nil)) q)) (fun w s' z => ?_) fun _ _ x => x
  obtain ⟨z', H', I', rz, qz⟩ := z
  exact SlX.cmpback rz ⟨z', H', I', rz, qz⟩
/-- zip of two tuples of one length -/
theorem walk_zipT {K : PySem.W.Frag} {a b : Addr} {xs ys : List V} (hl : xs.length = ys.length) : Walk (ItzT K a b) xs.length (fun H => SqT K H a xs ∧ SqT K H b ys) (YPair (fun i => xs[i]?) (fun i => ys[i]?)) := by
  refine ⟨fun i _ hi q => ?_, fun _ q => ⟨xs, ys, q.1, q.2, by omega⟩, fun i H v H' _ q y => ?_⟩
  · have h2 : i < ys.length := by omega
    exact ⟨xs, ys, xs[i], ys[i], q.1, q.2, by simp [hi], by simp [h2]⟩
  · obtain ⟨T, x, z, h1, h2, h3, h4, h5⟩ := y
    exact ⟨T, x, z, h1, h2, h3, h4 xs q.1, h5 ys q.2⟩
/-- the elements are told by a relation, whatever is walked -/
theorem lc_relY {J : It} {n : Nat} {G : Hp → Prop} {Y : Nat → Hp → V → Hp → Prop} (w : Walk J n G Y) {g : TG} {te : TE} {vs : List Nat} {σ : L2.St} {H1 : Hp} {D : Addr} {Qd : Hp → Prop} (hD : H1 D = none) (hG : ∀ H, Same H1 H → G H) (hz : n ≤ sizeLine) (Rel : Nat → V → Hp → Prop)
    (m1 : ∀ j v H H', Same H1 H → Same H H' → Rel j v H → Rel j v H') (m2 : ∀ j v H l l', Same H1 H → H D = some (.lst l) → Rel j v H → Rel j v (upd H D (.lst l')))
    (hs : ∀ (i : Nat) x H H' (R : VK), i < n → Y i H x H' → Same H1 H → (∃ l, H D = some (.lst l)) → (∀ y H4, Same H H4 → Rel i y H4 → R y H4) → g x (wipe σ vs) H' fun σ2 H2 => wipe σ2 vs = wipe σ vs ∧ te σ2 H2 R)
    (hd : ∀ H' ys, Same H1 H' → H' D = some (.lst ys) → ys.length = n → (∀ j v, ys[j]? = some v → Rel j v H') → Qd H') :
    ∃ W : Nat → Nat → Hp → Prop, (∃ m, W 0 m (upd H1 D (.lst []))) ∧ ∀ i m H, W i m H →
      (J.stop i H ∧ Qd H) ∨ (J.go i H ∧ ∃ Nx : Hp → Prop, (∀ H', Nx H' → ∃ m', m' < m ∧ W (i + 1) m' H') ∧ ∀ x H', J.yld i H x H' → g x (wipe σ vs) H' fun σ2 H2 => wipe σ2 vs = wipe σ vs ∧ tYes σ2 H2 fun b H3 =>
        if b = true then te σ2 H3 fun y H4 => ∃ acc, H4 D = some (.lst acc) ∧ acc.length < sizeLine ∧ Nx (upd H4 D (.lst (acc ++ [y]))) else Nx H3) := by
  refine lc_it w (fun i H => Same H1 H ∧ ∃ ys, H D = some (.lst ys) ∧ ys.length = i ∧ ∀ j v, ys[j]? = some v → Rel j v H) ⟨fun b o e => by rw [upd_ne (ne_of_none e hD)]; exact e, [], upd_same, rfl, fun j v e => by simp at e⟩ (fun i H _ e => hG _ e.1) (fun i x H H' hi e y => ?_) (fun H e => ?_)
  · obtain ⟨sm, ys, hDl, hyl, hR⟩ := e
    refine hs i x H H' (fun y H4 => ∃ acc, H4 D = some (.lst acc) ∧ acc.length < sizeLine ∧ Same H1 (upd H4 D (.lst (acc ++ [y]))) ∧ ∃ ys, (upd H4 D (.lst (acc ++ [y]))) D = some (.lst ys) ∧ ys.length = i + 1 ∧ ∀ j v, ys[j]? = some v → Rel j v (upd H4 D (.lst (acc ++ [y])))) hi y sm ⟨ys, hDl⟩
      (fun y H4 k r => ⟨ys, k _ _ hDl, by omega, fun b o e => by rw [upd_ne (ne_of_none e hD)]; exact k _ _ (sm _ _ e), ys ++ [y], upd_same, by rw [List.length_append, hyl] <;> rfl, fun j v e => ?_⟩)
    refine m2 j v H4 ys _ (sm.trans k) (k _ _ hDl) ?_
    by_cases hj : j < ys.length
    · rw [List.getElem?_append_left hj] at e
      exact m1 j v _ _ sm k (hR j v e)
    · have : j = ys.length := by
        have := (List.getElem?_eq_some_iff.mp e).1
        rw [List.length_append, List.length_singleton] at this
        omega
      subst this
      rw [List.getElem?_append_right (Nat.le_refl _), Nat.sub_self] at e
      have : y = v := by simpa using e
      subst this
      rw [hyl]
      exact r
  · obtain ⟨sm, ys, hDl, hyl, hR⟩ := e
    exact hd _ ys sm hDl hyl hR
/-- what & asks of the class -/
structure Ta (K : PySem.W.Frag) (C fA : Addr) : Prop where
  sf : PySem.W.selfFirst K C = true
  at_ : PySem.W.findIn K (.ref C) "__and__" = some (some (.ref fA))
  fn : PySem.W.isFn K (.ref fA) = true
def spIsHole (C : Addr) : Sp := fun vs H Q _ => ∃ (v : V) (t : T), vs = [v] ∧ TreeAt C H v t ∧ Q (.bl t.isH) H
/-- trees that the law has -/
def Sm (D : Nat) (t : T) : Prop := t.fine = true ∧ t.size ≤ 10000 ∧ t.levels ≤ D + 1
def spAnd (C : Addr) (D : Nat) : Sp := fun vs H Q _ => ∃ (v w : V) (t u : T), vs = [v, w] ∧ TreeAt C H v t ∧ TreeAt C H w u ∧ Sm D t ∧ Sm D u ∧ ∀ v' H', Same H H' → TreeAt C H' v' (tcom t u) → Q v' H'
theorem Sm.part {D : Nat} {t u : T} (h : Sm D t) (m : u ∈ t.parts) : Sm (D - 1) u ∧ D ≠ 0 := by
  have h1 := levels_part m
  have h2 := size_part m
  have h3 := levels_pos u
  have h4 := h.2.1
  have h5 := h.2.2
  exact ⟨⟨(fine_parts h.1).2 u m, by omega, by omega⟩, by omega⟩
section
variable {P : Program} {w : World} {K : PySem.W.Frag} {mg : Str → Option Value} {base : Heap} {C : Addr}
theorem scIH : FnScope ["tree"] ["tree"] (defScope sIsHole) := ⟨rfl, rfl, rfl, by decide +kernel, rfl, by decide +kernel, by decide +kernel⟩
theorem ok_isHole (T1 : Tt K C) {tk : Tok} (hH : mg "HOLE" = some (.str "_" tk)) {f : Addr} {fd : FuncData} (F : Fun K "is_hole" "is_hole" sIsHole f fd) : FnR P w K mg base CX0 1 f (spIsHole C) := by
  refine okR F scIH (fun vs H Q E h => ?_) (fun _ _ _ _ _ _ us hl => match us, hl with | [_], _ => rfl) (fun cdv A outer s H vs Q E hr h => ?_)
  · obtain ⟨v, t, rfl, _⟩ := h
    rfl
  obtain ⟨v, t, rfl, ht, q⟩ := h
  obtain ⟨a, dx, p, vs', rfl, h1, h2, h3⟩ := ht.ex
  have el := h3.len
  refine ⟨_, pss_one (ps_ret (pe_and (pe_cmpR op_eq (pe_fld (pv 0) rfl) (pe_gs hH) (nomark _)) (pe_one (pe_notT (pe_fld (pv 0) rfl))))), ?_⟩
  refine ⟨_, rfl, a, C, dx, _, _, rfl, h1, T1.cl, T1.nName, fT_name, rfl, _, rfl, ?_⟩
  unfold T.isH at q
  refine ite2 (fun c => ?_) (fun c => ?_)
  · have e : t.name = "_" := V.str.inj (of_decide_eq_true c)
    rw [decide_eq_true e, Bool.true_and] at q
    refine ⟨_, rfl, a, C, dx, _, _, rfl, h1, T1.cl, T1.nParts, fT_parts, _, .inr (.inl ⟨vs', SqT.of h2, rfl⟩), ?_⟩
    have e2 : (!(!vs'.isEmpty)) = t.parts.isEmpty := by
      rw [Bool.not_not]
      cases vs' with
      | nil => rw [List.eq_nil_of_length_eq_zero el.symm]; rfl
      | cons x r =>
        cases hp : t.parts with
        | nil => rw [hp] at el; simp at el
        | cons y r' => rfl
    rw [e2]
    exact q
  · have hn : ¬ t.name = "_" := fun e => c (decide_eq_true (congrArg V.str e))
    rw [decide_eq_false hn, Bool.false_and] at q
    exact q
end
end Tw
set_option maxHeartbeats 4000000
/-! Tree.__and__. -/
namespace Tw
open PySem PySem.Spec PyProof.Rows L2 RZ
section
variable {P : Program} {w : World} {K : PySem.W.Frag} {mg : Str → Option Value} {base : Heap} {C : Addr}
theorem scAnd : FnScope ["self", "other", "parts", "part", "twin"] ["self", "other"] (defScope sAnd) := ⟨rfl, rfl, rfl, by decide +kernel, rfl, by decide +kernel, by decide +kernel⟩
theorem and_step {fI fA : Addr} (T1 : Tt K C) (T2 : Ti K C) (M : Mk K C fI) (Fi : FnR P w K mg base CX0 3 fI (spMk C)) (gT : mg "Tree" = some (.ref C)) (mI : mg "isinstance" = none) (ml : mg "len" = none) (mz : mg "zip" = none) {tk : Tok} (hH : mg "HOLE" = some (.str "_" tk)) (Ta1 : Ta K C fA)
    {fd : FuncData} (F : Fun K "__and__" "Tree.__and__" sAnd fA fd) {k D : Nat} {sp : Sp} (FM : FnR P w K mg base CX0 (k + 4) fA sp) (hD : ∀ vs H Q E, D ≠ 0 → spAnd C (D - 1) vs H Q E → sp vs H Q E) : FnR P w K mg base CX0 (k + 5) fA (spAnd C D) := by
  refine okR F scAnd (fun vs H Q E h => ?_) (fun _ _ _ _ _ _ us hl => match us, hl with | [_, _], _ => rfl) (fun cdv A outer s H vs Q E hr h => ?_)
  · obtain ⟨v, w, t, u, rfl, _⟩ := h
    rfl
  obtain ⟨v, w, t, u, rfl, ht, hu, smt, smu, q⟩ := h
  have hr4 : Room 4 _ := hr.mono (by omega)
  refine ⟨_, pss_cons (ps_if (pt_not (pt_val (pe_callB call_isi (by rfl) mI (by decide +kernel) (pa_cons (pv 1) (pa_cons (pe_gr gT) pa_nil))))) (pss_one ps_never) pss_nil)
    (pss_cons (ps_if (PW.pt (pw_or (pt_cmpR op_ne (pe_fld (pv 0) rfl) (pe_fld (pv 1) rfl) (nomark _)) (pw_or1 (pt_cmpR op_ne (pe_callB call_len_seq (by rfl) ml PySem.boot_len (pa_cons (pe_fld (pv 0) rfl) pa_nil)) (pe_callB call_len_seq (by rfl) ml PySem.boot_len (pa_cons (pe_fld (pv 1) rfl) pa_nil)) (nomark _)))))
      (pss_one (ps_ret (pe_mk M Fi hr4 gT (pa_cons (pe_gs hH) pa_nil)))) pss_nil)
    (pss_cons (ps_setLc (i := 2) (own := [("part", 3), ("twin", 4)]) (g := gTup K 2 (gCons (gName 3) (gCons (gName 4) gNil))) (tt := tYes) (te := tOp (rOwnD C sp E0) (tVar 3) (tVar 4)) rfl scAnd.nd rfl rfl (by rfl) (pi_zipA (by rfl) mz (pa_cons (pe_fld (pv 0) rfl) (pa_cons (pe_fld (pv 1) rfl) pa_nil))) (blkOk_by (own := [("part", 3), ("twin", 4)]) (N := ["self", "other", "parts", "part", "twin"]) (sc := defScope sAnd) (by decide +kernel))
      (fun _ _ _ _ _ => by exact pg_tup rfl (pgs_cons (pg_name (i := 3) scAnd.nd rfl (Or.inl rfl)) (pgs_cons (pg_name (i := 4) scAnd.nd rfl (Or.inl rfl)) pgs_nil))) (fun _ _ _ _ _ => by exact pts_nil) (fun _ _ _ _ _ => by exact pe_op (op_binD Ta1.sf Ta1.at_ Ta1.fn FM hr pass0) (pv 3) (pv 4)))
    (pss_one (ps_ret (pe_mkS M Fi hr4 gT (pa_cons (pe_fld (pv 0) rfl) (StX.pa_star (pv 2) pa_nil)))))))
    , ?_⟩
  have sl := sizeLine_eq
  obtain ⟨a, dx, pa, vs, rfl, h1, h2, h3⟩ := ht.ex
  obtain ⟨b, dy, pb, ws, rfl, g1, g2, g3⟩ := hu.ex
  have el := h3.len
  have el2 := g3.len
  have hp3 := (fine_parts smt.1).1
  have et : t = .node t.name t.parts := by cases t; rfl
  have eu : u = .node u.name u.parts := by cases u; rfl
  refine ⟨_, rfl, _, .ref C, _, _, true, rfl, .own C, .base (.ins g1 T1.cl T2.ca T2.cn T2.ct T2.cm), kit_ref K C, _, rfl, iteF ?_⟩
  have fitH : TermFits "_" [] := fits_small (fine_leaf (by decide +kernel)) (by rw [size_node, sizes_nil]; omega)
  have no : ¬ (t.name = u.name ∧ t.parts.length = u.parts.length) → 
      (tRet (tMkT C (tCons (tC (.str "_")) tNil))) { nx := fun _ H' => Q .non H', rt := Q } [some (.ref a), some (.ref b), none, none, none] H := fun hne => by
    refine ⟨"_", [], [], rfl, (by unfold TreesAt; trivial), fitH, fun a' H' s' ht' => q _ H' s' ?_⟩
    rw [et, eu, tcom_eq, if_neg hne]
    exact ht'
  refine ⟨_, rfl, a, C, dx, _, _, rfl, h1, T1.cl, T1.nName, fT_name, _, rfl, b, C, dy, _, _, rfl, g1, T1.cl, T1.nName, fT_name, rfl, _, rfl, ?_⟩
  refine ite2 (fun c => ?_) (fun c => ?_)
  · refine iteT ?_
    refine no fun e => ?_
    rw [e.1] at c
    simp at c
  have hn : t.name = u.name := by
    simp at c
    exact c
  refine ⟨_, rfl, a, C, dx, _, _, rfl, h1, T1.cl, T1.nParts, fT_parts, pa, vs, rfl, .inr (SqT.of h2), _, rfl, b, C, dy, _, _, rfl, g1, T1.cl, T1.nParts, fT_parts, pb, ws, rfl, .inr (SqT.of g2), rfl, _, rfl, ?_⟩
  refine ite2 (fun c => ?_) (fun c => ?_)
  · refine no fun e => ?_
    rw [el, el2, e.2] at c
    simp at c
  have hl : t.parts.length = u.parts.length := by
    rw [el, el2] at c
    simp at c
    omega
  have ec : tcom t u = .node t.name (tcoms t.parts u.parts) := by
    conv => lhs; rw [et, eu]
    rw [tcom_eq, if_pos ⟨hn, hl⟩]
  have hfit : TermFits t.name (tcoms t.parts u.parts) := by
    refine fits_small ?_ ?_
    · rw [← ec]; exact tcom_fine t u smt.1
    · rw [← ec]
      have := tcom_size t u
      have := smt.2.1
      omega
  refine ⟨_, rfl, a, C, dx, _, _, rfl, h1, T1.cl, T1.nParts, fT_parts, _, rfl, b, C, dy, _, _, rfl, g1, T1.cl, T1.nParts, fT_parts, pa, pb, vs, ws, rfl, .inr ⟨SqT.of h2, SqT.of g2, fun D' hD' => ?_⟩⟩
  refine lc_relY (walk_zipT (by omega)) hD' (fun H' s => ⟨SqT.of (s _ _ h2), SqT.of (s _ _ g2)⟩) (by omega) (fun j v H' => ∃ x, (tcoms t.parts u.parts)[j]? = some x ∧ TreeAt C H' v x) ?_ ?_ ?_ ?_
  · rintro j v H1 H2 _ s ⟨x, e, hx⟩
    exact ⟨x, e, hx.mono s⟩
  · rintro j v H1 l l' _ e1 ⟨x, e, hx⟩
    exact ⟨x, e, hx.firm (Firm.list e1)⟩
  · rintro i x H1 H2 R hi ⟨T, x1, x2, rfl, nT, rfl, e1, e2⟩ sm _ hR
    have s2 := sameN (o := .tup [x1, x2]) nT
    obtain ⟨t1, ht1, hx1⟩ := h3.get e1
    obtain ⟨t2, ht2, hx2⟩ := g3.get e2
    obtain ⟨sp1, nD⟩ := smt.part (List.mem_of_getElem? ht1)
    obtain ⟨sp2, _⟩ := smu.part (List.mem_of_getElem? ht2)
    refine ⟨T, _, rfl, SqT.of upd_same, rfl, _, _, rfl, _, _, rfl, rfl, ?_⟩
    have k1 : TreeAt C (upd H1 T (.tup [x1, x2])) x1 t1 := hx1.mono (sm.trans s2)
    have k2 : TreeAt C (upd H1 T (.tup [x1, x2])) x2 t2 := hx2.mono (sm.trans s2)
    obtain ⟨a1, d1, q1, v1, rfl, u1, _, _⟩ := k1.ex
    obtain ⟨a2, d2, q2, v2, rfl, u2, _, _⟩ := k2.ex
    refine ⟨rfl, _, rfl, _, rfl, a1, d1, _, a2, d2, _, rfl, rfl, u1, u2, ?_⟩
    exact hD _ _ _ _ nD ⟨_, _, t1, t2, rfl, k1, k2, sp1, sp2, fun v' H' k' hv' => hR v' H' (s2.trans k') ⟨_, tcoms_get _ _ _ ht1 ht2, hv'⟩⟩
  · intro H1 ys sm hys hyl hyr
    have hts : TreesAt C H1 ys (tcoms t.parts u.parts) := rel_trees (by rw [tcoms_len _ _ hl]; omega) hyr
    refine name_go ?_
    dsimp only
    refine ⟨_, rfl, a, C, dx, _, _, rfl, sm _ _ h1, T1.cl, T1.nName, fT_name, _, rfl, D', ys, rfl, .inr (SqL.of hys), ?_⟩
    refine ⟨t.name, ys, tcoms t.parts u.parts, (by simp), hts, hfit, fun a' H' s' ht' => q _ H' (sm.trans s') ?_⟩
    rw [ec]
    exact ht'
theorem ok_and {fI fA : Addr} (T1 : Tt K C) (T2 : Ti K C) (M : Mk K C fI) (Fi : FnR P w K mg base CX0 3 fI (spMk C)) (gT : mg "Tree" = some (.ref C)) (mI : mg "isinstance" = none) (ml : mg "len" = none) (mz : mg "zip" = none) {tk : Tok} (hH : mg "HOLE" = some (.str "_" tk)) (Ta1 : Ta K C fA)
    {fd : FuncData} (F : Fun K "__and__" "Tree.__and__" sAnd fA fd) : ∀ D : Nat, FnR P w K mg base CX0 (D + 5) fA (spAnd C D)
  | 0 => and_step T1 T2 M Fi gT mI ml mz hH Ta1 F (k := 0) (sp := fun _ _ _ _ => False) (fun _ _ _ _ _ _ _ _ _ _ _ hs => hs.elim) fun _ _ _ _ h => absurd rfl h
  | D + 1 => and_step T1 T2 M Fi gT mI ml mz hH Ta1 F (k := D + 1) (ok_and T1 T2 M Fi gT mI ml mz hH Ta1 F D) fun _ _ _ _ _ h => h
end
end Tw
set_option maxHeartbeats 4000000
/-! Tree.covers. -/
namespace Tw
open PySem PySem.Spec PyProof.Rows L2 RZ
def tovl : List T → List T → List Bool
  | p :: ps, q :: qs => tov p q :: tovl ps qs
  | [], _ => []
  | _ :: _, [] => []
theorem tovl_all : ∀ ps qs : List T, (tovl ps qs).all id = tovs ps qs
  | [], qs => by rw [tovs_nil]; rfl
  | p :: ps, [] => by unfold tovs; rfl
  | p :: ps, q :: qs => by
    rw [tovs_cons]
    show (id (tov p q) && (tovl ps qs).all id) = _
    rw [tovl_all ps qs]
    rfl
theorem tovl_vals : ∀ {ys : List V} {ps qs : List T}, ys.length = ps.length → ps.length = qs.length → (∀ (j : Nat) (v : V), ys[j]? = some v → ∃ p q, ps[j]? = some p ∧ qs[j]? = some q ∧ v = .bl (tov p q)) → ys = (tovl ps qs).map V.bl
  | [], [], [], _, _, _ => rfl
  | [], [], _ :: _, _, h, _ => by simp at h
  | [], _ :: _, _, h, _, _ => by simp at h
  | _ :: _, [], _, h, _, _ => by simp at h
  | _ :: _, _ :: _, [], _, h, _ => by simp at h
  | y :: ys, p :: ps, q :: qs, h1, h2, h => by
    obtain ⟨p', q', e1, e2, e3⟩ := h 0 y rfl
    have f1 : p = p' := by simpa using e1
    have f2 : q = q' := by simpa using e2
    subst f1 f2
    have ih : ys = (tovl ps qs).map V.bl := tovl_vals (by simpa using h1) (by simpa using h2) fun j v e => by
      obtain ⟨p', q', e1, e2, e3⟩ := h (j + 1) v (by simpa using e)
      exact ⟨p', q', by simpa using e1, by simpa using e2, e3⟩
    rw [e3, ih]
    rfl
theorem covNe : (("covers" : Str) == ("name" : Str)) = false ∧ (("covers" : Str) == ("parts" : Str)) = false ∧ (("covers" : Str) == ("size" : Str)) = false ∧ (("covers" : Str) == ("levels" : Str)) = false ∧ (("covers" : Str) == ("term" : Str)) = false ∧ (("covers" : Str) == ("_gaps" : Str)) = false ∧
  (("filled" : Str) == ("name" : Str)) = false ∧ (("filled" : Str) == ("parts" : Str)) = false ∧ (("filled" : Str) == ("size" : Str)) = false ∧ (("filled" : Str) == ("levels" : Str)) = false ∧ (("filled" : Str) == ("term" : Str)) = false ∧ (("filled" : Str) == ("_gaps" : Str)) = false ∧
  (("holes" : Str) == ("name" : Str)) = false ∧ (("holes" : Str) == ("parts" : Str)) = false ∧ (("holes" : Str) == ("size" : Str)) = false ∧ (("holes" : Str) == ("levels" : Str)) = false ∧ (("holes" : Str) == ("term" : Str)) = false ∧ (("holes" : Str) == ("_gaps" : Str)) = false := by decide +kernel
theorem fT_covers {p : Addr} {t : T} : (fT p t).lookup ("covers" : Str) = none := by simp only [fT, List.lookup, covNe]
theorem fT_filled {p : Addr} {t : T} : (fT p t).lookup ("filled" : Str) = none := by simp only [fT, List.lookup, covNe]
theorem fT_holes {p : Addr} {t : T} : (fT p t).lookup ("holes" : Str) = none := by simp only [fT, List.lookup, covNe]
def spCov (C : Addr) (D : Nat) : Sp := fun vs H Q _ => ∃ (v w : V) (t u : T), vs = [v, w] ∧ TreeAt C H v t ∧ TreeAt C H w u ∧ t.fine = true ∧ t.levels ≤ D + 1 ∧ ∀ H', Same H H' → Q (.bl (tov t u)) H'
section
variable {P : Program} {w : World} {K : PySem.W.Frag} {mg : Str → Option Value} {base : Heap} {C : Addr}
theorem scCov : FnScope ["self", "other", "part", "twin"] ["self", "other"] (defScope sCovers) := ⟨rfl, rfl, rfl, by decide +kernel, rfl, by decide +kernel, by decide +kernel⟩
theorem cov_step {fH fC : Addr} (T1 : Tt K C) (gH : Gf K mg "is_hole" fH) (FH : FnR P w K mg base CX0 1 fH (spIsHole C)) (ml : mg "len" = none) (mz : mg "zip" = none) (ma : mg "all" = none) (Mc : Meth K C "covers" fC)
    {fd : FuncData} (F : Fun K "covers" "Tree.covers" sCovers fC fd) {k D : Nat} {sp : Sp} (FM : FnR P w K mg base CX0 (k + 1) fC sp) (hD : ∀ vs H Q E, D ≠ 0 → spCov C (D - 1) vs H Q E → sp vs H Q E) : FnR P w K mg base CX0 (k + 2) fC (spCov C D) := by
  refine okR F scCov (fun vs H Q E h => ?_) (fun _ _ _ _ _ _ us hl => match us, hl with | [_, _], _ => rfl) (fun cdv A outer s H vs Q E hr h => ?_)
  · obtain ⟨v, w, t, u, rfl, _⟩ := h
    rfl
  obtain ⟨v, w, t, u, rfl, ht, hu, hf, hl, q⟩ := h
  have hr1 : Room 1 _ := hr.mono (by omega)
  refine ⟨_, pss_cons (ps_if (pt_val (pe_cf FH hr1 gH pass0 (pa_cons (pv 0) pa_nil))) (pss_one (ps_ret pe_bl)) pss_nil)
    (pss_cons (ps_if (PW.pt (pw_or (pt_cmpR op_ne (pe_fld (pv 0) rfl) (pe_fld (pv 1) rfl) (nomark _)) (pw_or1 (pt_cmpR op_ne (pe_callB call_len_seq (by rfl) ml PySem.boot_len (pa_cons (pe_fld (pv 0) rfl) pa_nil)) (pe_callB call_len_seq (by rfl) ml PySem.boot_len (pa_cons (pe_fld (pv 1) rfl) pa_nil)) (nomark _)))))
      (pss_one (ps_ret pe_bl)) pss_nil)
    (pss_one (ps_ret (pe_callB (cr_all rfl) (by rfl) ma (by decide +kernel) (pa_cons (pe_lc (own := [("part", 2), ("twin", 3)]) (g := gTup K 2 (gCons (gName 2) (gCons (gName 3) gNil))) (tt := tYes) (te := tMethR C "covers" sp E0 (tVar 2) (tCons (tVar 3) tNil)) rfl scCov.nd
      (pi_zipA (by rfl) mz (pa_cons (pe_fld (pv 0) rfl) (pa_cons (pe_fld (pv 1) rfl) pa_nil))) (blkOk_by (own := [("part", 2), ("twin", 3)]) (N := ["self", "other", "part", "twin"]) (sc := defScope sCovers) (by decide +kernel))
      (fun _ _ _ _ _ => by exact pg_tup rfl (pgs_cons (pg_name (i := 2) scCov.nd rfl (Or.inl rfl)) (pgs_cons (pg_name (i := 3) scCov.nd rfl (Or.inl rfl)) pgs_nil))) (fun _ _ _ _ _ => by exact pts_nil) (fun _ _ _ _ _ => by exact pe_methR (pv 2) T1.cl Mc FM hr pass0 (pa_cons (pv 3) pa_nil))) pa_nil)))))
    , ?_⟩
  have sl := sizeLine_eq
  obtain ⟨a, dx, pa, vs, rfl, h1, h2, h3⟩ := ht.ex
  obtain ⟨b, dy, pb, ws, rfl, g1, g2, g3⟩ := hu.ex
  have el := h3.len
  have el2 := g3.len
  have hp3 := (fine_parts hf).1
  have et : t = .node t.name t.parts := by cases t; rfl
  have eu : u = .node u.name u.parts := by cases u; rfl
  have eov : tov t u = if t.name = "_" ∧ t.parts = [] then true else if t.name = u.name ∧ t.parts.length = u.parts.length then tovs t.parts u.parts else false := by
    conv => lhs; rw [et, eu]
    exact tov_eq _ _ _ _
  refine ⟨_, rfl, _, t, rfl, ht, _, rfl, ?_⟩
  have eH : t.isH = true ↔ (t.name = "_" ∧ t.parts = []) := by
    unfold T.isH
    rw [Bool.and_eq_true, decide_eq_true_iff, List.isEmpty_iff]
  refine ite2 (fun c => ?_) (fun c => ?_)
  · rw [if_pos (eH.mp c)] at eov
    rw [eov] at q
    exact q H (Same.refl H)
  rw [if_neg fun z => c (eH.mpr z)] at eov
  refine ⟨_, rfl, a, C, dx, _, _, rfl, h1, T1.cl, T1.nName, fT_name, _, rfl, b, C, dy, _, _, rfl, g1, T1.cl, T1.nName, fT_name, rfl, _, rfl, ?_⟩
  refine ite2 (fun c => ?_) (fun c => ?_)
  · refine iteT ?_
    rw [if_neg fun e => by rw [e.1] at c; simp at c] at eov
    rw [eov] at q
    exact q H (Same.refl H)
  have hn : t.name = u.name := by
    simp at c
    exact c
  refine ⟨_, rfl, a, C, dx, _, _, rfl, h1, T1.cl, T1.nParts, fT_parts, pa, vs, rfl, .inr (SqT.of h2), _, rfl, b, C, dy, _, _, rfl, g1, T1.cl, T1.nParts, fT_parts, pb, ws, rfl, .inr (SqT.of g2), rfl, _, rfl, ?_⟩
  refine ite2 (fun c => ?_) (fun c => ?_)
  · rw [if_neg fun e => by rw [el, el2, e.2] at c; simp at c] at eov
    rw [eov] at q
    exact q H (Same.refl H)
  have hl2 : t.parts.length = u.parts.length := by
    rw [el, el2] at c
    simp at c
    omega
  rw [if_pos ⟨hn, hl2⟩, ← tovl_all] at eov
  refine ⟨_, rfl, a, C, dx, _, _, rfl, h1, T1.cl, T1.nParts, fT_parts, _, rfl, b, C, dy, _, _, rfl, g1, T1.cl, T1.nParts, fT_parts, pa, pb, vs, ws, rfl, .inr ⟨SqT.of h2, SqT.of g2, fun D' hD' => ?_⟩⟩
  refine lc_relY (walk_zipT (by omega)) hD' (fun H' s => ⟨SqT.of (s _ _ h2), SqT.of (s _ _ g2)⟩) (by omega) (fun j v _ => ∃ p q, t.parts[j]? = some p ∧ u.parts[j]? = some q ∧ v = .bl (tov p q)) ?_ ?_ ?_ ?_
  · rintro j v H1 H2 _ s x
    exact x
  · rintro j v H1 l l' _ e1 x
    exact x
  · rintro i x H1 H2 R hi ⟨T, x1, x2, rfl, nT, rfl, e1, e2⟩ sm _ hR
    have s2 := sameN (o := .tup [x1, x2]) nT
    obtain ⟨t1, ht1, hx1⟩ := h3.get e1
    obtain ⟨t2, ht2, hx2⟩ := g3.get e2
    have hm := List.mem_of_getElem? ht1
    have hlv := levels_part hm
    have hlp := levels_pos t1
    have k1 : TreeAt C (upd H1 T (.tup [x1, x2])) x1 t1 := hx1.mono (sm.trans s2)
    have k2 : TreeAt C (upd H1 T (.tup [x1, x2])) x2 t2 := hx2.mono (sm.trans s2)
    obtain ⟨a1, d1, q1, v1, rfl, u1, _, _⟩ := k1.ex
    refine ⟨T, _, rfl, SqT.of upd_same, rfl, _, _, rfl, _, _, rfl, rfl, ?_⟩
    refine ⟨rfl, _, rfl, a1, d1, _, rfl, u1, fT_covers, _, rfl, ?_⟩
    exact hD _ _ _ _ (by omega) ⟨_, _, t1, t2, rfl, k1, k2, (fine_parts hf).2 t1 hm, by omega, fun H' k' => hR _ H' (s2.trans k') ⟨t1, t2, ht1, ht2, rfl⟩⟩
  · intro H1 ys sm hys hyl hyr
    have ey := tovl_vals (by omega) hl2 hyr
    refine ⟨D', tovl t.parts u.parts, rfl, ?_, ?_⟩
    · rw [← ey]
      exact SqL.of hys
    · rw [← eov]
      exact q H1 sm
theorem ok_cov {fH fC : Addr} (T1 : Tt K C) (gH : Gf K mg "is_hole" fH) (FH : FnR P w K mg base CX0 1 fH (spIsHole C)) (ml : mg "len" = none) (mz : mg "zip" = none) (ma : mg "all" = none) (Mc : Meth K C "covers" fC)
    {fd : FuncData} (F : Fun K "covers" "Tree.covers" sCovers fC fd) : ∀ D : Nat, FnR P w K mg base CX0 (D + 2) fC (spCov C D)
  | 0 => cov_step T1 gH FH ml mz ma Mc F (k := 0) (sp := fun _ _ _ _ => False) (fun _ _ _ _ _ _ _ _ _ _ _ hs => hs.elim) fun _ _ _ _ h => absurd rfl h
  | D + 1 => cov_step T1 gH FH ml mz ma Mc F (k := D + 1) (ok_cov T1 gH FH ml mz ma Mc F D) fun _ _ _ _ _ h => h
end
end Tw
set_option maxHeartbeats 4000000
/-! Tree.holes. -/
namespace Tw
open PySem PySem.Spec PyProof.Rows L2 RZ
abbrev sHoles : Stmt := sTree 15
/-- a path as a tuple -/
def PathAt (H : Hp) (v : V) (p : Path) : Prop := ∃ q, v = .ref q ∧ H q = some (.tup (pV p))
theorem PathAt.firm {H H' : Hp} (f : Firm H H') {v : V} {p : Path} (h : PathAt H v p) : PathAt H' v p := by
  obtain ⟨q, rfl, e⟩ := h
  exact ⟨q, rfl, f.1 _ _ e⟩
abbrev PathsAt (H : Hp) : List V → List Path → Prop := Paired (PathAt H)
theorem PathsAt.firm {H H' : Hp} (f : Firm H H') {vs : List V} {ps : List Path} (h : PathsAt H vs ps) : PathsAt H' vs ps := Paired.mapP h fun _ _ x => x.firm f
def spHoles (C : Addr) : Sp := fun vs H Q _ => ∃ (v : V) (t : T), vs = [v] ∧ TreeAt C H v t ∧ t.fine = true ∧ t.size ≤ 1000000 ∧
  ∀ l H' ws, Same H H' → H l = none → H' l = some (.lst ws) → PathsAt H' ws (t.hs []) → Q (.ref l) H'
section
variable {P : Program} {w : World} {K : PySem.W.Frag} {mg : Str → Option Value} {base : Heap} {C : Addr}
theorem scHo : FnScope ["self", "path", "part"] ["self"] (defScope sHoles) := ⟨rfl, rfl, rfl, by decide +kernel, rfl, by decide +kernel, by decide +kernel⟩
theorem ok_holes {fp fH : Addr} (gp : Gf K mg "places" fp) (Fp : FnR P w K mg base CX0 1 fp (spPlaces C)) (gH : Gf K mg "is_hole" fH) (FH : FnR P w K mg base CX0 1 fH (spIsHole C)) {f : Addr} {fd : FuncData} (F : Fun K "holes" "Tree.holes" sHoles f fd) : FnR P w K mg base CX0 2 f (spHoles C) := by
  refine okR F scHo (fun vs H Q E h => ?_) (fun _ _ _ _ _ _ us hl => match us, hl with | [_], _ => rfl) (fun cdv A outer s H vs Q E hr h => ?_)
  · obtain ⟨v, t, rfl, _⟩ := h
    rfl
  obtain ⟨v, t, rfl, ht, hf, hsz, q⟩ := h
  refine ⟨_, pss_one (ps_ret (pe_lc (own := [("path", 1), ("part", 2)]) (g := gTup K 2 (gCons (gName 1) (gCons (gName 2) gNil))) (te := tVar 1) (tt := tB (tCf (spIsHole C) E0 (tCons (tVar 2) tNil))) rfl scHo.nd
      (pi_list (pe_cf Fp hr gp pass0 (pa_cons (pv 0) pa_nil))) (blkOk_by (own := [("path", 1), ("part", 2)]) (N := ["self", "path", "part"]) (sc := defScope sHoles) (by decide +kernel))
      (fun _ _ _ _ _ => by exact pg_tup rfl (pgs_cons (pg_name (i := 1) scHo.nd rfl (Or.inl rfl)) (pgs_cons (pg_name (i := 2) scHo.nd rfl (Or.inl rfl)) pgs_nil))) (fun _ _ _ _ _ => by exact pts_one (pt_val (pe_cf FH hr gH pass0 (pa_cons (pv 2) pa_nil)))) (fun _ _ _ _ _ => by exact pv 1))), ?_⟩
  have sl := sizeLine_eq
  refine ⟨v, rfl, v, t, rfl, ht, hsz, fun l H1 ws sm nl hl en => ?_⟩
  have wl := paired_len en
  have wk := walk_len [] t
  refine ⟨l, rfl, ⟨ws, SqL.of hl⟩, fun D hD => ?_⟩
  refine lc_it walk_list (fun i H' => Same H1 H' ∧ ∃ ys, H' D = some (.lst ys) ∧ PathsAt H' ys ((((t.walk []).take i).filter fun e => e.2.isH).map (·.1)))
    ⟨sameN hD, [], upd_same, .nil⟩ (fun i H' hi z => SqL.of (z.1 _ _ hl)) ?_ ?_
  · rintro i x H2 H3 hi ⟨s2, ys, hys, hp⟩ ⟨rfl, hx⟩
    obtain ⟨e, he, ea, qa, z, rfl, h1, h2, h3⟩ := paired_get en hx
    refine ⟨ea, _, rfl, SqT.of (s2 _ _ h1), rfl, _, _, rfl, _, _, rfl, rfl, rfl, _, rfl, z, e.2, rfl, h3.mono s2, _, rfl, ?_⟩
    have hle := paired_len hp
    have hfl : ys.length ≤ i := by
      rw [hle, List.length_map]
      refine Nat.le_trans (List.length_filter_le _ _) ?_
      rw [List.length_take]
      omega
    have ew : (((t.walk []).take (i + 1)).filter fun e => e.2.isH).map (·.1) = (((t.walk []).take i).filter fun e => e.2.isH).map (·.1) ++ (if e.2.isH = true then [e.1] else []) := by
      rw [take_snoc he, List.filter_append, List.map_append, List.filter_cons, List.filter_nil]
      split <;> rfl
    refine ite2 (fun c => ?_) (fun c => ?_)
    · rw [if_pos c] at ew
      refine ⟨_, rfl, ys, hys, by omega, ?_⟩
      have f3 := Firm.list (o := .lst (ys ++ [V.ref qa])) hys
      refine ⟨fun b o e => by rw [upd_ne (ne_of_none e hD)]; exact s2 _ _ e, ys ++ [V.ref qa], upd_same, ?_⟩
      rw [ew]
      exact Paired.snoc (PathsAt.firm f3 hp) ⟨qa, rfl, f3.1 _ _ (s2 _ _ h2)⟩
    · rw [if_neg c, List.append_nil] at ew
      refine ⟨s2, ys, hys, ?_⟩
      rw [ew]
      exact hp
  · rintro H2 ⟨s2, ys, hys, hp⟩
    rw [List.take_of_length_le (by omega), walk_hs t [] hf] at hp
    refine q D H2 ys (sm.trans s2) ?_ hys hp
    cases h : H D with
    | none => rfl
    | some o => rw [sm _ _ h] at hD; cases hD
end
end Tw
set_option maxHeartbeats 4000000
/-! Tree.filled. -/
namespace Tw
open PySem PySem.Spec PyProof.Rows L2 RZ ClX
abbrev sBadCount : Stmt := inClass (top 5) 0
abbrev sFilled : Stmt := sTree 16
theorem passE {X : Cx} : Passes (L2.CX X.prog X.w) X E0 := fun _ _ _ _ _ _ _ h => by
  obtain ⟨a, B, H', cls, d, rfl, fl, _, _, _, _, _, hW⟩ := h
  exact hW.elim
theorem TreesAt.drop {C : Addr} {H : Hp} : ∀ (i : Nat) {vs : List V} {ts : List T}, TreesAt C H vs ts → TreesAt C H (vs.drop i) (ts.drop i)
  | 0, _, _, h => h
  | i + 1, [], [], _ => by unfold TreesAt; trivial
  | i + 1, _ :: _, _ :: _, h => by
    unfold TreesAt at h
    exact TreesAt.drop i h.2
  | i + 1, [], _ :: _, h => by unfold TreesAt at h; exact h.elim
  | i + 1, _ :: _, [], h => by unfold TreesAt at h; exact h.elim
theorem TreesAt.take {C : Addr} {H : Hp} : ∀ (i : Nat) {vs : List V} {ts : List T}, TreesAt C H vs ts → TreesAt C H (vs.take i) (ts.take i)
  | 0, vs, ts, _ => by rw [List.take_zero, List.take_zero]; unfold TreesAt; trivial
  | i + 1, [], [], _ => by unfold TreesAt; trivial
  | i + 1, _ :: _, _ :: _, h => by
    unfold TreesAt at h
    rw [List.take_succ_cons, List.take_succ_cons]
    unfold TreesAt
    exact ⟨h.1, TreesAt.take i h.2⟩
  | i + 1, [], _ :: _, h => by unfold TreesAt at h; exact h.elim
  | i + 1, _ :: _, [], h => by unfold TreesAt at h; exact h.elim
theorem tsels_slice : ∀ (cs ts : List T) (i : Nat) {c t : T}, (∀ u ∈ cs, u.fine = true) → cs.length = ts.length → tovs cs ts = true → cs[i]? = some c → ts[i]? = some t → ((tsels cs ts).drop (T.gapsL (cs.take i))).take c.gaps = tsel c t ∧ tov c t = true
  | [], _, i, c, t, _, _, _, h, _ => by simp at h
  | _ :: _, [], i, c, t, _, h, _, _, _ => by simp at h
  | a :: cs, b :: ts, 0, c, t, hf, hl, o, h1, h2 => by
    have e1 : a = c := by simpa using h1
    have e2 : b = t := by simpa using h2
    subst e1 e2
    rw [tovs_cons, Bool.and_eq_true] at o
    have hl1 := tsel_len a b (hf a List.mem_cons_self) o.1
    rw [List.take_zero, gapsL_nil, List.drop_zero, tsels_cons, List.take_append_of_le_length (by omega), List.take_of_length_le (by omega)]
    exact ⟨rfl, o.1⟩
  | a :: cs, b :: ts, i + 1, c, t, hf, hl, o, h1, h2 => by
    rw [tovs_cons, Bool.and_eq_true] at o
    have hl1 := tsel_len a b (hf a List.mem_cons_self) o.1
    rw [List.take_succ_cons, gapsL_cons, tsels_cons, ← hl1, List.drop_length_add_append]
    exact tsels_slice cs ts i (fun u hu => hf u (List.mem_cons_of_mem _ hu)) (by simpa using hl) o.2 (by simpa using h1) (by simpa using h2)
theorem gapsL_snoc : ∀ (l : List T) (c : T), T.gapsL (l ++ [c]) = T.gapsL l + c.gaps
  | [], c => by show T.gapsL [c] = _; rw [gapsL_cons, gapsL_nil]; omega
  | a :: l, c => by
    show T.gapsL (a :: (l ++ [c])) = _
    rw [gapsL_cons, gapsL_cons, gapsL_snoc l c]
    omega
theorem gapsL_take_le : ∀ (l : List T) (i : Nat), T.gapsL (l.take i) ≤ T.gapsL l
  | [], i => by rw [List.take_nil]; exact Nat.le_refl _
  | a :: l, 0 => by rw [List.take_zero, gapsL_nil]; omega
  | a :: l, i + 1 => by
    have := gapsL_take_le l i
    rw [List.take_succ_cons, gapsL_cons, gapsL_cons]
    omega
theorem cut_nn {vs : List V} {a b : Nat} (ha : a ≤ vs.length) (hb : b ≤ vs.length) : cutV vs (some (a : Int)) (some (b : Int)) = (vs.drop a).take (b - a) := by
  unfold cutV
  rw [HT.sIx_nat, HT.sIx_nat, Nat.min_eq_left ha, Nat.min_eq_left hb]
/-- raising it with a value -/
theorem rd_mkOv {C : Addr} {f : Str} {v : V} {H : Hp} {Q : XK} (q : ∀ d, H d = none → Q (.ref C) (some d) (upd H d (.xd [(f, v)]))) : tMkO C (spEx C f) [] (fun _ H1 R => R [v] H1) [] H Q := by
  obtain ⟨v', hv', h⟩ := rd_mkO (σ := [some v]) (i := 0) (f := f) (H := H) (C := C) (Q := Q) rfl q
  cases hv'
  exact h
/-- what filled asks, its parts in a tuple -/
def spFB (C CB : Addr) (D : Nat) : Sp := fun vs H Q E => ∃ (v : V) (p : Addr) (c : T) (ws : List V) (us : List T), vs = [v, .ref p] ∧ TreeAt C H v c ∧ H p = some (.tup ws) ∧ TreesAt C H ws us ∧ c.fine = true ∧ c.levels ≤ D + 1 ∧ ws.length ≤ 100000 ∧
  (us.length = c.gaps → ∃ t, us = tsel c t ∧ tov c t = true ∧ t.fine = true ∧ t.size ≤ 10000 ∧ ∀ v' H', Same H H' → TreeAt C H' v' t → Q v' H') ∧
  (us.length ≠ c.gaps → ∀ d H', H d = none → Same H H' → H' d = some (.xd [("count", .int us.length)]) → E (.ref CB) (some d) H')
def spFil (C CB : Addr) (D : Nat) : Sp := fun vs H Q E => ∃ ws rest, vs = ws ++ rest ∧ ws.length = (["self"] : List Str).length ∧ rest.length ≤ sizeLine ∧ ∀ p, H p = none → spFB C CB D (ws ++ [V.ref p]) (upd H p (.tup rest)) Q E
section
variable {P : Program} {w : World} {K : PySem.W.Frag} {mg : Str → Option Value} {base : Heap} {C : Addr}
theorem scBC : FnScope ["self", "count"] ["self", "count"] (defScope sBadCount) := ⟨rfl, rfl, rfl, by decide +kernel, rfl, by decide +kernel, by decide +kernel⟩
theorem ok_badCount {fI : Addr} {x : Str} (T : Ext K mg x C fI "count") {fd : FuncData} (F : Fun K "__init__" "BadCount.__init__" sBadCount fI fd) : FnOk P w K mg base CX0 1 fI fd ["self", "count"] (spEx C "count") := by
  refine F.ok scBC (fun vs H Q E h => ?_) (fun cdv A outer s H vs Q E hr h => ?_)
  · obtain ⟨a, v, rfl, _⟩ := h
    rfl
  obtain ⟨a, v, rfl, ha, q⟩ := h
  exact ⟨_, pss_one (ps_ost (pv 0) (pv 1)), _, rfl, _, rfl, a, C, rfl, T.oex, T.noF, .inl ⟨ha, q⟩⟩
theorem okStarX {x qual : Str} {st : Stmt} {f : Addr} {fd : FuncData} {N ps : List Str} {pv : Str} {k : Nat} {sp : Sp} (F : Fun K x qual st f fd) (S : FnScope N (ps ++ [pv]) (defScope st))
    (hb : ∀ (kV doc pm : Value) (an : Option Addr) (cdv ct : Value) (us rest : List Value), us.length = ps.length → bindArgs (PySem.W.fnOf x qual (defArgs st) (defBody st) (defScope st) .none kV doc pm an cdv ct) ⟨us ++ rest, []⟩ = (newTuple rest >>= fun t => pure (ps.zip us ++ [(pv, t)])))
    (hbody : ∀ (cdv : Value) (A : Around) (outer : List Env) (s : Shared) (H : Hp) (vs : List V) (Q : VK) (E : XK), Room k (A.deeper (envOfC qual (defScope st) s.heap.objs.size f cdv)) → sp vs H Q E →
      ∃ t, PSs (cxOf (L2.CX P w) P w K mg base N qual (defScope st) f cdv A outer s H E) (defBody st) t ∧ t { nx := fun _ H' => Q .non H', rt := Q } (start N vs) H) :
    FnR P w K mg base (L2.CX P w) (k + 1) f (fun vs H Q E => ∃ ws rest, vs = ws ++ rest ∧ ws.length = ps.length ∧ rest.length ≤ sizeLine ∧ ∀ p, H p = none → sp (ws ++ [V.ref p]) (upd H p (.tup rest)) Q E) := by
  obtain ⟨oc, od, kV, doc, pm, an, cdv, ct, osl, rfl, lk, hcd⟩ := F.ex
  exact StX.fn_star lk hcd S StX.cxUp (hb kV doc pm an cdv ct) fun A outer s H vs Q E hr h => hbody cdv A outer s H vs Q E hr h
end
end Tw
set_option maxHeartbeats 4000000
/-! Tree.filled, by recursion. -/
namespace Tw
open PySem PySem.Spec PyProof.Rows L2 RZ ClX
theorem slA_go {K : PySem.W.Frag} {H : Hp} {p : Addr} {ws : List V} {lo hi : Option Int} {Q : VK} (hp : H p = some (.tup ws)) (h : ∀ b H2, Same H H2 → H2 b = some (.tup (cutV ws lo hi)) → Q (.ref b) H2) : rSlA K (.ref p) lo hi H Q := by
  refine ⟨p, ws, rfl, SqT.of hp, fun hw => h p H (Same.refl H) ?_, fun _ b nb => h b _ (sameN nb) upd_same⟩
  have : cutV ws lo hi = ws := by
    unfold cutV
    rw [hw.1, hw.2, List.drop_zero, Nat.sub_zero, List.take_of_length_le (Nat.le_refl _)]
  rw [this]
  exact hp
section
variable {P : Program} {w : World} {K : PySem.W.Frag} {mg : Str → Option Value} {base : Heap} {C : Addr}
theorem scFi : FnScope ["self", "trees", "parts", "at", "part", "some"] ((["self"] : List Str) ++ [("trees" : Str)]) (defScope sFilled) := ⟨rfl, rfl, rfl, by decide +kernel, rfl, by decide +kernel, by decide +kernel⟩
theorem fil_step {fI fH fB fF CB : Addr} (T1 : Tt K C) (M : Mk K C fI) (Fi : FnR P w K mg base CX0 3 fI (spMk C)) (gT : mg "Tree" = some (.ref C)) (gH : Gf K mg "is_hole" fH) (FH : FnR P w K mg base CX0 1 fH (spIsHole C)) (ml : mg "len" = none)
    (B : Ext K mg "BadCount" CB fB "count") {fdB : FuncData} (FB : Fun K "__init__" "BadCount.__init__" sBadCount fB fdB) (Bm : BMeth K C "filled" fF)
    {fd : FuncData} (F : Fun K "filled" "Tree.filled" sFilled fF fd) {k D : Nat} {sp : Sp} (FM : FnR P w K mg base (L2.CX P w) (k + 4) fF sp) (hD : ∀ vs H Q E, D ≠ 0 → spFil C CB (D - 1) vs H Q E → sp vs H Q E) : FnR P w K mg base (L2.CX P w) (k + 5) fF (spFil C CB D) := by
  have bB : Binds K fdB ["self", "count"] [] := FB.binds fun _ _ _ _ _ _ us hl => match us, hl with | [_, _], _ => rfl
  have GB : FnOk P w K mg base CX0 1 fB fdB ["self", "count"] (spEx CB "count") := ok_badCount B FB
  refine okStarX (ps := ["self"]) (pv := "trees") (sp := spFB C CB D) F scFi (fun kV doc pm an cdv ct => StX.bind_star1 (p1 := "self") (pv := "trees") (B := fun us => bindArgs (PySem.W.fnOf "filled" "Tree.filled" (defArgs sFilled) (defBody sFilled) (defScope sFilled) .none kV doc pm an cdv ct) ⟨us, []⟩) (fun _ => rfl) (fun _ _ _ => rfl)) (fun cdv A outer s H vs Q E hr h => ?_)
  obtain ⟨v, p, c, ws, us, rfl, hc, hp, hus, hf, hl, hwl, q1, q2⟩ := h
  have hr1 : Room 1 _ := hr.mono (by omega)
  have hr2 : Room 2 _ := hr.mono (by omega)
  have hr4 : Room 4 _ := hr.mono (by omega)
  refine ⟨_, pss_cons (ps_if (pt_cmpR op_ne (pe_callB call_len_seq (by rfl) ml PySem.boot_len (pa_cons (pv 1) pa_nil)) (pe_fld (pv 0) rfl) (nomark _))
      (pss_one (ps_raise rfl (takes_of rfl rfl rfl rfl) (pmk_oex B.oex B.iC B.tI GB hr2 bB .nil pass0 rfl B.gC (pa_cons (pe_callB call_len_seq (by rfl) ml PySem.boot_len (pa_cons (pv 1) pa_nil)) pa_nil)))) pss_nil)
    (pss_cons (ps_if (pt_val (pe_cf FH hr1 gH pass0 (pa_cons (pv 0) pa_nil))) (pss_one (ps_ret (pe_ix ix_tup (pv 1) pe_int (fun _ _ => rfl)))) pss_nil)
    (pss_cons (ps_set (i := 2) scFi.nd rfl (Or.inl rfl) (pe_lst pa_nil))
    (pss_cons (ps_set (i := 3) scFi.nd rfl (Or.inl rfl) pe_int)
    (pss_cons (ps_for (passes_of rfl) rfl (pi_tup (pe_fld (pv 0) rfl)) (pg_name (i := 4) scFi.nd rfl (Or.inl rfl))
      (pss_cons (ps_set (i := 5) scFi.nd rfl (Or.inl rfl) (pe_slice sl_tupA (pv 1) (po_some (pv 3)) (po_some (pe_op op_add (pv 3) (pe_fld (pv 4) rfl)))))
      (pss_cons (ps_expr (pe_bm PySem.F.plainAttrs_list PySem.F.slot_list_append PySem.F.type_list_append mt_append (pv 2) (pa_cons (pe_methS (E := E0) (pv 4) T1.cl Bm FM hr passE (pv 5)) pa_nil)))
      (pss_one (ps_aug (i := 3) scFi.nd rfl (Or.inl rfl) (pe_fld (pv 4) rfl) ip_add)))))
    (pss_one (ps_ret (pe_mkS M Fi hr4 gT (pa_cons (pe_fld (pv 0) rfl) (StX.pa_star (pv 2) pa_nil))))))))), ?_⟩
  have sl := sizeLine_eq
  obtain ⟨a, dx, pa, ps, rfl, h1, h2, h3⟩ := hc.ex
  have el := h3.len
  have eu := hus.len
  have hp3 := (fine_parts hf).1
  have ec : c = .node c.name c.parts := by cases c; rfl
  refine ⟨_, rfl, p, ws, rfl, .inr (SqT.of hp), _, rfl, a, C, dx, _, _, rfl, h1, T1.cl, T1.nGaps, fT_gaps, rfl, _, rfl, ?_⟩
  refine ite2 (fun hn => ?_) (fun hn => ?_)
  · have hne : us.length ≠ c.gaps := fun e => by
      rw [eu, e] at hn
      simp at hn
    refine ⟨_, rfl, p, ws, rfl, .inr (SqT.of hp), ?_⟩
    refine rd_mkOv fun d nd => ?_
    have e0 : (ws.length : Int) = (us.length : Int) := by rw [eu]
    rw [e0]
    exact q2 hne d _ nd (sameN nd) upd_same
  have heq : us.length = c.gaps := by
    rw [eu] at hn
    simp at hn
    omega
  obtain ⟨t, rfl, hov, hft, htz, qq⟩ := q1 heq
  have et : t = .node t.name t.parts := by cases t; rfl
  refine ⟨_, rfl, _, c, rfl, hc, _, rfl, ?_⟩
  have eH : c.isH = true ↔ (c.name = "_" ∧ c.parts = []) := by
    unfold T.isH
    rw [Bool.and_eq_true, decide_eq_true_iff, List.isEmpty_iff]
  refine ite2 (fun b => ?_) (fun b => ?_)
  · have bn := (eH.mp b).1
    have es : tsel c t = [t] := by
      conv => lhs; rw [ec]
      rw [tsel_eq, if_pos bn]
    rw [es] at hus
    match ws, hus with
    | [x], hus =>
      unfold TreesAt at hus
      exact ⟨_, rfl, p, [x], 0, x, rfl, rfl, SqT.of hp, rfl, qq x H (Same.refl H) hus.1⟩
    | [], hus => unfold TreesAt at hus; exact hus.elim
    | _ :: _ :: _, hus => unfold TreesAt at hus; obtain ⟨_, h⟩ := hus; unfold TreesAt at h; exact h.elim
  have hnn : ¬ c.name = "_" := fun e => b (eH.mpr ⟨e, und_fine (by rw [← e, ← ec]; exact hf)⟩)
  have es : tsel c t = tsels c.parts t.parts := by
    conv => lhs; rw [ec]
    rw [tsel_eq, if_neg hnn]
  have hov' : c.name = t.name ∧ c.parts.length = t.parts.length ∧ tovs c.parts t.parts = true := by
    have := hov
    rw [ec, et, tov_eq, if_neg fun z => hnn z.1] at this
    split at this
    · rename_i z
      exact ⟨z.1, z.2, this⟩
    · cases this
  obtain ⟨en, ell, eov⟩ := hov'
  have hgl : c.gaps = T.gapsL c.parts := by
    conv => lhs; rw [ec]
    rw [gaps_eq, if_neg fun z => hnn z.1]
  rw [es] at hus heq eu
  have hfit : TermFits t.name t.parts := fits_small (by rw [← et]; exact hft) (by rw [← et]; omega)
  -- parts = []
  refine ⟨Nat.zero_le _, fun pl npl => ?_⟩
  refine name_go ?_
  dsimp only
  refine name_go ?_
  dsimp only
  have s0 := sameN (o := .lst []) npl
  refine ⟨_, rfl, a, C, dx, _, _, rfl, s0 _ _ h1, T1.cl, T1.nParts, fT_parts, pa, rfl, ⟨_, SqT.of (s0 _ _ h2)⟩, ?_⟩
  refine for_tup (K := K) (a := pa) (xs := ps) (fun i σ H' => Same H H' ∧ ∃ (ys : List V) (w4 w5 : Option V), σ = [some (.ref a), some (.ref p), some (.ref pl), some (.int (T.gapsL (c.parts.take i) : Nat)), w4, w5] ∧ H' pl = some (.lst ys) ∧ TreesAt C H' ys (t.parts.take i))
    ⟨s0, [], none, none, by rw [List.take_zero, gapsL_nil]; rfl, upd_same, by rw [List.take_zero]; unfold TreesAt; trivial⟩ (fun i σ H' _ z => SqT.of (z.1 _ _ h2)) ?_ ?_
  · rintro i x σ H1 hx ⟨s1, ys, w4, w5, rfl, hpl, hys⟩
    obtain ⟨ci, hci, hxi⟩ := h3.get hx
    have hcm := List.mem_of_getElem? hci
    have hil : i < c.parts.length := (List.getElem?_eq_some_iff.mp hci).1
    obtain ⟨ti, hti⟩ : ∃ ti, t.parts[i]? = some ti := ⟨_, List.getElem?_eq_getElem (by omega)⟩
    have htm := List.mem_of_getElem? hti
    obtain ⟨hsl, hov2⟩ := tsels_slice c.parts t.parts i (fine_parts hf).2 ell eov hci hti
    have hyl := hys.len
    rw [List.length_take] at hyl
    have e4 : T.gapsL (c.parts.take (i + 1)) = T.gapsL (c.parts.take i) + ci.gaps := by rw [take_snoc hci, gapsL_snoc]
    have e5 := gapsL_take_le c.parts (i + 1)
    have hwt : ws.length = T.gapsL c.parts := by omega
    obtain ⟨ax, dxx, px, vx, rfl, x1, x2, x3⟩ := (hxi.mono s1).ex
    refine name_go ?_
    dsimp only
    refine ⟨_, rfl, _, rfl, _, rfl, ⟨_, rfl, _, rfl, ax, C, dxx, _, _, rfl, x1, T1.cl, T1.nGaps, fT_gaps, _, _, rfl, rfl, _, rfl, ?_⟩⟩
    have ecut : cutV ws (some ((T.gapsL (c.parts.take i) : Nat) : Int)) (some (((T.gapsL (c.parts.take i) : Nat) : Int) + (ci.gaps : Int))) = (ws.drop (T.gapsL (c.parts.take i))).take ci.gaps := by
      rw [show (((T.gapsL (c.parts.take i) : Nat) : Int) + (ci.gaps : Int)) = ((T.gapsL (c.parts.take i) + ci.gaps : Nat) : Int) by omega, cut_nn (by omega) (by omega), Nat.add_sub_cancel_left]
    have hsome : ∀ H2, Same H1 H2 → TreesAt C H2 ((ws.drop (T.gapsL (c.parts.take i))).take ci.gaps) (tsel ci ti) := fun H2 k => by
      rw [← hsl]
      exact TreesAt.take _ (TreesAt.drop _ (hus.mono (s1.trans k)))
    have hslen := tsel_len ci ti ((fine_parts hf).2 ci hcm) hov2
    refine slA_go (s1 _ _ hp) fun b H2 s2 hb => ?_
    rw [ecut] at hb
    refine name_go ?_
    dsimp only
    have hpl2 := s2 _ _ hpl
    have hys2 := hys.mono s2
    refine ⟨_, rfl, .inl ⟨rfl, _, SqL.of hpl2⟩, _, rfl, ax, dxx, _, rfl, s2 _ _ x1, fT_filled, fun m nm => ?_⟩
    have s3 := sameN (o := .met fF ax) nm
    refine ⟨_, rfl, b, _, rfl, SqT.of (s3 _ _ hb), upd_same, ?_⟩
    have hlv := levels_part hcm
    have hlp := levels_pos ci
    have ci1 : TreeAt C H1 (.ref ax) ci := hxi.mono s1
    have tz := size_part htm
    refine hD _ _ _ _ (by omega) ⟨[.ref ax], _, rfl, rfl, by rw [List.length_take]; omega, fun p2 np2 => ?_⟩
    have s4 := sameN (o := .tup ((ws.drop (T.gapsL (c.parts.take i))).take ci.gaps)) np2
    have s14 := s2.trans (s3.trans s4)
    refine ⟨.ref ax, p2, ci, _, tsel ci ti, rfl, ci1.mono s14, upd_same, hsome _ s14, (fine_parts hf).2 ci hcm, by omega, by rw [List.length_take]; omega, fun _ => ⟨ti, rfl, hov2, (fine_parts hft).2 ti htm, by omega, fun v' H5 s5 hv' => ?_⟩, fun h => absurd hslen h⟩
    have s15 := s14.trans s5
    have hpl5 := s15 _ _ hpl
    refine ⟨pl, ys, v', rfl, rfl, hpl5, by omega, ?_⟩
    have f6 := Firm.list (o := .lst (ys ++ [v'])) hpl5
    have s16 : Same H (upd H5 pl (.lst (ys ++ [v']))) := fun z o e => by rw [upd_ne (ne_of_none e npl)]; exact s15 _ _ (s1 _ _ e)
    refine ⟨_, rfl, _, rfl, ax, C, dxx, _, _, rfl, f6.2 _ _ _ _ (s15 _ _ x1), T1.cl, T1.nGaps, fT_gaps, _, _, rfl, rfl, ?_⟩
    refine ⟨s16, ys ++ [v'], some (.ref ax), some (.ref b), ?_, upd_same, ?_⟩
    · rw [e4, Int.natCast_add]
      rfl
    · rw [take_snoc hti]
      exact TreesAt.snoc (hv'.firm f6) (TreesAt.firm f6 (hys.mono s15))
  · rintro σ H1 ⟨s1, ys, w4, w5, rfl, hpl, hys⟩
    rw [List.take_of_length_le (by omega)] at hys
    refine ⟨_, rfl, a, C, dx, _, _, rfl, s1 _ _ h1, T1.cl, T1.nName, fT_name, _, rfl, pl, ys, rfl, .inr (SqL.of hpl), ?_⟩
    refine ⟨c.name, ys, t.parts, by simp, hys, by rw [en]; exact hfit, fun a' H' s' ht' => qq _ H' (s1.trans s') ?_⟩
    rw [et, ← en]
    exact ht'
theorem ok_fil {fI fH fB fF CB : Addr} (T1 : Tt K C) (M : Mk K C fI) (Fi : FnR P w K mg base CX0 3 fI (spMk C)) (gT : mg "Tree" = some (.ref C)) (gH : Gf K mg "is_hole" fH) (FH : FnR P w K mg base CX0 1 fH (spIsHole C)) (ml : mg "len" = none)
    (B : Ext K mg "BadCount" CB fB "count") {fdB : FuncData} (FB : Fun K "__init__" "BadCount.__init__" sBadCount fB fdB) (Bm : BMeth K C "filled" fF)
    {fd : FuncData} (F : Fun K "filled" "Tree.filled" sFilled fF fd) : ∀ D : Nat, FnR P w K mg base (L2.CX P w) (D + 5) fF (spFil C CB D)
  | 0 => fil_step T1 M Fi gT gH FH ml B FB Bm F (k := 0) (sp := fun _ _ _ _ => False) (fun _ _ _ _ _ _ _ _ _ _ _ hs => hs.elim) fun _ _ _ _ h => absurd rfl h
  | D + 1 => fil_step T1 M Fi gT gH FH ml B FB Bm F (k := D + 1) (ok_fil T1 M Fi gT gH FH ml B FB Bm F D) fun _ _ _ _ _ h => h
end
end Tw
set_option maxHeartbeats 4000000
/-! The law's walk over a tree of tuples. -/
namespace Tw
open PySem PySem.Spec PyProof.Rows L2 RZ ClX
abbrev sWalk : Stmt := top 27
def wps (t : T) (pa : Path) : List Path := (t.walk pa).map (·.1)
theorem wps_eq (t : T) (pa : Path) : wps t pa = pa :: (T.walks pa 0 t.parts).map (·.1) := by
  cases t with
  | node n ps =>
    have : (T.node n ps).walk pa = (pa, .node n ps) :: T.walks pa 0 ps := by conv => lhs; unfold T.walk
    unfold wps
    rw [this]
    rfl
def spWalk (D : Nat) : Sp := fun vs H Q _ => ∃ (v : V) (q : Addr) (t : T) (pa : Path), vs = [v, .ref q] ∧ TupAt H v t ∧ H q = some (.tup (pV pa)) ∧ t.levels ≤ D + 1 ∧ t.size ≤ 10000 ∧ pa.length + t.levels ≤ 1000 ∧
  ∀ l H' ws, Same H H' → H l = none → H' l = some (.lst ws) → PathsAt H' ws (wps t pa) → Q (.ref l) H'
section
variable {P : Program} {w : World} {K : PySem.W.Frag} {mg : Str → Option Value} {base : Heap}
theorem scWk : FnScope ["tree", "path", "found", "k"] ["tree", "path"] (defScope sWalk) := ⟨rfl, rfl, rfl, by decide +kernel, rfl, by decide +kernel, by decide +kernel⟩
/-- path + (k,), whatever the path -/
theorem cat_go {K : PySem.W.Frag} {H : Hp} {q b : Addr} {pa : Path} {i : Nat} {Q : VK} (hq : H q = some (.tup (pV pa))) (hb : H b = some (.tup [.int (i : Int)])) (hl : pa.length ≤ 1000) (h : ∀ c H2, Same H H2 → H2 c = some (.tup (pV (pa ++ [i]))) → Q (.ref c) H2) : rCatA K (.ref q) (.ref b) H Q := by
  have pil : (pV pa).length = pa.length := pV_len pa
  have sl := sizeLine_eq
  refine ⟨q, b, pV pa, [.int (i : Int)], rfl, rfl, SqT.of hq, SqT.of hb, by rw [pil]; (show pa.length + 1 ≤ sizeLine; omega), fun hp0 => ?_, fun _ h => absurd h (by simp), fun _ _ b2 nb2 => ?_⟩
  · refine h b H (Same.refl H) ?_
    rw [pV_snoc, hp0]
    exact hb
  · refine h b2 _ (sameN nb2) ?_
    rw [pV_snoc]
    exact upd_same
theorem walk_step (ml : mg "len" = none) (mr : mg "range" = none) {f : Addr} {fd : FuncData} (F : Fun K "_law_walk" "_law_walk" sWalk f fd) (gm : Gf K mg "_law_walk" f) {k D : Nat} {sp : Sp}
    (FM : FnR P w K mg base CX0 k f sp) (hD : ∀ vs H Q E, D ≠ 0 → spWalk (D - 1) vs H Q E → sp vs H Q E) : FnR P w K mg base CX0 (k + 1) f (spWalk D) := by
  refine okR F scWk (fun vs H Q E h => ?_) (fun _ _ _ _ _ _ us hl => match us, hl with | [_, _], _ => rfl) (fun cdv A outer s H vs Q E hr h => ?_)
  · obtain ⟨d, q, t, pa, rfl, _⟩ := h
    rfl
  obtain ⟨d, q, t, pa, rfl, hd, hq, hl, hz, hpl, qq⟩ := h
  refine ⟨_, pss_cons (ps_set (i := 2) scWk.nd rfl (Or.inl rfl) (pe_lst (pa_cons (pv 1) pa_nil)))
    (pss_cons (ps_for PassesOwn.never rfl (pi_range1 (by rfl) mr (pa_cons (pe_callB call_len_seq (by rfl) ml PySem.boot_len (pa_cons (pe_ix ix_tup (pv 0) pe_int (fun _ _ => rfl)) pa_nil)) pa_nil)) (pg_name (i := 3) scWk.nd rfl (Or.inl rfl))
      (pss_one (ps_set (i := 2) scWk.nd rfl (Or.inl rfl) (pe_op op_cat (pv 2) (pe_cf FM hr gm pass0 (pa_cons (pe_ix ix_tup (pe_ix ix_tup (pv 0) pe_int (fun _ _ => rfl)) (pv 3) (fun _ _ => rfl)) (pa_cons (pe_op op_catA (pv 1) (pe_tup (pa_cons (pv 3) pa_nil))) pa_nil)))))))
    (pss_one (ps_ret (pv 2)))), ?_⟩
  have sl := sizeLine_eq
  obtain ⟨da, dl, dvs, rfl, g1, g3, g4⟩ := hd.ex
  have hdl := g4.len
  have hpt := parts_le t
  refine ⟨_, rfl, by (show 1 ≤ sizeLine; omega), fun l0 nl0 => ?_⟩
  refine name_go ?_
  dsimp only
  have s1 := sameN (o := .lst [V.ref q]) nl0
  have r0 : PathsAt (upd H l0 (.lst [V.ref q])) [.ref q] [pa] := .cons ⟨q, rfl, s1 _ _ hq⟩ .nil
  have e0 : (upd H l0 (.lst [V.ref q])) l0 = some (.lst [V.ref q]) := upd_same
  generalize (upd H l0 (.lst [V.ref q])) = H1 at s1 r0 e0 ⊢
  refine ⟨_, rfl, da, _, _, .ref dl, rfl, rfl, SqT.of (s1 _ _ g1), rfl, dl, dvs, rfl, .inr (SqT.of (s1 _ _ g3)), _, rfl, by omega, by omega, ?_⟩
  refine for_range (n := dvs.length) (fun i σ H' => Same H H' ∧ ∃ (l : Addr) (ws : List V) (w3 : Option V), σ = [some (.ref da), some (.ref q), some (.ref l), w3] ∧ H l = none ∧ H' l = some (.lst ws) ∧ PathsAt H' ws (pa :: (T.walks pa 0 (t.parts.take i)).map (·.1)))
    ⟨s1, l0, _, none, rfl, nl0, e0, by rw [List.take_zero]; unfold T.walks; exact r0⟩ ?_ ?_
  · rintro i σ H2 hi ⟨s3, l, ws, w3, rfl, nl, hlw, hrs⟩
    refine name_go ?_
    dsimp only
    rw [Int.zero_add]
    obtain ⟨y, hy⟩ : ∃ y, dvs[i]? = some y := ⟨_, List.getElem?_eq_getElem hi⟩
    obtain ⟨u, hu, huy⟩ := g4.get hy
    have hum := List.mem_of_getElem? hu
    have hlv := levels_part hum
    have hsv := size_part hum
    have hu1 := levels_pos u
    refine ⟨_, rfl, _, rfl, da, _, _, .ref dl, rfl, rfl, SqT.of (s3 _ _ g1), rfl, _, rfl, dl, dvs, _, y, rfl, rfl, SqT.of (s3 _ _ g3), atI_nat hy, _, rfl, _, rfl, by (show 1 ≤ sizeLine; omega), fun b nb => ?_⟩
    have s4 := sameN (o := .tup [V.int (i : Int)]) nb
    refine cat_go (s4 _ _ (s3 _ _ hq)) upd_same (by omega) fun b2 H3 s5 hb2 => ?_
    have s45 := s4.trans s5
    refine hD _ _ _ _ (by omega) ⟨y, b2, u, pa ++ [i], rfl, huy.mono (s3.trans s45), hb2, by omega, by omega, by rw [List.length_append, List.length_singleton]; omega, fun l5 H5 ws5 s6 n5 e5 r5 => ?_⟩
    have s46 := s45.trans s6
    have hlw5 := s46 _ _ hlw
    have hrs5 := PathsAt.firm (.of s46) hrs
    have lw := paired_len hrs5
    have lw5 := paired_len r5
    have hw1 := walks_le pa 0 t.parts i
    have hw2 := sizes_le t
    rw [List.length_cons, List.length_map] at lw
    unfold wps at lw5
    rw [List.length_map, walk_len] at lw5
    refine ⟨l, l5, ws, ws5, rfl, rfl, hlw5, e5, by omega, fun p np => ?_⟩
    have s7 := sameN (o := .lst (ws ++ ws5)) np
    have s37 := s3.trans (s46.trans s7)
    have npH : H p = none := by
      cases h : H p with
      | none => rfl
      | some o => rw [s3.trans s46 _ _ h] at np; cases np
    refine ⟨s37, p, ws ++ ws5, _, rfl, npH, upd_same, ?_⟩
    have ew : pa :: (T.walks pa 0 (t.parts.take (i + 1))).map (·.1) = (pa :: (T.walks pa 0 (t.parts.take i)).map (·.1)) ++ wps u (pa ++ [i]) := by
      rw [take_snoc hu, walks_snoc, List.length_take, Nat.min_eq_left (by omega), Nat.zero_add, List.map_append]
      rfl
    rw [ew]
    exact PathsAt.firm (.of s7) (paired_append hrs5 r5)
  · rintro σ H2 ⟨s3, l, ws, w3, rfl, nl, hlw, hrs⟩
    refine ⟨_, rfl, qq l H2 ws s3 nl hlw ?_⟩
    rw [hdl, List.take_length] at hrs
    rw [wps_eq]
    exact hrs
theorem ok_walk (ml : mg "len" = none) (mr : mg "range" = none) {f : Addr} {fd : FuncData} (F : Fun K "_law_walk" "_law_walk" sWalk f fd) (gm : Gf K mg "_law_walk" f) : ∀ D : Nat, FnR P w K mg base CX0 (D + 1) f (spWalk D)
  | 0 => walk_step ml mr F gm (k := 0) (sp := fun _ _ _ _ => False) (fun _ _ _ _ _ _ _ _ _ _ _ hs => hs.elim) fun _ _ _ _ h => absurd rfl h
  | D + 1 => walk_step ml mr F gm (k := D + 1) (ok_walk ml mr F gm D) fun _ _ _ _ _ h => h
end
end Tw
set_option maxHeartbeats 4000000
/-! The law puts a part at a path. -/
namespace Tw
open PySem PySem.Spec PyProof.Rows L2 RZ ClX
abbrev sPut : Stmt := top 28
theorem TupsAt.set {H : Hp} {v : V} {t : T} (h1 : TupAt H v t) : ∀ {vs : List V} {ts : List T} (i : Nat), TupsAt H vs ts → TupsAt H (vs.set i v) (ts.set i t)
  | [], [], i, _ => by rw [List.set_nil, List.set_nil]; exact .nil
  | x :: vs, y :: ts, 0, h => by
    unfold TupsAt at h
    exact .cons h1 h.2
  | x :: vs, y :: ts, i + 1, h => by
    unfold TupsAt at h
    exact .cons h.1 (TupsAt.set h1 i h.2)
  | [], _ :: _, _, h => by unfold TupsAt at h; exact h.elim
  | _ :: _, [], _, h => by unfold TupsAt at h; exact h.elim
theorem sizes_set {s : Nat} {u w : T} (hs : u.size ≤ w.size + s) : ∀ {l : List T} (i : Nat), l[i]? = some w → T.sizes (l.set i u) ≤ T.sizes l + s
  | [], i, h => by simp at h
  | a :: l, 0, h => by
    have e : a = w := by simpa using h
    subst e
    rw [List.set_cons_zero, sizes_cons, sizes_cons]
    omega
  | a :: l, i + 1, h => by
    have := sizes_set hs (l := l) i (by simpa using h)
    rw [List.set_cons_succ, sizes_cons, sizes_cons]
    omega
theorem cut_tail (x : V) (xs : List V) : cutV (x :: xs) (some 1) none = xs := by
  unfold cutV
  rw [show (1 : Int) = ((1 : Nat) : Int) from rfl, HT.sIx_nat, HT.sIx_none, Nat.min_eq_left (by rw [List.length_cons]; omega), List.drop_succ_cons, List.drop_zero, List.take_of_length_le]
  rw [List.length_cons]
  omega
theorem sub_levels : ∀ (pa : Path) {t u : T}, T.sub pa t = some u → pa.length + u.levels ≤ t.levels
  | [], t, u, h => by
    have : t = u := Option.some.inj h
    subst this
    simp
  | i :: r, t, u, h => by
    have h' : (t.parts[i]?).bind (T.sub r) = some u := h
    cases e : t.parts[i]? with
    | none => rw [e] at h'; cases h'
    | some w =>
      rw [e] at h'
      have h1 := sub_levels r (t := w) (u := u) h'
      have h2 := levels_part (List.mem_of_getElem? e)
      rw [List.length_cons]
      omega
/-- a right tree with these bounds -/
structure Bd (s k : Nat) (t : T) : Prop where
  fine : t.fine = true
  size : t.size ≤ s
  levels : t.levels ≤ k
theorem Bd.mono {s s' k k' : Nat} {t : T} (h : Bd s k t) (h1 : s ≤ s') (h2 : k ≤ k') : Bd s' k' t := ⟨h.fine, Nat.le_trans h.size h1, Nat.le_trans h.levels h2⟩
/-- s more names; k levels in all -/
def spPut (D : Nat) : Sp := fun vs H Q _ => ∃ (v x : V) (q : Addr) (t u w : T) (pa : Path) (s k : Nat), vs = [v, .ref q, x] ∧ TupAt H v t ∧ TupAt H x u ∧ H q = some (.tup (pV pa)) ∧ T.sub pa t = some w ∧ t.fine = true ∧ t.levels ≤ D + 1 ∧ Bd s k u ∧ t.levels ≤ D + 1 ∧
  ∀ v' t' H', Same H H' → TupAt H' v' t' → Bd (t.size + s) (max t.levels (pa.length + k)) t' → Q v' H'
section
variable {P : Program} {w : World} {K : PySem.W.Frag} {mg : Str → Option Value} {base : Heap}
theorem scPu : FnScope ["tree", "path", "part", "parts"] ["tree", "path", "part"] (defScope sPut) := ⟨rfl, rfl, rfl, by decide +kernel, rfl, by decide +kernel, by decide +kernel⟩
theorem put_step (ml : mg "len" = none) (mL : mg "list" = none) (mt : mg "tuple" = none) {f : Addr} {fd : FuncData} (F : Fun K "_law_put" "_law_put" sPut f fd) (gm : Gf K mg "_law_put" f) {k D : Nat} {sp : Sp}
    (FM : FnR P w K mg base CX0 k f sp) (hD : ∀ vs H Q E, D ≠ 0 → spPut (D - 1) vs H Q E → sp vs H Q E) : FnR P w K mg base CX0 (k + 1) f (spPut D) := by
  refine okR F scPu (fun vs H Q E h => ?_) (fun _ _ _ _ _ _ us hl => match us, hl with | [_, _, _], _ => rfl) (fun cdv A outer s H vs Q E hr h => ?_)
  · obtain ⟨v, x, q, t, u, w, pa, s, k, rfl, _⟩ := h
    rfl
  obtain ⟨v, x, q, t, u, w, pa, s, k, rfl, hv, hx, hq, hsub, hf, hl, hb, _, qq⟩ := h
  refine ⟨_, pss_cons (ps_if (pt_cmpR op_eq (pe_callB call_len_seq (by rfl) ml PySem.boot_len (pa_cons (pv 1) pa_nil)) pe_int (nomark _)) (pss_one (ps_ret (pv 2))) pss_nil)
    (pss_cons (ps_set (i := 3) scPu.nd rfl (Or.inl rfl) (pe_callTy call_list_of (by rfl) mL (by decide +kernel) (pa_cons (pe_ix ix_tup (pv 0) pe_int (fun _ _ => rfl)) pa_nil)))
    (pss_cons (ps_asg (pe_cf FM hr gm pass0 (pa_cons (pe_ix ix_list (pv 3) (pe_ix ix_tup (pv 1) pe_int (fun _ _ => rfl)) (fun _ _ => rfl)) (pa_cons (pe_slice sl_tupA (pv 1) (po_some pe_int) po_none) (pa_cons (pv 2) pa_nil)))) (pg_sub (pv 3) (pe_ix ix_tup (pv 1) pe_int (fun _ _ => rfl)) set_list))
    (pss_one (ps_ret (pe_tup (pa_cons (pe_ix ix_tup (pv 0) pe_int (fun _ _ => rfl)) (pa_cons (pe_callTy call_tuple_of (by rfl) mt (by decide +kernel) (pa_cons (pv 3) pa_nil)) pa_nil))))))), ?_⟩
  have sl := sizeLine_eq
  refine ⟨_, rfl, q, _, rfl, .inr (SqT.of hq), rfl, _, rfl, ?_⟩
  cases pa with
  | nil =>
    refine iteT ?_
    have e : t = w := Option.some.inj hsub
    exact ⟨_, rfl, qq x u H (Same.refl H) hx ⟨hb.fine, by have := hb.size; omega, by have := hb.levels; (show u.levels ≤ max t.levels (0 + k)); omega⟩⟩
  | cons i r =>
    refine iteF ?_
    obtain ⟨a, c, ws, rfl, g1, g2, g3⟩ := hv.ex
    have hlen := g3.len
    obtain ⟨hp3, hpf⟩ := fine_parts hf
    refine ⟨_, rfl, a, _, _, .ref c, rfl, rfl, SqT.of g1, rfl, c, ws, rfl, .inr (SqT.of g2), fun l nl => ?_⟩
    refine name_go ?_
    dsimp only
    have s1 := sameN (o := .lst ws) nl
    have hl1 : (upd H l (.lst ws)) l = some (.lst ws) := upd_same
    generalize upd H l (.lst ws) = H1 at s1 hl1 ⊢
    have hsub' : (t.parts[i]?).bind (T.sub r) = some w := hsub
    obtain ⟨ti, hti, hsr⟩ : ∃ ti, t.parts[i]? = some ti ∧ T.sub r ti = some w := by
      cases e : t.parts[i]? with
      | none => rw [e] at hsub'; cases hsub'
      | some ti => rw [e] at hsub'; exact ⟨ti, rfl, hsub'⟩
    have hil : i < t.parts.length := (List.getElem?_eq_some_iff.mp hti).1
    obtain ⟨y, hy⟩ : ∃ y, ws[i]? = some y := ⟨_, List.getElem?_eq_getElem (by omega)⟩
    obtain ⟨ti', hti', hyt⟩ := g3.get hy
    rw [hti] at hti'
    cases hti'
    have htm := List.mem_of_getElem? hti
    have hlv := levels_part htm
    have hlp := levels_pos ti
    have e0 : pV (i :: r) = .int (i : Int) :: pV r := rfl
    refine ⟨_, rfl, _, rfl, q, _, _, .int (i : Int), rfl, rfl, SqT.of (s1 _ _ hq), atI_nat (j := 0) rfl, l, ws, _, y, rfl, rfl, SqL.of hl1, atI_nat hy, _, rfl, 1, rfl, ?_⟩
    dsimp only [tNoPart]
    refine slA_go (s1 _ _ hq) fun b H2 s2 hb2 => ⟨_, rfl, ?_⟩
    rw [e0, cut_tail] at hb2
    have s12 := s1.trans s2
    refine hD _ _ _ _ (by omega) ⟨y, x, b, ti, u, w, r, s, k, rfl, hyt.mono s12, hx.mono s12, hb2, hsr, hpf ti htm, by omega, hb, by omega, fun v' t' H3 s3 hv' hb' => ?_⟩
    have s13 := s12.trans s3
    have s23 := s2.trans s3
    have hl3 := s23 _ _ hl1
    refine ⟨_, rfl, _, rfl, q, _, _, .int (i : Int), rfl, rfl, SqT.of (s13 _ _ hq), atI_nat (j := 0) rfl, l, ws, (i : Int), i, rfl, rfl, hl3, ?_, ?_⟩
    · unfold ixN
      rw [if_pos (by omega), if_pos (by omega)]
      simp
    have f4 := Firm.list (o := .lst (ws.set i v')) hl3
    have s4 : Same H (upd H3 l (.lst (ws.set i v'))) := fun z o e => by rw [upd_ne (ne_of_none e nl)]; exact s13 _ _ e
    have hl4 : (upd H3 l (.lst (ws.set i v'))) l = some (.lst (ws.set i v')) := upd_same
    have hv4 := hv'.firm f4
    generalize upd H3 l (.lst (ws.set i v')) = H4 at f4 s4 hl4 hv4 ⊢
    refine ⟨_, rfl, a, _, _, .str t.name, rfl, rfl, SqT.of (s4 _ _ g1), rfl, _, rfl, l, _, rfl, .inl ⟨SqL.of hl4, fun p np => ?_⟩⟩
    have s5 := sameN (o := .tup (ws.set i v')) np
    refine ⟨by (show 2 ≤ sizeLine; omega), fun p2 np2 => ?_⟩
    have s6 := sameN (o := .tup [V.str t.name, .ref p]) np2
    refine qq _ (.node t.name (t.parts.set i t')) _ (s4.trans (s5.trans s6)) (.mk upd_same (s6 _ _ upd_same) (TupsAt.set (hv4.firm (.of (s5.trans s6))) i (g3.firm (.of (s4.trans (s5.trans s6)))))) ?_
    have et : t = .node t.name t.parts := by cases t; rfl
    have hmem : ∀ z ∈ t.parts.set i t', z ∈ t.parts ∨ z = t' := fun z hz => by
      rcases List.mem_or_eq_of_mem_set hz with h | h
      · exact .inl h
      · exact .inr h
    refine ⟨?_, ?_, ?_⟩
    · rw [et] at hf
      rcases fine_ex hf with ⟨_, e⟩ | ⟨hbg, _, _⟩
      · rw [e] at hil
        simp at hil
      · refine fine_big hbg (by rw [List.length_set]; exact hp3) (fines_of fun z hz => ?_)
        rcases hmem z hz with h | rfl
        · exact hpf z h
        · exact hb'.fine
    · have h1 := sizes_set (s := s) (u := t') (w := ti) hb'.size i hti
      have h2 : t.size = 1 + T.sizes t.parts := by conv => lhs; rw [et, size_node]
      rw [size_node]
      omega
    · have h2 : t.levels = 1 + T.mostFrom 0 t.parts := by conv => lhs; rw [et, levels_node]
      have h3 : (T.node t.name (t.parts.set i t')).levels ≤ (max t.levels ((i :: r).length + k) - 1) + 1 := levels_of fun z hz => by
        rcases hmem z hz with h | rfl
        · have := levels_part h
          omega
        · have := hb'.levels
          rw [List.length_cons]
          omega
      have : 1 ≤ max t.levels ((i :: r).length + k) := by have := levels_pos t; omega
      omega
theorem ok_put (ml : mg "len" = none) (mL : mg "list" = none) (mt : mg "tuple" = none) {f : Addr} {fd : FuncData} (F : Fun K "_law_put" "_law_put" sPut f fd) (gm : Gf K mg "_law_put" f) : ∀ D : Nat, FnR P w K mg base CX0 (D + 1) f (spPut D)
  | 0 => put_step ml mL mt F gm (k := 0) (sp := fun _ _ _ _ => False) (fun _ _ _ _ _ _ _ _ _ _ _ hs => hs.elim) fun _ _ _ _ h => absurd rfl h
  | D + 1 => put_step ml mL mt F gm (k := D + 1) (ok_put ml mL mt F gm D) fun _ _ _ _ _ h => h
end
end Tw
set_option maxHeartbeats 4000000
/-! The law's trees are changed and opened. -/
namespace Tw
open PySem PySem.Spec PyProof.Rows L2 RZ ClX
abbrev sSpot : Stmt := top 29
abbrev sChanged : Stmt := top 30
abbrev sOpened : Stmt := top 31
mutual
theorem walk_sub : ∀ (t : T) (pa : Path) (e : Path × T), e ∈ t.walk pa → ∃ r, e.1 = pa ++ r ∧ T.sub r t = some e.2
  | .node n ps, pa, e, h => by
    have ew : (T.node n ps).walk pa = (pa, .node n ps) :: T.walks pa 0 ps := by conv => lhs; unfold T.walk
    rw [ew] at h
    rcases List.mem_cons.mp h with rfl | h
    · exact ⟨[], by simp, rfl⟩
    · obtain ⟨j, r, u, hu, e1, e2⟩ := walks_sub ps 0 pa e h
      refine ⟨j :: r, by rw [e1, Nat.zero_add], ?_⟩
      show (ps[j]?).bind (T.sub r) = _
      rw [hu]
      exact e2
theorem walks_sub : ∀ (ps : List T) (i : Nat) (pa : Path) (e : Path × T), e ∈ T.walks pa i ps → ∃ j r u, ps[j]? = some u ∧ e.1 = pa ++ (i + j) :: r ∧ T.sub r u = some e.2
  | [], i, pa, e, h => by
    have e2 : T.walks pa i [] = [] := by unfold T.walks; rfl
    rw [e2] at h
    cases h
  | p :: ps, i, pa, e, h => by
    have e2 : T.walks pa i (p :: ps) = p.walk (pa ++ [i]) ++ T.walks pa (i + 1) ps := by conv => lhs; unfold T.walks
    rw [e2] at h
    rcases List.mem_append.mp h with h | h
    · obtain ⟨r, e1, e3⟩ := walk_sub p (pa ++ [i]) e h
      exact ⟨0, r, p, rfl, by rw [e1]; simp, e3⟩
    · obtain ⟨j, r, u, hu, e1, e3⟩ := walks_sub ps (i + 1) pa e h
      exact ⟨j + 1, r, u, by simpa using hu, by rw [e1, show i + 1 + j = i + (j + 1) by omega], e3⟩
end
def spSpot : Sp := fun vs H Q _ => ∃ (p r : Addr) (v : V) (t : T), vs = [.ref p, v] ∧ PoolAt H p r ∧ TupAt H v t ∧ Bd 10000 60 t ∧ ∀ q pa w H', H' q = some (.tup (pV pa)) → T.sub pa t = some w → PoolAt H' p r → KeptBut [p, r] H H' → Firm H H' → Q (.ref q) H'
def spChanged : Sp := fun vs H Q _ => ∃ (p r nl : Addr) (v : V) (t : T) (s k : Nat), vs = [.ref p, .ref nl, v] ∧ PoolAt H p r ∧ NamesAt H nl ∧ nl ∉ [p, r] ∧ TupAt H v t ∧ Bd s k t ∧ s ≤ 9000 ∧ k ≤ 50 ∧
  ∀ v' t' H', TupAt H' v' t' → Bd (s + 39) (k + 6) t' → SixSt H H' p r nl → Q v' H'
def spOpened : Sp := fun vs H Q _ => ∃ (p r : Addr) (v : V) (t : T) (s k : Nat), vs = [.ref p, v] ∧ PoolAt H p r ∧ TupAt H v t ∧ Bd s k t ∧ s ≤ 9000 ∧ k ≤ 50 ∧
  ∀ v' t' H', TupAt H' v' t' → Bd (s + 2) k t' → PoolAt H' p r → KeptBut [p, r] H H' → Firm H H' → Q v' H'
section
variable {P : Program} {w : World} {K : PySem.W.Frag} {mg : Str → Option Value} {base : Heap}
theorem scSpo : FnScope ["pool", "tree", "paths"] ["pool", "tree"] (defScope sSpot) := ⟨rfl, rfl, rfl, by decide +kernel, rfl, by decide +kernel, by decide +kernel⟩
theorem scCha : FnScope ["pool", "names", "tree", "k", "path", "part"] ["pool", "names", "tree"] (defScope sChanged) := ⟨rfl, rfl, rfl, by decide +kernel, rfl, by decide +kernel, by decide +kernel⟩
theorem scOpe : FnScope ["pool", "tree", "k", "path"] ["pool", "tree"] (defScope sOpened) := ⟨rfl, rfl, rfl, by decide +kernel, rfl, by decide +kernel, by decide +kernel⟩
theorem ok_spot {fd0 fw : Addr} (gd : Gf K mg "_law_draw" fd0) (Fd : FnR P w K mg base CX0 1 fd0 spDraw) (gw : Gf K mg "_law_walk" fw) (Fw : FnR P w K mg base CX0 61 fw (spWalk 60)) (ml : mg "len" = none) {f : Addr} {fd : FuncData} (F : Fun K "_law_spot" "_law_spot" sSpot f fd) : FnR P w K mg base CX0 62 f spSpot := by
  refine okR F scSpo (fun vs H Q E h => ?_) (fun _ _ _ _ _ _ us hl => match us, hl with | [_, _], _ => rfl) (fun cdv A outer s H vs Q E hr h => ?_)
  · obtain ⟨p, r, v, t, rfl, _⟩ := h
    rfl
  obtain ⟨p, r, v, t, rfl, hp, hv, hb, q⟩ := h
  have hr1 : Room 1 _ := hr.mono (by decide)
  refine ⟨_, pss_cons (ps_set (i := 2) scSpo.nd rfl (Or.inl rfl) (pe_cf Fw hr gw pass0 (pa_cons (pv 1) (pa_cons (pe_tup pa_nil) pa_nil))))
    (pss_one (ps_ret (pe_ix ix_list (pv 2) (pe_cf Fd hr1 gd pass0 (pa_cons (pv 0) (pa_cons (pe_callB (r := rLenQ _) call_len_seq (by rfl) ml PySem.boot_len (pa_cons (pv 2) pa_nil)) pa_nil))) (fun _ _ => rfl)))), ?_⟩
  have sl := sizeLine_eq
  refine ⟨_, rfl, Nat.zero_le _, fun c nc => ?_⟩
  have s1 := sameN (o := .tup []) nc
  have hz := hb.size
  have hl := hb.levels
  refine ⟨v, c, t, [], rfl, hv.mono s1, upd_same, by omega, by omega, by (show 0 + t.levels ≤ 1000); omega, fun l H2 ws s2 nl hlw hps => ?_⟩
  refine name_go ?_
  dsimp only
  have s12 := s1.trans s2
  have hpl := paired_len hps
  have hwl : (wps t []).length = t.size := by unfold wps; rw [List.length_map, walk_len]
  have hsp := size_pos t
  have hp2 := hp.same s12
  refine ⟨_, rfl, _, rfl, _, rfl, l, ws, rfl, .inl (SqL.of hlw), p, r, ws.length, rfl, hp2, by omega, by omega, fun d H3 hd hp3 k3 f3 => ?_⟩
  have nlp : l ∉ [p, r] := fun h => by
    obtain ⟨_, rows, sd, c', e1, e2, _⟩ := hp.same s1
    simp at h
    rcases h with rfl | rfl
    · rw [e1] at nl; cases nl
    · rw [e2] at nl; cases nl
  have hlw3 := k3 _ _ hlw nlp
  obtain ⟨x, hx⟩ : ∃ x, ws[d]? = some x := ⟨_, List.getElem?_eq_getElem hd⟩
  obtain ⟨pa, hpa, q1, rfl, hq1⟩ := paired_get hps hx
  refine ⟨l, ws, _, .ref q1, rfl, rfl, SqL.of hlw3, atI_nat hx, ?_⟩
  unfold wps at hpa
  rw [List.getElem?_map] at hpa
  obtain ⟨e, he, rfl⟩ : ∃ e, (t.walk [])[d]? = some e ∧ e.1 = pa := by
    cases h : (t.walk [])[d]? with
    | none => rw [h] at hpa; cases hpa
    | some e => rw [h] at hpa; exact ⟨e, rfl, Option.some.inj hpa⟩
  obtain ⟨rr, e1, e2⟩ := walk_sub t [] e (List.mem_of_getElem? he)
  rw [List.nil_append] at e1
  exact q q1 e.1 e.2 H3 (f3.1 _ _ hq1) (by rw [e1]; exact e2) hp3 ((KeptBut.of s12).trans k3) ((Firm.of s12).trans f3)
theorem ok_opened {fd0 fs fp : Addr} (gd : Gf K mg "_law_draw" fd0) (Fd : FnR P w K mg base CX0 1 fd0 spDraw) (gs : Gf K mg "_law_spot" fs) (Fs : FnR P w K mg base CX0 62 fs spSpot) (gp : Gf K mg "_law_put" fp) (Fp : FnR P w K mg base CX0 60 fp (spPut 59)) (mr : mg "range" = none)
    {f : Addr} {fd : FuncData} (F : Fun K "_law_opened" "_law_opened" sOpened f fd) : FnR P w K mg base CX0 63 f spOpened := by
  refine okR F scOpe (fun vs H Q E h => ?_) (fun _ _ _ _ _ _ us hl => match us, hl with | [_, _], _ => rfl) (fun cdv A outer s H vs Q E hr h => ?_)
  · obtain ⟨p, r, v, t, s, k, rfl, _⟩ := h
    rfl
  obtain ⟨p, r, v, t, s, k, rfl, hp, hv, hb, hs, hk, q⟩ := h
  have hr1 : Room 1 _ := hr.mono (by decide)
  have hr60 : Room 60 _ := hr.mono (by decide)
  refine ⟨_, pss_cons (ps_for PassesOwn.never rfl (pi_range1 (by rfl) mr (pa_cons (pe_cf Fd hr1 gd pass0 (pa_cons (pv 0) (pa_cons pe_int pa_nil))) pa_nil)) (pg_name (i := 2) scOpe.nd rfl (Or.inl rfl))
      (pss_cons (ps_set (i := 3) scOpe.nd rfl (Or.inl rfl) (pe_cf Fs hr gs pass0 (pa_cons (pv 0) (pa_cons (pv 1) pa_nil))))
      (pss_one (ps_set (i := 1) scOpe.nd rfl (Or.inl rfl) (pe_cf Fp hr60 gp pass0 (pa_cons (pv 1) (pa_cons (pv 3) (pa_cons (pe_tup (pa_cons pe_str (pa_cons (pe_tup pa_nil) pa_nil))) pa_nil))))))))
    (pss_one (ps_ret (pv 1))), ?_⟩
  have sl := sizeLine_eq
  refine ⟨_, rfl, p, r, 3, rfl, hp, by decide, by decide, fun n H1 hn hp1 k1 f1 => ?_⟩
  refine ⟨_, rfl, by omega, by omega, ?_⟩
  refine for_range (n := n) (fun i σ H' => ∃ (v : V) (t : T) (w2 w3 : Option V), σ = [some (.ref p), some v, w2, w3] ∧ TupAt H' v t ∧ Bd (s + i) k t ∧ PoolAt H' p r ∧ KeptBut [p, r] H H' ∧ Firm H H')
    ⟨v, t, none, none, rfl, hv.firm f1, hb, hp1, k1, f1⟩ ?_ ?_
  · clear hv hb hp hp1 k1 f1
    rintro i σ H2 hi ⟨v, t, w2, w3, rfl, hv, hb, hp2, k2, f2⟩
    refine name_go ?_
    dsimp only
    refine ⟨_, rfl, _, rfl, p, r, v, t, rfl, hp2, hv, hb.mono (by omega) (by omega), fun q1 pa w H3 hq1 hsub hp3 k3 f3 => ?_⟩
    refine name_go ?_
    dsimp only
    refine ⟨_, rfl, _, rfl, Nat.zero_le _, fun c nc => ⟨by (show 2 ≤ sizeLine; omega), fun a na => ?_⟩⟩
    have s4 := sameN (o := .tup []) nc
    have s5 := sameN (o := .tup [V.str "_", .ref c]) na
    have s45 := s4.trans s5
    have hsl := sub_levels pa hsub
    have hwp := levels_pos w
    have hbl := hb.levels
    refine ⟨v, .ref a, q1, t, .node "_" [], w, pa, 1, 1, rfl, hv.firm (f3.trans (.of s45)), .mk upd_same (s5 _ _ upd_same) .nil, s45 _ _ hq1, hsub, hb.fine, by omega, ⟨fine_leaf (by decide +kernel), by rw [size_node, sizes_nil]; omega, by rw [levels_node]; unfold T.mostFrom; omega⟩, by omega, fun v' t' H5 s6 hv' hb' => ?_⟩
    have s46 := s45.trans s6
    have hbs := hb.size
    exact ⟨v', t', _, _, rfl, hv', hb'.mono (by omega) (by omega), hp3.same s46, k2.trans (k3.trans (.of s46)), f2.trans (f3.trans (.of s46))⟩
  · rintro σ H2 ⟨v, t, w2, w3, rfl, hv, hb, hp2, k2, f2⟩
    exact ⟨_, rfl, q v t H2 hv (hb.mono (by omega) (Nat.le_refl _)) hp2 k2 f2⟩
theorem ok_changed {fd0 fs fp fg : Addr} (gd : Gf K mg "_law_draw" fd0) (Fd : FnR P w K mg base CX0 1 fd0 spDraw) (gs : Gf K mg "_law_spot" fs) (Fs : FnR P w K mg base CX0 62 fs spSpot) (gp : Gf K mg "_law_put" fp) (Fp : FnR P w K mg base CX0 60 fp (spPut 59)) (gg : Gf K mg "_law_grow" fg) (Fg : ∀ D : Nat, FnR P w K mg base CX0 (D + 2) fg (spGrow D)) (mr : mg "range" = none)
    {f : Addr} {fd : FuncData} (F : Fun K "_law_changed" "_law_changed" sChanged f fd) : FnR P w K mg base CX0 63 f spChanged := by
  refine okR F scCha (fun vs H Q E h => ?_) (fun _ _ _ _ _ _ us hl => match us, hl with | [_, _, _], _ => rfl) (fun cdv A outer s H vs Q E hr h => ?_)
  · obtain ⟨p, r, nl, v, t, s, k, rfl, _⟩ := h
    rfl
  obtain ⟨p, r, nl, v, t, s, k, rfl, hp, hn, npr, hv, hb, hs, hk, q⟩ := h
  have hr1 : Room 1 _ := hr.mono (by decide)
  have hr4 : Room 4 _ := hr.mono (by decide)
  have hr60 : Room 60 _ := hr.mono (by decide)
  refine ⟨_, pss_cons (ps_for PassesOwn.never rfl (pi_range1 (by rfl) mr (pa_cons (pe_cf Fd hr1 gd pass0 (pa_cons (pv 0) (pa_cons pe_int pa_nil))) pa_nil)) (pg_name (i := 3) scCha.nd rfl (Or.inl rfl))
      (pss_cons (ps_set (i := 4) scCha.nd rfl (Or.inl rfl) (pe_cf Fs hr gs pass0 (pa_cons (pv 0) (pa_cons (pv 2) pa_nil))))
      (pss_cons (ps_set (i := 5) scCha.nd rfl (Or.inl rfl) (pe_cf (Fg 2) hr4 gg pass0 (pa_cons (pv 0) (pa_cons (pv 1) (pa_cons (pe_lst (pa_cons pe_int pa_nil)) (pa_cons pe_int pa_nil))))))
      (pss_one (ps_set (i := 2) scCha.nd rfl (Or.inl rfl) (pe_cf Fp hr60 gp pass0 (pa_cons (pv 2) (pa_cons (pv 4) (pa_cons (pv 5) pa_nil)))))))))
    (pss_one (ps_ret (pv 2))), ?_⟩
  have sl := sizeLine_eq
  refine ⟨_, rfl, p, r, 4, rfl, hp, by decide, by decide, fun n H1 hn1 hp1 k1 f1 => ?_⟩
  have S1 : SixSt H H1 p r nl := ⟨hp1, hn.kept k1 npr, k1, f1⟩
  refine ⟨_, rfl, by omega, by omega, ?_⟩
  refine for_range (n := n) (fun i σ H' => ∃ (v : V) (t : T) (w3 w4 w5 : Option V), σ = [some (.ref p), some (.ref nl), some v, w3, w4, w5] ∧ TupAt H' v t ∧ Bd (s + 13 * i) (k + 2 * i) t ∧ SixSt H H' p r nl)
    ⟨v, t, none, none, none, rfl, hv.firm f1, hb, S1⟩ ?_ ?_
  · clear hv hb hp hp1 k1 f1 S1
    rintro i σ H2 hi ⟨v, t, w3, w4, w5, rfl, hv, hb, S2⟩
    refine name_go ?_
    dsimp only
    refine ⟨_, rfl, _, rfl, p, r, v, t, rfl, S2.pool, hv, hb.mono (by omega) (by omega), fun q1 pa w H3 hq1 hsub hp3 k3 f3 => ?_⟩
    have S3 := S2.drawn npr hp3 k3 f3
    refine name_go ?_
    dsimp only
    refine ⟨_, rfl, _, rfl, by (show 1 ≤ sizeLine; omega), fun ro nro => ?_⟩
    obtain ⟨u4, w4', x4⟩ := S3.fresh nro
    have s4 := sameN (o := .lst [V.int 3]) nro
    have S4 := S3.more s4
    refine ⟨p, r, nl, ro, 2, rfl, Nat.le_refl _, S4.pool, S4.names, ⟨_, upd_same⟩, three npr w4', u4, fun v2 t2 H5 hv2 hf2 hl2 p5 _ k5 f5 => ?_⟩
    have S5 := S4.grown (three npr w4') x4 p5 k5 f5
    refine name_go ?_
    dsimp only
    have hsl := sub_levels pa hsub
    have hwp := levels_pos w
    have hbl := hb.levels
    have hbs := hb.size
    have z2 : t2.size ≤ 13 := by
      have h1 := size_pow hf2
      have h2 : 3 ^ t2.levels ≤ 3 ^ 3 := Nat.pow_le_pow_right (by decide) (by omega)
      have h3 : 3 ^ 3 = 27 := by decide
      omega
    have f35 : Firm H3 H5 := (Firm.of s4).trans f5
    refine ⟨_, rfl, _, rfl, _, rfl, v, v2, q1, t, t2, w, pa, 13, 3, rfl, hv.firm (f3.trans f35), hv2, f35.1 _ _ hq1, hsub, hb.fine, by omega, ⟨hf2, z2, by omega⟩, by omega, fun v' t' H6 s6 hv' hb' => ?_⟩
    exact ⟨v', t', _, _, _, rfl, hv', hb'.mono (by omega) (by omega), S5.more s6⟩
  · rintro σ H2 ⟨v, t, w3, w4, w5, rfl, hv, hb, S2⟩
    exact ⟨_, rfl, q v t H2 hv (hb.mono (by omega) (by omega)) S2⟩
end
end Tw
set_option maxHeartbeats 4000000
/-! The law's three trees. -/
namespace Tw
open PySem PySem.Spec PyProof.Rows L2 RZ ClX
abbrev sThree : Stmt := top 32
def spThree : Sp := fun vs H Q _ => ∃ (p r : Addr), vs = [.ref p] ∧ PoolAt H p r ∧ ∀ l us ts H', H' l = some (.lst us) → H l = none → TupsAt H' us ts → ts.length = 3 → (∀ t ∈ ts, Bd 1171 19 t) → PoolAt H' p r → KeptBut [p, r] H H' → Firm H H' → Q (.ref l) H'
theorem Bd.grown {t : T} {k : Nat} (h : t.fine = true) (hl : t.levels ≤ k) (hk : k ≤ 7) : Bd 1093 k t := by
  have h1 := size_pow h
  have h2 : 3 ^ t.levels ≤ 3 ^ 7 := Nat.pow_le_pow_right (by decide) (by omega)
  have h3 : 3 ^ 7 = 2187 := by decide
  exact ⟨h, by omega, hl⟩
section
variable {P : Program} {w : World} {K : PySem.W.Frag} {mg : Str → Option Value} {base : Heap}
theorem scTh : FnScope ["pool", "first", "names", "room", "one", "two", "three", "way"] ["pool"] (defScope sThree) := ⟨rfl, rfl, rfl, by decide +kernel, rfl, by decide +kernel, by decide +kernel⟩
theorem ok_three {fd0 fn fg fc : Addr} (gd : Gf K mg "_law_draw" fd0) (Fd : FnR P w K mg base CX0 1 fd0 spDraw) (gn : Gf K mg "_law_name_of" fn) (Fn : FnR P w K mg base CX0 2 fn spName) (gg : Gf K mg "_law_grow" fg) (Fg : ∀ D : Nat, FnR P w K mg base CX0 (D + 2) fg (spGrow D))
    (gc : Gf K mg "_law_changed" fc) (Fc : FnR P w K mg base CX0 63 fc spChanged) {f : Addr} {fd : FuncData} (F : Fun K "_law_three" "_law_three" sThree f fd) : FnR P w K mg base CX0 64 f spThree := by
  refine okR F scTh (fun vs H Q E h => ?_) (fun _ _ _ _ _ _ us hl => match us, hl with | [_], _ => rfl) (fun cdv A outer s H vs Q E hr h => ?_)
  · obtain ⟨p, r, rfl, _⟩ := h
    rfl
  obtain ⟨p, r, rfl, hp, q⟩ := h
  have hr1 : Room 1 _ := hr.mono (by decide)
  have hr2 : Room 2 _ := hr.mono (by decide)
  have hr5 : Room 5 _ := hr.mono (by decide)
  have hr8 : Room 8 _ := hr.mono (by decide)
  refine ⟨_, pss_cons (ps_set (i := 1) scTh.nd rfl (Or.inl rfl) (pe_cf Fn hr2 gn pass0 (pa_cons (pv 0) pa_nil)))
    (pss_cons (ps_set (i := 2) scTh.nd rfl (Or.inl rfl) (pe_lst (pa_cons (pv 1) (pa_cons (pe_slice sl_str (pe_op op_add_str (pv 1) pe_str) po_none (po_some pe_int)) (pa_cons (pe_cf Fn hr2 gn pass0 (pa_cons (pv 0) pa_nil)) pa_nil)))))
    (pss_cons (ps_set (i := 3) scTh.nd rfl (Or.inl rfl) (pe_ix ix_list (pe_lst (pa_cons pe_int (pa_cons pe_int (pa_cons pe_int (pa_cons pe_int pa_nil))))) (pe_cf Fd hr1 gd pass0 (pa_cons (pv 0) (pa_cons pe_int pa_nil))) (fun _ _ => rfl)))
    (pss_cons (ps_set (i := 4) scTh.nd rfl (Or.inl rfl) (pe_cf (Fg 6) hr8 gg pass0 (pa_cons (pv 0) (pa_cons (pv 2) (pa_cons (pe_lst (pa_cons (pv 3) pa_nil)) (pa_cons (pe_op op_add pe_int (pe_cf Fd hr1 gd pass0 (pa_cons (pv 0) (pa_cons pe_int pa_nil)))) pa_nil))))))
    (pss_cons (ps_set (i := 5) scTh.nd rfl (Or.inl rfl) (pe_cf Fc hr gc pass0 (pa_cons (pv 0) (pa_cons (pv 2) (pa_cons (pv 4) pa_nil)))))
    (pss_cons (ps_set (i := 6) scTh.nd rfl (Or.inl rfl) (pv 4))
    (pss_cons (ps_set (i := 7) scTh.nd rfl (Or.inl rfl) (pe_cf Fd hr1 gd pass0 (pa_cons (pv 0) (pa_cons pe_int pa_nil))))
    (pss_cons (ps_if (pt_cmpR op_eq (pv 7) pe_int (nomark _)) (pss_one (ps_set (i := 6) scTh.nd rfl (Or.inl rfl) (pe_cf (Fg 3) hr5 gg pass0 (pa_cons (pv 0) (pa_cons (pv 2) (pa_cons (pe_lst (pa_cons pe_int pa_nil)) (pa_cons pe_int pa_nil))))))) pss_nil)
    (pss_cons (ps_if (pt_cmpR op_gt (pv 7) pe_int (nomark _)) (pss_one (ps_set (i := 6) scTh.nd rfl (Or.inl rfl) (pe_cf Fc hr gc pass0 (pa_cons (pv 0) (pa_cons (pv 2) (pa_cons (pe_ix ix_list (pe_lst (pa_cons (pv 4) (pa_cons (pv 5) pa_nil))) (pe_op op_sub (pv 7) pe_int) (fun _ _ => rfl)) pa_nil)))))) pss_nil)
    (pss_one (ps_ret (pe_lst (pa_cons (pv 4) (pa_cons (pv 5) (pa_cons (pv 6) pa_nil)))))))))))))), ?_⟩
  have sl := sizeLine_eq
  refine ⟨_, rfl, p, r, rfl, hp, fun z H1 hz p1 k1 f1 => ?_⟩
  refine name_go ?_
  dsimp only
  have zl : z.length ≤ 8 := name_small (t := .node z []) (fine_big hz (Nat.zero_le _) (by unfold T.fines; rfl))
  have b1 : z.length + ("0A" : Str).length ≤ sizeLine := by
    have : ("0A" : Str).length = 2 := by decide
    omega
  refine ⟨_, rfl, _, rfl, _, _, rfl, rfl, b1, _, rfl, _, rfl, by rw [add_len]; omega, _, rfl, p, r, rfl, p1, fun z3 H3 hz3 p3 k3 f3 => ?_⟩
  refine ⟨by (show 3 ≤ sizeLine; omega), fun nl nnl => ?_⟩
  refine name_go ?_
  dsimp only
  have c1 : cutS (z ++ "0A" : Str) none (some 8) = mkS ((z ++ "0A" : Str).cps.toList.take 8) := cut0 (e := 8)
  rw [c1]
  obtain ⟨big1, _⟩ := big_cut (a := []) (b := []) hz
  have hnm : bigName (mkS ((z ++ "0A" : Str).cps.toList.take 8)).cps.toList = true := by
    rw [mkS_list, add_list]
    exact big1
  generalize mkS ((z ++ "0A" : Str).cps.toList.take 8) = n1 at hnm ⊢
  have k13 := k1.trans k3
  have f13 := f1.trans f3
  have npr : nl ∉ [p, r] := fun h => by
    obtain ⟨_, rows, sd, c, e1, e2, _⟩ := p3
    simp at h
    rcases h with rfl | rfl
    · rw [e1] at nnl; cases nnl
    · rw [e2] at nnl; cases nnl
  have s2 := sameN (o := .lst [V.str z, .str n1, .str z3]) nnl
  have S6 : SixSt H (upd H3 nl (.lst [V.str z, .str n1, .str z3])) p r nl :=
    ⟨p3.same s2, ⟨[z, n1, z3], upd_same, by simp, by show 3 ≤ 5; decide, fun n hn => by simp at hn; rcases hn with rfl | rfl | rfl <;> assumption⟩, k13.trans (.of s2), f13.trans (.of s2)⟩
  generalize (upd H3 nl (.lst [V.str z, .str n1, .str z3])) = H6 at S6 ⊢
  clear p1 p3 k1 k3 f1 f3 nnl s2 k13 f13
  have one1 : 1 ≤ sizeLine := by omega
  -- room
  refine ⟨by (show 4 ≤ sizeLine; omega), fun li nli => ?_⟩
  have sC := sameN (o := .lst [V.int 6, .int 12, .int 18, .int 30]) nli
  have SC' := S6.more sC
  have uC := (S6.fresh nli).1
  refine ⟨_, rfl, p, r, 4, rfl, SC'.pool, by decide, by decide, fun dD HD hdD pD kD fD => ?_⟩
  have SD := SC'.drawn npr pD kD fD
  have eD := kD _ _ (upd_same (H := H6) (a := li) (o := .lst [V.int 6, .int 12, .int 18, .int 30])) uC
  obtain ⟨rm, hrm⟩ : ∃ rm : Int, atI [V.int 6, .int 12, .int 18, .int 30] (dD : Int) = some (.int rm) := by
    match dD, hdD with
    | 0, _ => exact ⟨6, rfl⟩
    | 1, _ => exact ⟨12, rfl⟩
    | 2, _ => exact ⟨18, rfl⟩
    | 3, _ => exact ⟨30, rfl⟩
    | d + 4, h => exact absurd h (by omega)
  refine ⟨li, _, _, .int rm, rfl, rfl, SqL.of eD, hrm, ?_⟩
  refine name_go ?_
  dsimp only
  -- one
  refine ⟨_, rfl, _, rfl, _, rfl, one1, fun roE nroE => ?_⟩
  obtain ⟨uE, wE, xE⟩ := SD.fresh nroE
  have sE := sameN (o := .lst [V.int rm]) nroE
  have SE := SD.more sE
  have eE : (upd HD roE (.lst [V.int rm])) roE = some (.lst [.int rm]) := upd_same
  refine ⟨_, rfl, p, r, 5, rfl, SE.pool, by decide, by decide, fun dA HA hdA pA kA fA => ⟨_, _, rfl, rfl, ?_⟩⟩
  have SA := SE.drawn npr pA kA fA
  refine ⟨p, r, nl, roE, 2 + dA, ?_, by omega, SA.pool, SA.names, ⟨_, kA _ _ eE uE⟩, three npr wE, uE, fun v1 t1 HB hv1 hf1 hl1 pB _ kB fB => ?_⟩
  · dsimp only
    rw [show (2 + (dA : Int)) = ((2 + dA : Nat) : Int) by omega]
  have SB := SA.grown (three npr wE) xE pB kB fB
  have bd1 : Bd 1093 7 t1 := Bd.grown hf1 (by omega) (Nat.le_refl _)
  refine name_go ?_
  dsimp only
  -- two
  refine ⟨_, rfl, _, rfl, _, rfl, p, r, nl, v1, t1, 1093, 7, rfl, SB.pool, SB.names, npr, hv1, bd1, by omega, by omega, fun v2 t2 HF hv2 bd2 SF0 => ?_⟩
  have SF : SixSt H HF p r nl := SB.drawn npr SF0.pool SF0.kept SF0.firm
  have hv1F := hv1.firm SF0.firm
  clear SE SA SD SC' S6 kB fB pB kA fA pA eE sE kD fD pD eD sC hv1 uE
  refine name_go ?_
  dsimp only
  refine ⟨_, rfl, ?_⟩
  refine name_go ?_
  dsimp only
  -- way
  refine ⟨_, rfl, p, r, 4, rfl, SF.pool, by decide, by decide, fun dG HG hdG pG kG fG => ?_⟩
  have SG := SF.drawn npr pG kG fG
  have hv1G := hv1F.firm fG
  have hv2G := hv2.firm fG
  refine name_go ?_
  dsimp only
  refine seq_join (fun σ H' => ∃ (v3 : V) (t3 : T), σ = [some (.ref p), some (.str z), some (.ref nl), some (.int rm), some v1, some v2, some v3, some (.int (dG : Int))] ∧ SixSt H H' p r nl ∧ Firm HG H' ∧ TupAt H' v3 t3 ∧ Bd 1171 19 t3) (fun nx hnx => ?_) ?_
  · refine ⟨_, rfl, rfl, _, rfl, ?_⟩
    refine ite2 (fun _ => ?_) (fun _ => hnx _ _ ⟨v1, t1, rfl, SG, Firm.refl _, hv1G, bd1.mono (by omega) (by omega)⟩)
    refine ⟨_, rfl, _, rfl, one1, fun ro nro => ?_⟩
    obtain ⟨u, w', x⟩ := SG.fresh nro
    have s := sameN (o := .lst [V.int 8]) nro
    have S' := SG.more s
    refine ⟨p, r, nl, ro, 3, rfl, Nat.le_refl _, S'.pool, S'.names, ⟨_, upd_same⟩, three npr w', u, fun v3 t3 HI hv3 hf3 hl3 pI _ kI fI => ?_⟩
    exact hnx _ _ ⟨v3, t3, rfl, S'.grown (three npr w') x pI kI fI, (Firm.of s).trans fI, hv3, (Bd.grown hf3 hl3 (by omega)).mono (by omega) (by omega)⟩
  rintro σ HI ⟨v3, t3, rfl, SI, fI, hv3, bd3⟩
  have hv1I := hv1G.firm fI
  have hv2I := hv2G.firm fI
  refine seq_join (fun σ H' => ∃ (v3 : V) (t3 : T), σ = [some (.ref p), some (.str z), some (.ref nl), some (.int rm), some v1, some v2, some v3, some (.int (dG : Int))] ∧ SixSt H H' p r nl ∧ Firm HI H' ∧ TupAt H' v3 t3 ∧ Bd 1171 19 t3) (fun nx hnx => ?_) ?_
  · refine ⟨_, rfl, _, _, rfl, rfl, _, rfl, ?_⟩
    refine ite2 (fun c => ?_) (fun _ => hnx _ _ ⟨v3, t3, rfl, SI, Firm.refl _, hv3, bd3⟩)
    have c' := of_decide_eq_true c
    refine ⟨_, rfl, _, rfl, _, rfl, _, rfl, by (show 2 ≤ sizeLine; omega), fun l2 nl2 => ?_⟩
    have s := sameN (o := .lst [v1, v2]) nl2
    have S' := SI.more s
    refine ⟨_, rfl, _, _, rfl, rfl, ?_⟩
    obtain ⟨vx, tx, hvx, hx, bx⟩ : ∃ vx tx, atI [v1, v2] ((dG : Int) - 2) = some vx ∧ TupAt (upd HI l2 (.lst [v1, v2])) vx tx ∧ Bd 1132 13 tx := by
      match dG, hdG, c' with
      | 0, _, h => exact absurd h (by decide)
      | 1, _, h => exact absurd h (by decide)
      | 2, _, _ => exact ⟨v1, t1, rfl, hv1I.mono s, bd1.mono (by omega) (by omega)⟩
      | 3, _, _ => exact ⟨v2, t2, rfl, hv2I.mono s, bd2⟩
      | d + 4, h, _ => exact absurd h (by omega)
    refine ⟨l2, _, _, vx, rfl, rfl, SqL.of upd_same, hvx, ?_⟩
    refine ⟨p, r, nl, vx, tx, 1132, 13, rfl, S'.pool, S'.names, npr, hx, bx, by omega, by omega, fun v4 t4 HJ hv4 bd4 SJ => ?_⟩
    exact hnx _ _ ⟨v4, t4, rfl, S'.drawn npr SJ.pool SJ.kept SJ.firm, (Firm.of s).trans SJ.firm, hv4, bd4⟩
  rintro σ HJ ⟨v3, t3, rfl, SJ, fJ, hv3, bd3⟩
  refine ⟨_, rfl, _, rfl, _, rfl, by (show 3 ≤ sizeLine; omega), fun l nl' => ?_⟩
  have s := sameN (o := .lst [v1, v2, v3]) nl'
  have SL := SJ.more s
  refine q l _ [t1, t2, t3] _ upd_same (SJ.fresh nl').2.2 (.cons ((hv1I.firm fJ).mono s) (.cons ((hv2I.firm fJ).mono s) (.cons (hv3.mono s) .nil))) rfl (fun t ht => ?_) SL.pool SL.kept SL.firm
  simp at ht
  rcases ht with rfl | rfl | rfl
  · exact bd1.mono (by omega) (by omega)
  · exact bd2.mono (by omega) (by omega)
  · exact bd3
end
end Tw
set_option maxHeartbeats 4000000
/-! The law's common part. -/
namespace Tw
open PySem PySem.Spec PyProof.Rows L2 RZ ClX
abbrev sCommon : Stmt := top 33
theorem rel_tupsT {H : Hp} : ∀ {ys : List V} {ts : List T}, ys.length = ts.length → (∀ (j : Nat) (v : V), ys[j]? = some v → ∃ u, ts[j]? = some u ∧ TupAt H v u) → TupsAt H ys ts
  | [], [], _, _ => .nil
  | [], _ :: _, l, _ => by simp at l
  | _ :: _, [], l, _ => by simp at l
  | y :: ys, t :: ts, l, h => by
    obtain ⟨u, hu, h0⟩ := h 0 y rfl
    have e : t = u := by simpa using hu
    subst e
    exact .cons h0 (rel_tupsT (by simpa using l) fun j v e => h (j + 1) v (by simpa using e))
def spCommon (D : Nat) : Sp := fun vs H Q _ => ∃ (v w : V) (t u : T), vs = [v, w] ∧ TupAt H v t ∧ TupAt H w u ∧ t.fine = true ∧ t.levels ≤ D + 1 ∧ ∀ v' H', Same H H' → TupAt H' v' (tcom t u) → Q v' H'
section
variable {P : Program} {w : World} {K : PySem.W.Frag} {mg : Str → Option Value} {base : Heap}
theorem scCm : FnScope ["one", "two", "parts", "k"] ["one", "two"] (defScope sCommon) := ⟨rfl, rfl, rfl, by decide +kernel, rfl, by decide +kernel, by decide +kernel⟩
theorem com_step (ml : mg "len" = none) (mr : mg "range" = none) (mt : mg "tuple" = none) {f : Addr} {fd : FuncData} (F : Fun K "_law_common" "_law_common" sCommon f fd) (gm : Gf K mg "_law_common" f) {k D : Nat} {sp : Sp}
    (FM : FnR P w K mg base CX0 k f sp) (hD : ∀ vs H Q E, D ≠ 0 → spCommon (D - 1) vs H Q E → sp vs H Q E) : FnR P w K mg base CX0 (k + 1) f (spCommon D) := by
  refine okR F scCm (fun vs H Q E h => ?_) (fun _ _ _ _ _ _ us hl => match us, hl with | [_, _], _ => rfl) (fun cdv A outer s H vs Q E hr h => ?_)
  · obtain ⟨v, w, t, u, rfl, _⟩ := h
    rfl
  obtain ⟨v, w, t, u, rfl, hv, hw, hf, hl, q⟩ := h
  refine ⟨_, pss_cons (ps_if (PW.pt (pw_or (pt_cmpR op_ne (pe_ix ix_tup (pv 0) pe_int (fun _ _ => rfl)) (pe_ix ix_tup (pv 1) pe_int (fun _ _ => rfl)) (nomark _)) (pw_or1 (pt_cmpR op_ne (pe_callB call_len_seq (by rfl) ml PySem.boot_len (pa_cons (pe_ix ix_tup (pv 0) pe_int (fun _ _ => rfl)) pa_nil)) (pe_callB call_len_seq (by rfl) ml PySem.boot_len (pa_cons (pe_ix ix_tup (pv 1) pe_int (fun _ _ => rfl)) pa_nil)) (nomark _)))))
      (pss_one (ps_ret (pe_tup (pa_cons pe_str (pa_cons (pe_tup pa_nil) pa_nil))))) pss_nil)
    (pss_cons (ps_setLc (i := 2) (own := [("k", 3)]) (g := gName 3) (tt := tYes) (te := tCf sp E0 (tCons (tOp (rIxT K) (tOp (rIxT K) (tVar 0) (tC (.int 1))) (tVar 3)) (tCons (tOp (rIxT K) (tOp (rIxT K) (tVar 1) (tC (.int 1))) (tVar 3)) tNil))) rfl scCm.nd rfl rfl (by rfl)
      (pi_range1 (by rfl) mr (pa_cons (pe_callB call_len_seq (by rfl) ml PySem.boot_len (pa_cons (pe_ix ix_tup (pv 0) pe_int (fun _ _ => rfl)) pa_nil)) pa_nil)) (blkOk_by (own := [("k", 3)]) (N := ["one", "two", "parts", "k"]) (sc := defScope sCommon) (by decide +kernel))
      (fun _ _ _ _ _ => by exact pg_name (i := 3) scCm.nd rfl (Or.inl rfl)) (fun _ _ _ _ _ => by exact pts_nil) (fun _ _ _ _ _ => by exact pe_cf FM hr gm pass0 (pa_cons (pe_ix ix_tup (pe_ix ix_tup (pv 0) pe_int (fun _ _ => rfl)) (pv 3) (fun _ _ => rfl)) (pa_cons (pe_ix ix_tup (pe_ix ix_tup (pv 1) pe_int (fun _ _ => rfl)) (pv 3) (fun _ _ => rfl)) pa_nil))))
    (pss_one (ps_ret (pe_tup (pa_cons (pe_ix ix_tup (pv 0) pe_int (fun _ _ => rfl)) (pa_cons (pe_callTy call_tuple_of (by rfl) mt (by decide +kernel) (pa_cons (pv 2) pa_nil)) pa_nil)))))), ?_⟩
  have sl := sizeLine_eq
  obtain ⟨a, ac, ws, rfl, h1, h2, h3⟩ := hv.ex
  obtain ⟨b, bc, xs, rfl, g1, g2, g3⟩ := hw.ex
  have el := h3.len
  have el2 := g3.len
  obtain ⟨hp3, hpf⟩ := fine_parts hf
  have et : t = .node t.name t.parts := by cases t; rfl
  have eu : u = .node u.name u.parts := by cases u; rfl
  have no : ¬ (t.name = u.name ∧ t.parts.length = u.parts.length) → ∀ (c d : Addr), H c = none → (upd H c (.tup [])) d = none → Q (.ref d) (upd (upd H c (.tup [])) d (.tup [.str "_", .ref c])) := fun hne c d nc nd => by
    have s1 := sameN (o := .tup []) nc
    have s2 := sameN (o := .tup [V.str "_", .ref c]) nd
    refine q _ _ (s1.trans s2) ?_
    have e : tcom t u = .node "_" [] := by
      conv => lhs; rw [et, eu]
      rw [tcom_eq, if_neg hne]
    rw [e]
    exact .mk upd_same (s2 _ _ upd_same) .nil
  refine ⟨_, rfl, a, _, _, .str t.name, rfl, rfl, SqT.of h1, rfl, _, rfl, b, _, _, .str u.name, rfl, rfl, SqT.of g1, rfl, rfl, _, rfl, ?_⟩
  refine ite2 (fun c => ?_) (fun c => ?_)
  · refine iteT ?_
    refine ⟨Nat.zero_le _, fun c1 nc => ⟨by (show 2 ≤ sizeLine; omega), fun d nd => no (fun e => ?_) c1 d nc nd⟩⟩
    rw [e.1] at c
    simp at c
  have hn : t.name = u.name := by
    simp at c
    exact c
  refine ⟨_, rfl, a, _, _, .ref ac, rfl, rfl, SqT.of h1, rfl, ac, ws, rfl, .inr (SqT.of h2), _, rfl, b, _, _, .ref bc, rfl, rfl, SqT.of g1, rfl, bc, xs, rfl, .inr (SqT.of g2), rfl, _, rfl, ?_⟩
  refine ite2 (fun c => ?_) (fun c => ?_)
  · refine ⟨Nat.zero_le _, fun c1 nc => ⟨by (show 2 ≤ sizeLine; omega), fun d nd => no (fun e => ?_) c1 d nc nd⟩⟩
    rw [el, el2, e.2] at c
    simp at c
  have hl2 : t.parts.length = u.parts.length := by
    rw [el, el2] at c
    simp at c
    omega
  have ec : tcom t u = .node t.name (tcoms t.parts u.parts) := by
    conv => lhs; rw [et, eu]
    rw [tcom_eq, if_pos ⟨hn, hl2⟩]
  refine ⟨_, rfl, a, _, _, .ref ac, rfl, rfl, SqT.of h1, rfl, ac, ws, rfl, .inr (SqT.of h2), _, rfl, by omega, by omega, fun D' hD' => ?_⟩
  refine lc_relY (walk_range (n := ws.length)) hD' (fun _ _ => trivial) (by omega) (fun j v H' => ∃ x, (tcoms t.parts u.parts)[j]? = some x ∧ TupAt H' v x) ?_ ?_ ?_ ?_
  · rintro j v H1 H2 _ s ⟨x, e, hx⟩
    exact ⟨x, e, hx.mono s⟩
  · rintro j v H1 l l' _ e1 ⟨x, e, hx⟩
    exact ⟨x, e, hx.firm (Firm.list e1)⟩
  · rintro i x H1 H2 R hi ⟨rfl, rfl⟩ sm _ hR
    obtain ⟨x1, e1⟩ : ∃ x, ws[i]? = some x := ⟨_, List.getElem?_eq_getElem hi⟩
    obtain ⟨x2, e2⟩ : ∃ x, xs[i]? = some x := ⟨_, List.getElem?_eq_getElem (by omega)⟩
    obtain ⟨t1, ht1, hx1⟩ := h3.get e1
    obtain ⟨t2, ht2, hx2⟩ := g3.get e2
    have htm := List.mem_of_getElem? ht1
    have hlv := levels_part htm
    have hlp := levels_pos t1
    refine ⟨rfl, _, rfl, a, _, _, .ref ac, rfl, rfl, SqT.of (sm _ _ h1), rfl, _, rfl, ac, ws, _, x1, rfl, rfl, SqT.of (sm _ _ h2), ?_, _, rfl, b, _, _, .ref bc, rfl, rfl, SqT.of (sm _ _ g1), rfl, _, rfl, bc, xs, _, x2, rfl, rfl, SqT.of (sm _ _ g2), ?_, ?_⟩
    · rw [Int.zero_add]; exact atI_nat e1
    · rw [Int.zero_add]; exact atI_nat e2
    · exact hD _ _ _ _ (by omega) ⟨_, _, t1, t2, rfl, hx1.mono sm, hx2.mono sm, hpf t1 htm, by omega, fun v' H' k' hv' => hR v' H' k' ⟨_, tcoms_get _ _ _ ht1 ht2, hv'⟩⟩
  · intro H1 ys sm hys hyl hyr
    have hts : TupsAt H1 ys (tcoms t.parts u.parts) := rel_tupsT (by rw [tcoms_len _ _ hl2]; omega) hyr
    refine name_go ?_
    dsimp only
    refine ⟨_, rfl, a, _, _, .str t.name, rfl, rfl, SqT.of (sm _ _ h1), rfl, _, rfl, D', _, rfl, .inl ⟨SqL.of hys, fun p np => ?_⟩⟩
    have s2 := sameN (o := .tup ys) np
    refine ⟨by (show 2 ≤ sizeLine; omega), fun p2 np2 => ?_⟩
    have s3 := sameN (o := .tup [V.str t.name, .ref p]) np2
    refine q _ _ (sm.trans (s2.trans s3)) ?_
    rw [ec]
    exact .mk upd_same (s3 _ _ upd_same) (hts.mono (s2.trans s3))
theorem ok_com (ml : mg "len" = none) (mr : mg "range" = none) (mt : mg "tuple" = none) {f : Addr} {fd : FuncData} (F : Fun K "_law_common" "_law_common" sCommon f fd) (gm : Gf K mg "_law_common" f) : ∀ D : Nat, FnR P w K mg base CX0 (D + 1) f (spCommon D)
  | 0 => com_step ml mr mt F gm (k := 0) (sp := fun _ _ _ _ => False) (fun _ _ _ _ _ _ _ _ _ _ _ hs => hs.elim) fun _ _ _ _ h => absurd rfl h
  | D + 1 => com_step ml mr mt F gm (k := D + 1) (ok_com ml mr mt F gm D) fun _ _ _ _ _ h => h
end
end Tw
set_option maxHeartbeats 4000000
/-! The law looks what covers what, and for gaps. -/
namespace Tw
open PySem PySem.Spec PyProof.Rows L2 RZ ClX
abbrev sOver : Stmt := top 34
abbrev sGaps : Stmt := top 35
theorem tovs_false : ∀ {ps qs : List T} {i : Nat} {p q : T}, ps[i]? = some p → qs[i]? = some q → tov p q = false → tovs ps qs = false
  | [], _, i, p, q, h, _, _ => by simp at h
  | _ :: _, [], i, p, q, _, h, _ => by simp at h
  | a :: ps, b :: qs, 0, p, q, h1, h2, h => by
    have e1 : a = p := by simpa using h1
    have e2 : b = q := by simpa using h2
    subst e1 e2
    rw [tovs_cons, h, Bool.false_and]
  | a :: ps, b :: qs, i + 1, p, q, h1, h2, h => by
    rw [tovs_cons, tovs_false (by simpa using h1) (by simpa using h2) h, Bool.and_false]
theorem tovs_true : ∀ {ps qs : List T}, ps.length = qs.length → (∀ (j : Nat) (p q : T), ps[j]? = some p → qs[j]? = some q → tov p q = true) → tovs ps qs = true
  | [], _, _, _ => tovs_nil _
  | _ :: _, [], h, _ => by simp at h
  | a :: ps, b :: qs, hl, h => by
    rw [tovs_cons, h 0 a b rfl rfl, tovs_true (by simpa using hl) fun j p q e1 e2 => h (j + 1) p q (by simpa using e1) (by simpa using e2)]
    rfl
theorem hsL_snoc (pa : Path) (t : T) : ∀ (l : List T) (j : Nat), T.hsL pa j (l ++ [t]) = T.hsL pa j l ++ t.hs (pa ++ [j + l.length])
  | [], j => by
    show T.hsL pa j [t] = _
    rw [hsL_cons, hsL_nil, hsL_nil]
    simp
  | a :: l, j => by
    have ih := hsL_snoc pa t l (j + 1)
    show T.hsL pa j (a :: (l ++ [t])) = T.hsL pa j (a :: l) ++ _
    rw [hsL_cons, hsL_cons, ih, List.append_assoc, List.length_cons, show j + 1 + l.length = j + (l.length + 1) by omega]
mutual
theorem hs_le : ∀ (t : T) (pa : Path), (t.hs pa).length ≤ t.size
  | .node n ps, pa => by
    rw [hs_eq, size_node]
    split
    · simp
    · have := hsL_le ps 0 pa
      omega
theorem hsL_le : ∀ (ps : List T) (i : Nat) (pa : Path), (T.hsL pa i ps).length ≤ T.sizes ps
  | [], i, pa => by rw [hsL_nil, sizes_nil]; simp
  | p :: r, i, pa => by
    have h1 := hs_le p (pa ++ [i])
    have h2 := hsL_le r (i + 1) pa
    rw [hsL_cons, sizes_cons, List.length_append]
    omega
end
def spOver (D : Nat) : Sp := fun vs H Q _ => ∃ (v w : V) (t u : T), vs = [v, w] ∧ TupAt H v t ∧ TupAt H w u ∧ t.fine = true ∧ t.levels ≤ D + 1 ∧ ∀ H', Same H H' → Q (.bl (tov t u)) H'
def spGaps (D : Nat) : Sp := fun vs H Q _ => ∃ (v : V) (q : Addr) (t : T) (pa : Path), vs = [v, .ref q] ∧ TupAt H v t ∧ H q = some (.tup (pV pa)) ∧ t.levels ≤ D + 1 ∧ t.size ≤ 10000 ∧ pa.length + t.levels ≤ 1000 ∧
  ∀ l H' ws, Same H H' → H l = none → H' l = some (.lst ws) → PathsAt H' ws (t.hs pa) → Q (.ref l) H'
section
variable {P : Program} {w : World} {K : PySem.W.Frag} {mg : Str → Option Value} {base : Heap}
theorem scOv : FnScope ["one", "two", "k"] ["one", "two"] (defScope sOver) := ⟨rfl, rfl, rfl, by decide +kernel, rfl, by decide +kernel, by decide +kernel⟩
theorem scGp : FnScope ["tree", "path", "found", "k"] ["tree", "path"] (defScope sGaps) := ⟨rfl, rfl, rfl, by decide +kernel, rfl, by decide +kernel, by decide +kernel⟩
theorem over_step (ml : mg "len" = none) (mr : mg "range" = none) {f : Addr} {fd : FuncData} (F : Fun K "_law_over" "_law_over" sOver f fd) (gm : Gf K mg "_law_over" f) {k D : Nat} {sp : Sp}
    (FM : FnR P w K mg base CX0 k f sp) (hD : ∀ vs H Q E, D ≠ 0 → spOver (D - 1) vs H Q E → sp vs H Q E) : FnR P w K mg base CX0 (k + 1) f (spOver D) := by
  refine okR F scOv (fun vs H Q E h => ?_) (fun _ _ _ _ _ _ us hl => match us, hl with | [_, _], _ => rfl) (fun cdv A outer s H vs Q E hr h => ?_)
  · obtain ⟨v, w, t, u, rfl, _⟩ := h
    rfl
  obtain ⟨v, w, t, u, rfl, hv, hw, hf, hl, q⟩ := h
  refine ⟨_, pss_cons (ps_if (pt_cmpR op_eq (pe_ix ix_tup (pv 0) pe_int (fun _ _ => rfl)) pe_str (nomark _)) (pss_one (ps_ret pe_bl)) pss_nil)
    (pss_cons (ps_if (PW.pt (pw_or (pt_cmpR op_ne (pe_ix ix_tup (pv 0) pe_int (fun _ _ => rfl)) (pe_ix ix_tup (pv 1) pe_int (fun _ _ => rfl)) (nomark _)) (pw_or1 (pt_cmpR op_ne (pe_callB call_len_seq (by rfl) ml PySem.boot_len (pa_cons (pe_ix ix_tup (pv 0) pe_int (fun _ _ => rfl)) pa_nil)) (pe_callB call_len_seq (by rfl) ml PySem.boot_len (pa_cons (pe_ix ix_tup (pv 1) pe_int (fun _ _ => rfl)) pa_nil)) (nomark _)))))
      (pss_one (ps_ret pe_bl)) pss_nil)
    (pss_cons (ps_for PassesOwn.never rfl (pi_range1 (by rfl) mr (pa_cons (pe_callB call_len_seq (by rfl) ml PySem.boot_len (pa_cons (pe_ix ix_tup (pv 0) pe_int (fun _ _ => rfl)) pa_nil)) pa_nil)) (pg_name (i := 2) scOv.nd rfl (Or.inl rfl))
      (pss_one (ps_if (pt_not (pt_val (pe_cf FM hr gm pass0 (pa_cons (pe_ix ix_tup (pe_ix ix_tup (pv 0) pe_int (fun _ _ => rfl)) (pv 2) (fun _ _ => rfl)) (pa_cons (pe_ix ix_tup (pe_ix ix_tup (pv 1) pe_int (fun _ _ => rfl)) (pv 2) (fun _ _ => rfl)) pa_nil))))) (pss_one (ps_ret pe_bl)) pss_nil)))
    (pss_one (ps_ret pe_bl)))), ?_⟩
  have sl := sizeLine_eq
  obtain ⟨a, ac, ws, rfl, h1, h2, h3⟩ := hv.ex
  obtain ⟨b, bc, xs, rfl, g1, g2, g3⟩ := hw.ex
  have el := h3.len
  have el2 := g3.len
  obtain ⟨hp3, hpf⟩ := fine_parts hf
  have et : t = .node t.name t.parts := by cases t; rfl
  have eu : u = .node u.name u.parts := by cases u; rfl
  have eov : tov t u = if t.name = "_" ∧ t.parts = [] then true else if t.name = u.name ∧ t.parts.length = u.parts.length then tovs t.parts u.parts else false := by
    conv => lhs; rw [et, eu]
    exact tov_eq _ _ _ _
  refine ⟨_, rfl, a, _, _, .str t.name, rfl, rfl, SqT.of h1, rfl, rfl, _, rfl, ?_⟩
  refine ite2 (fun c => ?_) (fun c => ?_)
  · have e : t.name = "_" := V.str.inj (of_decide_eq_true c)
    rw [if_pos ⟨e, und_fine (by rw [← e, ← et]; exact hf)⟩] at eov
    rw [eov] at q
    exact q H (Same.refl H)
  have hnu : ¬ t.name = "_" := fun e => c (decide_eq_true (congrArg V.str e))
  rw [if_neg fun z => hnu z.1] at eov
  refine ⟨_, rfl, a, _, _, .str t.name, rfl, rfl, SqT.of h1, rfl, _, rfl, b, _, _, .str u.name, rfl, rfl, SqT.of g1, rfl, rfl, _, rfl, ?_⟩
  refine ite2 (fun c => ?_) (fun c => ?_)
  · refine iteT ?_
    rw [if_neg fun e => by rw [e.1] at c; simp at c] at eov
    rw [eov] at q
    exact q H (Same.refl H)
  have hn : t.name = u.name := by
    simp at c
    exact c
  refine ⟨_, rfl, a, _, _, .ref ac, rfl, rfl, SqT.of h1, rfl, ac, ws, rfl, .inr (SqT.of h2), _, rfl, b, _, _, .ref bc, rfl, rfl, SqT.of g1, rfl, bc, xs, rfl, .inr (SqT.of g2), rfl, _, rfl, ?_⟩
  refine ite2 (fun c => ?_) (fun c => ?_)
  · rw [if_neg fun e => by rw [el, el2, e.2] at c; simp at c] at eov
    rw [eov] at q
    exact q H (Same.refl H)
  have hl2 : t.parts.length = u.parts.length := by
    rw [el, el2] at c
    simp at c
    omega
  rw [if_pos ⟨hn, hl2⟩] at eov
  refine ⟨_, rfl, a, _, _, .ref ac, rfl, rfl, SqT.of h1, rfl, ac, ws, rfl, .inr (SqT.of h2), _, rfl, by omega, by omega, ?_⟩
  refine for_range (n := ws.length) (fun i σ H' => Same H H' ∧ (∃ w2, σ = [some (.ref a), some (.ref b), w2]) ∧ ∀ j, j < i → ∀ p q, t.parts[j]? = some p → u.parts[j]? = some q → tov p q = true) ⟨Same.refl H, ⟨none, rfl⟩, fun j h => absurd h (by omega)⟩ ?_ ?_
  · rintro i σ H1 hi ⟨sm, ⟨w2, rfl⟩, hal⟩
    obtain ⟨x1, e1⟩ : ∃ x, ws[i]? = some x := ⟨_, List.getElem?_eq_getElem hi⟩
    obtain ⟨x2, e2⟩ : ∃ x, xs[i]? = some x := ⟨_, List.getElem?_eq_getElem (by omega)⟩
    obtain ⟨t1, ht1, hx1⟩ := h3.get e1
    obtain ⟨t2, ht2, hx2⟩ := g3.get e2
    have htm := List.mem_of_getElem? ht1
    have hlv := levels_part htm
    have hlp := levels_pos t1
    refine name_go ?_
    dsimp only
    rw [Int.zero_add]
    refine ⟨_, rfl, a, _, _, .ref ac, rfl, rfl, SqT.of (sm _ _ h1), rfl, _, rfl, ac, ws, _, x1, rfl, rfl, SqT.of (sm _ _ h2), atI_nat e1, _, rfl, b, _, _, .ref bc, rfl, rfl, SqT.of (sm _ _ g1), rfl, _, rfl, bc, xs, _, x2, rfl, rfl, SqT.of (sm _ _ g2), atI_nat e2, ?_⟩
    refine hD _ _ _ _ (by omega) ⟨_, _, t1, t2, rfl, hx1.mono sm, hx2.mono sm, hpf t1 htm, by omega, fun H' k' => ⟨_, rfl, ?_⟩⟩
    cases ho : tov t1 t2 with
    | true =>
      refine iteF ⟨sm.trans k', ⟨_, rfl⟩, fun j hj p q' ep eq => ?_⟩
      by_cases h : j < i
      · exact hal j h p q' ep eq
      · have : j = i := by omega
        subst this
        rw [ht1] at ep
        rw [ht2] at eq
        cases ep
        cases eq
        exact ho
    | false =>
      refine iteT ?_
      rw [eov, tovs_false ht1 ht2 ho] at q
      exact q H' (sm.trans k')
  · rintro σ H1 ⟨sm, ⟨w2, rfl⟩, hal⟩
    rw [eov, tovs_true hl2 fun j p q' e1 e2 => hal j (by have := (List.getElem?_eq_some_iff.mp e1).1; omega) p q' e1 e2] at q
    exact q H1 sm
theorem ok_over (ml : mg "len" = none) (mr : mg "range" = none) {f : Addr} {fd : FuncData} (F : Fun K "_law_over" "_law_over" sOver f fd) (gm : Gf K mg "_law_over" f) : ∀ D : Nat, FnR P w K mg base CX0 (D + 1) f (spOver D)
  | 0 => over_step ml mr F gm (k := 0) (sp := fun _ _ _ _ => False) (fun _ _ _ _ _ _ _ _ _ _ _ hs => hs.elim) fun _ _ _ _ h => absurd rfl h
  | D + 1 => over_step ml mr F gm (k := D + 1) (ok_over ml mr F gm D) fun _ _ _ _ _ h => h
theorem gaps_step (ml : mg "len" = none) (mr : mg "range" = none) {f : Addr} {fd : FuncData} (F : Fun K "_law_gaps" "_law_gaps" sGaps f fd) (gm : Gf K mg "_law_gaps" f) {k D : Nat} {sp : Sp}
    (FM : FnR P w K mg base CX0 k f sp) (hD : ∀ vs H Q E, D ≠ 0 → spGaps (D - 1) vs H Q E → sp vs H Q E) : FnR P w K mg base CX0 (k + 1) f (spGaps D) := by
  refine okR F scGp (fun vs H Q E h => ?_) (fun _ _ _ _ _ _ us hl => match us, hl with | [_, _], _ => rfl) (fun cdv A outer s H vs Q E hr h => ?_)
  · obtain ⟨d, q, t, pa, rfl, _⟩ := h
    rfl
  obtain ⟨d, q, t, pa, rfl, hd, hq, hl, hz, hpl, qq⟩ := h
  refine ⟨_, pss_cons (ps_if (pt_cmpR op_eq (pe_ix ix_tup (pv 0) pe_int (fun _ _ => rfl)) pe_str (nomark _)) (pss_one (ps_ret (pe_lst (pa_cons (pv 1) pa_nil)))) pss_nil)
    (pss_cons (ps_set (i := 2) scGp.nd rfl (Or.inl rfl) (pe_lst pa_nil))
    (pss_cons (ps_for PassesOwn.never rfl (pi_range1 (by rfl) mr (pa_cons (pe_callB call_len_seq (by rfl) ml PySem.boot_len (pa_cons (pe_ix ix_tup (pv 0) pe_int (fun _ _ => rfl)) pa_nil)) pa_nil)) (pg_name (i := 3) scGp.nd rfl (Or.inl rfl))
      (pss_one (ps_set (i := 2) scGp.nd rfl (Or.inl rfl) (pe_op op_cat (pv 2) (pe_cf FM hr gm pass0 (pa_cons (pe_ix ix_tup (pe_ix ix_tup (pv 0) pe_int (fun _ _ => rfl)) (pv 3) (fun _ _ => rfl)) (pa_cons (pe_op op_catA (pv 1) (pe_tup (pa_cons (pv 3) pa_nil))) pa_nil)))))))
    (pss_one (ps_ret (pv 2))))), ?_⟩
  have sl := sizeLine_eq
  obtain ⟨da, dl, dvs, rfl, g1, g3, g4⟩ := hd.ex
  have hdl := g4.len
  have hpt := parts_le t
  have et : t = .node t.name t.parts := by cases t; rfl
  refine ⟨_, rfl, da, _, _, .str t.name, rfl, rfl, SqT.of g1, rfl, rfl, _, rfl, ?_⟩
  refine ite2 (fun c => ?_) (fun c => ?_)
  · have e : t.name = "_" := V.str.inj (of_decide_eq_true c)
    refine ⟨_, rfl, by (show 1 ≤ sizeLine; omega), fun l nl => ?_⟩
    have s1 := sameN (o := .lst [V.ref q]) nl
    refine qq l _ _ s1 nl upd_same ?_
    rw [et, hs_eq, if_pos e]
    exact .cons ⟨q, rfl, s1 _ _ hq⟩ .nil
  have hnu : ¬ t.name = "_" := fun e => c (decide_eq_true (congrArg V.str e))
  have ehs : t.hs pa = T.hsL pa 0 t.parts := by
    conv => lhs; rw [et]
    rw [hs_eq, if_neg hnu]
  refine ⟨Nat.zero_le _, fun l0 nl0 => ?_⟩
  refine name_go ?_
  dsimp only
  have s1 := sameN (o := .lst []) nl0
  have e0 : (upd H l0 (.lst [])) l0 = some (.lst []) := upd_same
  generalize (upd H l0 (.lst [])) = H1 at s1 e0 ⊢
  refine ⟨_, rfl, da, _, _, .ref dl, rfl, rfl, SqT.of (s1 _ _ g1), rfl, dl, dvs, rfl, .inr (SqT.of (s1 _ _ g3)), _, rfl, by omega, by omega, ?_⟩
  refine for_range (n := dvs.length) (fun i σ H' => Same H H' ∧ ∃ (l : Addr) (ws : List V) (w3 : Option V), σ = [some (.ref da), some (.ref q), some (.ref l), w3] ∧ H l = none ∧ H' l = some (.lst ws) ∧ PathsAt H' ws (T.hsL pa 0 (t.parts.take i)))
    ⟨s1, l0, _, none, rfl, nl0, e0, by rw [List.take_zero, hsL_nil]; exact .nil⟩ ?_ ?_
  · rintro i σ H2 hi ⟨s3, l, ws, w3, rfl, nl, hlw, hrs⟩
    refine name_go ?_
    dsimp only
    rw [Int.zero_add]
    obtain ⟨y, hy⟩ : ∃ y, dvs[i]? = some y := ⟨_, List.getElem?_eq_getElem hi⟩
    obtain ⟨u, hu, huy⟩ := g4.get hy
    have hum := List.mem_of_getElem? hu
    have hlv := levels_part hum
    have hsv := size_part hum
    have hu1 := levels_pos u
    refine ⟨_, rfl, _, rfl, da, _, _, .ref dl, rfl, rfl, SqT.of (s3 _ _ g1), rfl, _, rfl, dl, dvs, _, y, rfl, rfl, SqT.of (s3 _ _ g3), atI_nat hy, _, rfl, _, rfl, by (show 1 ≤ sizeLine; omega), fun b nb => ?_⟩
    have s4 := sameN (o := .tup [V.int (i : Int)]) nb
    refine cat_go (s4 _ _ (s3 _ _ hq)) upd_same (by omega) fun b2 H3 s5 hb2 => ?_
    have s45 := s4.trans s5
    refine hD _ _ _ _ (by omega) ⟨y, b2, u, pa ++ [i], rfl, huy.mono (s3.trans s45), hb2, by omega, by omega, by rw [List.length_append, List.length_singleton]; omega, fun l5 H5 ws5 s6 n5 e5 r5 => ?_⟩
    have s46 := s45.trans s6
    have hlw5 := s46 _ _ hlw
    have hrs5 := PathsAt.firm (.of s46) hrs
    have lw := paired_len hrs5
    have lw5 := paired_len r5
    have hw1 := hsL_le (t.parts.take i) 0 pa
    have hw3 := sizes_take t.parts i
    have hw2 := sizes_le t
    have hw4 := hs_le u (pa ++ [i])
    refine ⟨l, l5, ws, ws5, rfl, rfl, hlw5, e5, by omega, fun p np => ?_⟩
    have s7 := sameN (o := .lst (ws ++ ws5)) np
    have s37 := s3.trans (s46.trans s7)
    have npH : H p = none := by
      cases h : H p with
      | none => rfl
      | some o => rw [s3.trans s46 _ _ h] at np; cases np
    refine ⟨s37, p, ws ++ ws5, _, rfl, npH, upd_same, ?_⟩
    rw [take_snoc hu, hsL_snoc, List.length_take, Nat.min_eq_left (by omega), Nat.zero_add]
    exact PathsAt.firm (.of s7) (paired_append hrs5 r5)
  · rintro σ H2 ⟨s3, l, ws, w3, rfl, nl, hlw, hrs⟩
    refine ⟨_, rfl, qq l H2 ws s3 nl hlw ?_⟩
    rw [hdl, List.take_length] at hrs
    rw [ehs]
    exact hrs
theorem ok_gaps (ml : mg "len" = none) (mr : mg "range" = none) {f : Addr} {fd : FuncData} (F : Fun K "_law_gaps" "_law_gaps" sGaps f fd) (gm : Gf K mg "_law_gaps" f) : ∀ D : Nat, FnR P w K mg base CX0 (D + 1) f (spGaps D)
  | 0 => gaps_step ml mr F gm (k := 0) (sp := fun _ _ _ _ => False) (fun _ _ _ _ _ _ _ _ _ _ _ hs => hs.elim) fun _ _ _ _ h => absurd rfl h
  | D + 1 => gaps_step ml mr F gm (k := D + 1) (ok_gaps ml mr F gm D) fun _ _ _ _ _ h => h
end
end Tw
set_option maxHeartbeats 4000000
/-! The law's calls of covers and filled. -/
namespace Tw
open PySem PySem.Spec PyProof.Rows L2 RZ ClX
abbrev sLCov : Stmt := top 40
abbrev sLFil : Stmt := top 41
section
variable {X : Cx} {CX : CXT} {k : Nat} {C f : Addr} {m : Str} {sp : Sp} {E : XK} {o : Expr} {ta : TE} {apos pos : Pos} {pl : Sem Bool}
theorem pe_methR0 (he : PE X o ta) (c : Cls X.K C) (hm : Meth X.K C m f) (F : FnR X.prog X.w X.K X.mg X.base CX k f sp) (hr : Room k X.A) (hx : Passes CX X E)
    (ht : eval (.Call (.Attribute o m apos) [] [] pos) X.env = (do
      let ov ← eval o X.env
      standAt apos.atName
      let (f, first) ← holding [ov] (getMethod ov m pl)
      callWith pos f first (backTo pos (starEach [] X.env)) (backToKw pos (keywordEach [] X.env))) := by rfl) :
    PE X (.Call (.Attribute o m apos) [] [] pos) (tMethR C m sp E ta tNil) := by
  refine ⟨fun pins s σ H Q I h => ?_⟩
  refine PySem.W.methodCall_KW (pl := pl) (thn (he.run pins s σ H _ I h) fun u s1 ⟨x, H1, I1, rx, a, dx, fs, ex, ea, l, q⟩ => ?_) ht
  subst ex
  obtain rfl : u = Value.ref a := rx
  refine getmeth_ok I1 ea c hm l ?_
  exact PySem.W.callWith_K0 (first := [.ref a]) I1.kIn hm.kp (wpAny_call (run_fnR (us := [.ref a]) (vs := [.ref a]) F hr hx I1 (.cons rfl .nil) q))
end
/-- what filled asks, as its callers say it -/
theorem fil_go {C CB : Addr} {D : Nat} {H : Hp} {Q : VK} {E : XK} {v : V} {c : T} {ws : List V} {us : List T} (hc : TreeAt C H v c) (hus : TreesAt C H ws us) (hf : c.fine = true) (hl : c.levels ≤ D + 1) (hw : ws.length ≤ 100000)
    (q1 : us.length = c.gaps → ∃ t, us = tsel c t ∧ tov c t = true ∧ t.fine = true ∧ t.size ≤ 10000 ∧ ∀ v' H', Same H H' → TreeAt C H' v' t → Q v' H')
    (q2 : us.length ≠ c.gaps → ∀ d H', H d = none → Same H H' → H' d = some (.xd [("count", .int us.length)]) → E (.ref CB) (some d) H') : spFil C CB D (v :: ws) H Q E := by
  have sl := sizeLine_eq
  refine ⟨[v], ws, rfl, rfl, by omega, fun p np => ?_⟩
  have s := sameN (o := .tup ws) np
  refine ⟨v, p, c, ws, us, rfl, hc.mono s, upd_same, hus.mono s, hf, hl, hw, fun e => ?_, fun e d H' nd k hd => q2 e d H' (s.free nd) (s.trans k) hd⟩
  obtain ⟨t, e1, e2, e3, e4, e5⟩ := q1 e
  exact ⟨t, e1, e2, e3, e4, fun v' H' k h => e5 v' H' (s.trans k) h⟩
def spLCov (C : Addr) (D : Nat) : Sp := fun vs H Q _ => ∃ (v w : V) (d : Bool) (t u : T), vs = [v, w, .bl d] ∧ TreeAt C H v t ∧ TreeAt C H w u ∧ t.fine = true ∧ t.levels ≤ D + 1 ∧ d = tov t u ∧ ∀ H', Same H H' → Q (.bl true) H'
def spLFil (C CB : Addr) (D : Nat) : Sp := fun vs H Q E => ∃ (v : V) (l : Addr) (c : T) (ws : List V) (us : List T), vs = [v, .ref l] ∧ TreeAt C H v c ∧ H l = some (.lst ws) ∧ TreesAt C H ws us ∧ c.fine = true ∧ c.levels ≤ D + 1 ∧ ws.length ≤ 5 ∧
  (us.length = c.gaps → ∃ t, us = tsel c t ∧ tov c t = true ∧ t.fine = true ∧ t.size ≤ 10000 ∧ ∀ v' H', Same H H' → TreeAt C H' v' t → Q v' H') ∧
  (us.length ≠ c.gaps → ∀ d H', H d = none → Same H H' → H' d = some (.xd [("count", .int us.length)]) → E (.ref CB) (some d) H')
section
variable {P : Program} {w : World} {K : PySem.W.Frag} {mg : Str → Option Value} {base : Heap} {C : Addr}
theorem scLC : FnScope ["one", "two", "due", "found"] ["one", "two", "due"] (defScope sLCov) := ⟨rfl, rfl, rfl, by decide +kernel, rfl, by decide +kernel, by decide +kernel⟩
theorem scLF : FnScope ["tree", "parts"] ["tree", "parts"] (defScope sLFil) := ⟨rfl, rfl, rfl, by decide +kernel, rfl, by decide +kernel, by decide +kernel⟩
theorem ok_lcov {fC : Addr} {D n : Nat} (T1 : Tt K C) (Mc : Meth K C "covers" fC) (FC : FnR P w K mg base CX0 n fC (spCov C D)) (mI : mg "isinstance" = none) (mb : mg "bool" = none) {f : Addr} {fd : FuncData} (F : Fun K "_law_covers" "_law_covers" sLCov f fd) : FnR P w K mg base CX0 (n + 1) f (spLCov C D) := by
  refine okR F scLC (fun vs H Q E h => ?_) (fun _ _ _ _ _ _ us hl => match us, hl with | [_, _, _], _ => rfl) (fun cdv A outer s H vs Q E hr h => ?_)
  · obtain ⟨v, w, d, t, u, rfl, _⟩ := h
    rfl
  obtain ⟨v, w, d, t, u, rfl, hv, hw, hf, hl, rfl, q⟩ := h
  refine ⟨_, pss_cons (ps_set (i := 3) scLC.nd rfl (Or.inl rfl) (pe_methR (pv 0) T1.cl Mc FC hr pass0 (pa_cons (pv 1) pa_nil)))
    (pss_one (ps_ret (pe_and (pe_callB call_isi (by rfl) mI (by decide +kernel) (pa_cons (pv 3) (pa_cons (pe_bltn (v := .ty "bool") (by rfl) mb (by decide +kernel) rfl) pa_nil))) (pe_one (pe_cmpR op_eq (pv 3) (pv 2) (nomark _)))))), ?_⟩
  obtain ⟨a, dx, p, ws, rfl, h1, h2, h3⟩ := hv.ex
  refine ⟨_, rfl, a, dx, _, rfl, h1, fT_covers, _, rfl, _, _, t, u, rfl, hv, hw, hf, hl, fun H1 s1 => ?_⟩
  refine name_go ?_
  dsimp only
  refine ⟨_, rfl, _, .ty "bool", _, _, true, rfl, .ty "bool", .base (.bl _), kit_self K _ rfl, _, rfl, iteT ?_⟩
  refine ⟨_, rfl, _, rfl, rfl, ?_⟩
  have := q H1 s1
  simp only [decide_eq_true_eq, decide_true]
  exact this
theorem ok_lfil {fF CB : Addr} {D n : Nat} (T1 : Tt K C) (Mf : Meth K C "filled" fF) (FF : FnR P w K mg base (L2.CX P w) n fF (spFil C CB D)) (ml : mg "len" = none) {f : Addr} {fd : FuncData} (F : Fun K "_law_filled" "_law_filled" sLFil f fd) : FnOk P w K mg base (L2.CX P w) (n + 1) f fd ["tree", "parts"] (spLFil C CB D) := by
  refine F.okX scLF (fun vs H Q E h => ?_) (fun cdv A outer s H vs Q E hr h => ?_)
  · obtain ⟨v, l, c, ws, us, rfl, _⟩ := h
    rfl
  obtain ⟨v, l, c, ws, us, rfl, hc, hlw, hus, hf, hl, h5, q1, q2⟩ := h
  have hx : Passes (L2.CX P w) (cxOf (L2.CX P w) P w K mg base ["tree", "parts"] "_law_filled" (defScope sLFil) f cdv A outer s H E) E := passes_call (takes_of rfl rfl rfl rfl) (fun _ _ _ _ h => h)
  refine ⟨_, pss_cons (ps_if (pt_cmpR op_eq (pe_callB call_len_seq (by rfl) ml PySem.boot_len (pa_cons (pv 1) pa_nil)) pe_int (nomark _)) (pss_one (ps_ret (pe_methR0 (E := E) (pv 0) T1.cl Mf FF hr hx))) pss_nil)
    (pss_cons (ps_if (pt_cmpR op_eq (pe_callB call_len_seq (by rfl) ml PySem.boot_len (pa_cons (pv 1) pa_nil)) pe_int (nomark _)) (pss_one (ps_ret (pe_methR (E := E) (pv 0) T1.cl Mf FF hr hx (pa_cons (pe_ix ix_list (pv 1) pe_int (fun _ _ => rfl)) pa_nil)))) pss_nil)
    (pss_cons (ps_if (pt_cmpR op_eq (pe_callB call_len_seq (by rfl) ml PySem.boot_len (pa_cons (pv 1) pa_nil)) pe_int (nomark _)) (pss_one (ps_ret (pe_methR (E := E) (pv 0) T1.cl Mf FF hr hx (pa_cons (pe_ix ix_list (pv 1) pe_int (fun _ _ => rfl)) (pa_cons (pe_ix ix_list (pv 1) pe_int (fun _ _ => rfl)) pa_nil))))) pss_nil)
    (pss_cons (ps_if (pt_cmpR op_eq (pe_callB call_len_seq (by rfl) ml PySem.boot_len (pa_cons (pv 1) pa_nil)) pe_int (nomark _)) (pss_one (ps_ret (pe_methR (E := E) (pv 0) T1.cl Mf FF hr hx (pa_cons (pe_ix ix_list (pv 1) pe_int (fun _ _ => rfl)) (pa_cons (pe_ix ix_list (pv 1) pe_int (fun _ _ => rfl)) (pa_cons (pe_ix ix_list (pv 1) pe_int (fun _ _ => rfl)) pa_nil)))))) pss_nil)
    (pss_cons (ps_if (pt_cmpR op_eq (pe_callB call_len_seq (by rfl) ml PySem.boot_len (pa_cons (pv 1) pa_nil)) pe_int (nomark _)) (pss_one (ps_ret (pe_methR (E := E) (pv 0) T1.cl Mf FF hr hx (pa_cons (pe_ix ix_list (pv 1) pe_int (fun _ _ => rfl)) (pa_cons (pe_ix ix_list (pv 1) pe_int (fun _ _ => rfl)) (pa_cons (pe_ix ix_list (pv 1) pe_int (fun _ _ => rfl)) (pa_cons (pe_ix ix_list (pv 1) pe_int (fun _ _ => rfl)) pa_nil))))))) pss_nil)
    (pss_one (ps_ret (pe_methR (E := E) (pv 0) T1.cl Mf FF hr hx (pa_cons (pe_ix ix_list (pv 1) pe_int (fun _ _ => rfl)) (pa_cons (pe_ix ix_list (pv 1) pe_int (fun _ _ => rfl)) (pa_cons (pe_ix ix_list (pv 1) pe_int (fun _ _ => rfl)) (pa_cons (pe_ix ix_list (pv 1) pe_int (fun _ _ => rfl)) (pa_cons (pe_ix ix_list (pv 1) pe_int (fun _ _ => rfl)) pa_nil)))))))))))), ?_⟩
  have sl := sizeLine_eq
  have go : spFil C CB D (v :: ws) H Q E := fil_go hc hus hf hl (by omega) q1 q2
  obtain ⟨a, dx, p, xs, rfl, h1, h2, h3⟩ := hc.ex
  have L := SqL.of (K := K) hlw
  match ws, h5, go, hlw, L with
  | [], _, go, hlw, L =>
    refine ⟨_, rfl, l, _, rfl, .inl L, rfl, _, rfl, iteT ?_⟩
    exact ⟨_, rfl, a, dx, _, rfl, h1, fT_filled, go⟩
  | [x0], _, go, hlw, L =>
    refine ⟨_, rfl, l, _, rfl, .inl L, rfl, _, rfl, iteF ?_⟩
    refine ⟨_, rfl, l, _, rfl, .inl L, rfl, _, rfl, iteT ?_⟩
    exact ⟨_, rfl, a, dx, _, rfl, h1, fT_filled, _, rfl, l, _, _, x0, rfl, rfl, L, rfl, go⟩
  | [x0, x1], _, go, hlw, L =>
    refine ⟨_, rfl, l, _, rfl, .inl L, rfl, _, rfl, iteF ?_⟩
    refine ⟨_, rfl, l, _, rfl, .inl L, rfl, _, rfl, iteF ?_⟩
    refine ⟨_, rfl, l, _, rfl, .inl L, rfl, _, rfl, iteT ?_⟩
    exact ⟨_, rfl, a, dx, _, rfl, h1, fT_filled, _, rfl, l, _, _, x0, rfl, rfl, L, rfl, _, rfl, l, _, _, x1, rfl, rfl, L, rfl, go⟩
  | [x0, x1, x2], _, go, hlw, L =>
    refine ⟨_, rfl, l, _, rfl, .inl L, rfl, _, rfl, iteF ?_⟩
    refine ⟨_, rfl, l, _, rfl, .inl L, rfl, _, rfl, iteF ?_⟩
    refine ⟨_, rfl, l, _, rfl, .inl L, rfl, _, rfl, iteF ?_⟩
    refine ⟨_, rfl, l, _, rfl, .inl L, rfl, _, rfl, iteT ?_⟩
    exact ⟨_, rfl, a, dx, _, rfl, h1, fT_filled, _, rfl, l, _, _, x0, rfl, rfl, L, rfl, _, rfl, l, _, _, x1, rfl, rfl, L, rfl, _, rfl, l, _, _, x2, rfl, rfl, L, rfl, go⟩
  | [x0, x1, x2, x3], _, go, hlw, L =>
    refine ⟨_, rfl, l, _, rfl, .inl L, rfl, _, rfl, iteF ?_⟩
    refine ⟨_, rfl, l, _, rfl, .inl L, rfl, _, rfl, iteF ?_⟩
    refine ⟨_, rfl, l, _, rfl, .inl L, rfl, _, rfl, iteF ?_⟩
    refine ⟨_, rfl, l, _, rfl, .inl L, rfl, _, rfl, iteF ?_⟩
    refine ⟨_, rfl, l, _, rfl, .inl L, rfl, _, rfl, iteT ?_⟩
    exact ⟨_, rfl, a, dx, _, rfl, h1, fT_filled, _, rfl, l, _, _, x0, rfl, rfl, L, rfl, _, rfl, l, _, _, x1, rfl, rfl, L, rfl, _, rfl, l, _, _, x2, rfl, rfl, L, rfl, _, rfl, l, _, _, x3, rfl, rfl, L, rfl, go⟩
  | [x0, x1, x2, x3, x4], _, go, hlw, L =>
    refine ⟨_, rfl, l, _, rfl, .inl L, rfl, _, rfl, iteF ?_⟩
    refine ⟨_, rfl, l, _, rfl, .inl L, rfl, _, rfl, iteF ?_⟩
    refine ⟨_, rfl, l, _, rfl, .inl L, rfl, _, rfl, iteF ?_⟩
    refine ⟨_, rfl, l, _, rfl, .inl L, rfl, _, rfl, iteF ?_⟩
    refine ⟨_, rfl, l, _, rfl, .inl L, rfl, _, rfl, iteF ?_⟩
    exact ⟨_, rfl, a, dx, _, rfl, h1, fT_filled, _, rfl, l, _, _, x0, rfl, rfl, L, rfl, _, rfl, l, _, _, x1, rfl, rfl, L, rfl, _, rfl, l, _, _, x2, rfl, rfl, L, rfl, _, rfl, l, _, _, x3, rfl, rfl, L, rfl, _, rfl, l, _, _, x4, rfl, rfl, L, rfl, go⟩
  | _ :: _ :: _ :: _ :: _ :: _ :: r, h, _, _, _ => simp at h
end
end Tw
set_option maxHeartbeats 4000000
/-! A def that lets nothing out, called where an exception is handled, whatever this exception's record is. -/
namespace Tw
open PySem PySem.Spec PyProof.Rows L2 L2H ClX
section
variable {X : Cx} {x qual : Str} {st : Stmt} {f : Addr} {fd : FuncData} {N ps : List Str} {k : Nat} {sp : Sp} {held : Addr × Obj}
theorem hot_run (F : Fun X.K x qual st f fd) (S : FnScope N ps (defScope st)) (bd : Binds X.K fd ps []) (hh : held ∈ X.pn) (room : RoomH (k + 1) X.A) (many : ∀ vs H Q, sp vs H Q E0 → vs.length = ps.length)
    (inside : ∀ (cdv : Value) (A : Around) (outer : List Env) (s : Shared) (H : Hp) (vs : List V) (Q : VK), RoomH k (A.deeper (envOfC qual (defScope st) s.heap.objs.size f cdv)) → sp vs H Q E0 →
      ∃ t, PSs (cxH CX0 X.prog X.w X.K X.mg X.base N qual (defScope st) f cdv A outer s H E0 held) (defBody st) t ∧ t { nx := fun _ H' => Q .non H', rt := Q } (L2.start N vs) H)
    {pins : List (Addr × Obj)} {σ : L2.St} {H : Hp} {sh : Shared} {Q : VK} {us : List Value} {vs : List V} (I : Inv X pins σ H sh) (rv : Vals vs us) (ask : sp vs H Q E0) : wpAny (model X.prog X.w) X.A (call (.ref f) us) (EP X pins σ Q) X.xe sh := by
  obtain ⟨oc, od, kV, doc, pm, an, cdv, ct, osl, rfl, found, code⟩ := F.ex
  have ln := many _ _ _ ask
  have lu : us.length = ps.length := rv.length.symm.trans ln
  have e0 := I.env0
  obtain ⟨pg, pf, p3, p4, p5⟩ := I.pin held (List.mem_append_left _ hh)
  have pinned : PinOk X.stack H sh held := ⟨pg, pf, fun m => by
    rcases List.mem_cons.mp (I.stkSub held.1 m) with z | z
    · exact p3 z
    · exact p4 z, p5⟩
  have KH : X.K.In sh.heap := I.kIn
  have NL : sh.heap.NoLimit := e0.mod.nolimit.keeps fun b o e => (e0.bs b o e).1
  have kinds : ∀ y ∈ ps.zip us, (defScope st).names.lookup y.1 = some .local ∨ ((defScope st).names.lookup y.1 = some .cell ∧ ((cellsFrom (sh.heap.objs.size + 1) (defScope st).names []).lookup y.1).isSome = true) := by
    rintro ⟨n, u⟩ hy
    rcases S.par n (List.of_mem_zip hy).1 with z | z
    · exact Or.inl z
    · exact Or.inr ⟨z, PySem.W.cellsFrom_some _ _ _ (Or.inl z)⟩
  have bound := bd sh us KH (by simpa using lu)
  simp only [List.append_nil] at bound
  have ran : codeAny (model X.prog X.w) X.A (.call (.ref f) ⟨us, []⟩) (fun r s' => ∃ u, r = .ok (.ret u) ∧ CE X.stack X.prog X.w H sh Q u s') sh := by
    refine codeAny_call_function room.depth (KH _ _ found) rfl S.co S.gen rfl (PySem.W.codeRec_of KH code) (bound _ _ _ _ ?_)
    refine wpAny_newFunctionEnv_cells S.kind kinds fun env henv s1 entered => ?_
    subst henv
    refine ⟨NL.keeps entered.toInCall.keep, codeAny_func ?_⟩
    obtain ⟨t, reads, holds⟩ := inside cdv X.A X.stack sh H vs Q (room.deeper _) ask
    have J := inv_startH (CX := CX0) (E := E0) S pinned e0 ln rv entered
    refine wpAny_mono (reads.run [] s1 (L2.start N vs) H _ J holds) (fun fl s2 came => ?_) fun _ _ bad => wpAny_mono bad (fun _ _ z => (show False from z).elim) fun _ _ z => (show False from z).elim
    rcases fl with _ | _ | _ | u
    · obtain ⟨σ2, H2, J2, done⟩ := came
      exact ⟨_, rfl, V.non, H2, J2.os, J2.bare, J2.base, J2.hok, rfl, done⟩
    · obtain ⟨_, _, _, bad⟩ := came
      exact bad.elim
    · obtain ⟨_, _, _, bad⟩ := came
      exact bad.elim
    · obtain ⟨v2, σ2, H2, J2, rv2, done⟩ := came
      exact ⟨u, rfl, v2, H2, J2.os, J2.bare, J2.base, J2.hok, rv2, done⟩
  refine wpAny_call (codeAny_mono ran fun r s' hq => ?_)
  obtain ⟨u, rfl, ce⟩ := hq
  exact I.after ce
/-- f(e, ..) there -/
theorem pe_hot {e : Expr} {es : List Expr} {t : TA} {p pos : Pos} (F : Fun X.K x qual st f fd) (S : FnScope N ps (defScope st)) (bd : Binds X.K fd ps []) (hh : held ∈ X.pn) (room : RoomH (k + 1) X.A) (many : ∀ vs H Q, sp vs H Q E0 → vs.length = ps.length)
    (inside : ∀ (cdv : Value) (A : Around) (outer : List Env) (s : Shared) (H : Hp) (vs : List V) (Q : VK), RoomH k (A.deeper (envOfC qual (defScope st) s.heap.objs.size f cdv)) → sp vs H Q E0 →
      ∃ t, PSs (cxH CX0 X.prog X.w X.K X.mg X.base N qual (defScope st) f cdv A outer s H E0 held) (defBody st) t ∧ t { nx := fun _ H' => Q .non H', rt := Q } (L2.start N vs) H)
    (g : Gf X.K X.mg x f) (ha : PA X (e :: es) t) (hg : Gl X x := by rfl) (hdb : (x == ("__debug__" : Str)) = false := by decide)
    (he : starEach (e :: es) X.env = (false, eval e X.env) :: starEach es X.env := by rfl) (hpl : (backTo pos (starEach es X.env)).any (·.1) = false := by rfl) : PE X (.Call (.Name x p) (e :: es) [] pos) (tCf sp E0 t) := by
  refine ⟨fun pins s σ H Q I h => ?_⟩
  refine wpAny_Call_Name_kw (ld_glob I hg g.m ?_ hdb)
  exact PySem.W.callWith_K (h₀ := X.base) I.ok.mod.kin g.k (thn (ha.run pos pins s σ H _ I h) fun us s1 ⟨vs, H1, I1, r, q⟩ => ⟨I1.kIn, hot_run F S bd hh room many inside I1 r q⟩) he hpl
end
section
variable {P : Program} {w : World} {K : PySem.W.Frag} {mg : Str → Option Value} {base : Heap} {C : Addr}
theorem is_inside (mI : mg "isinstance" = none) (mi : mg "int" = none) (mb : mg "bool" = none) {f : Addr} {held : Addr × Obj} (cdv : Value) (A : Around) (outer : List Env) (s : Shared) (H : Hp) (vs : List V) (Q : VK) (hr : RoomH 0 (A.deeper (envOfC "_law_is" (defScope sIs) s.heap.objs.size f cdv))) (h : spIs vs H Q E0) :
    ∃ t, PSs (cxH CX0 P w K mg base ["actual", "due"] "_law_is" (defScope sIs) f cdv A outer s H E0 held) (defBody sIs) t ∧ t { nx := fun _ H' => Q .non H', rt := Q } (L2.start ["actual", "due"] vs) H := by
  obtain ⟨i, rfl, q⟩ := h
  refine ⟨_, pss_cons (ps_if (PW.pt (pw_or (pt_not (pt_val (pe_callB call_isi (by rfl) mI (by decide +kernel) (pa_cons (pv 0) (pa_cons (pe_bltn (v := .ty "int") (by rfl) mi (by decide +kernel) rfl) pa_nil))))) (pw_or1 (pt_val (pe_callB call_isi (by rfl) mI (by decide +kernel) (pa_cons (pv 0) (pa_cons (pe_bltn (v := .ty "bool") (by rfl) mb (by decide +kernel) rfl) pa_nil))))))) (pss_one (ps_ret pe_bl)) pss_nil)
    (pss_one (ps_ret (pe_cmpR op_eq (pv 0) (pv 1) (nomark _)))), ?_⟩
  refine ⟨_, rfl, _, .ty "int", _, _, true, rfl, .ty "int", .base (.int i), kit_self K _ rfl, _, rfl, iteF ?_⟩
  refine ⟨_, rfl, _, .ty "bool", _, _, false, rfl, .ty "bool", .base (.int i), kit_ib K, _, rfl, iteF ?_⟩
  refine ⟨_, rfl, _, rfl, rfl, ?_⟩
  rw [decide_eq_true rfl]
  exact q
abbrev sMis : Stmt := top 42
def spMis (C : Addr) (D : Nat) : Sp := fun vs H Q _ => ∃ (v : V) (l : Addr) (c : T) (ws : List V) (us : List T), vs = [v, .ref l] ∧ TreeAt C H v c ∧ H l = some (.lst ws) ∧ TreesAt C H ws us ∧ c.fine = true ∧ c.levels ≤ D + 1 ∧ ws.length ≤ 5 ∧ us.length ≠ c.gaps ∧ ∀ H', Same H H' → Q (.bl true) H'
theorem scMs : FnScope ["tree", "parts", "e"] ["tree", "parts"] (defScope sMis) := ⟨rfl, rfl, rfl, by decide +kernel, rfl, by decide +kernel, by decide +kernel⟩
theorem ok_mis {D n : Nat} {CB CW CN fl fi : Addr} (B : Er K mg "BadCount" "count" CB CW CN) (gW : mg "WorkError" = some (.ref CW)) (gN : mg "NoPlace" = some (.ref CN)) (mI : mg "isinstance" = none) (mi : mg "int" = none) (mb : mg "bool" = none) (ml : mg "len" = none)
    (gl : Gf K mg "_law_filled" fl) {fdL : FuncData} (FL : FnOk P w K mg base (L2.CX P w) (n + 1) fl fdL ["tree", "parts"] (spLFil C CB D)) (bL : Binds K fdL ["tree", "parts"] []) (gi : Gf K mg "_law_is" fi) {fdI : FuncData} (Fi : Fun K "_law_is" "_law_is" sIs fi fdI)
    {f : Addr} {fd : FuncData} (F : Fun K "_law_miscounted" "_law_miscounted" sMis f fd) : FnR P w K mg base (L2.CX P w) (n + 2) f (spMis C D) := by
  have bI : Binds K fdI ["actual", "due"] [] := Fi.binds fun _ _ _ _ _ _ us hl => match us, hl with | [_, _], _ => rfl
  refine FnOk.toR (fd := fd) (ps := ["tree", "parts"]) ?_ (F.binds fun _ _ _ _ _ _ us hl => match us, hl with | [_, _], _ => rfl)
  refine F.okX scMs (fun vs H Q E h => ?_) (fun cdv A outer s H vs Q E hr h => ?_)
  · obtain ⟨v, l, c, ws, us, rfl, _⟩ := h
    rfl
  obtain ⟨v, l, c, ws, us, rfl, hc, hl, hus, hf, hlv, h5, hne, q⟩ := h
  have hr1 : Room 1 _ := hr.mono (by omega)
  refine ⟨_, pss_cons (ps_try_as (i := 2) rfl rfl scMs.nd rfl rfl ⟨rfl, by decide, .inl B.gC⟩ (takes_of rfl rfl rfl rfl)
      (fun W pn xe tk _ => pss_one (ps_expr (pe_callS (E := WE W) FL hr rfl gl.m gl.k bL (fun σ => passAt tk σ) (pa_cons (pv 0) (pa_cons (pv 1) pa_nil)))))
      (fun a oe cls d pn hz hf => pss_cons (ps_if (PW.pt (pw_or (pt_not (pt_val (pe_callB (call_isO B.ex B.self hz hf) (by rfl) mI (by decide +kernel) (pa_cons (pv 2) (pa_cons (pe_gr gW) pa_nil))))) (pw_or1 (pt_val (pe_callB (call_isO B.ex B.self hz hf) (by rfl) mI (by decide +kernel) (pa_cons (pv 2) (pa_cons (pe_gr gN) pa_nil))))))) (pss_one (ps_ret pe_bl)) pss_nil)
        (pss_one (ps_ret (pe_hot (held := (a, oe)) Fi scIs bI List.mem_cons_self ⟨hr1.dp, hr1.un⟩ (fun vs H Q h => by obtain ⟨i, rfl, _⟩ := h; rfl) (is_inside mI mi mb) gi (pa_cons (pe_xf B.xf B.nf hz hf (pv 2)) (pa_cons (pe_callB (r := rLenQ K) call_len_seq (by rfl) ml PySem.boot_len (pa_cons (pv 1) pa_nil)) pa_nil)))))))
    (pss_one (ps_ret pe_bl)), ?_⟩
  have el := hus.len
  refine ⟨_, rfl, _, rfl, v, l, c, ws, us, rfl, hc, hl, hus, hf, hlv, h5, fun h => absurd h hne, fun _ d H' nd s1 ed => ?_⟩
  refine ⟨true, B.te, fun _ e ne => ?_, fun h => Bool.noConfusion h⟩
  refine ⟨_, rfl, .ref CW, _, true, d, _, rfl, rfl, rfl, .own CW, ed, B.kW, _, rfl, iteF ?_⟩
  refine ⟨_, rfl, .ref CN, _, false, d, _, rfl, rfl, rfl, .own CN, ed, B.kO, _, rfl, iteF ?_⟩
  refine ⟨_, rfl, rfl, rfl, d, _, .int us.length, rfl, ed, rfl, _, rfl, l, ws, rfl, .inl (SqL.of (s1 _ _ hl)), (us.length : Int), ?_, ?_⟩
  · rw [el]
  · exact q H' s1
end
end Tw
set_option maxHeartbeats 4000000
/-! Trees of tuples are compared; the law's pairs. -/
namespace Tw
open PySem PySem.Spec PyProof.Rows L2 RZ ClX
mutual
def tD : T → PyData
  | .node n ps => .tuple [.str n, .tuple (tDs ps)]
def tDs : List T → List PyData
  | [] => []
  | p :: r => tD p :: tDs r
end
theorem tD_eq (n : Str) (ps : List T) : tD (.node n ps) = .tuple [.str n, .tuple (tDs ps)] := by conv => lhs; unfold tD
theorem tDs_cons (p : T) (r : List T) : tDs (p :: r) = tD p :: tDs r := by conv => lhs; unfold tDs
theorem tDs_nil : tDs [] = [] := by unfold tDs; rfl
mutual
theorem dp_tree {K : PySem.W.Frag} {H : Hp} : ∀ {v : V} {t : T}, TupAt H v t → Dp K H v (tD t)
  | v, .node n ps, h => by
    obtain ⟨a, c, vs, rfl, h1, h2, h3⟩ := h.ex
    rw [tD_eq]
    exact .tup (SqT.of h1) (.cons (.str n) (.cons (.tup (SqT.of h2) (dp_trees h3)) .nil))
theorem dp_trees {K : PySem.W.Frag} {H : Hp} : ∀ {vs : List V} {ts : List T}, TupsAt H vs ts → DpAll K H vs (tDs ts)
  | [], [], _ => by rw [tDs_nil]; exact .nil
  | v :: vs, t :: ts, h => by
    unfold TupsAt at h
    rw [tDs_cons]
    exact .cons (dp_tree h.1) (dp_trees h.2)
  | [], _ :: _, h => by unfold TupsAt at h; exact h.elim
  | _ :: _, [], h => by unfold TupsAt at h; exact h.elim
end
theorem name_ok {t : T} (h : t.fine = true) : PyData.strOk t.name = true := by
  unfold PyData.strOk
  rw [Array.all_eq_true']
  intro c hc
  have := name_signs h c (by simpa using hc)
  exact decide_eq_true (by omega)
mutual
theorem ctree : ∀ {t : T}, t.fine = true → PyData.canLay0 (tD t) = true
  | .node n ps, h => by
    have h1 := name_ok h
    rw [tD_eq]
    unfold PyData.canLay0 PyData.canLayAll0 PyData.canLayAll0
    rw [show PyData.canLay0 (.str n) = true by unfold PyData.canLay0; exact h1]
    rw [show PyData.canLay0 (.tuple (tDs ps)) = true by unfold PyData.canLay0; exact ctrees (fine_parts h).2]
    unfold PyData.canLayAll0
    rfl
theorem ctrees : ∀ {ps : List T}, (∀ u ∈ ps, u.fine = true) → PyData.canLayAll0 (tDs ps) = true
  | [], _ => by rw [tDs_nil]; unfold PyData.canLayAll0; rfl
  | p :: r, h => by
    rw [tDs_cons]
    unfold PyData.canLayAll0
    rw [ctree (h p List.mem_cons_self), ctrees fun u hu => h u (List.mem_cons_of_mem _ hu)]
    rfl
end
mutual
theorem deep_tree : ∀ (t : T), PyData.depth (tD t) ≤ 2 * t.levels
  | .node n ps => by
    rw [tD_eq, levels_node]
    have := deep_trees (k := T.mostFrom 0 ps) ps fun u hu => mostFrom_mem hu
    have e : PyData.depth (.tuple [.str n, .tuple (tDs ps)]) = max 0 (max (PyData.depthAll (tDs ps) + 1) 0) + 1 := by
      simp only [PyData.depth, PyData.depthAll]
    rw [e]
    omega
theorem deep_trees {k : Nat} : ∀ (ps : List T), (∀ u ∈ ps, u.levels ≤ k) → PyData.depthAll (tDs ps) ≤ 2 * k
  | [], _ => by rw [tDs_nil]; unfold PyData.depthAll; omega
  | p :: r, h => by
    have h1 := deep_tree p
    have h2 := deep_trees r fun u hu => h u (List.mem_cons_of_mem _ hu)
    have h3 := h p List.mem_cons_self
    rw [tDs_cons]
    unfold PyData.depthAll
    omega
end
theorem shaped_tree {t : T} (h : t.fine = true) (hl : t.levels ≤ 32) : SeqAt.shaped (tD t) = true := by
  unfold SeqAt.shaped
  have := deep_tree t
  exact Bool.and_eq_true_iff.mpr ⟨ctree h, decide_eq_true (by omega)⟩
mutual
theorem eqv_tree : ∀ (t u : T), PyData.eqv (tD t) (tD u) = true ↔ t = u
  | .node n ps, .node m qs => by
    rw [tD_eq, tD_eq]
    have h := eqv_trees ps qs
    simp only [PyData.eqv, PyData.eqvAll, Bool.and_eq_true, Bool.and_true, beq_iff_eq]
    rw [h]
    constructor
    · rintro ⟨rfl, rfl⟩
      rfl
    · intro e
      cases e
      exact ⟨rfl, rfl⟩
theorem eqv_trees : ∀ (ps qs : List T), PyData.eqvAll (tDs ps) (tDs qs) = true ↔ ps = qs
  | [], [] => by rw [tDs_nil]; simp [PyData.eqvAll]
  | [], q :: qs => by rw [tDs_nil, tDs_cons]; simp [PyData.eqvAll]
  | p :: ps, [] => by rw [tDs_nil, tDs_cons]; simp [PyData.eqvAll]
  | p :: ps, q :: qs => by
    rw [tDs_cons, tDs_cons]
    have h1 := eqv_tree p q
    have h2 := eqv_trees ps qs
    simp only [PyData.eqvAll, Bool.and_eq_true]
    rw [h1, h2]
    simp
end
theorem eqv_bool {t u : T} {b : Bool} (h : b = true ↔ t = u) : PyData.eqv (tD t) (tD u) = b := by
  have := eqv_tree t u
  cases b with
  | true => exact this.mpr (h.mp rfl)
  | false =>
    cases e : PyData.eqv (tD t) (tD u) with
    | false => rfl
    | true => exact absurd (h.mpr (this.mp e)) (by simp)
end Tw
set_option maxHeartbeats 4000000
/-! _law_pairs. -/
namespace Tw
open PySem PySem.Spec PyProof.Rows L2 RZ ClX
abbrev sPairs : Stmt := top 43
def spPairs (C : Addr) : Sp := fun vs H Q _ => ∃ (lt lm : Addr) (us ms : List V) (ts : List T), vs = [.ref lt, .ref lm] ∧ H lt = some (.lst us) ∧ H lm = some (.lst ms) ∧ TupsAt H us ts ∧ TreesAt C H ms ts ∧ ts.length = 3 ∧ (∀ t ∈ ts, Bd 1171 19 t) ∧ ∀ H', Same H H' → Q (.bl true) H'
/-- what the law calls for trees -/
structure CallsT (P : Program) (w : World) (K : PySem.W.Frag) (mg : Str → Option Value) (base : Heap) (C fA fCm fTo fGo fLc fOv : Addr) : Prop where
  range : mg "range" = none
  ta : Ta K C fA
  FA : FnR P w K mg base CX0 25 fA (spAnd C 20)
  gCm : Gf K mg "_law_common" fCm
  FCm : FnR P w K mg base CX0 21 fCm (spCommon 20)
  gTo : Gf K mg "_law_told" fTo
  FTo : FnR P w K mg base CX0 21 fTo (spTold 20)
  gGo : Gf K mg "_law_good" fGo
  FGo : FnR P w K mg base CX0 23 fGo (spGood C 20)
  gLc : Gf K mg "_law_covers" fLc
  FLc : FnR P w K mg base CX0 23 fLc (spLCov C 20)
  gOv : Gf K mg "_law_over" fOv
  FOv : FnR P w K mg base CX0 21 fOv (spOver 20)
theorem Bd.sm {s k : Nat} {t : T} (h : Bd s k t) (h1 : s ≤ 10000) (h2 : k ≤ 21) : Sm 20 t := ⟨h.fine, Nat.le_trans h.size h1, Nat.le_trans h.levels h2⟩
theorem Bd.com {s k : Nat} {t u : T} (h : Bd s k t) : Bd s k (tcom t u) := ⟨tcom_fine t u h.fine, Nat.le_trans (tcom_size t u) h.size, Nat.le_trans (tcom_levels t u) h.levels⟩
section
variable {P : Program} {w : World} {K : PySem.W.Frag} {mg : Str → Option Value} {base : Heap} {C : Addr}
theorem scPr : FnScope ["trees", "made", "i", "j", "both", "due", "over"] ["trees", "made"] (defScope sPairs) := ⟨rfl, rfl, rfl, by decide +kernel, rfl, by decide +kernel, by decide +kernel⟩
theorem ok_pairs {fA fCm fTo fGo fLc fOv : Addr} (L : CallsT P w K mg base C fA fCm fTo fGo fLc fOv) {f : Addr} {fd : FuncData} (F : Fun K "_law_pairs" "_law_pairs" sPairs f fd) : FnR P w K mg base CX0 26 f (spPairs C) := by
  refine okR F scPr (fun vs H Q E h => ?_) (fun _ _ _ _ _ _ us hl => match us, hl with | [_, _], _ => rfl) (fun cdv A outer s H vs Q E hr h => ?_)
  · obtain ⟨lt, lm, us, ms, ts, rfl, _⟩ := h
    rfl
  obtain ⟨lt, lm, us, ms, ts, rfl, hlt, hlm, hts, hms, h3, hbd, q⟩ := h
  have hr21 : Room 21 _ := hr.mono (by decide)
  have hr23 : Room 23 _ := hr.mono (by decide)
  refine ⟨_, pss_cons (ps_for PassesOwn.never rfl (pi_range1 (by rfl) L.range (pa_cons pe_int pa_nil)) (pg_name (i := 2) scPr.nd rfl (Or.inl rfl))
      (pss_one (ps_for PassesOwn.never rfl (pi_range1 (by rfl) L.range (pa_cons pe_int pa_nil)) (pg_name (i := 3) scPr.nd rfl (Or.inl rfl))
        (pss_cons (ps_set (i := 4) scPr.nd rfl (Or.inl rfl) (pe_op (op_binD L.ta.sf L.ta.at_ L.ta.fn L.FA hr pass0) (pe_ix ix_list (pv 1) (pv 2) (fun _ _ => rfl)) (pe_ix ix_list (pv 1) (pv 3) (fun _ _ => rfl))))
        (pss_cons (ps_set (i := 5) scPr.nd rfl (Or.inl rfl) (pe_cf L.FCm hr21 L.gCm pass0 (pa_cons (pe_ix ix_list (pv 0) (pv 2) (fun _ _ => rfl)) (pa_cons (pe_ix ix_list (pv 0) (pv 3) (fun _ _ => rfl)) pa_nil))))
        (pss_cons (ps_if (pt_not (pt_val (pe_cf L.FGo hr23 L.gGo pass0 (pa_cons (pv 4) (pa_cons (pe_cf L.FTo hr21 L.gTo pass0 (pa_cons (pv 5) pa_nil)) pa_nil))))) (pss_one (ps_ret pe_bl)) pss_nil)
        (pss_cons (ps_if (pt_not (pt_val (pe_cf L.FLc hr23 L.gLc pass0 (pa_cons (pv 4) (pa_cons (pe_ix ix_list (pv 1) (pv 2) (fun _ _ => rfl)) (pa_cons pe_bl pa_nil)))))) (pss_one (ps_ret pe_bl)) pss_nil)
        (pss_cons (ps_if (pt_not (pt_val (pe_cf L.FLc hr23 L.gLc pass0 (pa_cons (pv 4) (pa_cons (pe_ix ix_list (pv 1) (pv 3) (fun _ _ => rfl)) (pa_cons pe_bl pa_nil)))))) (pss_one (ps_ret pe_bl)) pss_nil)
        (pss_cons (ps_set (i := 6) scPr.nd rfl (Or.inl rfl) (pe_cf L.FOv hr21 L.gOv pass0 (pa_cons (pe_ix ix_list (pv 0) (pv 2) (fun _ _ => rfl)) (pa_cons (pe_ix ix_list (pv 0) (pv 3) (fun _ _ => rfl)) pa_nil))))
        (pss_cons (ps_if (pt_not (pt_val (pe_cf L.FLc hr23 L.gLc pass0 (pa_cons (pe_ix ix_list (pv 1) (pv 2) (fun _ _ => rfl)) (pa_cons (pe_ix ix_list (pv 1) (pv 3) (fun _ _ => rfl)) (pa_cons (pv 6) pa_nil)))))) (pss_one (ps_ret pe_bl)) pss_nil)
        (pss_one (ps_if (pt_not (pt_val (pe_cf L.FLc hr23 L.gLc pass0 (pa_cons (pe_ix ix_list (pv 1) (pv 2) (fun _ _ => rfl)) (pa_cons (pv 4) (pa_cons (pe_cmpR (op_eqD hr.units) (pe_ix ix_list (pv 0) (pv 2) (fun _ _ => rfl)) (pv 5) (nomark _)) pa_nil)))))) (pss_one (ps_ret pe_bl)) pss_nil))))))))))))
    (pss_one (ps_ret pe_bl)), ?_⟩
  have sl := sizeLine_eq
  have hul := hts.len
  have hml := hms.len
  refine ⟨3, rfl, by decide, by decide, ?_⟩
  refine for_range (lo := 0) (n := 3) (fun i σ H' => Same H H' ∧ ∃ w2 w3 w4 w5 w6 : Option V, σ = [some (.ref lt), some (.ref lm), w2, w3, w4, w5, w6]) ⟨Same.refl H, none, none, none, none, none, rfl⟩ ?_ ?_
  · rintro i σ H1 hi ⟨s1, w2, w3, w4, w5, w6, rfl⟩
    refine name_go ?_
    dsimp only
    rw [Int.zero_add]
    obtain ⟨x, hx⟩ : ∃ x, us[i]? = some x := ⟨_, List.getElem?_eq_getElem (by omega)⟩
    obtain ⟨m, hm⟩ : ∃ m, ms[i]? = some m := ⟨_, List.getElem?_eq_getElem (by omega)⟩
    obtain ⟨t, ht, hxt⟩ := hts.get hx
    obtain ⟨t', ht', hmt⟩ := hms.get hm
    rw [ht] at ht'
    cases ht'
    have bt := hbd t (List.mem_of_getElem? ht)
    refine ⟨3, rfl, by decide, by decide, ?_⟩
    refine for_range (lo := 0) (n := 3) (fun j σ H' => Same H H' ∧ ∃ w3 w4 w5 w6 : Option V, σ = [some (.ref lt), some (.ref lm), some (.int (i : Int)), w3, w4, w5, w6]) ⟨s1, w3, w4, w5, w6, rfl⟩ ?_ ?_
    · clear s1 w3 w4 w5 w6
      rintro j σ H2 hj ⟨s2, w3, w4, w5, w6, rfl⟩
      refine name_go ?_
      dsimp only
      rw [Int.zero_add]
      obtain ⟨y, hy⟩ : ∃ y, us[j]? = some y := ⟨_, List.getElem?_eq_getElem (by omega)⟩
      obtain ⟨n, hn⟩ : ∃ n, ms[j]? = some n := ⟨_, List.getElem?_eq_getElem (by omega)⟩
      obtain ⟨u, hu, hyu⟩ := hts.get hy
      obtain ⟨u', hu', hnu⟩ := hms.get hn
      rw [hu] at hu'
      cases hu'
      have bu := hbd u (List.mem_of_getElem? hu)
      have bc : Bd 1171 19 (tcom t u) := bt.com
      have hlv := bt.levels
      have hlc := bc.levels
      obtain ⟨ma, md, mp, mv, rfl, m1, _, _⟩ := hmt.ex
      obtain ⟨na, nd, np, nv, rfl, n1, _, _⟩ := hnu.ex
      have iT : ∀ {H'}, Same H H' → SqL K H' lt us := fun k => SqL.of (k _ _ hlt)
      have iM : ∀ {H'}, Same H H' → SqL K H' lm ms := fun k => SqL.of (k _ _ hlm)
      -- both
      refine ⟨_, rfl, _, rfl, lm, ms, _, .ref ma, rfl, rfl, iM s2, atI_nat hm, _, rfl, _, rfl, lm, ms, _, .ref na, rfl, rfl, iM s2, atI_nat hn, ma, md, _, na, nd, _, rfl, rfl, s2 _ _ m1, s2 _ _ n1, ?_⟩
      refine ⟨.ref ma, .ref na, t, u, rfl, hmt.mono s2, hnu.mono s2, bt.sm (by omega) (by omega), bu.sm (by omega) (by omega), fun bo H3 s3 hbo => ?_⟩
      have s23 := s2.trans s3
      refine name_go ?_
      dsimp only
      -- due
      refine ⟨_, rfl, _, rfl, lt, us, _, x, rfl, rfl, iT s23, atI_nat hx, _, rfl, _, rfl, lt, us, _, y, rfl, rfl, iT s23, atI_nat hy, x, y, t, u, rfl, hxt.mono s23, hyu.mono s23, bt.fine, by omega, fun du H4 s4 hdu => ?_⟩
      have s24 := s23.trans s4
      refine name_go ?_
      dsimp only
      -- good
      refine ⟨_, rfl, _, rfl, du, tcom t u, [], rfl, hdu, bc.fine, by have := bc.size; omega, by omega, (fun _ h => absurd h List.not_mem_nil), fun dv H5 s5 hdv => ?_⟩
      refine ⟨bo, dv, tcom t u, [], rfl, hbo.mono (s4.trans s5), hdv, bc.fine, by omega, fun H6 s6 => ⟨_, rfl, iteF ?_⟩⟩
      have s46 := s4.trans (s5.trans s6)
      have s26 := s23.trans s46
      -- covers
      refine ⟨_, rfl, _, rfl, _, rfl, lm, ms, _, .ref ma, rfl, rfl, iM s26, atI_nat hm, bo, .ref ma, true, tcom t u, t, rfl, hbo.mono s46, hmt.mono s26, bc.fine, by omega, (tov_com t u).symm, fun H7 s7 => ⟨_, rfl, iteF ?_⟩⟩
      have s47 := s46.trans s7
      have s27 := s26.trans s7
      refine ⟨_, rfl, _, rfl, _, rfl, lm, ms, _, .ref na, rfl, rfl, iM s27, atI_nat hn, bo, .ref na, true, tcom t u, u, rfl, hbo.mono s47, hnu.mono s27, bc.fine, by omega, (tov_com2 t u).symm, fun H8 s8 => ⟨_, rfl, iteF ?_⟩⟩
      have s48 := s47.trans s8
      have s28 := s27.trans s8
      -- over
      refine ⟨_, rfl, _, rfl, lt, us, _, x, rfl, rfl, iT s28, atI_nat hx, _, rfl, _, rfl, lt, us, _, y, rfl, rfl, iT s28, atI_nat hy, x, y, t, u, rfl, hxt.mono s28, hyu.mono s28, bt.fine, by omega, fun H9 s9 => ?_⟩
      have s29 := s28.trans s9
      refine name_go ?_
      dsimp only
      refine ⟨_, rfl, _, rfl, lm, ms, _, .ref ma, rfl, rfl, iM s29, atI_nat hm, _, rfl, _, rfl, lm, ms, _, .ref na, rfl, rfl, iM s29, atI_nat hn, _, rfl, .ref ma, .ref na, tov t u, t, u, rfl, hmt.mono s29, hnu.mono s29, bt.fine, by omega, rfl, fun H10 s10 => ⟨_, rfl, iteF ?_⟩⟩
      have s210 := s29.trans s10
      have s410 := s48.trans (s9.trans s10)
      have s4' : Same H4 H10 := s5.trans (s6.trans (s7.trans (s8.trans (s9.trans s10))))
      refine ⟨_, rfl, _, rfl, lm, ms, _, .ref ma, rfl, rfl, iM s210, atI_nat hm, _, rfl, _, rfl, _, rfl, lt, us, _, x, rfl, rfl, iT s210, atI_nat hx, _, rfl, tD t, tD (tcom t u), dp_tree (hxt.mono s210), dp_tree (hdu.mono s4'), shaped_tree bt.fine (by omega), shaped_tree bc.fine (by omega), ?_⟩
      refine ⟨.ref ma, bo, _, t, tcom t u, rfl, hmt.mono s210, hbo.mono s410, bt.fine, by omega, eqv_bool (tov_com_iff bt.fine), fun H11 s11 => ⟨_, rfl, iteF ?_⟩⟩
      exact ⟨s210.trans s11, _, _, _, _, rfl⟩
    · rintro σ H2 ⟨s2, w3, w4, w5, w6, rfl⟩
      exact ⟨s2, _, _, _, _, _, rfl⟩
  · rintro σ H1 ⟨s1, w2, w3, w4, w5, w6, rfl⟩
    exact q H1 s1
end
end Tw
set_option maxHeartbeats 4000000
/-! _law_refilled. -/
namespace Tw
open PySem PySem.Spec PyProof.Rows L2 RZ ClX
abbrev sRefi : Stmt := top 44
def iP (p : Path) : List Int := p.map fun (k : Nat) => (k : Int)
theorem pV_iP (p : Path) : pV p = (iP p).map V.int := by
  unfold pV iP
  rw [List.map_map]
  rfl
theorem atP_sub : ∀ (p : Path) (t : T), atP (iP p) t = T.sub p t
  | [], t => rfl
  | i :: r, t => by
    have ih := fun u => atP_sub r u
    have e : atP (iP (i :: r)) t = if 0 ≤ (i : Int) ∧ (i : Int) < (t.parts.length : Int) then (t.parts[((i : Int)).toNat]?).bind (atP (iP r)) else none := rfl
    rw [e]
    show _ = (t.parts[i]?).bind (T.sub r)
    by_cases h : i < t.parts.length
    · rw [if_pos ⟨by omega, by omega⟩]
      have : ((i : Int)).toNat = i := by omega
      rw [this]
      cases t.parts[i]? with
      | none => rfl
      | some u => exact ih u
    · rw [if_neg (by omega), List.getElem?_eq_none (by omega)]
      rfl
def spRefi (C : Addr) : Sp := fun vs H Q _ => ∃ (tv mv bv : V) (lg : Addr) (t c : T) (ws : List V), vs = [tv, mv, bv, .ref lg] ∧ TupAt H tv t ∧ TreeAt C H mv t ∧ TreeAt C H bv c ∧ H lg = some (.lst ws) ∧ PathsAt H ws (c.hs []) ∧ tov c t = true ∧ Bd 1171 19 t ∧ Bd 1171 19 c ∧ ∀ H', Same H H' → Q (.bl true) H'
section
variable {P : Program} {w : World} {K : PySem.W.Frag} {mg : Str → Option Value} {base : Heap} {C : Addr}
theorem scRe : FnScope ["tree", "made", "both", "gaps", "parts", "gap"] ["tree", "made", "both", "gaps"] (defScope sRefi) := ⟨rfl, rfl, rfl, by decide +kernel, rfl, by decide +kernel, by decide +kernel⟩
theorem ok_refi {CB CN fG fL fM fTo fGo : Addr} (ml : mg "len" = none) (d1 : PySem.W.findIn K (.ref C) "__getitem__" = some (some (.ref fG))) (d2 : PySem.W.fnIn K fG = true) (d3 : PySem.W.isFn K (.ref fG) = true) (FG : FnR P w K mg base (L2.CX P w) 3 fG (spGetitem K C CN))
    (gL : Gf K mg "_law_filled" fL) (FL : FnR P w K mg base (L2.CX P w) 26 fL (spLFil C CB 20)) (gM : Gf K mg "_law_miscounted" fM) (FM : FnR P w K mg base (L2.CX P w) 27 fM (spMis C 20)) (gTo : Gf K mg "_law_told" fTo) (FTo : FnR P w K mg base CX0 21 fTo (spTold 20)) (gGo : Gf K mg "_law_good" fGo) (FGo : FnR P w K mg base CX0 23 fGo (spGood C 20))
    {f : Addr} {fd : FuncData} (F : Fun K "_law_refilled" "_law_refilled" sRefi f fd) : FnR P w K mg base (L2.CX P w) 28 f (spRefi C) := by
  refine FnOk.toR (fd := fd) (ps := ["tree", "made", "both", "gaps"]) ?_ (F.binds fun _ _ _ _ _ _ us hl => match us, hl with | [_, _, _, _], _ => rfl)
  refine F.okX scRe (fun vs H Q E h => ?_) (fun cdv A outer s H vs Q E hr h => ?_)
  · obtain ⟨tv, mv, bv, lg, t, c, ws, rfl, _⟩ := h
    rfl
  obtain ⟨tv, mv, bv, lg, t, c, ws, rfl, htv, hmv, hbv, hlg, hps, hov, bt, bc, q⟩ := h
  have hr4 : Room 4 _ := hr.mono (by decide)
  have hr21 : Room 21 _ := hr.mono (by decide)
  have hr23 : Room 23 _ := hr.mono (by decide)
  have hr26 : Room 26 _ := hr.mono (by decide)
  refine ⟨_, pss_cons (ps_setLc (i := 4) (own := [("gap", 5)]) (g := gName 5) (tt := tYes) (te := tOp (rIxD C (spGetitem K C CN) E0) (tVar 1) (tVar 5)) rfl scRe.nd rfl rfl (by rfl) (pi_list (pv 3)) (blkOk_by (own := [("gap", 5)]) (N := ["tree", "made", "both", "gaps", "parts", "gap"]) (sc := defScope sRefi) (by decide +kernel))
      (fun _ _ _ _ _ => by exact pg_name (i := 5) scRe.nd rfl (Or.inl rfl)) (fun _ _ _ _ _ => by exact pts_nil) (fun _ _ _ _ _ => by exact pe_ixD d1 d2 d3 FG hr4 passE (pv 1) (pv 5)))
    (pss_cons (ps_if (pt_cmpR op_gt (pe_callB call_len_seq (by rfl) ml PySem.boot_len (pa_cons (pv 3) pa_nil)) pe_int (nomark _)) (pss_one (ps_ret (pe_cf (E := E0) FM hr gM passE (pa_cons (pv 2) (pa_cons (pe_slice sl_list (pv 4) po_none (po_some pe_int)) pa_nil))))) pss_nil)
    (pss_cons (ps_if (pt_not (pt_val (pe_cf FGo hr23 gGo pass0 (pa_cons (pe_cf (E := E0) FL hr26 gL passE (pa_cons (pv 2) (pa_cons (pv 4) pa_nil))) (pa_cons (pe_cf FTo hr21 gTo pass0 (pa_cons (pv 0) pa_nil)) pa_nil))))) (pss_one (ps_ret pe_bl)) pss_nil)
    (pss_cons (ps_if (PW.pt (pw_and (pt_cmpR op_gt (pe_callB call_len_seq (by rfl) ml PySem.boot_len (pa_cons (pv 3) pa_nil)) pe_int (nomark _)) (pw_and1 (pt_not (pt_val (pe_cf (E := E0) FM hr gM passE (pa_cons (pv 2) (pa_cons (pe_slice sl_list (pv 4) (po_some pe_int) po_none) pa_nil)))))))) (pss_one (ps_ret pe_bl)) pss_nil)
    (pss_one (ps_ret (pe_cf (E := E0) FM hr gM passE (pa_cons (pv 2) (pa_cons (pe_op op_cat (pv 4) (pe_lst (pa_cons (pv 1) pa_nil))) pa_nil)))))))), ?_⟩
  have sl := sizeLine_eq
  have hpl := paired_len hps
  have hgl := hs_len c [] bc.fine
  have hsl := tsel_len c t bc.fine hov
  have hsel := sel_hs c t t [] bc.fine hov rfl
  have hgz := hs_le c []
  have hcz := bc.size
  have hlt := bt.levels
  have hlc := bc.levels
  obtain ⟨ma, md, mp, mvs, rfl, m1, m2, m3⟩ := hmv.ex
  refine ⟨_, rfl, lg, rfl, ⟨_, SqL.of hlg⟩, fun D' hD' => ?_⟩
  refine lc_rel walk_list hD' (fun H' s => SqL.of (s _ _ hlg)) (by omega) (fun j v H' => ∃ u, (tsel c t)[j]? = some u ∧ TreeAt C H' v u) ?_ ?_ ?_ ?_
  · rintro j v H1 H2 _ s ⟨u, e, hu⟩
    exact ⟨u, e, hu.mono s⟩
  · rintro j v H1 l l' _ e1 ⟨u, e, hu⟩
    exact ⟨u, e, hu.firm (Firm.list e1)⟩
  · intro i x H1 R hx sm _ hR
    obtain ⟨pa, hpa, qa, rfl, hqa⟩ := paired_get hps hx
    obtain ⟨u, hu, hsu⟩ : ∃ u, (tsel c t)[i]? = some u ∧ T.sub pa t = some u := by
      have h1 : ((c.hs []).map fun p => T.sub p t)[i]? = some (T.sub pa t) := by rw [List.getElem?_map, hpa]; rfl
      rw [hsel, List.getElem?_map] at h1
      cases e : (tsel c t)[i]? with
      | none => rw [e] at h1; cases h1
      | some u => rw [e] at h1; exact ⟨u, rfl, (Option.some.inj h1).symm⟩
    refine ⟨rfl, _, rfl, _, rfl, ma, md, _, rfl, sm _ _ m1, .ref ma, t, qa, iP pa, rfl, hmv.mono sm, ?_, ?_, ?_⟩
    · rw [← pV_iP]
      exact SqT.of (sm _ _ hqa)
    · intro u' hu' hv hhv
      rw [atP_sub, hsu] at hu'
      cases hu'
      exact hR hv H1 (Same.refl H1) ⟨u, hu, hhv⟩
    · intro hn
      rw [atP_sub, hsu] at hn
      cases hn
  intro H1 ys s1 hys hyl hyr
  have hus : TreesAt C H1 ys (tsel c t) := rel_trees (by omega) hyr
  refine name_go ?_
  dsimp only
  refine ⟨_, rfl, lg, ws, rfl, .inl (SqL.of (s1 _ _ hlg)), _, _, rfl, rfl, _, rfl, ?_⟩
  refine ite2 (fun h => ?_) (fun h => ?_)
  · have h4 := of_decide_eq_true h
    refine ⟨_, rfl, _, rfl, 4, rfl, D', ys, rfl, SqL.of hys, fun cs ncs => ?_⟩
    have e4 : cutV ys none (some 4) = ys.take 4 := by
      unfold cutV
      rw [HT.sIx_none, show (4 : Int) = ((4 : Nat) : Int) from rfl, HT.sIx_nat, Nat.min_eq_left (by omega)]
      rfl
    rw [e4]
    have s2 := sameN (o := .lst (ys.take 4)) ncs
    have s12 := s1.trans s2
    exact ⟨bv, cs, c, ys.take 4, (tsel c t).take 4, rfl, hbv.mono s12, upd_same, TreesAt.take 4 (hus.mono s2), bc.fine, by omega, by rw [List.length_take]; omega, by rw [List.length_take]; omega, fun H' k' => q H' (s12.trans k')⟩
  have h4 : ws.length ≤ 4 := by
    have := of_decide_eq_false (Bool.eq_false_iff.mpr h)
    omega
  -- filled
  refine ⟨_, rfl, _, rfl, bv, D', c, ys, tsel c t, rfl, hbv.mono s1, hys, hus, bc.fine, by omega, by omega, fun _ => ⟨t, rfl, hov, bt.fine, by have := bt.size; omega, fun v' H2 s2 hv' => ?_⟩, fun hne => absurd hsl hne⟩
  have s12 := s1.trans s2
  refine ⟨_, rfl, tv, t, [], rfl, htv.mono s12, bt.fine, by have := bt.size; omega, by omega, (fun _ h => absurd h List.not_mem_nil), fun dv H3 s3 hdv => ?_⟩
  refine ⟨v', dv, t, [], rfl, hv'.mono s3, hdv, bt.fine, by omega, fun H4 s4 => ⟨_, rfl, iteF ?_⟩⟩
  have s14 := s12.trans (s3.trans s4)
  have k14 : Same H1 H4 := s2.trans (s3.trans s4)
  have fin : ∀ H5, Same H4 H5 → (tRet (tCf (spMis C 20) E0 (tCons (tVar 2) (tCons (tOp rCat (tVar 4) (tLst (tCons (tVar 1) tNil))) tNil)))) { nx := fun _ H' => Q .non H', rt := Q } [some tv, some (.ref ma), some bv, some (.ref lg), some (.ref D'), none] H5 := fun H5 s5 => by
    have s15 := s14.trans s5
    have hys5 := s5 _ _ (k14 _ _ hys)
    refine ⟨_, rfl, _, rfl, _, rfl, by (show 1 ≤ sizeLine; omega), fun l1 nl1 => ?_⟩
    have s6 := sameN (o := .lst [V.ref ma]) nl1
    refine ⟨D', l1, ys, [.ref ma], rfl, rfl, s6 _ _ hys5, upd_same, by (show ys.length + 1 ≤ sizeLine; omega), fun l2 nl2 => ?_⟩
    have s7 := sameN (o := .lst (ys ++ [V.ref ma])) nl2
    have s17 := s15.trans (s6.trans s7)
    have k17 : Same H1 _ := k14.trans (s5.trans (s6.trans s7))
    exact ⟨bv, l2, c, ys ++ [.ref ma], tsel c t ++ [t], rfl, hbv.mono s17, upd_same, TreesAt.snoc (hmv.mono s17) (hus.mono k17), bc.fine, by omega, by rw [List.length_append, List.length_singleton]; omega, by rw [List.length_append, List.length_singleton]; omega, fun H' k' => q H' (s17.trans k')⟩
  refine ⟨_, rfl, lg, ws, rfl, .inl (SqL.of (s14 _ _ hlg)), _, _, rfl, rfl, _, rfl, ?_⟩
  refine ite2 (fun h => ?_) (fun h => ?_)
  · have h0 := of_decide_eq_true h
    refine ⟨_, rfl, _, rfl, 1, rfl, ?_⟩
    dsimp only [tNoPart]
    refine ⟨D', ys, rfl, SqL.of (k14 _ _ hys), fun cs ncs => ?_⟩
    have e1 : cutV ys (some 1) none = ys.drop 1 := by
      unfold cutV
      rw [HT.sIx_none, show (1 : Int) = ((1 : Nat) : Int) from rfl, HT.sIx_nat, Nat.min_eq_left (by omega), List.take_of_length_le (by rw [List.length_drop]; omega)]
    rw [e1]
    have s5 := sameN (o := .lst (ys.drop 1)) ncs
    have s15 := s14.trans s5
    refine ⟨bv, cs, c, ys.drop 1, (tsel c t).drop 1, rfl, hbv.mono s15, upd_same, TreesAt.drop 1 (hus.mono (k14.trans s5)), bc.fine, by omega, by rw [List.length_drop]; omega, by rw [List.length_drop]; omega, fun H6 k6 => ⟨_, rfl, iteF ?_⟩⟩
    exact fin H6 (s5.trans k6)
  · refine iteF ?_
    exact fin H4 (Same.refl H4)
end
end Tw
set_option maxHeartbeats 8000000
/-! The law. -/
namespace Tw
open PySem PySem.Spec PyProof.Rows L2 RZ ClX
abbrev sLaw : Stmt := top 45
def pD (p : Path) : PyData := .tuple (p.map fun (k : Nat) => .int (k : Int))
theorem dp_path {K : PySem.W.Frag} {H : Hp} {v : V} {p : Path} (h : PathAt H v p) : Dp K H v (pD p) := by
  obtain ⟨q, rfl, e⟩ := h
  have h1 : ∀ l : Path, DpAll K H (pV l) (l.map fun (k : Nat) => .int (k : Int)) := fun l => by
    induction l with
    | nil => exact .nil
    | cons x r ih => exact .cons (.int x) ih
  exact .tup (SqT.of e) (h1 p)
theorem dp_paths {K : PySem.W.Frag} {H : Hp} : ∀ {ys : List V} {ps : List Path}, Paired (PathAt H) ys ps → DpAll K H ys (ps.map pD)
  | _, _, .nil => .nil
  | _, _, .cons h t => .cons (dp_path h) (dp_paths t)
mutual
theorem eqv_self : ∀ d : PyData, d.canLay0 = true → PyData.eqv d d = true
  | .none, _ => by unfold PyData.eqv; rfl
  | .bool b, _ => by unfold PyData.eqv; simp
  | .int i, _ => by unfold PyData.eqv; simp
  | .str x, _ => by unfold PyData.eqv; simp
  | .list xs, h => by unfold PyData.eqv; unfold PyData.canLay0 at h; exact eqvAll_self xs h
  | .tuple xs, h => by unfold PyData.eqv; unfold PyData.canLay0 at h; exact eqvAll_self xs h
  | .dict _, h => by unfold PyData.canLay0 at h; cases h
theorem eqvAll_self : ∀ ds : List PyData, PyData.canLayAll0 ds = true → PyData.eqvAll ds ds = true
  | [], _ => by unfold PyData.eqvAll; rfl
  | d :: ds, h => by
    unfold PyData.canLayAll0 at h
    rw [Bool.and_eq_true] at h
    unfold PyData.eqvAll
    rw [eqv_self d h.1, eqvAll_self ds h.2]
    rfl
end
theorem path_shape (p : Path) : (pD p).canLay0 = true ∧ (pD p).depth = 1 := by
  have h1 : ∀ l : Path, PyData.canLayAll0 (l.map fun (k : Nat) => .int (k : Int)) = true ∧ PyData.depthAll (l.map fun (k : Nat) => .int (k : Int)) = 0 := fun l => by
    induction l with
    | nil => exact ⟨rfl, rfl⟩
    | cons x r ih =>
      rw [List.map_cons]
      unfold PyData.canLayAll0 PyData.depthAll
      rw [ih.1, ih.2]
      exact ⟨rfl, rfl⟩
  unfold pD PyData.canLay0 PyData.depth
  exact ⟨(h1 p).1, by rw [(h1 p).2]⟩
theorem shaped_paths (ps : List Path) : SeqAt.shaped (.list (ps.map pD)) = true := by
  have h1 : ∀ l : List Path, PyData.canLayAll0 (l.map pD) = true ∧ PyData.depthAll (l.map pD) ≤ 1 := fun l => by
    induction l with
    | nil => exact ⟨rfl, Nat.zero_le _⟩
    | cons x r ih =>
      rw [List.map_cons]
      unfold PyData.canLayAll0 PyData.depthAll
      rw [ih.1, (path_shape x).1, (path_shape x).2]
      exact ⟨rfl, by omega⟩
  unfold SeqAt.shaped
  refine Bool.and_eq_true_iff.mpr ⟨?_, decide_eq_true ?_⟩
  · unfold PyData.canLay0; exact (h1 ps).1
  · unfold PyData.depth; have := (h1 ps).2; omega
theorem canLay_path (ps : List Path) : PyData.canLay0 (.list (ps.map pD)) = true := (Bool.and_eq_true_iff.mp (shaped_paths ps)).1
/-- v & w -/
theorem and_go {C : Addr} {v w : V} {t u : T} {H : Hp} {Q : VK} (hv : TreeAt C H v t) (hw : TreeAt C H w u) (st : Sm 20 t) (su : Sm 20 u) (h : ∀ v' H', Same H H' → TreeAt C H' v' (tcom t u) → Q v' H') : rOwnD C (spAnd C 20) E0 v w H Q := by
  obtain ⟨a, da, pa, va, rfl, h1, _, _⟩ := hv.ex
  obtain ⟨b, db, pb, vb, rfl, h2, _, _⟩ := hw.ex
  exact ⟨a, da, _, b, db, _, rfl, rfl, h1, h2, _, _, t, u, rfl, hv, hw, st, su, h⟩
theorem tEq_refl (t : T) : tEq t t = true := by
  unfold tEq pairEq
  simp
/-- v == w of trees that are alike -/
theorem eq_go {C : Addr} {v w : V} {t : T} {H : Hp} {Q : VK} (hv : TreeAt C H v t) (hw : TreeAt C H w t) (h : ∀ H', Same H H' → Q (.bl true) H') : rOwnD C (spCmp C tEq) E0 v w H Q := by
  obtain ⟨a, da, pa, va, rfl, h1, _, _⟩ := hv.ex
  obtain ⟨b, db, pb, vb, rfl, h2, _, _⟩ := hw.ex
  exact ⟨a, da, _, b, db, _, rfl, rfl, h1, h2, _, _, t, t, rfl, hv, hw, fun H' k => by rw [tEq_refl]; exact h H' k⟩
def spLaw (K : PySem.W.Frag) : Sp := fun vs H Q _ => ∃ (a : Addr) (ns : List Int), vs = [.ref a] ∧ SqL K H a (ns.map V.int) ∧ ns.length ≤ 63 ∧ ∀ H', Q (.bl true) H'
theorem three_lists {C : Addr} {H : Hp} {us ms : List V} {ts : List T} (h1 : TupsAt H us ts) (h2 : TreesAt C H ms ts) (h3 : ts.length = 3) :
    ∃ x0 x1 x2 m0 m1 m2 t0 t1 t2, us = [x0, x1, x2] ∧ ms = [m0, m1, m2] ∧ ts = [t0, t1, t2] ∧ TupAt H x0 t0 ∧ TupAt H x1 t1 ∧ TupAt H x2 t2 ∧ TreeAt C H m0 t0 ∧ TreeAt C H m1 t1 ∧ TreeAt C H m2 t2 := by
  have l1 := h1.len
  have l2 := h2.len
  match ts, us, ms, h3, l1, l2, h1, h2 with
  | [t0, t1, t2], [x0, x1, x2], [m0, m1, m2], _, _, _, h1, h2 =>
    unfold TupsAt at h1
    obtain ⟨a0, h1⟩ := h1
    unfold TupsAt at h1
    obtain ⟨a1, h1⟩ := h1
    unfold TupsAt at h1
    obtain ⟨a2, h1⟩ := h1
    unfold TreesAt at h2
    obtain ⟨b0, h2⟩ := h2
    unfold TreesAt at h2
    obtain ⟨b1, h2⟩ := h2
    unfold TreesAt at h2
    obtain ⟨b2, h2⟩ := h2
    exact ⟨x0, x1, x2, m0, m1, m2, t0, t1, t2, rfl, rfl, rfl, a0, a1, a2, b0, b1, b2⟩
/-- all that stands from the draws on -/
structure St1 (C : Addr) (H : Hp) (lt lm : Addr) (x0 x1 x2 m0 m1 m2 : V) (t0 t1 t2 : T) : Prop where
  lt : H lt = some (.lst [x0, x1, x2])
  lm : H lm = some (.lst [m0, m1, m2])
  x0 : TupAt H x0 t0
  x1 : TupAt H x1 t1
  x2 : TupAt H x2 t2
  m0 : TreeAt C H m0 t0
  m1 : TreeAt C H m1 t1
  m2 : TreeAt C H m2 t2
theorem St1.kept {C : Addr} {H H' : Hp} {lt lm : Addr} {x0 x1 x2 m0 m1 m2 : V} {t0 t1 t2 : T} (S : St1 C H lt lm x0 x1 x2 m0 m1 m2 t0 t1 t2) {l : List Addr} (k : KeptBut l H H') (f : Firm H H') (n1 : lt ∉ l) (n2 : lm ∉ l) : St1 C H' lt lm x0 x1 x2 m0 m1 m2 t0 t1 t2 :=
  ⟨k _ _ S.lt n1, k _ _ S.lm n2, S.x0.firm f, S.x1.firm f, S.x2.firm f, S.m0.firm f, S.m1.firm f, S.m2.firm f⟩
theorem St1.mono {C : Addr} {H H' : Hp} {lt lm : Addr} {x0 x1 x2 m0 m1 m2 : V} {t0 t1 t2 : T} (S : St1 C H lt lm x0 x1 x2 m0 m1 m2 t0 t1 t2) (s : Same H H') : St1 C H' lt lm x0 x1 x2 m0 m1 m2 t0 t1 t2 :=
  S.kept (l := []) (.of s) (.of s) List.not_mem_nil List.not_mem_nil
theorem St1.tups {C : Addr} {H : Hp} {lt lm : Addr} {x0 x1 x2 m0 m1 m2 : V} {t0 t1 t2 : T} (S : St1 C H lt lm x0 x1 x2 m0 m1 m2 t0 t1 t2) : TupsAt H [x0, x1, x2] [t0, t1, t2] := .cons S.x0 (.cons S.x1 (.cons S.x2 .nil))
theorem St1.trees {C : Addr} {H : Hp} {lt lm : Addr} {x0 x1 x2 m0 m1 m2 : V} {t0 t1 t2 : T} (S : St1 C H lt lm x0 x1 x2 m0 m1 m2 t0 t1 t2) : TreesAt C H [m0, m1, m2] [t0, t1, t2] := by
  unfold TreesAt
  refine ⟨S.m0, ?_⟩
  unfold TreesAt
  refine ⟨S.m1, ?_⟩
  unfold TreesAt
  refine ⟨S.m2, ?_⟩
  unfold TreesAt
  trivial
section
variable {P : Program} {w : World} {K : PySem.W.Frag} {mg : Str → Option Value} {base : Heap} {C CN : Addr}
theorem scLaw : FnScope ["script", "pool", "trees", "tree", "made", "common", "wide", "half", "over", "k", "both", "due", "left", "right", "turned", "gaps", "found"] ["script"] (defScope sLaw) := ⟨rfl, rfl, rfl, by decide +kernel, rfl, by decide +kernel, by decide +kernel⟩
/-- what the law calls besides -/
structure CallsL (P : Program) (w : World) (K : PySem.W.Frag) (mg : Str → Option Value) (base : Heap) (C fPo fTh fMa fPa fOp fGa fRe fQ fHo : Addr) : Prop where
  gPo : Gf K mg "_law_pool_of" fPo
  FPo : FnR P w K mg base CX0 1 fPo (spPool K)
  gTh : Gf K mg "_law_three" fTh
  FTh : FnR P w K mg base CX0 64 fTh spThree
  gMa : Gf K mg "_law_make" fMa
  FMa : FnR P w K mg base CX0 25 fMa (spMakeL C 20)
  gPa : Gf K mg "_law_pairs" fPa
  FPa : FnR P w K mg base CX0 26 fPa (spPairs C)
  gOp : Gf K mg "_law_opened" fOp
  FOp : FnR P w K mg base CX0 63 fOp spOpened
  gGa : Gf K mg "_law_gaps" fGa
  FGa : FnR P w K mg base CX0 21 fGa (spGaps 20)
  gRe : Gf K mg "_law_refilled" fRe
  FRe : FnR P w K mg base (L2.CX P w) 28 fRe (spRefi C)
  nf : PySem.W.notFirst K C (.ref C) = true
  q1 : PySem.W.findIn K (.ref C) "__eq__" = some (some (.ref fQ))
  q2 : PySem.W.isFn K (.ref fQ) = true
  FQ : FnR P w K mg base CX0 1 fQ (spCmp C tEq)
  mH : Meth K C "holes" fHo
  FHo : FnR P w K mg base CX0 2 fHo (spHoles C)
  isi : mg "isinstance" = none
  list : mg "list" = none
  T1 : Tt K C
theorem ok_law {fA fCm fTo fGo fLc fOv fPo fTh fMa fPa fOp fGa fRe fQ fHo : Addr} (L : CallsT P w K mg base C fA fCm fTo fGo fLc fOv) (M : CallsL P w K mg base C fPo fTh fMa fPa fOp fGa fRe fQ fHo) {f : Addr} {fd : FuncData} (F : Fun K "law" "law" sLaw f fd) : FnOk P w K mg base CX0 65 f fd ["script"] (spLaw K) := by
  refine F.ok scLaw (fun vs H Q E h => ?_) (fun cdv A outer s H vs Q E hr h => ?_)
  · obtain ⟨a, ns, rfl, _⟩ := h
    rfl
  obtain ⟨a, ns, rfl, ha, hns, q⟩ := h
  have hr63 : Room 63 _ := hr.mono (by decide)
  have hr28 : Room 28 _ := hr.mono (by decide)
  have hr26 : Room 26 _ := hr.mono (by decide)
  have hr25 : Room 25 _ := hr.mono (by decide)
  have hr23 : Room 23 _ := hr.mono (by decide)
  have hr21 : Room 21 _ := hr.mono (by decide)
  have hr2 : Room 2 _ := hr.mono (by decide)
  have hr1 : Room 1 _ := hr.mono (by decide)
  refine ⟨_, (pss_cons (ps_set (i := 1) scLaw.nd rfl (Or.inl rfl) (pe_cf M.FPo hr1 M.gPo pass0 (pa_cons (pv 0) pa_nil)))
    (pss_cons (ps_set (i := 2) scLaw.nd rfl (Or.inl rfl) (pe_cf M.FTh hr M.gTh pass0 (pa_cons (pv 1) pa_nil)))
    (pss_cons (ps_setLc (i := 4) (own := [("tree", 3)]) (g := gName 3) (tt := tYes) (te := tCf (spMakeL C 20) E0 (tCons (tVar 3) tNil)) rfl scLaw.nd rfl rfl (by rfl) (pi_list (pv 2)) (blkOk_by (own := [("tree", 3)]) (N := ["script", "pool", "trees", "tree", "made", "common", "wide", "half", "over", "k", "both", "due", "left", "right", "turned", "gaps", "found"]) (sc := defScope sLaw) (by decide +kernel))
      (fun _ _ _ _ _ => by exact pg_name (i := 3) scLaw.nd rfl (Or.inl rfl)) (fun _ _ _ _ _ => by exact pts_nil) (fun _ _ _ _ _ => by exact pe_cf M.FMa hr25 M.gMa pass0 (pa_cons (pv 3) pa_nil)))
    (pss_cons (ps_if (pt_not (pt_val (pe_cf M.FPa hr26 M.gPa pass0 (pa_cons (pv 2) (pa_cons (pv 4) pa_nil))))) (pss_one (ps_ret pe_bl)) pss_nil)
    (pss_cons (ps_set (i := 5) scLaw.nd rfl (Or.inl rfl) (pe_cf L.FCm hr21 L.gCm pass0 (pa_cons (pe_ix ix_list (pv 2) pe_int (fun _ _ => rfl)) (pa_cons (pe_ix ix_list (pv 2) pe_int (fun _ _ => rfl)) pa_nil))))
    (pss_cons (ps_set (i := 6) scLaw.nd rfl (Or.inl rfl) (pe_cf M.FOp hr63 M.gOp pass0 (pa_cons (pv 1) (pa_cons (pv 5) pa_nil))))
    (pss_cons (ps_set (i := 7) scLaw.nd rfl (Or.inl rfl) (pe_cf M.FOp hr63 M.gOp pass0 (pa_cons (pv 1) (pa_cons (pe_ix ix_list (pv 2) pe_int (fun _ _ => rfl)) pa_nil))))
    (pss_cons (ps_for PassesOwn.never rfl (pi_list (pe_lst (pa_cons (pv 6) (pa_cons (pv 7) pa_nil)))) (pg_name (i := 3) scLaw.nd rfl (Or.inl rfl)) (pss_cons (ps_set (i := 8) scLaw.nd rfl (Or.inl rfl) (pe_cf M.FMa hr25 M.gMa pass0 (pa_cons (pv 3) pa_nil))) (pss_cons (ps_for PassesOwn.never rfl (pi_range1 (by rfl) L.range (pa_cons pe_int pa_nil)) (pg_name (i := 9) scLaw.nd rfl (Or.inl rfl)) (pss_one (ps_if (pt_not (pt_val (pe_cf L.FLc hr23 L.gLc pass0 (pa_cons (pv 8) (pa_cons (pe_ix ix_list (pv 4) (pv 9) (fun _ _ => rfl)) (pa_cons (pe_cf L.FOv hr21 L.gOv pass0 (pa_cons (pv 3) (pa_cons (pe_ix ix_list (pv 2) (pv 9) (fun _ _ => rfl)) pa_nil))) pa_nil)))))) (pss_one (ps_ret pe_bl)) pss_nil))) (pss_cons (ps_set (i := 10) scLaw.nd rfl (Or.inl rfl) (pe_and (pe_cf L.FOv hr21 L.gOv pass0 (pa_cons (pv 3) (pa_cons (pe_ix ix_list (pv 2) pe_int (fun _ _ => rfl)) pa_nil))) (pe_one (pe_cf L.FOv hr21 L.gOv pass0 (pa_cons (pv 3) (pa_cons (pe_ix ix_list (pv 2) pe_int (fun _ _ => rfl)) pa_nil)))))) (pss_one (ps_if (pt_not (pt_val (pe_cf L.FLc hr23 L.gLc pass0 (pa_cons (pv 8) (pa_cons (pe_op (op_binD L.ta.sf L.ta.at_ L.ta.fn L.FA hr25 pass0) (pe_ix ix_list (pv 4) pe_int (fun _ _ => rfl)) (pe_ix ix_list (pv 4) pe_int (fun _ _ => rfl))) (pa_cons (pv 10) pa_nil)))))) (pss_one (ps_ret pe_bl)) pss_nil))))))
    (pss_cons (ps_set (i := 11) scLaw.nd rfl (Or.inl rfl) (pe_cf L.FTo hr21 L.gTo pass0 (pa_cons (pe_cf L.FCm hr21 L.gCm pass0 (pa_cons (pv 5) (pa_cons (pe_ix ix_list (pv 2) pe_int (fun _ _ => rfl)) pa_nil))) pa_nil)))
    (pss_cons (ps_set (i := 12) scLaw.nd rfl (Or.inl rfl) (pe_op (op_binD L.ta.sf L.ta.at_ L.ta.fn L.FA hr25 pass0) (pe_op (op_binD L.ta.sf L.ta.at_ L.ta.fn L.FA hr25 pass0) (pe_ix ix_list (pv 4) pe_int (fun _ _ => rfl)) (pe_ix ix_list (pv 4) pe_int (fun _ _ => rfl))) (pe_ix ix_list (pv 4) pe_int (fun _ _ => rfl))))
    (pss_cons (ps_set (i := 13) scLaw.nd rfl (Or.inl rfl) (pe_op (op_binD L.ta.sf L.ta.at_ L.ta.fn L.FA hr25 pass0) (pe_ix ix_list (pv 4) pe_int (fun _ _ => rfl)) (pe_op (op_binD L.ta.sf L.ta.at_ L.ta.fn L.FA hr25 pass0) (pe_ix ix_list (pv 4) pe_int (fun _ _ => rfl)) (pe_ix ix_list (pv 4) pe_int (fun _ _ => rfl)))))
    (pss_cons (ps_set (i := 14) scLaw.nd rfl (Or.inl rfl) (pe_op (op_binD L.ta.sf L.ta.at_ L.ta.fn L.FA hr25 pass0) (pe_op (op_binD L.ta.sf L.ta.at_ L.ta.fn L.FA hr25 pass0) (pe_ix ix_list (pv 4) pe_int (fun _ _ => rfl)) (pe_ix ix_list (pv 4) pe_int (fun _ _ => rfl))) (pe_ix ix_list (pv 4) pe_int (fun _ _ => rfl))))
    (pss_cons (ps_if (PW.pt (pw_or (pt_not (pt_val (pe_cf L.FGo hr23 L.gGo pass0 (pa_cons (pv 12) (pa_cons (pv 11) pa_nil))))) (pw_or1 (pt_not (pt_val (pe_cf L.FGo hr23 L.gGo pass0 (pa_cons (pv 13) (pa_cons (pv 11) pa_nil)))))))) (pss_one (ps_ret pe_bl)) pss_nil)
    (pss_cons (ps_if (PW.pt (pw_or (pt_not (pt_val (pe_cf L.FGo hr23 L.gGo pass0 (pa_cons (pv 14) (pa_cons (pv 11) pa_nil))))) (pw_or (pt_not (pt_cmpR (op_ownD (E := E0) (op := .Eq) (fun _ _ => rfl) M.q1 M.q2 M.nf M.FQ hr1 pass0) (pv 12) (pv 13) (nomark _))) (pw_or1 (pt_not (pt_cmpR (op_ownD (E := E0) (op := .Eq) (fun _ _ => rfl) M.q1 M.q2 M.nf M.FQ hr1 pass0) (pv 14) (pv 12) (nomark _))))))) (pss_one (ps_ret pe_bl)) pss_nil)
    (pss_cons (ps_set (i := 10) scLaw.nd rfl (Or.inl rfl) (pe_op (op_binD L.ta.sf L.ta.at_ L.ta.fn L.FA hr25 pass0) (pe_ix ix_list (pv 4) pe_int (fun _ _ => rfl)) (pe_ix ix_list (pv 4) pe_int (fun _ _ => rfl))))
    (pss_cons (ps_set (i := 15) scLaw.nd rfl (Or.inl rfl) (pe_cf M.FGa hr21 M.gGa pass0 (pa_cons (pv 5) (pa_cons (pe_tup pa_nil) pa_nil))))
    (pss_cons (ps_set (i := 16) scLaw.nd rfl (Or.inl rfl) (pe_methR0 (pv 10) M.T1.cl M.mH M.FHo hr2 pass0))
    (pss_cons (ps_if (PW.pt (pw_or (pt_not (pt_val (pe_callB call_isi (by rfl) M.isi (by decide +kernel) (pa_cons (pv 16) (pa_cons (pe_bltn (v := .ty "list") (by rfl) M.list (by decide +kernel) rfl) pa_nil))))) (pw_or1 (pt_cmpR (op_neD hr.units) (pv 16) (pv 15) (nomark _))))) (pss_one (ps_ret pe_bl)) pss_nil)
    (pss_cons (ps_for PassesOwn.never rfl (pi_range1 (by rfl) L.range (pa_cons pe_int pa_nil)) (pg_name (i := 9) scLaw.nd rfl (Or.inl rfl)) (pss_one (ps_if (pt_not (pt_val (pe_cf (E := E0) M.FRe hr28 M.gRe passE (pa_cons (pe_ix ix_list (pv 2) (pv 9) (fun _ _ => rfl)) (pa_cons (pe_ix ix_list (pv 4) (pv 9) (fun _ _ => rfl)) (pa_cons (pv 10) (pa_cons (pv 15) pa_nil))))))) (pss_one (ps_ret pe_bl)) pss_nil)))
    (pss_cons (ps_expr (pe_bm PySem.F.plainAttrs_list PySem.F.slot_list_append PySem.F.type_list_append mt_append (pv 16) (pa_cons (pe_tup pa_nil) pa_nil)))
    (pss_cons (ps_if (pt_cmpR (op_neD hr.units) (pe_methR0 (pv 10) M.T1.cl M.mH M.FHo hr2 pass0) (pv 15) (nomark _)) (pss_one (ps_ret pe_bl)) pss_nil)
    (pss_one (ps_ret (pe_and (pe_cf L.FGo hr23 L.gGo pass0 (pa_cons (pv 10) (pa_cons (pe_cf L.FTo hr21 L.gTo pass0 (pa_cons (pv 5) pa_nil)) pa_nil))) (pe_one (pe_cf M.FPa hr26 M.gPa pass0 (pa_cons (pv 2) (pa_cons (pv 4) pa_nil)))))))))))))))))))))))))))), ?_⟩
  have sl := sizeLine_eq
  refine ⟨_, rfl, a, ns, rfl, ha, fun p r H1 s1 np nr hp1 => ?_⟩
  refine name_go ?_
  dsimp only
  refine ⟨_, rfl, p, r, rfl, hp1, fun lt us ts H2 hlt nlt hts h3 hbd hp2 k2 f2 => ?_⟩
  refine name_go ?_
  dsimp only
  have inUse : ∀ H', PoolAt H' p r → ∀ x, H' x = none → x ∉ [p, r] := fun H' hp x hx h => by
    obtain ⟨_, rows, sd, c, e1, e2, _⟩ := hp
    simp at h
    rcases h with rfl | rfl
    · rw [e1] at hx; cases hx
    · rw [e2] at hx; cases hx
  have nltp : lt ∉ [p, r] := inUse H1 hp1 lt nlt
  have hul := hts.len
  -- made
  refine ⟨_, rfl, lt, rfl, ⟨_, SqL.of hlt⟩, fun lm hlm0 => ?_⟩
  refine lc_rel walk_list hlm0 (fun H' s => SqL.of (s _ _ hlt)) (by omega) (fun j v H' => ∃ u, ts[j]? = some u ∧ TreeAt C H' v u) ?_ ?_ ?_ ?_
  · rintro j v Ha Hb _ s ⟨u, e, hu⟩
    exact ⟨u, e, hu.mono s⟩
  · rintro j v Ha l1 l2 _ e1 ⟨u, e, hu⟩
    exact ⟨u, e, hu.firm (Firm.list e1)⟩
  · intro i x Ha R hx sm _ hR
    obtain ⟨u, hu, hux⟩ := hts.get hx
    have bu := hbd u (List.mem_of_getElem? hu)
    have bl := bu.levels
    have bs := bu.size
    exact ⟨rfl, _, rfl, x, u, rfl, hux.mono sm, bu.fine, by omega, by omega, fun v' H' k' hv' => hR v' H' k' ⟨u, hu, hv'⟩⟩
  intro H3 ms s3 hlm hml hmr
  have hms : TreesAt C H3 ms ts := rel_trees (by omega) hmr
  have nlmp : lm ∉ [p, r] := inUse H2 hp2 lm hlm0
  have hp3 := hp2.same s3
  obtain ⟨x0, x1, x2, m0, m1, m2, t0, t1, t2, rfl, rfl, rfl, hx0, hx1, hx2, hm0, hm1, hm2⟩ := three_lists (hts.mono s3) hms h3
  have S3 : St1 C H3 lt lm x0 x1 x2 m0 m1 m2 t0 t1 t2 := ⟨s3 _ _ hlt, hlm, hx0, hx1, hx2, hm0, hm1, hm2⟩
  have hts3 := hts.mono s3
  have b0 := hbd t0 (by simp)
  have b1 := hbd t1 (by simp)
  have b2 := hbd t2 (by simp)
  clear hlt hlm hx0 hx1 hx2 hm0 hm1 hm2 hmr hml hlm0 nlt hts
  refine name_go ?_
  dsimp only
  -- pairs
  refine ⟨_, rfl, _, rfl, lt, lm, _, _, [t0, t1, t2], rfl, S3.lt, S3.lm, hts3, hms, rfl, hbd, fun H4 s4 => ⟨_, rfl, iteF ?_⟩⟩
  have S4 := S3.mono s4
  have hp4 := hp3.same s4
  -- common
  refine ⟨_, rfl, lt, _, _, x0, rfl, rfl, SqL.of S4.lt, rfl, _, rfl, lt, _, _, x1, rfl, rfl, SqL.of S4.lt, rfl, x0, x1, t0, t1, rfl, S4.x0, S4.x1, b0.fine, by have := b0.levels; omega, fun vc H5 s5 hvc => ?_⟩
  refine name_go ?_
  dsimp only
  have S5 := S4.mono s5
  have hp5 := hp4.same s5
  have bc : Bd 1171 19 (tcom t0 t1) := b0.com
  -- wide
  refine ⟨_, rfl, _, rfl, p, r, vc, tcom t0 t1, 1171, 19, rfl, hp5, hvc, bc, by omega, by omega, fun vw tw H6 hvw bw hp6 k6 f6 => ?_⟩
  refine name_go ?_
  dsimp only
  have S6 := S5.kept k6 f6 nltp nlmp
  have hvc6 := hvc.firm f6
  -- half
  refine ⟨_, rfl, _, rfl, lt, _, _, x0, rfl, rfl, SqL.of S6.lt, rfl, p, r, x0, t0, 1171, 19, rfl, hp6, S6.x0, b0, by omega, by omega, fun vh th H7 hvh bh hp7 k7 f7 => ?_⟩
  refine name_go ?_
  dsimp only
  have S7 := S6.kept k7 f7 nltp nlmp
  have hvc7 := hvc6.firm f7
  have hvw7 := hvw.firm f7
  clear S3 S4 S5 S6 hvc hvc6 hvw k6 f6 k7 f7 hp3 hp4 hp5 hp6 s4 s5 hts3 hms s3 k2 f2 hp2 hp1 s1
  have z0 : Sm 20 t0 := b0.sm (by omega) (by omega)
  have z1 : Sm 20 t1 := b1.sm (by omega) (by omega)
  have z2 : Sm 20 t2 := b2.sm (by omega) (by omega)
  -- the loop
  refine ⟨_, rfl, _, rfl, by (show 2 ≤ sizeLine; omega), fun lw nlw => ?_⟩
  have s8 := sameN (o := .lst [vw, vh]) nlw
  have S8 := S7.mono s8
  have hlw : (upd H7 lw (.lst [vw, vh])) lw = some (.lst [vw, vh]) := upd_same
  have hvw8 := hvw7.mono s8
  have hvh8 := hvh.mono s8
  have hvc8 := hvc7.mono s8
  generalize upd H7 lw (.lst [vw, vh]) = H8 at S8 hlw hvw8 hvh8 hvc8 ⊢
  clear S7 hvw7 hvh hvc7 s8 nlw
  refine ⟨lw, rfl, ⟨_, SqL.of hlw⟩, ?_⟩
  refine for_list (xs := [vw, vh]) (fun i σ H' => Same H8 H' ∧ ∃ w3 w8 w9 w10 : Option V, σ = [some (.ref a), some (.ref p), some (.ref lt), w3, some (.ref lm), some vc, some vw, some vh, w8, w9, w10, none, none, none, none, none, none])
    ⟨Same.refl _, none, none, none, none, rfl⟩ (fun i σ H' _ z => SqL.of (z.1 _ _ hlw)) ?_ ?_
  · rintro i x σ H9 hx ⟨s9, w3, w8, w9, w10, rfl⟩
    obtain ⟨tx, hxt, bx⟩ : ∃ tx, TupAt H8 x tx ∧ Bd 1173 19 tx := by
      match i, hx with
      | 0, hx => cases hx; exact ⟨tw, hvw8, bw⟩
      | 1, hx => cases hx; exact ⟨th, hvh8, bh⟩
      | i + 2, hx => simp at hx
    have blx := bx.levels
    have bsx := bx.size
    refine name_go ?_
    dsimp only
    refine ⟨_, rfl, x, tx, rfl, hxt.mono s9, bx.fine, by omega, by omega, fun vo H10 s10 hvo => ?_⟩
    have s810 := s9.trans s10
    refine name_go ?_
    dsimp only
    refine ⟨3, rfl, by decide, by decide, ?_⟩
    refine for_range (lo := 0) (n := 3) (D := { nx := _, rt := Q, ct := _, bk := _ }) (fun j σ H' => Same H10 H' ∧ ∃ w9 : Option V, σ = [some (.ref a), some (.ref p), some (.ref lt), some x, some (.ref lm), some vc, some vw, some vh, some vo, w9, w10, none, none, none, none, none, none])
      ⟨Same.refl _, w9, rfl⟩ ?_ ?_
    · clear w9
      rintro j σ H11 hj ⟨s11, w9, rfl⟩
      have s811 := s810.trans s11
      have S11 := S8.mono s811
      refine name_go ?_
      dsimp only
      rw [Int.zero_add]
      obtain ⟨y, hy⟩ : ∃ y, [x0, x1, x2][j]? = some y := ⟨_, List.getElem?_eq_getElem (by simpa using hj)⟩
      obtain ⟨m, hm⟩ : ∃ m, [m0, m1, m2][j]? = some m := ⟨_, List.getElem?_eq_getElem (by simpa using hj)⟩
      obtain ⟨u, hu, hyu⟩ := S11.tups.get hy
      obtain ⟨u', hu', hmu⟩ := S11.trees.get hm
      rw [hu] at hu'
      cases hu'
      refine ⟨_, rfl, _, rfl, _, rfl, lm, _, _, m, rfl, rfl, SqL.of S11.lm, atI_nat hm, _, rfl, _, rfl, _, rfl, lt, _, _, y, rfl, rfl, SqL.of S11.lt, atI_nat hy, x, y, tx, u, rfl, hxt.mono s811, hyu, bx.fine, by omega, fun H12 s12 => ?_⟩
      exact ⟨vo, m, _, tx, u, rfl, hvo.mono (s11.trans s12), hmu.mono s12, bx.fine, by omega, rfl, fun H13 s13 => ⟨_, rfl, iteF ⟨s11.trans (s12.trans s13), _, rfl⟩⟩⟩
    clear w9
    rintro σ H11 ⟨s11, w9, rfl⟩
    have s811 := s810.trans s11
    have S11 := S8.mono s811
    -- both
    refine ⟨_, rfl, _, rfl, lt, _, _, x0, rfl, rfl, SqL.of S11.lt, rfl, x, x0, tx, t0, rfl, hxt.mono s811, S11.x0, bx.fine, by omega, fun H12 s12 => ⟨_, rfl, ?_⟩⟩
    have S12 := S11.mono s12
    have eg := tov_glb tx t0 t1 b0.fine b1.fine bx.fine
    cases h0 : tov tx t0 with
    | true =>
      refine iteT ?_
      refine ⟨_, rfl, _, rfl, lt, _, _, x1, rfl, rfl, SqL.of S12.lt, rfl, x, x1, tx, t1, rfl, hxt.mono (s811.trans s12), S12.x1, bx.fine, by omega, fun H13 s13 => ?_⟩
      have S13 := S12.mono s13
      refine name_go ?_
      dsimp only
      rw [h0, Bool.true_and] at eg
      refine ⟨_, rfl, _, rfl, lm, _, _, m0, rfl, rfl, SqL.of S13.lm, rfl, _, rfl, lm, _, _, m1, rfl, rfl, SqL.of S13.lm, rfl, and_go S13.m0 S13.m1 z0 z1 fun vb H14 s14 hvb => ?_⟩
      refine ⟨_, rfl, vo, vb, _, tx, tcom t0 t1, rfl, hvo.mono (s11.trans (s12.trans (s13.trans s14))), hvb, bx.fine, by omega, eg.symm, fun H15 s15 => ⟨_, rfl, iteF ?_⟩⟩
      exact ⟨s811.trans (s12.trans (s13.trans (s14.trans s15))), _, _, _, _, rfl⟩
    | false =>
      refine iteF ?_
      refine name_go ?_
      dsimp only
      rw [h0, Bool.false_and] at eg
      refine ⟨_, rfl, _, rfl, lm, _, _, m0, rfl, rfl, SqL.of S12.lm, rfl, _, rfl, lm, _, _, m1, rfl, rfl, SqL.of S12.lm, rfl, and_go S12.m0 S12.m1 z0 z1 fun vb H14 s14 hvb => ?_⟩
      refine ⟨_, rfl, vo, vb, _, tx, tcom t0 t1, rfl, hvo.mono (s11.trans (s12.trans s14)), hvb, bx.fine, by omega, eg.symm, fun H15 s15 => ⟨_, rfl, iteF ?_⟩⟩
      exact ⟨s811.trans (s12.trans (s14.trans s15)), _, _, _, _, rfl⟩
  rintro σ H9 ⟨s9, w3, w8, w9, w10, rfl⟩
  have S9 := S8.mono s9
  have hvc9 := hvc8.mono s9
  clear S8 hvw8 hvh8 hvc8 s9 hlw
  have bcl := bc.levels
  have bcs := bc.size
  have bd : Bd 1171 19 (tcom (tcom t0 t1) t2) := bc.com
  have bdl := bd.levels
  have bds := bd.size
  have zc : Sm 20 (tcom t0 t1) := bc.sm (by omega) (by omega)
  -- due
  refine ⟨_, rfl, _, rfl, lt, _, _, x2, rfl, rfl, SqL.of S9.lt, rfl, vc, x2, tcom t0 t1, t2, rfl, hvc9, S9.x2, bc.fine, by omega, fun vd H10 s10 hvd => ?_⟩
  refine ⟨vd, tcom (tcom t0 t1) t2, [], rfl, hvd, bd.fine, by omega, by omega, (fun _ h => absurd h List.not_mem_nil), fun dv H11 s11 hdv => ?_⟩
  have s911 := s10.trans s11
  have S11 := S9.mono s911
  have hvc11 := hvc9.mono s911
  clear S9 hvc9 hvd s10 s11 s911
  refine name_go ?_
  dsimp only
  -- left
  refine ⟨_, rfl, lm, _, _, m0, rfl, rfl, SqL.of S11.lm, rfl, _, rfl, lm, _, _, m1, rfl, rfl, SqL.of S11.lm, rfl, and_go S11.m0 S11.m1 z0 z1 fun v1 H12 s12 hv1 => ?_⟩
  have S12 := S11.mono s12
  refine ⟨_, rfl, lm, _, _, m2, rfl, rfl, SqL.of S12.lm, rfl, and_go hv1 S12.m2 zc z2 fun vl H13 s13 hvl => ?_⟩
  have S13 := S12.mono s13
  refine name_go ?_
  dsimp only
  -- right
  refine ⟨_, rfl, lm, _, _, m0, rfl, rfl, SqL.of S13.lm, rfl, _, rfl, lm, _, _, m1, rfl, rfl, SqL.of S13.lm, rfl, _, rfl, lm, _, _, m2, rfl, rfl, SqL.of S13.lm, rfl, and_go S13.m1 S13.m2 z1 z2 fun v3 H14 s14 hv3 => ?_⟩
  have S14 := S13.mono s14
  have b12 : Bd 1171 19 (tcom t1 t2) := b1.com
  have b20 : Bd 1171 19 (tcom t2 t0) := b2.com
  refine and_go S14.m0 hv3 z0 (b12.sm (by omega) (by omega)) fun vr H15 s15 hvr => ?_
  have S15 := S14.mono s15
  refine name_go ?_
  dsimp only
  -- turned
  refine ⟨_, rfl, lm, _, _, m2, rfl, rfl, SqL.of S15.lm, rfl, _, rfl, lm, _, _, m0, rfl, rfl, SqL.of S15.lm, rfl, and_go S15.m2 S15.m0 z2 z0 fun v4 H16 s16 hv4 => ?_⟩
  have S16 := S15.mono s16
  refine ⟨_, rfl, lm, _, _, m1, rfl, rfl, SqL.of S16.lm, rfl, and_go hv4 S16.m1 (b20.sm (by omega) (by omega)) z1 fun vt H17 s17 hvt => ?_⟩
  have S17 := S16.mono s17
  refine name_go ?_
  dsimp only
  have er : tcom t0 (tcom t1 t2) = tcom (tcom t0 t1) t2 := (tcom_assoc b0.fine b1.fine b2.fine).symm
  have et : tcom (tcom t2 t0) t1 = tcom (tcom t0 t1) t2 := by rw [tcom_assoc b2.fine b0.fine b1.fine, tcom_comm]
  rw [er] at hvr
  rw [et] at hvt
  have s1317 := s14.trans (s15.trans (s16.trans s17))
  have hvl17 := hvl.mono s1317
  have hvr17 := hvr.mono (s16.trans s17)
  have s1117 := s12.trans (s13.trans s1317)
  have hdv17 := hdv.mono s1117
  have hvc17 := hvc11.mono s1117
  clear S11 S12 S13 S14 S15 S16 hvl hvr hdv hvc11 hv1 hv3 hv4 s12 s13 s14 s15 s16 s17 s1317 s1117
  -- they are good
  refine ⟨_, rfl, _, rfl, vl, dv, _, [], rfl, hvl17, hdv17, bd.fine, by omega, fun H18 s18 => ⟨_, rfl, iteF ?_⟩⟩
  refine ⟨_, rfl, _, rfl, vr, dv, _, [], rfl, hvr17.mono s18, hdv17.mono s18, bd.fine, by omega, fun H19 s19 => ⟨_, rfl, iteF ?_⟩⟩
  have s1719 := s18.trans s19
  refine ⟨_, rfl, _, rfl, vt, dv, _, [], rfl, hvt.mono s1719, hdv17.mono s1719, bd.fine, by omega, fun H20 s20 => ⟨_, rfl, iteF ?_⟩⟩
  have s1720 := s1719.trans s20
  refine ⟨_, rfl, _, rfl, eq_go (hvl17.mono s1720) (hvr17.mono s1720) fun H21 s21 => ⟨_, rfl, iteF ?_⟩⟩
  have s1721 := s1720.trans s21
  refine ⟨_, rfl, _, rfl, eq_go (hvt.mono s1721) (hvl17.mono s1721) fun H22 s22 => ⟨_, rfl, iteF ?_⟩⟩
  have s1722 := s1721.trans s22
  have S22 := S17.mono s1722
  have hvc22 := hvc17.mono s1722
  clear S17 hvl17 hvr17 hvt hdv17 hvc17 s18 s19 s20 s21 s22 s1719 s1720 s1721 s1722
  -- both
  refine ⟨_, rfl, lm, _, _, m1, rfl, rfl, SqL.of S22.lm, rfl, _, rfl, lm, _, _, m0, rfl, rfl, SqL.of S22.lm, rfl, and_go S22.m1 S22.m0 z1 z0 fun vb H23 s23 hvb => ?_⟩
  rw [tcom_comm t1 t0] at hvb
  have S23 := S22.mono s23
  have hvc23 := hvc22.mono s23
  refine name_go ?_
  dsimp only
  -- gaps
  refine ⟨_, rfl, Nat.zero_le _, fun e0 ne0 => ?_⟩
  have s24 := sameN (o := .tup []) ne0
  refine ⟨vc, e0, tcom t0 t1, [], rfl, hvc23.mono s24, upd_same, by omega, by omega, by (show 0 + (tcom t0 t1).levels ≤ 1000); omega, fun lg H25 ws s25 nlg hlg hps => ?_⟩
  have s2325 := s24.trans s25
  have S25 := S23.mono s2325
  have hvb25 := hvb.mono s2325
  have hvc25 := hvc23.mono s2325
  clear S22 hvc22 S23 hvc23 s23 s24 s25 hvb s2325 nlg ne0
  refine name_go ?_
  dsimp only
  -- found
  obtain ⟨ba, bdx, bp, bvs, rfl, ba1, _, _⟩ := hvb25.ex
  refine ⟨_, rfl, ba, bdx, _, rfl, ba1, fT_holes, .ref ba, tcom t0 t1, rfl, hvb25, bc.fine, by omega, fun lf H26 ws2 s26 nlf hlf hps2 => ?_⟩
  have S26 := S25.mono s26
  have hvb26 := hvb25.mono s26
  have hvc26 := hvc25.mono s26
  have hlg26 := s26 _ _ hlg
  have hps26 := PathsAt.firm (.of s26) hps
  have ne1 : lg ≠ lf := fun h => by rw [h, nlf] at hlg; cases hlg
  have ne2 : lt ≠ lf := fun h => by have := S25.lt; rw [h, nlf] at this; cases this
  have ne3 : lm ≠ lf := fun h => by have := S25.lm; rw [h, nlf] at this; cases this
  clear S25 hvb25 hvc25 hlg hps s26
  refine name_go ?_
  dsimp only
  have can : PyData.canLay0 (.list (((tcom t0 t1).hs []).map pD)) = true := canLay_path _
  refine ⟨_, rfl, _, .ty "list", _, _, true, rfl, .ty "list", .base (.lst hlf), kit_self K _ rfl, _, rfl, iteF ?_⟩
  refine ⟨_, rfl, _, rfl, _, _, .lst (SqL.of hlf) (dp_paths hps2), .lst (SqL.of hlg26) (dp_paths hps26), shaped_paths _, shaped_paths _, ?_⟩
  rw [eqv_self _ can]
  refine ⟨_, rfl, iteF ?_⟩
  -- refilled
  refine ⟨2, rfl, by decide, by decide, ?_⟩
  refine for_range (lo := 0) (n := 2) (D := { nx := _, rt := Q, ct := _, bk := _ }) (fun j σ H' => Same H26 H' ∧ ∃ w9 : Option V, σ = [some (.ref a), some (.ref p), some (.ref lt), w3, some (.ref lm), some vc, some vw, some vh, w8, w9, some (.ref ba), some dv, some vl, some vr, some vt, some (.ref lg), some (.ref lf)])
    ⟨Same.refl _, w9, rfl⟩ ?_ ?_
  · rintro j σ H27 hj ⟨s27, w9', rfl⟩
    have S27 := S26.mono s27
    refine name_go ?_
    dsimp only
    rw [Int.zero_add]
    obtain ⟨y, m, u, hy, hm, hyu, hmu, hov, bu⟩ : ∃ y m u, [x0, x1, x2][j]? = some y ∧ [m0, m1, m2][j]? = some m ∧ TupAt H27 y u ∧ TreeAt C H27 m u ∧ tov (tcom t0 t1) u = true ∧ Bd 1171 19 u := by
      match j, hj with
      | 0, _ => exact ⟨x0, m0, t0, rfl, rfl, S27.x0, S27.m0, tov_com t0 t1, b0⟩
      | 1, _ => exact ⟨x1, m1, t1, rfl, rfl, S27.x1, S27.m1, tov_com2 t0 t1, b1⟩
      | j + 2, h => exact absurd h (by omega)
    refine ⟨_, rfl, _, rfl, lt, _, _, y, rfl, rfl, SqL.of S27.lt, atI_nat hy, _, rfl, _, rfl, lm, _, _, m, rfl, rfl, SqL.of S27.lm, atI_nat hm, _, rfl, _, rfl, y, m, .ref ba, lg, u, tcom t0 t1, ws, rfl, hyu, hmu, hvb26.mono s27, s27 _ _ hlg26, PathsAt.firm (.of s27) hps26, hov, bu, bc, fun H28 s28 => ⟨_, rfl, iteF ?_⟩⟩
    exact ⟨s27.trans s28, _, rfl⟩
  rintro σ H27 ⟨s27, w9', rfl⟩
  -- append
  have hlf27 := s27 _ _ hlf
  have hw2 := paired_len hps2
  have hgz := hs_le (tcom t0 t1) []
  refine ⟨_, rfl, .inl ⟨rfl, _, SqL.of hlf27⟩, Nat.zero_le _, fun e1 ne4 => ?_⟩
  have s28 := sameN (o := .tup []) ne4
  refine ⟨lf, ws2, .ref e1, rfl, rfl, s28 _ _ hlf27, by omega, ?_⟩
  have s2728 := s27.trans s28
  have k29 : KeptBut [lf] H26 (upd (upd H27 e1 (.tup [])) lf (.lst (ws2 ++ [.ref e1]))) := (KeptBut.of s2728).trans (KeptBut.upd (by simp))
  have f29 : Firm H26 (upd (upd H27 e1 (.tup [])) lf (.lst (ws2 ++ [.ref e1]))) := (Firm.of s2728).trans (Firm.list (s28 _ _ hlf27))
  generalize (upd (upd H27 e1 (.tup [])) lf (.lst (ws2 ++ [V.ref e1]))) = H29 at k29 f29 ⊢
  have S29 := S26.kept k29 f29 (by simpa using ne2) (by simpa using ne3)
  have hvb29 := hvb26.firm f29
  have hvc29 := hvc26.firm f29
  have hlg29 := k29 _ _ hlg26 (by simpa using ne1)
  have hps29 := PathsAt.firm f29 hps26
  obtain ⟨ba', bdx', bp', bvs', eba, ba2, _, _⟩ := hvb29.ex
  cases eba
  refine ⟨_, rfl, ba, bdx', _, rfl, ba2, fT_holes, .ref ba, tcom t0 t1, rfl, hvb29, bc.fine, by omega, fun l3 H30 ws3 s30 nl3 hl3 hps3 => ?_⟩
  refine ⟨_, rfl, _, _, .lst (SqL.of hl3) (dp_paths hps3), .lst (SqL.of (s30 _ _ hlg29)) (dp_paths (PathsAt.firm (.of s30) hps29)), shaped_paths _, shaped_paths _, ?_⟩
  rw [eqv_self _ can]
  refine ⟨_, rfl, iteF ?_⟩
  have S30 := S29.mono s30
  -- the end
  refine ⟨_, rfl, _, rfl, vc, tcom t0 t1, [], rfl, hvc29.mono s30, bc.fine, by omega, by omega, (fun _ h => absurd h List.not_mem_nil), fun dc H31 s31 hdc => ?_⟩
  refine ⟨.ref ba, dc, tcom t0 t1, [], rfl, hvb29.mono (s30.trans s31), hdc, bc.fine, by omega, fun H32 s32 => ⟨_, rfl, iteT ?_⟩⟩
  have S32 := S30.mono (s31.trans s32)
  exact ⟨_, rfl, _, rfl, lt, lm, _, _, [t0, t1, t2], rfl, S32.lt, S32.lm, S32.tups, S32.trees, rfl, hbd, fun H33 s33 => q H33⟩
end
end Tw
set_option maxHeartbeats 4000000
/-! The facts of the top, collected. -/
namespace Tw
open PySem PySem.Spec PyProof.Rows L2 RZ ClX
theorem kc_of {K : PySem.W.Frag} {t : Value} {S : Addr} {b : Bool} (h2 : PySem.W.isClsIn K S = true) (h3 : PySem.W.typeIn K (.ref S) = some (.type "type")) (h4 : PySem.W.subIn K t (.ref S) = some b) : PySem.W.kitCls K t (.ref S) = some b := by
  have e2 : ((PySem.W.clsIn K S).isSome && PySem.W.typeIn K (.ref S) == some (.type "type")) = true := by
    have h2' : (PySem.W.clsIn K S).isSome = true := h2
    rw [h2', h3] <;> rfl
  show (if ((PySem.W.clsIn K S).isSome && PySem.W.typeIn K (.ref S) == some (.type "type")) = true then PySem.W.subIn K t (.ref S) else none) = some b
  rw [if_pos e2]
  exact h4
theorem exm_of {K : PySem.W.Frag} {S : Addr} (h1 : PySem.W.subIn K (.ref S) (.type "BaseException") = some true) (h : PySem.W.kitCls K (.ref S) (.ref S) = some true) : PySem.W.exmOne K (.ref S) (.ref S) = some true := by
  unfold PySem.W.exmOne
  rw [if_pos (by rw [h1]; rfl)]
  exact h
theorem kc_ve {K : PySem.W.Frag} {t : Value} {b : Bool} (h4 : PySem.W.subIn K t (.type "ValueError") = some b) : PySem.W.kitCls K t (.type "ValueError") = some b := by
  have e : PySem.W.kitMeta "ValueError" = true := by decide +kernel
  show (if PySem.W.kitMeta "ValueError" = true then PySem.W.subIn K t (.type "ValueError") else none) = some b
  rw [if_pos e]
  exact h4
theorem ko_true {K : PySem.W.Frag} {t c : Value} (h : PySem.W.kitCls K t c = some true) : PySem.W.kitOne K t c = some true := by
  unfold PySem.W.kitOne
  split
  · rfl
  · exact h
theorem ko_false {K : PySem.W.Frag} {D S : Addr} (h : PySem.W.kitCls K (.ref D) (.ref S) = some false) (h1 : PySem.W.subIn K (.ref D) (.ref D) = some true) (h2 : PySem.W.subIn K (.ref D) (.ref S) = some false) : PySem.W.kitOne K (.ref D) (.ref S) = some false := by
  unfold PySem.W.kitOne
  split
  · rename_i e
    have e' : (Value.ref D) = .ref S := beq_iff_eq.mp e
    rw [← e', h1] at h2
    cases h2
  · exact h
/-- where a def stands -/
def FnAt (K : PySem.W.Frag) (x q : Str) (st : Stmt) (f : Addr) : Prop := ∃ (oc : Value) (od : Option Addr) (kV dc pm : Value) (an : Option Addr) (cd ct : Value) (sl : Array (Option Value)), K.lookup f = some ⟨oc, od, .func (PySem.W.fnOf x q (defArgs st) (defBody st) (defScope st) .none kV dc pm an cd ct), sl⟩ ∧ PySem.W.codeIn K cd q = true ∧ PySem.W.keepIn K (.ref f) = true
theorem FnAt.fn {K : PySem.W.Frag} {x q : Str} {st : Stmt} {f : Addr} (h : FnAt K x q st f) : ∃ fd, Fun K x q st f fd := by
  obtain ⟨oc, od, kV, dc, pm, an, cd, ct, sl, l, c, k⟩ := h
  exact ⟨_, fun_mk l c k⟩
theorem FnAt.gf {K : PySem.W.Frag} {mg : Str → Option Value} {h : Heap} {x q : Str} {st : Stmt} {f : Addr} (X : K.In h) (G : h.Ns mainGlobals mg) (e : PySem.W.nsIn K mainGlobals x = some (some (.ref f))) (a : FnAt K x q st f) : Gf K mg x f := by
  obtain ⟨oc, od, kV, dc, pm, an, cd, ct, sl, l, c, k⟩ := a
  exact ⟨PySem.W.mg_of X G e, k⟩
theorem all_mk {P : Program} {w : World} {K : PySem.W.Frag} {h : Heap} {mg : Str → Option Value} {fa C pW gW CB CN CW f_is_hole f_most_levels f_places f_law_pool_of f_law_draw f_law_name_of f_law_grow f_law_walk f_law_put f_law_spot f_law_changed f_law_opened f_law_three f_law_common f_law_over f_law_gaps f_law_make f_law_told f_law_is f_law_good f_law_covers f_law_filled f_law_miscounted f_law_pairs f_law_refilled f_law f_t_init f_t_eq f_t_and f_t_covers f_t_getitem f_t_iter f_t_holes f_t_filled : Addr} {rest1 : List Value} {tk2 : Tok} {oc_l_is_hole kV_l_is_hole dc_l_is_hole pm_l_is_hole cd_l_is_hole ct_l_is_hole : Value} {od_l_is_hole an_l_is_hole : Option Addr} {sl_l_is_hole : Array (Option Value)} {oc_l_most_levels kV_l_most_levels dc_l_most_levels pm_l_most_levels cd_l_most_levels ct_l_most_levels : Value} {od_l_most_levels an_l_most_levels : Option Addr} {sl_l_most_levels : Array (Option Value)} {oc_l_places kV_l_places dc_l_places pm_l_places cd_l_places ct_l_places : Value} {od_l_places an_l_places : Option Addr} {sl_l_places : Array (Option Value)} {oc_l_law_pool_of kV_l_law_pool_of dc_l_law_pool_of pm_l_law_pool_of cd_l_law_pool_of ct_l_law_pool_of : Value} {od_l_law_pool_of an_l_law_pool_of : Option Addr} {sl_l_law_pool_of : Array (Option Value)} {oc_l_law_draw kV_l_law_draw dc_l_law_draw pm_l_law_draw cd_l_law_draw ct_l_law_draw : Value} {od_l_law_draw an_l_law_draw : Option Addr} {sl_l_law_draw : Array (Option Value)} {oc_l_law_name_of kV_l_law_name_of dc_l_law_name_of pm_l_law_name_of cd_l_law_name_of ct_l_law_name_of : Value} {od_l_law_name_of an_l_law_name_of : Option Addr} {sl_l_law_name_of : Array (Option Value)} {oc_l_law_grow kV_l_law_grow dc_l_law_grow pm_l_law_grow cd_l_law_grow ct_l_law_grow : Value} {od_l_law_grow an_l_law_grow : Option Addr} {sl_l_law_grow : Array (Option Value)} {oc_l_law_walk kV_l_law_walk dc_l_law_walk pm_l_law_walk cd_l_law_walk ct_l_law_walk : Value} {od_l_law_walk an_l_law_walk : Option Addr} {sl_l_law_walk : Array (Option Value)} {oc_l_law_put kV_l_law_put dc_l_law_put pm_l_law_put cd_l_law_put ct_l_law_put : Value} {od_l_law_put an_l_law_put : Option Addr} {sl_l_law_put : Array (Option Value)} {oc_l_law_spot kV_l_law_spot dc_l_law_spot pm_l_law_spot cd_l_law_spot ct_l_law_spot : Value} {od_l_law_spot an_l_law_spot : Option Addr} {sl_l_law_spot : Array (Option Value)} {oc_l_law_changed kV_l_law_changed dc_l_law_changed pm_l_law_changed cd_l_law_changed ct_l_law_changed : Value} {od_l_law_changed an_l_law_changed : Option Addr} {sl_l_law_changed : Array (Option Value)} {oc_l_law_opened kV_l_law_opened dc_l_law_opened pm_l_law_opened cd_l_law_opened ct_l_law_opened : Value} {od_l_law_opened an_l_law_opened : Option Addr} {sl_l_law_opened : Array (Option Value)} {oc_l_law_three kV_l_law_three dc_l_law_three pm_l_law_three cd_l_law_three ct_l_law_three : Value} {od_l_law_three an_l_law_three : Option Addr} {sl_l_law_three : Array (Option Value)} {oc_l_law_common kV_l_law_common dc_l_law_common pm_l_law_common cd_l_law_common ct_l_law_common : Value} {od_l_law_common an_l_law_common : Option Addr} {sl_l_law_common : Array (Option Value)} {oc_l_law_over kV_l_law_over dc_l_law_over pm_l_law_over cd_l_law_over ct_l_law_over : Value} {od_l_law_over an_l_law_over : Option Addr} {sl_l_law_over : Array (Option Value)} {oc_l_law_gaps kV_l_law_gaps dc_l_law_gaps pm_l_law_gaps cd_l_law_gaps ct_l_law_gaps : Value} {od_l_law_gaps an_l_law_gaps : Option Addr} {sl_l_law_gaps : Array (Option Value)} {oc_l_law_make kV_l_law_make dc_l_law_make pm_l_law_make cd_l_law_make ct_l_law_make : Value} {od_l_law_make an_l_law_make : Option Addr} {sl_l_law_make : Array (Option Value)} {oc_l_law_told kV_l_law_told dc_l_law_told pm_l_law_told cd_l_law_told ct_l_law_told : Value} {od_l_law_told an_l_law_told : Option Addr} {sl_l_law_told : Array (Option Value)} {oc_l_law_is kV_l_law_is dc_l_law_is pm_l_law_is cd_l_law_is ct_l_law_is : Value} {od_l_law_is an_l_law_is : Option Addr} {sl_l_law_is : Array (Option Value)} {oc_l_law_good kV_l_law_good dc_l_law_good pm_l_law_good cd_l_law_good ct_l_law_good : Value} {od_l_law_good an_l_law_good : Option Addr} {sl_l_law_good : Array (Option Value)} {oc_l_law_covers kV_l_law_covers dc_l_law_covers pm_l_law_covers cd_l_law_covers ct_l_law_covers : Value} {od_l_law_covers an_l_law_covers : Option Addr} {sl_l_law_covers : Array (Option Value)} {oc_l_law_filled kV_l_law_filled dc_l_law_filled pm_l_law_filled cd_l_law_filled ct_l_law_filled : Value} {od_l_law_filled an_l_law_filled : Option Addr} {sl_l_law_filled : Array (Option Value)} {oc_l_law_miscounted kV_l_law_miscounted dc_l_law_miscounted pm_l_law_miscounted cd_l_law_miscounted ct_l_law_miscounted : Value} {od_l_law_miscounted an_l_law_miscounted : Option Addr} {sl_l_law_miscounted : Array (Option Value)} {oc_l_law_pairs kV_l_law_pairs dc_l_law_pairs pm_l_law_pairs cd_l_law_pairs ct_l_law_pairs : Value} {od_l_law_pairs an_l_law_pairs : Option Addr} {sl_l_law_pairs : Array (Option Value)} {oc_l_law_refilled kV_l_law_refilled dc_l_law_refilled pm_l_law_refilled cd_l_law_refilled ct_l_law_refilled : Value} {od_l_law_refilled an_l_law_refilled : Option Addr} {sl_l_law_refilled : Array (Option Value)} {oc_l_law kV_l_law dc_l_law pm_l_law cd_l_law ct_l_law : Value} {od_l_law an_l_law : Option Addr} {sl_l_law : Array (Option Value)} {oc_l_t_init kV_l_t_init dc_l_t_init pm_l_t_init cd_l_t_init ct_l_t_init : Value} {od_l_t_init an_l_t_init : Option Addr} {sl_l_t_init : Array (Option Value)} {oc_l_t_eq kV_l_t_eq dc_l_t_eq pm_l_t_eq cd_l_t_eq ct_l_t_eq : Value} {od_l_t_eq an_l_t_eq : Option Addr} {sl_l_t_eq : Array (Option Value)} {oc_l_t_and kV_l_t_and dc_l_t_and pm_l_t_and cd_l_t_and ct_l_t_and : Value} {od_l_t_and an_l_t_and : Option Addr} {sl_l_t_and : Array (Option Value)} {oc_l_t_covers kV_l_t_covers dc_l_t_covers pm_l_t_covers cd_l_t_covers ct_l_t_covers : Value} {od_l_t_covers an_l_t_covers : Option Addr} {sl_l_t_covers : Array (Option Value)} {oc_l_t_getitem kV_l_t_getitem dc_l_t_getitem pm_l_t_getitem cd_l_t_getitem ct_l_t_getitem : Value} {od_l_t_getitem an_l_t_getitem : Option Addr} {sl_l_t_getitem : Array (Option Value)} {oc_l_t_iter kV_l_t_iter dc_l_t_iter pm_l_t_iter cd_l_t_iter ct_l_t_iter : Value} {od_l_t_iter an_l_t_iter : Option Addr} {sl_l_t_iter : Array (Option Value)} {oc_l_t_holes kV_l_t_holes dc_l_t_holes pm_l_t_holes cd_l_t_holes ct_l_t_holes : Value} {od_l_t_holes an_l_t_holes : Option Addr} {sl_l_t_holes : Array (Option Value)} {oc_l_t_filled kV_l_t_filled dc_l_t_filled pm_l_t_filled cd_l_t_filled ct_l_t_filled : Value} {od_l_t_filled an_l_t_filled : Option Addr} {sl_l_t_filled : Array (Option Value)} {oc_w5 kV_w5 dc_w5 pm_w5 cd_w5 ct_w5 : Value} {od_w5 an_w5 : Option Addr} {sl_w5 : Array (Option Value)} {oc_eBCB kV_eBCB dc_eBCB pm_eBCB cd_eBCB ct_eBCB : Value} {od_eBCB an_eBCB : Option Addr} {sl_eBCB : Array (Option Value)} {oc_eBCN kV_eBCN dc_eBCN pm_eBCN cd_eBCN ct_eBCN : Value} {od_eBCN an_eBCN : Option Addr} {sl_eBCN : Array (Option Value)} {nmCB qCB : Str} {NCB fICB : Addr} {bsCB bmCB : List Value} {snCB : List Str} {subCB : List Value} {abCB : Bool} {colCB : Option Bool} {ddCB : Option Addr} {m0CB m1CB m2CB m3CB m5CB : Option Value} {nmCN qCN : Str} {NCN fICN : Addr} {bsCN bmCN : List Value} {snCN : List Str} {subCN : List Value} {abCN : Bool} {colCN : Option Bool} {ddCN : Option Addr} {m0CN m1CN m2CN m3CN m5CN : Option Value}
    (X : K.In h) (G : h.Ns mainGlobals mg) (hfa : mg "law" = some (.ref fa))
    (a_is_hole : PySem.W.nsIn K mainGlobals "is_hole" = some (some (.ref f_is_hole)))
    (l_is_hole : K.lookup f_is_hole = some ⟨oc_l_is_hole, od_l_is_hole, .func (PySem.W.fnOf "is_hole" "is_hole" (defArgs (top 16)) (defBody (top 16)) (defScope (top 16)) .none kV_l_is_hole dc_l_is_hole pm_l_is_hole an_l_is_hole cd_l_is_hole ct_l_is_hole), sl_l_is_hole⟩) (l_is_holec : PySem.W.codeIn K cd_l_is_hole "is_hole" = true) (l_is_holek : PySem.W.keepIn K (.ref f_is_hole) = true)
    (a_most_levels : PySem.W.nsIn K mainGlobals "most_levels" = some (some (.ref f_most_levels)))
    (l_most_levels : K.lookup f_most_levels = some ⟨oc_l_most_levels, od_l_most_levels, .func (PySem.W.fnOf "most_levels" "most_levels" (defArgs (top 18)) (defBody (top 18)) (defScope (top 18)) .none kV_l_most_levels dc_l_most_levels pm_l_most_levels an_l_most_levels cd_l_most_levels ct_l_most_levels), sl_l_most_levels⟩) (l_most_levelsc : PySem.W.codeIn K cd_l_most_levels "most_levels" = true) (l_most_levelsk : PySem.W.keepIn K (.ref f_most_levels) = true)
    (a_places : PySem.W.nsIn K mainGlobals "places" = some (some (.ref f_places)))
    (l_places : K.lookup f_places = some ⟨oc_l_places, od_l_places, .func (PySem.W.fnOf "places" "places" (defArgs (top 19)) (defBody (top 19)) (defScope (top 19)) .none kV_l_places dc_l_places pm_l_places an_l_places cd_l_places ct_l_places), sl_l_places⟩) (l_placesc : PySem.W.codeIn K cd_l_places "places" = true) (l_placesk : PySem.W.keepIn K (.ref f_places) = true)
    (a_law_pool_of : PySem.W.nsIn K mainGlobals "_law_pool_of" = some (some (.ref f_law_pool_of)))
    (l_law_pool_of : K.lookup f_law_pool_of = some ⟨oc_l_law_pool_of, od_l_law_pool_of, .func (PySem.W.fnOf "_law_pool_of" "_law_pool_of" (defArgs (top 23)) (defBody (top 23)) (defScope (top 23)) .none kV_l_law_pool_of dc_l_law_pool_of pm_l_law_pool_of an_l_law_pool_of cd_l_law_pool_of ct_l_law_pool_of), sl_l_law_pool_of⟩) (l_law_pool_ofc : PySem.W.codeIn K cd_l_law_pool_of "_law_pool_of" = true) (l_law_pool_ofk : PySem.W.keepIn K (.ref f_law_pool_of) = true)
    (a_law_draw : PySem.W.nsIn K mainGlobals "_law_draw" = some (some (.ref f_law_draw)))
    (l_law_draw : K.lookup f_law_draw = some ⟨oc_l_law_draw, od_l_law_draw, .func (PySem.W.fnOf "_law_draw" "_law_draw" (defArgs (top 24)) (defBody (top 24)) (defScope (top 24)) .none kV_l_law_draw dc_l_law_draw pm_l_law_draw an_l_law_draw cd_l_law_draw ct_l_law_draw), sl_l_law_draw⟩) (l_law_drawc : PySem.W.codeIn K cd_l_law_draw "_law_draw" = true) (l_law_drawk : PySem.W.keepIn K (.ref f_law_draw) = true)
    (a_law_name_of : PySem.W.nsIn K mainGlobals "_law_name_of" = some (some (.ref f_law_name_of)))
    (l_law_name_of : K.lookup f_law_name_of = some ⟨oc_l_law_name_of, od_l_law_name_of, .func (PySem.W.fnOf "_law_name_of" "_law_name_of" (defArgs (top 25)) (defBody (top 25)) (defScope (top 25)) .none kV_l_law_name_of dc_l_law_name_of pm_l_law_name_of an_l_law_name_of cd_l_law_name_of ct_l_law_name_of), sl_l_law_name_of⟩) (l_law_name_ofc : PySem.W.codeIn K cd_l_law_name_of "_law_name_of" = true) (l_law_name_ofk : PySem.W.keepIn K (.ref f_law_name_of) = true)
    (a_law_grow : PySem.W.nsIn K mainGlobals "_law_grow" = some (some (.ref f_law_grow)))
    (l_law_grow : K.lookup f_law_grow = some ⟨oc_l_law_grow, od_l_law_grow, .func (PySem.W.fnOf "_law_grow" "_law_grow" (defArgs (top 26)) (defBody (top 26)) (defScope (top 26)) .none kV_l_law_grow dc_l_law_grow pm_l_law_grow an_l_law_grow cd_l_law_grow ct_l_law_grow), sl_l_law_grow⟩) (l_law_growc : PySem.W.codeIn K cd_l_law_grow "_law_grow" = true) (l_law_growk : PySem.W.keepIn K (.ref f_law_grow) = true)
    (a_law_walk : PySem.W.nsIn K mainGlobals "_law_walk" = some (some (.ref f_law_walk)))
    (l_law_walk : K.lookup f_law_walk = some ⟨oc_l_law_walk, od_l_law_walk, .func (PySem.W.fnOf "_law_walk" "_law_walk" (defArgs (top 27)) (defBody (top 27)) (defScope (top 27)) .none kV_l_law_walk dc_l_law_walk pm_l_law_walk an_l_law_walk cd_l_law_walk ct_l_law_walk), sl_l_law_walk⟩) (l_law_walkc : PySem.W.codeIn K cd_l_law_walk "_law_walk" = true) (l_law_walkk : PySem.W.keepIn K (.ref f_law_walk) = true)
    (a_law_put : PySem.W.nsIn K mainGlobals "_law_put" = some (some (.ref f_law_put)))
    (l_law_put : K.lookup f_law_put = some ⟨oc_l_law_put, od_l_law_put, .func (PySem.W.fnOf "_law_put" "_law_put" (defArgs (top 28)) (defBody (top 28)) (defScope (top 28)) .none kV_l_law_put dc_l_law_put pm_l_law_put an_l_law_put cd_l_law_put ct_l_law_put), sl_l_law_put⟩) (l_law_putc : PySem.W.codeIn K cd_l_law_put "_law_put" = true) (l_law_putk : PySem.W.keepIn K (.ref f_law_put) = true)
    (a_law_spot : PySem.W.nsIn K mainGlobals "_law_spot" = some (some (.ref f_law_spot)))
    (l_law_spot : K.lookup f_law_spot = some ⟨oc_l_law_spot, od_l_law_spot, .func (PySem.W.fnOf "_law_spot" "_law_spot" (defArgs (top 29)) (defBody (top 29)) (defScope (top 29)) .none kV_l_law_spot dc_l_law_spot pm_l_law_spot an_l_law_spot cd_l_law_spot ct_l_law_spot), sl_l_law_spot⟩) (l_law_spotc : PySem.W.codeIn K cd_l_law_spot "_law_spot" = true) (l_law_spotk : PySem.W.keepIn K (.ref f_law_spot) = true)
    (a_law_changed : PySem.W.nsIn K mainGlobals "_law_changed" = some (some (.ref f_law_changed)))
    (l_law_changed : K.lookup f_law_changed = some ⟨oc_l_law_changed, od_l_law_changed, .func (PySem.W.fnOf "_law_changed" "_law_changed" (defArgs (top 30)) (defBody (top 30)) (defScope (top 30)) .none kV_l_law_changed dc_l_law_changed pm_l_law_changed an_l_law_changed cd_l_law_changed ct_l_law_changed), sl_l_law_changed⟩) (l_law_changedc : PySem.W.codeIn K cd_l_law_changed "_law_changed" = true) (l_law_changedk : PySem.W.keepIn K (.ref f_law_changed) = true)
    (a_law_opened : PySem.W.nsIn K mainGlobals "_law_opened" = some (some (.ref f_law_opened)))
    (l_law_opened : K.lookup f_law_opened = some ⟨oc_l_law_opened, od_l_law_opened, .func (PySem.W.fnOf "_law_opened" "_law_opened" (defArgs (top 31)) (defBody (top 31)) (defScope (top 31)) .none kV_l_law_opened dc_l_law_opened pm_l_law_opened an_l_law_opened cd_l_law_opened ct_l_law_opened), sl_l_law_opened⟩) (l_law_openedc : PySem.W.codeIn K cd_l_law_opened "_law_opened" = true) (l_law_openedk : PySem.W.keepIn K (.ref f_law_opened) = true)
    (a_law_three : PySem.W.nsIn K mainGlobals "_law_three" = some (some (.ref f_law_three)))
    (l_law_three : K.lookup f_law_three = some ⟨oc_l_law_three, od_l_law_three, .func (PySem.W.fnOf "_law_three" "_law_three" (defArgs (top 32)) (defBody (top 32)) (defScope (top 32)) .none kV_l_law_three dc_l_law_three pm_l_law_three an_l_law_three cd_l_law_three ct_l_law_three), sl_l_law_three⟩) (l_law_threec : PySem.W.codeIn K cd_l_law_three "_law_three" = true) (l_law_threek : PySem.W.keepIn K (.ref f_law_three) = true)
    (a_law_common : PySem.W.nsIn K mainGlobals "_law_common" = some (some (.ref f_law_common)))
    (l_law_common : K.lookup f_law_common = some ⟨oc_l_law_common, od_l_law_common, .func (PySem.W.fnOf "_law_common" "_law_common" (defArgs (top 33)) (defBody (top 33)) (defScope (top 33)) .none kV_l_law_common dc_l_law_common pm_l_law_common an_l_law_common cd_l_law_common ct_l_law_common), sl_l_law_common⟩) (l_law_commonc : PySem.W.codeIn K cd_l_law_common "_law_common" = true) (l_law_commonk : PySem.W.keepIn K (.ref f_law_common) = true)
    (a_law_over : PySem.W.nsIn K mainGlobals "_law_over" = some (some (.ref f_law_over)))
    (l_law_over : K.lookup f_law_over = some ⟨oc_l_law_over, od_l_law_over, .func (PySem.W.fnOf "_law_over" "_law_over" (defArgs (top 34)) (defBody (top 34)) (defScope (top 34)) .none kV_l_law_over dc_l_law_over pm_l_law_over an_l_law_over cd_l_law_over ct_l_law_over), sl_l_law_over⟩) (l_law_overc : PySem.W.codeIn K cd_l_law_over "_law_over" = true) (l_law_overk : PySem.W.keepIn K (.ref f_law_over) = true)
    (a_law_gaps : PySem.W.nsIn K mainGlobals "_law_gaps" = some (some (.ref f_law_gaps)))
    (l_law_gaps : K.lookup f_law_gaps = some ⟨oc_l_law_gaps, od_l_law_gaps, .func (PySem.W.fnOf "_law_gaps" "_law_gaps" (defArgs (top 35)) (defBody (top 35)) (defScope (top 35)) .none kV_l_law_gaps dc_l_law_gaps pm_l_law_gaps an_l_law_gaps cd_l_law_gaps ct_l_law_gaps), sl_l_law_gaps⟩) (l_law_gapsc : PySem.W.codeIn K cd_l_law_gaps "_law_gaps" = true) (l_law_gapsk : PySem.W.keepIn K (.ref f_law_gaps) = true)
    (a_law_make : PySem.W.nsIn K mainGlobals "_law_make" = some (some (.ref f_law_make)))
    (l_law_make : K.lookup f_law_make = some ⟨oc_l_law_make, od_l_law_make, .func (PySem.W.fnOf "_law_make" "_law_make" (defArgs (top 36)) (defBody (top 36)) (defScope (top 36)) .none kV_l_law_make dc_l_law_make pm_l_law_make an_l_law_make cd_l_law_make ct_l_law_make), sl_l_law_make⟩) (l_law_makec : PySem.W.codeIn K cd_l_law_make "_law_make" = true) (l_law_makek : PySem.W.keepIn K (.ref f_law_make) = true)
    (a_law_told : PySem.W.nsIn K mainGlobals "_law_told" = some (some (.ref f_law_told)))
    (l_law_told : K.lookup f_law_told = some ⟨oc_l_law_told, od_l_law_told, .func (PySem.W.fnOf "_law_told" "_law_told" (defArgs (top 37)) (defBody (top 37)) (defScope (top 37)) .none kV_l_law_told dc_l_law_told pm_l_law_told an_l_law_told cd_l_law_told ct_l_law_told), sl_l_law_told⟩) (l_law_toldc : PySem.W.codeIn K cd_l_law_told "_law_told" = true) (l_law_toldk : PySem.W.keepIn K (.ref f_law_told) = true)
    (a_law_is : PySem.W.nsIn K mainGlobals "_law_is" = some (some (.ref f_law_is)))
    (l_law_is : K.lookup f_law_is = some ⟨oc_l_law_is, od_l_law_is, .func (PySem.W.fnOf "_law_is" "_law_is" (defArgs (top 38)) (defBody (top 38)) (defScope (top 38)) .none kV_l_law_is dc_l_law_is pm_l_law_is an_l_law_is cd_l_law_is ct_l_law_is), sl_l_law_is⟩) (l_law_isc : PySem.W.codeIn K cd_l_law_is "_law_is" = true) (l_law_isk : PySem.W.keepIn K (.ref f_law_is) = true)
    (a_law_good : PySem.W.nsIn K mainGlobals "_law_good" = some (some (.ref f_law_good)))
    (l_law_good : K.lookup f_law_good = some ⟨oc_l_law_good, od_l_law_good, .func (PySem.W.fnOf "_law_good" "_law_good" (defArgs (top 39)) (defBody (top 39)) (defScope (top 39)) .none kV_l_law_good dc_l_law_good pm_l_law_good an_l_law_good cd_l_law_good ct_l_law_good), sl_l_law_good⟩) (l_law_goodc : PySem.W.codeIn K cd_l_law_good "_law_good" = true) (l_law_goodk : PySem.W.keepIn K (.ref f_law_good) = true)
    (a_law_covers : PySem.W.nsIn K mainGlobals "_law_covers" = some (some (.ref f_law_covers)))
    (l_law_covers : K.lookup f_law_covers = some ⟨oc_l_law_covers, od_l_law_covers, .func (PySem.W.fnOf "_law_covers" "_law_covers" (defArgs (top 40)) (defBody (top 40)) (defScope (top 40)) .none kV_l_law_covers dc_l_law_covers pm_l_law_covers an_l_law_covers cd_l_law_covers ct_l_law_covers), sl_l_law_covers⟩) (l_law_coversc : PySem.W.codeIn K cd_l_law_covers "_law_covers" = true) (l_law_coversk : PySem.W.keepIn K (.ref f_law_covers) = true)
    (a_law_filled : PySem.W.nsIn K mainGlobals "_law_filled" = some (some (.ref f_law_filled)))
    (l_law_filled : K.lookup f_law_filled = some ⟨oc_l_law_filled, od_l_law_filled, .func (PySem.W.fnOf "_law_filled" "_law_filled" (defArgs (top 41)) (defBody (top 41)) (defScope (top 41)) .none kV_l_law_filled dc_l_law_filled pm_l_law_filled an_l_law_filled cd_l_law_filled ct_l_law_filled), sl_l_law_filled⟩) (l_law_filledc : PySem.W.codeIn K cd_l_law_filled "_law_filled" = true) (l_law_filledk : PySem.W.keepIn K (.ref f_law_filled) = true)
    (a_law_miscounted : PySem.W.nsIn K mainGlobals "_law_miscounted" = some (some (.ref f_law_miscounted)))
    (l_law_miscounted : K.lookup f_law_miscounted = some ⟨oc_l_law_miscounted, od_l_law_miscounted, .func (PySem.W.fnOf "_law_miscounted" "_law_miscounted" (defArgs (top 42)) (defBody (top 42)) (defScope (top 42)) .none kV_l_law_miscounted dc_l_law_miscounted pm_l_law_miscounted an_l_law_miscounted cd_l_law_miscounted ct_l_law_miscounted), sl_l_law_miscounted⟩) (l_law_miscountedc : PySem.W.codeIn K cd_l_law_miscounted "_law_miscounted" = true) (l_law_miscountedk : PySem.W.keepIn K (.ref f_law_miscounted) = true)
    (a_law_pairs : PySem.W.nsIn K mainGlobals "_law_pairs" = some (some (.ref f_law_pairs)))
    (l_law_pairs : K.lookup f_law_pairs = some ⟨oc_l_law_pairs, od_l_law_pairs, .func (PySem.W.fnOf "_law_pairs" "_law_pairs" (defArgs (top 43)) (defBody (top 43)) (defScope (top 43)) .none kV_l_law_pairs dc_l_law_pairs pm_l_law_pairs an_l_law_pairs cd_l_law_pairs ct_l_law_pairs), sl_l_law_pairs⟩) (l_law_pairsc : PySem.W.codeIn K cd_l_law_pairs "_law_pairs" = true) (l_law_pairsk : PySem.W.keepIn K (.ref f_law_pairs) = true)
    (a_law_refilled : PySem.W.nsIn K mainGlobals "_law_refilled" = some (some (.ref f_law_refilled)))
    (l_law_refilled : K.lookup f_law_refilled = some ⟨oc_l_law_refilled, od_l_law_refilled, .func (PySem.W.fnOf "_law_refilled" "_law_refilled" (defArgs (top 44)) (defBody (top 44)) (defScope (top 44)) .none kV_l_law_refilled dc_l_law_refilled pm_l_law_refilled an_l_law_refilled cd_l_law_refilled ct_l_law_refilled), sl_l_law_refilled⟩) (l_law_refilledc : PySem.W.codeIn K cd_l_law_refilled "_law_refilled" = true) (l_law_refilledk : PySem.W.keepIn K (.ref f_law_refilled) = true)
    (a_law : PySem.W.nsIn K mainGlobals "law" = some (some (.ref f_law)))
    (l_law : K.lookup f_law = some ⟨oc_l_law, od_l_law, .func (PySem.W.fnOf "law" "law" (defArgs (top 45)) (defBody (top 45)) (defScope (top 45)) .none kV_l_law dc_l_law pm_l_law an_l_law cd_l_law ct_l_law), sl_l_law⟩) (l_lawc : PySem.W.codeIn K cd_l_law "law" = true) (l_lawk : PySem.W.keepIn K (.ref f_law) = true)
    (a_t_init : PySem.W.findIn K (.ref C) "__init__" = some (some (.ref f_t_init)))
    (l_t_init : K.lookup f_t_init = some ⟨oc_l_t_init, od_l_t_init, .func (PySem.W.fnOf "__init__" "Tree.__init__" (defArgs (sTree 2)) (defBody (sTree 2)) (defScope (sTree 2)) .none kV_l_t_init dc_l_t_init pm_l_t_init an_l_t_init cd_l_t_init ct_l_t_init), sl_l_t_init⟩) (l_t_initc : PySem.W.codeIn K cd_l_t_init "Tree.__init__" = true) (l_t_initk : PySem.W.keepIn K (.ref f_t_init) = true)
    (s_t_init : PySem.W.isFn K (.ref f_t_init) = true)
    (a_t_eq : PySem.W.findIn K (.ref C) "__eq__" = some (some (.ref f_t_eq)))
    (l_t_eq : K.lookup f_t_eq = some ⟨oc_l_t_eq, od_l_t_eq, .func (PySem.W.fnOf "__eq__" "Tree.__eq__" (defArgs (sTree 5)) (defBody (sTree 5)) (defScope (sTree 5)) .none kV_l_t_eq dc_l_t_eq pm_l_t_eq an_l_t_eq cd_l_t_eq ct_l_t_eq), sl_l_t_eq⟩) (l_t_eqc : PySem.W.codeIn K cd_l_t_eq "Tree.__eq__" = true) (l_t_eqk : PySem.W.keepIn K (.ref f_t_eq) = true)
    (s_t_eq : PySem.W.isFn K (.ref f_t_eq) = true)
    (a_t_and : PySem.W.findIn K (.ref C) "__and__" = some (some (.ref f_t_and)))
    (l_t_and : K.lookup f_t_and = some ⟨oc_l_t_and, od_l_t_and, .func (PySem.W.fnOf "__and__" "Tree.__and__" (defArgs (sTree 8)) (defBody (sTree 8)) (defScope (sTree 8)) .none kV_l_t_and dc_l_t_and pm_l_t_and an_l_t_and cd_l_t_and ct_l_t_and), sl_l_t_and⟩) (l_t_andc : PySem.W.codeIn K cd_l_t_and "Tree.__and__" = true) (l_t_andk : PySem.W.keepIn K (.ref f_t_and) = true)
    (s_t_and : PySem.W.isFn K (.ref f_t_and) = true)
    (a_t_covers : PySem.W.findIn K (.ref C) "covers" = some (some (.ref f_t_covers)))
    (l_t_covers : K.lookup f_t_covers = some ⟨oc_l_t_covers, od_l_t_covers, .func (PySem.W.fnOf "covers" "Tree.covers" (defArgs (sTree 9)) (defBody (sTree 9)) (defScope (sTree 9)) .none kV_l_t_covers dc_l_t_covers pm_l_t_covers an_l_t_covers cd_l_t_covers ct_l_t_covers), sl_l_t_covers⟩) (l_t_coversc : PySem.W.codeIn K cd_l_t_covers "Tree.covers" = true) (l_t_coversk : PySem.W.keepIn K (.ref f_t_covers) = true)
    (s_t_covers : PySem.W.isFn K (.ref f_t_covers) = true)
    (a_t_getitem : PySem.W.findIn K (.ref C) "__getitem__" = some (some (.ref f_t_getitem)))
    (l_t_getitem : K.lookup f_t_getitem = some ⟨oc_l_t_getitem, od_l_t_getitem, .func (PySem.W.fnOf "__getitem__" "Tree.__getitem__" (defArgs (sTree 11)) (defBody (sTree 11)) (defScope (sTree 11)) .none kV_l_t_getitem dc_l_t_getitem pm_l_t_getitem an_l_t_getitem cd_l_t_getitem ct_l_t_getitem), sl_l_t_getitem⟩) (l_t_getitemc : PySem.W.codeIn K cd_l_t_getitem "Tree.__getitem__" = true) (l_t_getitemk : PySem.W.keepIn K (.ref f_t_getitem) = true)
    (s_t_getitem : PySem.W.isFn K (.ref f_t_getitem) = true)
    (a_t_iter : PySem.W.findIn K (.ref C) "__iter__" = some (some (.ref f_t_iter)))
    (l_t_iter : K.lookup f_t_iter = some ⟨oc_l_t_iter, od_l_t_iter, .func (PySem.W.fnOf "__iter__" "Tree.__iter__" (defArgs (sTree 12)) (defBody (sTree 12)) (defScope (sTree 12)) .none kV_l_t_iter dc_l_t_iter pm_l_t_iter an_l_t_iter cd_l_t_iter ct_l_t_iter), sl_l_t_iter⟩) (l_t_iterc : PySem.W.codeIn K cd_l_t_iter "Tree.__iter__" = true) (l_t_iterk : PySem.W.keepIn K (.ref f_t_iter) = true)
    (s_t_iter : PySem.W.isFn K (.ref f_t_iter) = true)
    (a_t_holes : PySem.W.findIn K (.ref C) "holes" = some (some (.ref f_t_holes)))
    (l_t_holes : K.lookup f_t_holes = some ⟨oc_l_t_holes, od_l_t_holes, .func (PySem.W.fnOf "holes" "Tree.holes" (defArgs (sTree 15)) (defBody (sTree 15)) (defScope (sTree 15)) .none kV_l_t_holes dc_l_t_holes pm_l_t_holes an_l_t_holes cd_l_t_holes ct_l_t_holes), sl_l_t_holes⟩) (l_t_holesc : PySem.W.codeIn K cd_l_t_holes "Tree.holes" = true) (l_t_holesk : PySem.W.keepIn K (.ref f_t_holes) = true)
    (s_t_holes : PySem.W.isFn K (.ref f_t_holes) = true)
    (a_t_filled : PySem.W.findIn K (.ref C) "filled" = some (some (.ref f_t_filled)))
    (l_t_filled : K.lookup f_t_filled = some ⟨oc_l_t_filled, od_l_t_filled, .func (PySem.W.fnOf "filled" "Tree.filled" (defArgs (sTree 16)) (defBody (sTree 16)) (defScope (sTree 16)) .none kV_l_t_filled dc_l_t_filled pm_l_t_filled an_l_t_filled cd_l_t_filled ct_l_t_filled), sl_l_t_filled⟩) (l_t_filledc : PySem.W.codeIn K cd_l_t_filled "Tree.filled" = true) (l_t_filledk : PySem.W.keepIn K (.ref f_t_filled) = true)
    (s_t_filled : PySem.W.isFn K (.ref f_t_filled) = true)
    (b_len : PySem.W.nsIn K mainGlobals "len" = some none)
    (b_all : PySem.W.nsIn K mainGlobals "all" = some none)
    (b_sum : PySem.W.nsIn K mainGlobals "sum" = some none)
    (b_isinstance : PySem.W.nsIn K mainGlobals "isinstance" = some none)
    (b_reversed : PySem.W.nsIn K mainGlobals "reversed" = some none)
    (b_range : PySem.W.nsIn K mainGlobals "range" = some none)
    (b_int : PySem.W.nsIn K mainGlobals "int" = some none)
    (b_abs : PySem.W.nsIn K mainGlobals "abs" = some none)
    (b_tuple : PySem.W.nsIn K mainGlobals "tuple" = some none)
    (b_bool : PySem.W.nsIn K mainGlobals "bool" = some none)
    (b_list : PySem.W.nsIn K mainGlobals "list" = some none)
    (b_iter : PySem.W.nsIn K mainGlobals "iter" = some none)
    (b_zip : PySem.W.nsIn K mainGlobals "zip" = some none)
    (k_ho : PySem.W.nsIn K mainGlobals "HOLE" = some (some (.str "_" tk2)))
    (aC : PySem.W.nsIn K mainGlobals "Tree" = some (some (.ref C)))
    (pg : PySem.W.plainGet K C Str.empty = true)
    (hd : PySem.W.hasDictIn K C = true)
    (po : PySem.W.plainOver K C = true)
    (sa : PySem.W.findIn K (.ref C) "__setattr__" = some (some (.builtin "object.__setattr__")))
    (mk : PySem.W.makesIn K C = true)
    (kc : PySem.W.keepIn K (.ref C) = true)
    (n_name : PySem.W.findIn K (.ref C) "name" = some none)
    (n_parts : PySem.W.findIn K (.ref C) "parts" = some none)
    (n_size : PySem.W.findIn K (.ref C) "size" = some none)
    (n_levels : PySem.W.findIn K (.ref C) "levels" = some none)
    (n_term : PySem.W.findIn K (.ref C) "term" = some none)
    (n_gaps : PySem.W.findIn K (.ref C) "_gaps" = some none)
    (w1 : PySem.W.findIn K (.ref C) "whole" = some (some (.ref pW)))
    (w2 : PySem.W.specialIn K (.ref pW) "__get__" = some (some (.builtin "property.__get__")))
    (w3 : PySem.W.takesIn K (.ref pW) = some true)
    (w4 : PySem.W.recIn K pW "property" = some (.ref gW :: rest1))
    (w5 : K.lookup gW = some ⟨oc_w5, od_w5, .func (PySem.W.fnOf "whole" "Tree.whole" (defArgs (sTree 4)) (defBody (sTree 4)) (defScope (sTree 4)) .none kV_w5 dc_w5 pm_w5 an_w5 cd_w5 ct_w5), sl_w5⟩) (w5c : PySem.W.codeIn K cd_w5 "Tree.whole" = true) (w5k : PySem.W.keepIn K (.ref gW) = true)
    (sf : PySem.W.selfFirst K C = true)
    (bg : PySem.W.specialIn K (.ref f_t_filled) "__get__" = some (some (.builtin "function.__get__")))
    (bt : PySem.W.takesIn K (.ref f_t_filled) = some false)
    (bf : PySem.W.fnIn K f_t_filled = true)
    (nf : PySem.W.notFirst K C (.ref C) = true)
    (gi : PySem.W.fnIn K f_t_getitem = true)
    (i1 : PySem.W.findIn K (.ref C) "__class__" = some (some (.builtin "object.__class__")))
    (i2 : PySem.W.specialIn K (.builtin "object.__class__") "__get__" = some (some (.builtin "getset_descriptor.__get__")))
    (i3 : PySem.W.takesIn K (.builtin "object.__class__") = some true)
    (i4 : PySem.W.mroIn K C (.type "object") = some true)
    (eWc : PySem.W.isClsIn K CW = true)
    (eWt : PySem.W.typeIn K (.ref CW) = some (.type "type"))
    (eW : PySem.W.nsIn K mainGlobals "WorkError" = some (some (.ref CW)))
    (e1CB : PySem.W.nsIn K mainGlobals "BadCount" = some (some (.ref CB)))
    (e2CB : K.lookup CB = some (excClassObj nmCB qCB CB NCB bsCB bmCB true snCB subCB abCB colCB ddCB m0CB m1CB m2CB m3CB m5CB "ValueError.__new__"))
    (e3CB : PySem.HandSPX.refsVE bmCB = true)
    (e4CB : PySem.W.findIn K (.ref CB) "__setattr__" = some (some (.builtin "object.__setattr__")))
    (e5CB : PySem.W.subIn K (.ref CB) (.type "BaseException") = some true)
    (e6CB : PySem.W.typeIn K (.ref CB) = some (.type "type"))
    (e7CB : PySem.W.keepIn K (.ref CB) = true)
    (e8CB : PySem.W.findIn K (.ref CB) "count" = some none)
    (e9CB : PySem.W.findIn K (.ref CB) "__init__" = some (some (.ref fICB)))
    (eACB : PySem.W.typeIn K (.ref fICB) = some (.type "function"))
    (eBCB : K.lookup fICB = some ⟨oc_eBCB, od_eBCB, .func (PySem.W.fnOf "__init__" "BadCount.__init__" (defArgs (inClass (top 5) 0)) (defBody (inClass (top 5) 0)) (defScope (inClass (top 5) 0)) .none kV_eBCB dc_eBCB pm_eBCB an_eBCB cd_eBCB ct_eBCB), sl_eBCB⟩) (eBCBc : PySem.W.codeIn K cd_eBCB "BadCount.__init__" = true) (eBCBk : PySem.W.keepIn K (.ref fICB) = true)
    (sACB : PySem.W.isClsIn K CB = true)
    (sBCB : PySem.W.subIn K (.ref CB) (.ref CB) = some true)
    (sCCB : PySem.W.subIn K (.ref CB) (.ref CW) = some true)
    (sDCB : PySem.W.subIn K (.ref CB) (.type "ValueError") = some true)
    (sECB : PySem.W.subIn K (.ref CB) (.ref CN) = some false)
    (eDCB : PySem.W.findIn K (.ref CB) "__getattribute__" = some (some (.builtin "BaseException.__getattribute__")))
    (eECB : PySem.W.findIn K (.ref CB) "__getattr__" = some none)
    (eFCB : PySem.W.hasDictIn K CB = true)
    (eGCB : PySem.W.findIn K (.ref CB) "__class__" = some (some (.builtin "object.__class__")))
    (eHCB : PySem.W.mroIn K CB (.type "object") = some true)
    (e1CN : PySem.W.nsIn K mainGlobals "NoPlace" = some (some (.ref CN)))
    (e2CN : K.lookup CN = some (excClassObj nmCN qCN CN NCN bsCN bmCN true snCN subCN abCN colCN ddCN m0CN m1CN m2CN m3CN m5CN "ValueError.__new__"))
    (e3CN : PySem.HandSPX.refsVE bmCN = true)
    (e4CN : PySem.W.findIn K (.ref CN) "__setattr__" = some (some (.builtin "object.__setattr__")))
    (e5CN : PySem.W.subIn K (.ref CN) (.type "BaseException") = some true)
    (e6CN : PySem.W.typeIn K (.ref CN) = some (.type "type"))
    (e7CN : PySem.W.keepIn K (.ref CN) = true)
    (e8CN : PySem.W.findIn K (.ref CN) "path" = some none)
    (e9CN : PySem.W.findIn K (.ref CN) "__init__" = some (some (.ref fICN)))
    (eACN : PySem.W.typeIn K (.ref fICN) = some (.type "function"))
    (eBCN : K.lookup fICN = some ⟨oc_eBCN, od_eBCN, .func (PySem.W.fnOf "__init__" "NoPlace.__init__" (defArgs (inClass (top 4) 0)) (defBody (inClass (top 4) 0)) (defScope (inClass (top 4) 0)) .none kV_eBCN dc_eBCN pm_eBCN an_eBCN cd_eBCN ct_eBCN), sl_eBCN⟩) (eBCNc : PySem.W.codeIn K cd_eBCN "NoPlace.__init__" = true) (eBCNk : PySem.W.keepIn K (.ref fICN) = true)
    (sACN : PySem.W.isClsIn K CN = true)
    (sBCN : PySem.W.subIn K (.ref CN) (.ref CN) = some true)
    (sCCN : PySem.W.subIn K (.ref CN) (.ref CW) = some true)
    (sDCN : PySem.W.subIn K (.ref CN) (.type "ValueError") = some true)
    (sECN : PySem.W.subIn K (.ref CN) (.ref CB) = some false)
    (eDCN : PySem.W.findIn K (.ref CN) "__getattribute__" = some (some (.builtin "BaseException.__getattribute__")))
    (eECN : PySem.W.findIn K (.ref CN) "__getattr__" = some none)
    (eFCN : PySem.W.hasDictIn K CN = true)
    (eGCN : PySem.W.findIn K (.ref CN) "__class__" = some (some (.builtin "object.__class__")))
    (eHCN : PySem.W.mroIn K CN (.type "object") = some true) :
    ∃ fd : FuncData, (∀ (s : Shared) (v : Value), BindsTo s fd ⟨[v], []⟩ [("script", v)]) ∧ ∀ base : Heap, K.In base → base.Ns mainGlobals mg → FnOk P w K mg base CX0 65 fa fd ["script"] (spLaw K) := by
  have l_is_hole : FnAt K "is_hole" "is_hole" (top 16) f_is_hole := ⟨_, _, _, _, _, _, _, _, _, l_is_hole, l_is_holec, l_is_holek⟩
  have l_most_levels : FnAt K "most_levels" "most_levels" (top 18) f_most_levels := ⟨_, _, _, _, _, _, _, _, _, l_most_levels, l_most_levelsc, l_most_levelsk⟩
  have l_places : FnAt K "places" "places" (top 19) f_places := ⟨_, _, _, _, _, _, _, _, _, l_places, l_placesc, l_placesk⟩
  have l_law_pool_of : FnAt K "_law_pool_of" "_law_pool_of" (top 23) f_law_pool_of := ⟨_, _, _, _, _, _, _, _, _, l_law_pool_of, l_law_pool_ofc, l_law_pool_ofk⟩
  have l_law_draw : FnAt K "_law_draw" "_law_draw" (top 24) f_law_draw := ⟨_, _, _, _, _, _, _, _, _, l_law_draw, l_law_drawc, l_law_drawk⟩
  have l_law_name_of : FnAt K "_law_name_of" "_law_name_of" (top 25) f_law_name_of := ⟨_, _, _, _, _, _, _, _, _, l_law_name_of, l_law_name_ofc, l_law_name_ofk⟩
  have l_law_grow : FnAt K "_law_grow" "_law_grow" (top 26) f_law_grow := ⟨_, _, _, _, _, _, _, _, _, l_law_grow, l_law_growc, l_law_growk⟩
  have l_law_walk : FnAt K "_law_walk" "_law_walk" (top 27) f_law_walk := ⟨_, _, _, _, _, _, _, _, _, l_law_walk, l_law_walkc, l_law_walkk⟩
  have l_law_put : FnAt K "_law_put" "_law_put" (top 28) f_law_put := ⟨_, _, _, _, _, _, _, _, _, l_law_put, l_law_putc, l_law_putk⟩
  have l_law_spot : FnAt K "_law_spot" "_law_spot" (top 29) f_law_spot := ⟨_, _, _, _, _, _, _, _, _, l_law_spot, l_law_spotc, l_law_spotk⟩
  have l_law_changed : FnAt K "_law_changed" "_law_changed" (top 30) f_law_changed := ⟨_, _, _, _, _, _, _, _, _, l_law_changed, l_law_changedc, l_law_changedk⟩
  have l_law_opened : FnAt K "_law_opened" "_law_opened" (top 31) f_law_opened := ⟨_, _, _, _, _, _, _, _, _, l_law_opened, l_law_openedc, l_law_openedk⟩
  have l_law_three : FnAt K "_law_three" "_law_three" (top 32) f_law_three := ⟨_, _, _, _, _, _, _, _, _, l_law_three, l_law_threec, l_law_threek⟩
  have l_law_common : FnAt K "_law_common" "_law_common" (top 33) f_law_common := ⟨_, _, _, _, _, _, _, _, _, l_law_common, l_law_commonc, l_law_commonk⟩
  have l_law_over : FnAt K "_law_over" "_law_over" (top 34) f_law_over := ⟨_, _, _, _, _, _, _, _, _, l_law_over, l_law_overc, l_law_overk⟩
  have l_law_gaps : FnAt K "_law_gaps" "_law_gaps" (top 35) f_law_gaps := ⟨_, _, _, _, _, _, _, _, _, l_law_gaps, l_law_gapsc, l_law_gapsk⟩
  have l_law_make : FnAt K "_law_make" "_law_make" (top 36) f_law_make := ⟨_, _, _, _, _, _, _, _, _, l_law_make, l_law_makec, l_law_makek⟩
  have l_law_told : FnAt K "_law_told" "_law_told" (top 37) f_law_told := ⟨_, _, _, _, _, _, _, _, _, l_law_told, l_law_toldc, l_law_toldk⟩
  have l_law_is : FnAt K "_law_is" "_law_is" (top 38) f_law_is := ⟨_, _, _, _, _, _, _, _, _, l_law_is, l_law_isc, l_law_isk⟩
  have l_law_good : FnAt K "_law_good" "_law_good" (top 39) f_law_good := ⟨_, _, _, _, _, _, _, _, _, l_law_good, l_law_goodc, l_law_goodk⟩
  have l_law_covers : FnAt K "_law_covers" "_law_covers" (top 40) f_law_covers := ⟨_, _, _, _, _, _, _, _, _, l_law_covers, l_law_coversc, l_law_coversk⟩
  have l_law_filled : FnAt K "_law_filled" "_law_filled" (top 41) f_law_filled := ⟨_, _, _, _, _, _, _, _, _, l_law_filled, l_law_filledc, l_law_filledk⟩
  have l_law_miscounted : FnAt K "_law_miscounted" "_law_miscounted" (top 42) f_law_miscounted := ⟨_, _, _, _, _, _, _, _, _, l_law_miscounted, l_law_miscountedc, l_law_miscountedk⟩
  have l_law_pairs : FnAt K "_law_pairs" "_law_pairs" (top 43) f_law_pairs := ⟨_, _, _, _, _, _, _, _, _, l_law_pairs, l_law_pairsc, l_law_pairsk⟩
  have l_law_refilled : FnAt K "_law_refilled" "_law_refilled" (top 44) f_law_refilled := ⟨_, _, _, _, _, _, _, _, _, l_law_refilled, l_law_refilledc, l_law_refilledk⟩
  have l_law : FnAt K "law" "law" (top 45) f_law := ⟨_, _, _, _, _, _, _, _, _, l_law, l_lawc, l_lawk⟩
  have l_t_init : FnAt K "__init__" "Tree.__init__" (sTree 2) f_t_init := ⟨_, _, _, _, _, _, _, _, _, l_t_init, l_t_initc, l_t_initk⟩
  have l_t_eq : FnAt K "__eq__" "Tree.__eq__" (sTree 5) f_t_eq := ⟨_, _, _, _, _, _, _, _, _, l_t_eq, l_t_eqc, l_t_eqk⟩
  have l_t_and : FnAt K "__and__" "Tree.__and__" (sTree 8) f_t_and := ⟨_, _, _, _, _, _, _, _, _, l_t_and, l_t_andc, l_t_andk⟩
  have l_t_covers : FnAt K "covers" "Tree.covers" (sTree 9) f_t_covers := ⟨_, _, _, _, _, _, _, _, _, l_t_covers, l_t_coversc, l_t_coversk⟩
  have l_t_getitem : FnAt K "__getitem__" "Tree.__getitem__" (sTree 11) f_t_getitem := ⟨_, _, _, _, _, _, _, _, _, l_t_getitem, l_t_getitemc, l_t_getitemk⟩
  have l_t_iter : FnAt K "__iter__" "Tree.__iter__" (sTree 12) f_t_iter := ⟨_, _, _, _, _, _, _, _, _, l_t_iter, l_t_iterc, l_t_iterk⟩
  have l_t_holes : FnAt K "holes" "Tree.holes" (sTree 15) f_t_holes := ⟨_, _, _, _, _, _, _, _, _, l_t_holes, l_t_holesc, l_t_holesk⟩
  have l_t_filled : FnAt K "filled" "Tree.filled" (sTree 16) f_t_filled := ⟨_, _, _, _, _, _, _, _, _, l_t_filled, l_t_filledc, l_t_filledk⟩
  have w5 : FnAt K "whole" "Tree.whole" (sTree 4) gW := ⟨_, _, _, _, _, _, _, _, _, w5, w5c, w5k⟩
  have eBCB : FnAt K "__init__" "BadCount.__init__" (inClass (top 5) 0) fICB := ⟨_, _, _, _, _, _, _, _, _, eBCB, eBCBc, eBCBk⟩
  have eBCN : FnAt K "__init__" "NoPlace.__init__" (inClass (top 4) 0) fICN := ⟨_, _, _, _, _, _, _, _, _, eBCN, eBCNc, eBCNk⟩
  have eCCB := exm_of e5CB (kc_of sACB e6CB sBCB)
  have eICB := kc_of sACB e6CB sBCB
  have eJCB := ko_true (kc_of eWc eWt sCCB)
  have eKCB := ko_true (kc_ve sDCB)
  have eLCB := ko_false (kc_of sACN e6CN sECB) sBCB sECB
  have eCCN := exm_of e5CN (kc_of sACN e6CN sBCN)
  have eICN := kc_of sACN e6CN sBCN
  have eJCN := ko_true (kc_of eWc eWt sCCN)
  have eKCN := ko_true (kc_ve sDCN)
  have eLCN := ko_false (kc_of sACB e6CB sECN) sBCN sECN
  have e := hfa.symm.trans (PySem.W.mg_of X G a_law)
  cases e
  obtain ⟨d_is_hole, F_is_hole⟩ := l_is_hole.fn
  have g_is_hole : Gf K mg "is_hole" f_is_hole := FnAt.gf X G a_is_hole l_is_hole
  obtain ⟨d_most_levels, F_most_levels⟩ := l_most_levels.fn
  have g_most_levels : Gf K mg "most_levels" f_most_levels := FnAt.gf X G a_most_levels l_most_levels
  obtain ⟨d_places, F_places⟩ := l_places.fn
  have g_places : Gf K mg "places" f_places := FnAt.gf X G a_places l_places
  obtain ⟨d_law_pool_of, F_law_pool_of⟩ := l_law_pool_of.fn
  have g_law_pool_of : Gf K mg "_law_pool_of" f_law_pool_of := FnAt.gf X G a_law_pool_of l_law_pool_of
  obtain ⟨d_law_draw, F_law_draw⟩ := l_law_draw.fn
  have g_law_draw : Gf K mg "_law_draw" f_law_draw := FnAt.gf X G a_law_draw l_law_draw
  obtain ⟨d_law_name_of, F_law_name_of⟩ := l_law_name_of.fn
  have g_law_name_of : Gf K mg "_law_name_of" f_law_name_of := FnAt.gf X G a_law_name_of l_law_name_of
  obtain ⟨d_law_grow, F_law_grow⟩ := l_law_grow.fn
  have g_law_grow : Gf K mg "_law_grow" f_law_grow := FnAt.gf X G a_law_grow l_law_grow
  obtain ⟨d_law_walk, F_law_walk⟩ := l_law_walk.fn
  have g_law_walk : Gf K mg "_law_walk" f_law_walk := FnAt.gf X G a_law_walk l_law_walk
  obtain ⟨d_law_put, F_law_put⟩ := l_law_put.fn
  have g_law_put : Gf K mg "_law_put" f_law_put := FnAt.gf X G a_law_put l_law_put
  obtain ⟨d_law_spot, F_law_spot⟩ := l_law_spot.fn
  have g_law_spot : Gf K mg "_law_spot" f_law_spot := FnAt.gf X G a_law_spot l_law_spot
  obtain ⟨d_law_changed, F_law_changed⟩ := l_law_changed.fn
  have g_law_changed : Gf K mg "_law_changed" f_law_changed := FnAt.gf X G a_law_changed l_law_changed
  obtain ⟨d_law_opened, F_law_opened⟩ := l_law_opened.fn
  have g_law_opened : Gf K mg "_law_opened" f_law_opened := FnAt.gf X G a_law_opened l_law_opened
  obtain ⟨d_law_three, F_law_three⟩ := l_law_three.fn
  have g_law_three : Gf K mg "_law_three" f_law_three := FnAt.gf X G a_law_three l_law_three
  obtain ⟨d_law_common, F_law_common⟩ := l_law_common.fn
  have g_law_common : Gf K mg "_law_common" f_law_common := FnAt.gf X G a_law_common l_law_common
  obtain ⟨d_law_over, F_law_over⟩ := l_law_over.fn
  have g_law_over : Gf K mg "_law_over" f_law_over := FnAt.gf X G a_law_over l_law_over
  obtain ⟨d_law_gaps, F_law_gaps⟩ := l_law_gaps.fn
  have g_law_gaps : Gf K mg "_law_gaps" f_law_gaps := FnAt.gf X G a_law_gaps l_law_gaps
  obtain ⟨d_law_make, F_law_make⟩ := l_law_make.fn
  have g_law_make : Gf K mg "_law_make" f_law_make := FnAt.gf X G a_law_make l_law_make
  obtain ⟨d_law_told, F_law_told⟩ := l_law_told.fn
  have g_law_told : Gf K mg "_law_told" f_law_told := FnAt.gf X G a_law_told l_law_told
  obtain ⟨d_law_is, F_law_is⟩ := l_law_is.fn
  have g_law_is : Gf K mg "_law_is" f_law_is := FnAt.gf X G a_law_is l_law_is
  obtain ⟨d_law_good, F_law_good⟩ := l_law_good.fn
  have g_law_good : Gf K mg "_law_good" f_law_good := FnAt.gf X G a_law_good l_law_good
  obtain ⟨d_law_covers, F_law_covers⟩ := l_law_covers.fn
  have g_law_covers : Gf K mg "_law_covers" f_law_covers := FnAt.gf X G a_law_covers l_law_covers
  obtain ⟨d_law_filled, F_law_filled⟩ := l_law_filled.fn
  have g_law_filled : Gf K mg "_law_filled" f_law_filled := FnAt.gf X G a_law_filled l_law_filled
  obtain ⟨d_law_miscounted, F_law_miscounted⟩ := l_law_miscounted.fn
  have g_law_miscounted : Gf K mg "_law_miscounted" f_law_miscounted := FnAt.gf X G a_law_miscounted l_law_miscounted
  obtain ⟨d_law_pairs, F_law_pairs⟩ := l_law_pairs.fn
  have g_law_pairs : Gf K mg "_law_pairs" f_law_pairs := FnAt.gf X G a_law_pairs l_law_pairs
  obtain ⟨d_law_refilled, F_law_refilled⟩ := l_law_refilled.fn
  have g_law_refilled : Gf K mg "_law_refilled" f_law_refilled := FnAt.gf X G a_law_refilled l_law_refilled
  obtain ⟨d_t_init, F_t_init⟩ := l_t_init.fn
  obtain ⟨d_t_eq, F_t_eq⟩ := l_t_eq.fn
  obtain ⟨d_t_and, F_t_and⟩ := l_t_and.fn
  obtain ⟨d_t_covers, F_t_covers⟩ := l_t_covers.fn
  obtain ⟨d_t_getitem, F_t_getitem⟩ := l_t_getitem.fn
  obtain ⟨d_t_iter, F_t_iter⟩ := l_t_iter.fn
  obtain ⟨d_t_holes, F_t_holes⟩ := l_t_holes.fn
  obtain ⟨d_t_filled, F_t_filled⟩ := l_t_filled.fn
  obtain ⟨dW, FW⟩ := w5.fn
  obtain ⟨dIB, FIB⟩ := eBCB.fn
  obtain ⟨dIN, FIN⟩ := eBCN.fn
  have m_len := PySem.W.mg_none_of X G b_len
  have m_all := PySem.W.mg_none_of X G b_all
  have m_sum := PySem.W.mg_none_of X G b_sum
  have m_isinstance := PySem.W.mg_none_of X G b_isinstance
  have m_reversed := PySem.W.mg_none_of X G b_reversed
  have m_range := PySem.W.mg_none_of X G b_range
  have m_int := PySem.W.mg_none_of X G b_int
  have m_abs := PySem.W.mg_none_of X G b_abs
  have m_tuple := PySem.W.mg_none_of X G b_tuple
  have m_bool := PySem.W.mg_none_of X G b_bool
  have m_list := PySem.W.mg_none_of X G b_list
  have m_iter := PySem.W.mg_none_of X G b_iter
  have m_zip := PySem.W.mg_none_of X G b_zip
  have gT := PySem.W.mg_of X G aC
  have T1 : Tt K C := ⟨⟨pg, hd, po, sa⟩, n_name, n_parts, n_size, n_levels, n_term, n_gaps⟩
  have T2 : Ti K C := ⟨i1, i2, i3, i4⟩
  have M : Mk K C f_t_init := ⟨mk, a_t_init, s_t_init, kc⟩
  have hHO := PySem.W.mg_of X G k_ho
  have XB : Ext K mg "BadCount" CB fICB "count" := ⟨⟨⟨_, _, _, _, _, _, _, _, _, _, _, _, _, _, _, e2CB, e3CB⟩, e4CB, e5CB, e6CB, e7CB⟩, e8CB, e9CB, eACB, PySem.W.mg_of X G e1CB, eCCB⟩
  have XN : Ext K mg "NoPlace" CN fICN "path" := ⟨⟨⟨_, _, _, _, _, _, _, _, _, _, _, _, _, _, _, e2CN, e3CN⟩, e4CN, e5CN, e6CN, e7CN⟩, e8CN, e9CN, eACN, PySem.W.mg_of X G e1CN, eCCN⟩
  have RCB : Er K mg "BadCount" "count" CB CW CN := ⟨PySem.W.mg_of X G e1CB, ⟨eDCB, eECB, e5CB, eFCB⟩, ⟨eDCB, eECB, e5CB, eFCB, eGCB, i2, i3, eHCB⟩, e8CB, eCCB, eICB, eJCB, eKCB, eLCB⟩
  have gWE := PySem.W.mg_of X G eW
  have gNP := PySem.W.mg_of X G e1CN
  have Wp : Wh K C pW gW dW := ⟨⟨w1, w2, w3, ⟨_, w4⟩⟩, FW.binds fun _ _ _ _ _ _ us hl => match us, hl with | [_], _ => rfl⟩
  have kp_and : PySem.W.keepIn K (.ref f_t_and) = true := by obtain ⟨_, _, _, _, _, _, _, _, _, _, _, k⟩ := l_t_and; exact k
  have kp_covers : PySem.W.keepIn K (.ref f_t_covers) = true := by obtain ⟨_, _, _, _, _, _, _, _, _, _, _, k⟩ := l_t_covers; exact k
  have kp_holes : PySem.W.keepIn K (.ref f_t_holes) = true := by obtain ⟨_, _, _, _, _, _, _, _, _, _, _, k⟩ := l_t_holes; exact k
  have kp_filled : PySem.W.keepIn K (.ref f_t_filled) = true := by obtain ⟨_, _, _, _, _, _, _, _, _, _, _, k⟩ := l_t_filled; exact k
  have Mc : Meth K C "covers" f_t_covers := ⟨a_t_covers, s_t_covers, kp_covers⟩
  have mH : Meth K C "holes" f_t_holes := ⟨a_t_holes, s_t_holes, kp_holes⟩
  have Bm : BMeth K C "filled" f_t_filled := ⟨⟨a_t_filled, s_t_filled, kp_filled⟩, bg, bt, by decide +kernel, bf⟩
  have Ta1 : Ta K C f_t_and := ⟨sf, a_t_and, s_t_and⟩
  obtain ⟨oc, od, kV, dc, pm, an, cd, ct, sl, ll, lc, lk⟩ := l_law
  have FL := fun_mk (st := top 45) ll lc lk
  refine ⟨PySem.W.fnOf "law" "law" (defArgs (top 45)) (defBody (top 45)) (defScope (top 45)) .none kV dc pm an cd ct, fun s v => .of_eq rfl, fun base _ _ => ?_⟩
  have q6 := ok_most (P := P) (w := w) (K := K) (mg := mg) (base := base) T1 F_most_levels
  have q7 : FnR P w K mg base CX0 3 f_t_init (spMk C) := ok_init T1 g_most_levels q6 hHO m_sum F_t_init
  have q8 := ok_places (P := P) (w := w) (K := K) (mg := mg) (base := base) T1 m_len m_reversed m_range F_places
  have q9 := ok_isHole (P := P) (w := w) (K := K) (mg := mg) (base := base) T1 hHO F_is_hole
  have q12 := ok_whole (P := P) (w := w) (K := K) (mg := mg) (base := base) T1 FW
  have q15 := ok_eq (P := P) (w := w) (K := K) (mg := mg) (base := base) T1 T2 gT m_isinstance F_t_eq
  have q17 := ok_getitem (P := P) (w := w) (K := K) (mg := mg) (base := base) T1 m_len XN FIN F_t_getitem
  have q18 := ok_and (P := P) (w := w) (K := K) (mg := mg) (base := base) T1 T2 M q7 gT m_isinstance m_len m_zip hHO Ta1 F_t_and 20
  have q19 := ok_cov (P := P) (w := w) (K := K) (mg := mg) (base := base) T1 g_is_hole q9 m_len m_zip m_all Mc F_t_covers 20
  have q20 := ok_holes (P := P) (w := w) (K := K) (mg := mg) (base := base) g_places q8 g_is_hole q9 F_t_holes
  have q21 := ok_fil (P := P) (w := w) (K := K) (mg := mg) (base := base) T1 M q7 gT g_is_hole q9 m_len XB FIB Bm F_t_filled 20
  have p1 := ok_pool (P := P) (w := w) (K := K) (mg := mg) (base := base) m_int m_abs F_law_pool_of
  have p2 := ok_draw (P := P) (w := w) (K := K) (mg := mg) (base := base) m_int F_law_draw
  have p3 := ok_name (P := P) (w := w) (K := K) (mg := mg) (base := base) g_law_draw p2 m_range F_law_name_of
  have p4 := ok_grow (P := P) (w := w) (K := K) (mg := mg) (base := base) g_law_draw p2 m_range m_int m_len m_tuple F_law_grow g_law_grow
  have p5 := ok_walk (P := P) (w := w) (K := K) (mg := mg) (base := base) m_len m_range F_law_walk g_law_walk 60
  have p6 := ok_put (P := P) (w := w) (K := K) (mg := mg) (base := base) m_len m_list m_tuple F_law_put g_law_put 59
  have p7 := ok_spot (P := P) (w := w) (K := K) (mg := mg) (base := base) g_law_draw p2 g_law_walk p5 m_len F_law_spot
  have p8 := ok_changed (P := P) (w := w) (K := K) (mg := mg) (base := base) g_law_draw p2 g_law_spot p7 g_law_put p6 g_law_grow p4 m_range F_law_changed
  have p9 := ok_opened (P := P) (w := w) (K := K) (mg := mg) (base := base) g_law_draw p2 g_law_spot p7 g_law_put p6 m_range F_law_opened
  have p10 := ok_three (P := P) (w := w) (K := K) (mg := mg) (base := base) g_law_draw p2 g_law_name_of p3 g_law_grow p4 g_law_changed p8 F_law_three
  have p11 := ok_com (P := P) (w := w) (K := K) (mg := mg) (base := base) m_len m_range m_tuple F_law_common g_law_common 20
  have p12 := ok_over (P := P) (w := w) (K := K) (mg := mg) (base := base) m_len m_range F_law_over g_law_over 20
  have p13 := ok_gaps (P := P) (w := w) (K := K) (mg := mg) (base := base) m_len m_range F_law_gaps g_law_gaps 20
  have p14 := ok_make (P := P) (w := w) (K := K) (mg := mg) (base := base) M q7 gT m_len F_law_make g_law_make 20
  have p15 := ok_told (P := P) (w := w) (K := K) (mg := mg) (base := base) m_len m_sum F_law_told g_law_told 20
  have p16 := ok_is (P := P) (w := w) (K := K) (mg := mg) (base := base) m_isinstance m_int m_bool F_law_is
  have p17 := ok_good (P := P) (w := w) (K := K) (mg := mg) (base := base) T1 T2 gT F_t_iter a_t_iter s_t_iter Wp q12 g_law_is p16 m_isinstance m_tuple m_bool m_len m_range m_iter F_law_good g_law_good 20
  have p18 := ok_lcov (P := P) (w := w) (K := K) (mg := mg) (base := base) T1 Mc q19 m_isinstance m_bool F_law_covers
  have bLf : Binds K d_law_filled ["tree", "parts"] [] := F_law_filled.binds fun _ _ _ _ _ _ us hl => match us, hl with | [_, _], _ => rfl
  have p19 := ok_lfil (P := P) (w := w) (K := K) (mg := mg) (base := base) T1 Bm.mt q21 m_len F_law_filled
  have p20 := ok_mis (P := P) (w := w) (K := K) (mg := mg) (base := base) (n := 25) RCB gWE gNP m_isinstance m_int m_bool m_len g_law_filled p19 bLf g_law_is F_law_is F_law_miscounted
  have L : CallsT P w K mg base C f_t_and f_law_common f_law_told f_law_good f_law_covers f_law_over := { range := m_range, ta := Ta1, FA := q18, gCm := g_law_common, FCm := p11, gTo := g_law_told, FTo := p15, gGo := g_law_good, FGo := p17, gLc := g_law_covers, FLc := p18, gOv := g_law_over, FOv := p12 }
  have p21 := ok_pairs (P := P) (w := w) (K := K) (mg := mg) (base := base) L F_law_pairs
  have p22 := ok_refi (P := P) (w := w) (K := K) (mg := mg) (base := base) m_len a_t_getitem gi s_t_getitem q17 g_law_filled (FnOk.toR p19 bLf) g_law_miscounted p20 g_law_told p15 g_law_good p17 F_law_refilled
  exact ok_law L { gPo := g_law_pool_of, FPo := p1, gTh := g_law_three, FTh := p10, gMa := g_law_make, FMa := p14, gPa := g_law_pairs, FPa := p21, gOp := g_law_opened, FOp := p9, gGa := g_law_gaps, FGa := p13, gRe := g_law_refilled, FRe := p22, nf := nf, q1 := a_t_eq, q2 := s_t_eq, FQ := q15, mH := mH, FHo := q20, isi := m_isinstance, list := m_list, T1 := T1 } FL
end Tw
set_option maxHeartbeats 0
/-! k01, whole. -/
namespace Tw
open PySem PySem.Spec PyProof.Rows L2
theorem walk {l : PySem.W.OpenLaw} {q : Program} {loose : List Str} {XP : (Str → Option Value) → Heap → Prop} {YP : World → Heap → Prop} {d : DefRec} {K : Params → PySem.W.Frag} (hn : l.most = some 63) (hdf : d.params.defaults = [])
    (hY : ∀ (w : World) (h : Heap), YP w h → (K w.params).In h)
    (F : ∀ (w : World) (mg : Str → Option Value) (fa : Addr) (h : Heap), (K w.params).In h → h.Ns mainGlobals mg → mg d.name = some (.ref fa) →
      ∃ fd : FuncData, (∀ (s : Shared) (u : Value), BindsTo s fd ⟨[u], []⟩ [("script", u)]) ∧ ∀ base : Heap, (K w.params).In base → base.Ns mainGlobals mg → FnOk l.prog w (K w.params) mg base CX0 65 fa fd ["script"] (spLaw (K w.params))) :
    PySem.W.WalkO q loose XP YP l.row.toRowW d [] (fun f vs => PySem.call f vs) :=
  L2.walk_of (n := 63) (k := 65) (x := "script") (CX := fun _ => CX0) (sp := fun w => spLaw (K w.params)) hn (by decide) hdf ⟨rfl, by decide, by decide⟩ hY F (fun _ _ a ns hl _ hS => ⟨a, ns, rfl, hS, hl, fun _ => rfl⟩) fun _ _ _ _ _ z => z
end Tw

open PySem PySem.W PyProof.Rows
theorem PySem.Challenge.cw_treeworks_k01_common_part_holds : PySem.Challenge.rw_treeworks_k01_common_part.Holds := by
  w_on; o_law; k_head; (case hw => w_witness2)
  k_fill
  refine Tw.walk (l := PySem.Challenge.rw_treeworks_k01_common_part) rfl rfl (fun w h Y => PySem.W.kIn_of Y) ?F
  case F =>
    intro w mg fa h KX G hmg
    refine' Tw.all_mk KX G hmg ?a_is_hole ?l_is_hole ?l_is_holec ?l_is_holek ?a_most_levels ?l_most_levels ?l_most_levelsc ?l_most_levelsk ?a_places ?l_places ?l_placesc ?l_placesk ?a_law_pool_of ?l_law_pool_of ?l_law_pool_ofc ?l_law_pool_ofk ?a_law_draw ?l_law_draw ?l_law_drawc ?l_law_drawk ?a_law_name_of ?l_law_name_of ?l_law_name_ofc ?l_law_name_ofk ?a_law_grow ?l_law_grow ?l_law_growc ?l_law_growk ?a_law_walk ?l_law_walk ?l_law_walkc ?l_law_walkk ?a_law_put ?l_law_put ?l_law_putc ?l_law_putk ?a_law_spot ?l_law_spot ?l_law_spotc ?l_law_spotk ?a_law_changed ?l_law_changed ?l_law_changedc ?l_law_changedk ?a_law_opened ?l_law_opened ?l_law_openedc ?l_law_openedk ?a_law_three ?l_law_three ?l_law_threec ?l_law_threek ?a_law_common ?l_law_common ?l_law_commonc ?l_law_commonk ?a_law_over ?l_law_over ?l_law_overc ?l_law_overk ?a_law_gaps ?l_law_gaps ?l_law_gapsc ?l_law_gapsk ?a_law_make ?l_law_make ?l_law_makec ?l_law_makek ?a_law_told ?l_law_told ?l_law_toldc ?l_law_toldk ?a_law_is ?l_law_is ?l_law_isc ?l_law_isk ?a_law_good ?l_law_good ?l_law_goodc ?l_law_goodk ?a_law_covers ?l_law_covers ?l_law_coversc ?l_law_coversk ?a_law_filled ?l_law_filled ?l_law_filledc ?l_law_filledk ?a_law_miscounted ?l_law_miscounted ?l_law_miscountedc ?l_law_miscountedk ?a_law_pairs ?l_law_pairs ?l_law_pairsc ?l_law_pairsk ?a_law_refilled ?l_law_refilled ?l_law_refilledc ?l_law_refilledk ?a_law ?l_law ?l_lawc ?l_lawk ?a_t_init ?l_t_init ?l_t_initc ?l_t_initk ?s_t_init ?a_t_eq ?l_t_eq ?l_t_eqc ?l_t_eqk ?s_t_eq ?a_t_and ?l_t_and ?l_t_andc ?l_t_andk ?s_t_and ?a_t_covers ?l_t_covers ?l_t_coversc ?l_t_coversk ?s_t_covers ?a_t_getitem ?l_t_getitem ?l_t_getitemc ?l_t_getitemk ?s_t_getitem ?a_t_iter ?l_t_iter ?l_t_iterc ?l_t_iterk ?s_t_iter ?a_t_holes ?l_t_holes ?l_t_holesc ?l_t_holesk ?s_t_holes ?a_t_filled ?l_t_filled ?l_t_filledc ?l_t_filledk ?s_t_filled ?b_len ?b_all ?b_sum ?b_isinstance ?b_reversed ?b_range ?b_int ?b_abs ?b_tuple ?b_bool ?b_list ?b_iter ?b_zip ?k_ho ?aC ?pg ?hd ?po ?sa ?mk ?kc ?n_name ?n_parts ?n_size ?n_levels ?n_term ?n_gaps ?w1 ?w2 ?w3 ?w4 ?w5 ?w5c ?w5k ?sf ?bg ?bt ?bf ?nf ?gi ?i1 ?i2 ?i3 ?i4 ?eWc ?eWt ?eW ?e1CB ?e2CB ?e3CB ?e4CB ?e5CB ?e6CB ?e7CB ?e8CB ?e9CB ?eACB ?eBCB ?eBCBc ?eBCBk ?sACB ?sBCB ?sCCB ?sDCB ?sECB ?eDCB ?eECB ?eFCB ?eGCB ?eHCB ?e1CN ?e2CN ?e3CN ?e4CN ?e5CN ?e6CN ?e7CN ?e8CN ?e9CN ?eACN ?eBCN ?eBCNc ?eBCNk ?sACN ?sBCN ?sCCN ?sDCN ?sECN ?eDCN ?eECN ?eFCN ?eGCN ?eHCN
    (case k_ho => k_is)
    (case aC => k_is)
    (case eW => k_is)
    (case e1CB => k_is)
    (case e1CN => k_is)
    (case a_is_hole => k_is)
    (case l_is_hole => k_is)
    (case l_is_holec => k_is)
    (case l_is_holek => k_is)
    (case a_most_levels => k_is)
    (case l_most_levels => k_is)
    (case l_most_levelsc => k_is)
    (case l_most_levelsk => k_is)
    (case a_places => k_is)
    (case l_places => k_is)
    (case l_placesc => k_is)
    (case l_placesk => k_is)
    (case a_law_pool_of => k_is)
    (case l_law_pool_of => k_is)
    (case l_law_pool_ofc => k_is)
    (case l_law_pool_ofk => k_is)
    (case a_law_draw => k_is)
    (case l_law_draw => k_is)
    (case l_law_drawc => k_is)
    (case l_law_drawk => k_is)
    (case a_law_name_of => k_is)
    (case l_law_name_of => k_is)
    (case l_law_name_ofc => k_is)
    (case l_law_name_ofk => k_is)
    (case a_law_grow => k_is)
    (case l_law_grow => k_is)
    (case l_law_growc => k_is)
    (case l_law_growk => k_is)
    (case a_law_walk => k_is)
    (case l_law_walk => k_is)
    (case l_law_walkc => k_is)
    (case l_law_walkk => k_is)
    (case a_law_put => k_is)
    (case l_law_put => k_is)
    (case l_law_putc => k_is)
    (case l_law_putk => k_is)
    (case a_law_spot => k_is)
    (case l_law_spot => k_is)
    (case l_law_spotc => k_is)
    (case l_law_spotk => k_is)
    (case a_law_changed => k_is)
    (case l_law_changed => k_is)
    (case l_law_changedc => k_is)
    (case l_law_changedk => k_is)
    (case a_law_opened => k_is)
    (case l_law_opened => k_is)
    (case l_law_openedc => k_is)
    (case l_law_openedk => k_is)
    (case a_law_three => k_is)
    (case l_law_three => k_is)
    (case l_law_threec => k_is)
    (case l_law_threek => k_is)
    (case a_law_common => k_is)
    (case l_law_common => k_is)
    (case l_law_commonc => k_is)
    (case l_law_commonk => k_is)
    (case a_law_over => k_is)
    (case l_law_over => k_is)
    (case l_law_overc => k_is)
    (case l_law_overk => k_is)
    (case a_law_gaps => k_is)
    (case l_law_gaps => k_is)
    (case l_law_gapsc => k_is)
    (case l_law_gapsk => k_is)
    (case a_law_make => k_is)
    (case l_law_make => k_is)
    (case l_law_makec => k_is)
    (case l_law_makek => k_is)
    (case a_law_told => k_is)
    (case l_law_told => k_is)
    (case l_law_toldc => k_is)
    (case l_law_toldk => k_is)
    (case a_law_is => k_is)
    (case l_law_is => k_is)
    (case l_law_isc => k_is)
    (case l_law_isk => k_is)
    (case a_law_good => k_is)
    (case l_law_good => k_is)
    (case l_law_goodc => k_is)
    (case l_law_goodk => k_is)
    (case a_law_covers => k_is)
    (case l_law_covers => k_is)
    (case l_law_coversc => k_is)
    (case l_law_coversk => k_is)
    (case a_law_filled => k_is)
    (case l_law_filled => k_is)
    (case l_law_filledc => k_is)
    (case l_law_filledk => k_is)
    (case a_law_miscounted => k_is)
    (case l_law_miscounted => k_is)
    (case l_law_miscountedc => k_is)
    (case l_law_miscountedk => k_is)
    (case a_law_pairs => k_is)
    (case l_law_pairs => k_is)
    (case l_law_pairsc => k_is)
    (case l_law_pairsk => k_is)
    (case a_law_refilled => k_is)
    (case l_law_refilled => k_is)
    (case l_law_refilledc => k_is)
    (case l_law_refilledk => k_is)
    (case a_law => k_is)
    (case l_law => k_is)
    (case l_lawc => k_is)
    (case l_lawk => k_is)
    (case a_t_init => k_is)
    (case l_t_init => k_is)
    (case l_t_initc => k_is)
    (case l_t_initk => k_is)
    (case s_t_init => k_is)
    (case a_t_eq => k_is)
    (case l_t_eq => k_is)
    (case l_t_eqc => k_is)
    (case l_t_eqk => k_is)
    (case s_t_eq => k_is)
    (case a_t_and => k_is)
    (case l_t_and => k_is)
    (case l_t_andc => k_is)
    (case l_t_andk => k_is)
    (case s_t_and => k_is)
    (case a_t_covers => k_is)
    (case l_t_covers => k_is)
    (case l_t_coversc => k_is)
    (case l_t_coversk => k_is)
    (case s_t_covers => k_is)
    (case a_t_getitem => k_is)
    (case l_t_getitem => k_is)
    (case l_t_getitemc => k_is)
    (case l_t_getitemk => k_is)
    (case s_t_getitem => k_is)
    (case a_t_iter => k_is)
    (case l_t_iter => k_is)
    (case l_t_iterc => k_is)
    (case l_t_iterk => k_is)
    (case s_t_iter => k_is)
    (case a_t_holes => k_is)
    (case l_t_holes => k_is)
    (case l_t_holesc => k_is)
    (case l_t_holesk => k_is)
    (case s_t_holes => k_is)
    (case a_t_filled => k_is)
    (case l_t_filled => k_is)
    (case l_t_filledc => k_is)
    (case l_t_filledk => k_is)
    (case s_t_filled => k_is)
    (case b_len => k_is)
    (case b_all => k_is)
    (case b_sum => k_is)
    (case b_isinstance => k_is)
    (case b_reversed => k_is)
    (case b_range => k_is)
    (case b_int => k_is)
    (case b_abs => k_is)
    (case b_tuple => k_is)
    (case b_bool => k_is)
    (case b_list => k_is)
    (case b_iter => k_is)
    (case b_zip => k_is)
    (case pg => k_is)
    (case hd => k_is)
    (case po => k_is)
    (case sa => k_is)
    (case mk => k_is)
    (case kc => k_is)
    (case n_name => k_is)
    (case n_parts => k_is)
    (case n_size => k_is)
    (case n_levels => k_is)
    (case n_term => k_is)
    (case n_gaps => k_is)
    (case w1 => k_is)
    (case w2 => k_is)
    (case w3 => k_is)
    (case w4 => k_is)
    (case w5 => k_is)
    (case w5c => k_is)
    (case w5k => k_is)
    (case sf => k_is)
    (case bg => k_is)
    (case bt => k_is)
    (case bf => k_is)
    (case nf => k_is)
    (case gi => k_is)
    (case i3 => k_is)
    (case i4 => k_is)
    (case eWc => k_is)
    (case eWt => k_is)
    (case e2CB => k_is)
    (case e3CB => (first | rfl | decide +kernel))
    (case e4CB => k_is)
    (case e5CB => k_is)
    (case e6CB => k_is)
    (case e7CB => k_is)
    (case e8CB => k_is)
    (case e9CB => k_is)
    (case eACB => k_is)
    (case eBCB => k_is)
    (case eBCBc => k_is)
    (case eBCBk => k_is)
    (case sACB => k_is)
    (case sBCB => k_is)
    (case sCCB => k_is)
    (case sDCB => k_is)
    (case sECB => k_is)
    (case eDCB => k_is)
    (case eECB => k_is)
    (case eFCB => k_is)
    (case eGCB => k_is)
    (case eHCB => k_is)
    (case e2CN => k_is)
    (case e3CN => (first | rfl | decide +kernel))
    (case e4CN => k_is)
    (case e5CN => k_is)
    (case e6CN => k_is)
    (case e7CN => k_is)
    (case e8CN => k_is)
    (case e9CN => k_is)
    (case eACN => k_is)
    (case eBCN => k_is)
    (case eBCNc => k_is)
    (case eBCNk => k_is)
    (case sACN => k_is)
    (case sBCN => k_is)
    (case sCCN => k_is)
    (case sDCN => k_is)
    (case sECN => k_is)
    (case eDCN => k_is)
    (case eECN => k_is)
    (case eFCN => k_is)
    (case eGCN => k_is)
    (case eHCN => k_is)
    (case i1 => k_is)
    (case i2 => k_is)
