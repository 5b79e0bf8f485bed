import PyProof.Rows.All
import Wide.All
import OpenK.AllK
import Wide.FinOn
import HandS.ForMost
import HandS.ForExc
import HandS.Star
import HandS.Property
import HandS.ClsMeth
import HandS.IsInst
import HandS.FStr
import HandS.Flow
import HandS.Walk
import HandS.RevRange
import HandS.ExcInit
import HandS.ExcField
import HandS.ExcIs
import HandS.SlotsOwn
import HandS.TupLe
import HandS.IterVal
import HandS.GenBody
import HandS.GenYield
import HandS.GenCall
import HandS.GenList
import HandS.Style
import HandS.TupAny
import HandS.ExcOwn
import PyProof.StrOps2
import PySem.Challenge.RW_treeworks_k00_terms_order
set_option Elab.async false
set_option linter.all false
set_option maxRecDepth 100000
set_option maxHeartbeats 4000000
/-! Terms and order of trees: the program's small defs about names. -/
namespace Tw
open PySem PySem.Spec PyProof.Rows L2
def top (i : Nat) : Stmt := PySem.Challenge.pw_treeworks_k00_terms_order.main.body.getD i (.Pass ⟨0, 0, 0, 0⟩)
abbrev sSmall : Stmt := top 7
abbrev sCapital : Stmt := top 8
abbrev sDigit : Stmt := top 9
abbrev sBig : Stmt := top 10

/-! ### signs and names -/
def isSmall (c : Nat) : Bool := decide (97 ≤ c) && decide (c ≤ 122)
def isCap (c : Nat) : Bool := decide (65 ≤ c) && decide (c ≤ 90)
def isDig (c : Nat) : Bool := decide (48 ≤ c) && decide (c ≤ 57)
def isWord (c : Nat) : Bool := isCap c || isSmall c || isDig c
/-- the name of a digit -/
def digName : List Nat → Bool
  | [c] => isDig c
  | _ => false
/-- a big name -/
def bigName : List Nat → Bool
  | [] => false
  | c :: r => isCap c && (c :: r).all isWord && decide (r.length < 8)

def spOne (p : Nat → Bool) : Sp := fun vs H Q _ => ∃ c : Nat, vs = [.str ⟨#[c]⟩] ∧ Q (.bl (p c)) H
def spDigit : Sp := fun vs H Q _ => ∃ z : Str, vs = [.str z] ∧ z.length ≤ sizeLine ∧ Q (.bl (digName z.cps.toList)) H
def spBig : Sp := fun vs H Q _ => ∃ z : Str, vs = [.str z] ∧ z.length ≤ sizeLine ∧ ∀ H', Same H H' → Q (.bl (bigName z.cps.toList)) H'

theorem lt_one {a b : Nat} : decide (([a] : List Nat) < [b]) = decide (a < b) := by
  rcases Nat.lt_trichotomy a b with h | h | h
  · rw [decide_eq_true h]; exact decide_eq_true (List.Lex.rel h)
  · subst h
    rw [decide_eq_false (Nat.lt_irrefl a)]
    exact decide_eq_false (List.lt_irrefl _)
  · rw [decide_eq_false (Nat.lt_asymm h)]
    refine decide_eq_false fun z => ?_
    cases z with
    | rel q => exact Nat.lt_asymm h q
    | cons q => exact Nat.lt_irrefl _ h
section
variable {P : Program} {w : World} {K : PySem.W.Frag} {mg : Str → Option Value} {base : Heap}
theorem scS : FnScope ["character"] ["character"] (defScope sSmall) := ⟨rfl, rfl, rfl, by decide +kernel, rfl, by decide +kernel, by decide +kernel⟩
theorem scC : FnScope ["character"] ["character"] (defScope sCapital) := ⟨rfl, rfl, rfl, by decide +kernel, rfl, by decide +kernel, by decide +kernel⟩
theorem scD : FnScope ["name"] ["name"] (defScope sDigit) := ⟨rfl, rfl, rfl, by decide +kernel, rfl, by decide +kernel, by decide +kernel⟩
theorem scB : FnScope ["name", "sign"] ["name"] (defScope sBig) := ⟨rfl, rfl, rfl, by decide +kernel, rfl, by decide +kernel, by decide +kernel⟩
theorem one_between {lo hi c : Nat} : (if (!decide (([c] : List Nat) < [lo])) = true then (!decide (([hi] : List Nat) < [c])) else false) = (decide (lo ≤ c) && decide (c ≤ hi)) := by
  rw [lt_one, lt_one]
  by_cases h1 : c < lo <;> by_cases h2 : hi < c <;> simp [h1, h2] <;> omega
theorem ok_small {f : Addr} {fd : FuncData} (F : Fun K "is_small_letter" "is_small_letter" sSmall f fd) : FnOk P w K mg base CX0 1 f fd ["character"] (spOne isSmall) := by
  refine F.ok scS (fun vs H Q E h => ?_) (fun cdv A outer s H vs Q E hr h => ?_)
  · obtain ⟨c, rfl, _⟩ := h
    rfl
  · obtain ⟨c, rfl, q⟩ := h
    refine ⟨_, pss_one (ps_ret (pe_chain op_le_str op_le_str pe_str (pv 0) pe_str)), ?_⟩
    refine ⟨_, rfl, _, _, rfl, rfl, _, rfl, ?_⟩
    have e : (!decide (([c] : List Nat) < [97])) = true → (!decide (([122] : List Nat) < [c])) = isSmall c := fun h => by
      have := one_between (lo := 97) (hi := 122) (c := c)
      rw [if_pos h] at this
      exact this
    have e2 : ¬ (!decide (([c] : List Nat) < [97])) = true → false = isSmall c := fun h => by
      have := one_between (lo := 97) (hi := 122) (c := c)
      rw [if_neg h] at this
      exact this
    refine ite2 (fun h => ?_) (fun h => ?_)
    · refine ⟨_, _, rfl, rfl, ?_⟩
      exact (e h) ▸ q
    · exact (e2 h) ▸ q
theorem ok_capital {f : Addr} {fd : FuncData} (F : Fun K "is_capital" "is_capital" sCapital f fd) : FnOk P w K mg base CX0 1 f fd ["character"] (spOne isCap) := by
  refine F.ok scC (fun vs H Q E h => ?_) (fun cdv A outer s H vs Q E hr h => ?_)
  · obtain ⟨c, rfl, _⟩ := h
    rfl
  · obtain ⟨c, rfl, q⟩ := h
    refine ⟨_, pss_one (ps_ret (pe_chain op_le_str op_le_str pe_str (pv 0) pe_str)), ?_⟩
    refine ⟨_, rfl, _, _, rfl, rfl, _, rfl, ?_⟩
    have e : (!decide (([c] : List Nat) < [65])) = true → (!decide (([90] : List Nat) < [c])) = isCap c := fun h => by
      have := one_between (lo := 65) (hi := 90) (c := c)
      rw [if_pos h] at this
      exact this
    have e2 : ¬ (!decide (([c] : List Nat) < [65])) = true → false = isCap c := fun h => by
      have := one_between (lo := 65) (hi := 90) (c := c)
      rw [if_neg h] at this
      exact this
    refine ite2 (fun h => ?_) (fun h => ?_)
    · refine ⟨_, _, rfl, rfl, ?_⟩
      exact (e h) ▸ q
    · exact (e2 h) ▸ q
theorem dig_long {z : Str} (h : ¬ V.int (z.length : Int) = V.int 1) : digName z.cps.toList = false := by
  have h' : z.cps.toList.length ≠ 1 := fun e => h (by
    have : z.length = 1 := by rw [← e]; simp [Str.length]
    rw [this]; rfl)
  match e : z.cps.toList with
  | [] => rfl
  | [c] => rw [e] at h'; exact absurd rfl h'
  | _ :: _ :: _ => rfl
theorem one_sign {z : Str} (h : V.int (z.length : Int) = V.int 1) : ∃ c, z = ⟨#[c]⟩ := by
  have h1 : z.length = 1 := by
    have := V.int.inj h
    omega
  obtain ⟨a⟩ := z
  have h2 : a.size = 1 := h1
  refine ⟨a[0], ?_⟩
  congr
  apply Array.ext
  · simp [h2]
  · intro i hi1 hi2
    have : i = 0 := by omega
    subst this
    rfl
theorem ok_digit (ml : mg "len" = none) {f : Addr} {fd : FuncData} (F : Fun K "is_digit" "is_digit" sDigit f fd) : FnOk P w K mg base CX0 1 f fd ["name"] spDigit := by
  refine F.ok scD (fun vs H Q E h => ?_) (fun cdv A outer s H vs Q E hr h => ?_)
  · obtain ⟨c, rfl, _⟩ := h
    rfl
  · obtain ⟨z, rfl, hz, q⟩ := h
    refine ⟨_, pss_one (ps_ret (pe_and (pe_cmpR op_eq (pe_callB call_len_str rfl ml PySem.boot_len (pa_cons (pv 0) pa_nil)) pe_int (nomark _)) (pe_one (pe_chain op_le_str op_le_str pe_str (pv 0) pe_str)))), ?_⟩
    refine ⟨_, rfl, z, rfl, hz, rfl, _, rfl, ?_⟩
    refine ite2 (fun h => ?_) (fun h => ?_)
    · obtain ⟨c, rfl⟩ := one_sign (of_decide_eq_true h)
      refine ⟨_, rfl, _, _, rfl, rfl, _, rfl, ?_⟩
      have e : (!decide (([c] : List Nat) < [48])) = true → (!decide (([57] : List Nat) < [c])) = isDig c := fun h => by
        have := one_between (lo := 48) (hi := 57) (c := c)
        rw [if_pos h] at this
        exact this
      have e2 : ¬ (!decide (([c] : List Nat) < [48])) = true → false = isDig c := fun h => by
        have := one_between (lo := 48) (hi := 57) (c := c)
        rw [if_neg h] at this
        exact this
      refine ite2 (fun h => ?_) (fun h => ?_)
      · refine ⟨_, _, rfl, rfl, ?_⟩
        exact (e h) ▸ q
      · exact (e2 h) ▸ q
    · have e := dig_long (of_decide_eq_false (Bool.eq_false_iff.mpr h))
      exact e ▸ q
/-- what the top leaves for these -/
structure TxtN (K : PySem.W.Frag) (mg : Str → Option Value) (fS fC fD : Addr) : Prop where
  len : mg "len" = none
  all : mg "all" = none
  mSize : mg "MOST_CHARACTERS" = some (.int 8 0) ∨ ∃ t, mg "MOST_CHARACTERS" = some (.int 8 t)
  gS : mg "is_small_letter" = some (.ref fS)
  gC : mg "is_capital" = some (.ref fC)
  gD : mg "is_digit" = some (.ref fD)
end
end Tw
set_option maxHeartbeats 4000000
/-! Short words: a def by a positional promise, its call; trees, in Lean and in the heap. -/
namespace Tw
open PySem PySem.Spec PyProof.Rows L2
/-- a global def as callers see it -/
structure Gf (K : PySem.W.Frag) (mg : Str → Option Value) (x : Str) (f : Addr) : Prop where
  m : mg x = some (.ref f)
  k : PySem.W.keepIn K (.ref f) = true
def tCf (sp : Sp) (E : XK) (t : TA) : TE := fun σ H Q => t σ H fun vs H1 => sp vs H1 Q E
section
variable {X : Cx} {CX : CXT} {k : Nat} {f : Addr} {sp : Sp} {E : XK} {x : Str} {e : Expr} {es : List Expr} {t : TA} {p pos : Pos}
theorem pe_cf (F : FnR X.prog X.w X.K X.mg X.base CX k f sp) (hr : Room k X.A) (g : Gf X.K X.mg x f) (hx : Passes CX X E) (ha : PA X (e :: es) t) (hg : Gl X x := by rfl) (hdb : (x == ("__debug__" : Str)) = false := by decide)
    (he : starEach (e :: es) X.env = (false, eval e X.env) :: starEach es X.env := by rfl) (hpl : (backTo pos (starEach es X.env)).any (·.1) = false := by rfl) : PE X (.Call (.Name x p) (e :: es) [] pos) (tCf sp E t) := by
  refine ⟨fun pins s σ H Q I h => ?_⟩
  refine wpAny_Call_Name_kw (ld_glob I hg g.m ?_ hdb)
  refine PySem.W.callWith_K (h₀ := X.base) I.ok.mod.kin g.k (thn (ha.run pos pins s σ H _ I h) fun us s1 ⟨vs, H1, I1, r, q⟩ => ⟨I1.kIn, ?_⟩) he hpl
  exact wpAny_call (run_fnR F hr hx I1 r q)
end
section
variable {P : Program} {w : World} {K : PySem.W.Frag} {mg : Str → Option Value} {base : Heap}
/-- a def, by its body, to its positional promise -/
theorem okR {x qual : Str} {st : Stmt} {f : Addr} {fd : FuncData} {N ps : List Str} {k : Nat} {sp : Sp} (F : Fun K x qual st f fd) (S : FnScope N ps (defScope st)) (len : ∀ vs H Q E, sp vs H Q E → vs.length = ps.length)
    (hb : ∀ (kV doc pm : Value) (an : Option Addr) (cdv ct : Value) (us : List Value), us.length = ps.length → bindArgs (PySem.W.fnOf x qual (defArgs st) (defBody st) (defScope st) .none kV doc pm an cdv ct) ⟨us, []⟩ = pure (ps.zip us))
    (hbody : ∀ (cdv : Value) (A : Around) (outer : List Env) (s : Shared) (H : Hp) (vs : List V) (Q : VK) (E : XK), Room k (A.deeper (envOfC qual (defScope st) s.heap.objs.size f cdv)) → sp vs H Q E →
      ∃ t, PSs (cxOf CX0 P w K mg base N qual (defScope st) f cdv A outer s H E).nox (defBody st) t ∧ t { nx := fun _ H' => Q .non H', rt := Q } (start N vs) H) : FnR P w K mg base CX0 (k + 1) f sp :=
  ((F.ok S len hbody).raw (F.binds hb) .nil).imp fun vs H Q E h => by rw [List.append_nil]; exact h
end
/-! ### terms -/
inductive T where
  | node (n : Str) (ps : List T)
mutual
def T.size : T → Nat
  | .node _ ps => 1 + T.sizes ps
def T.sizes : List T → Nat
  | [] => 0
  | t :: r => t.size + T.sizes r
end
mutual
def T.levels : T → Nat
  | .node _ ps => 1 + T.mostFrom 0 ps
def T.mostFrom : Nat → List T → Nat
  | m, [] => m
  | m, t :: r => T.mostFrom (if t.levels > m then t.levels else m) r
end
mutual
def T.term : T → Str
  | .node n [] => n
  | .node n (t :: r) => n ++ "(" ++ Txt.join ", " (t.term :: T.terms r) ++ ")"
def T.terms : List T → List Str
  | [] => []
  | t :: r => t.term :: T.terms r
end
mutual
def T.gaps : T → Nat
  | .node n ps => if n = "_" ∧ ps = [] then 1 else T.gapsL ps
def T.gapsL : List T → Nat
  | [] => 0
  | t :: r => t.gaps + T.gapsL r
end
def T.name : T → Str
  | .node n _ => n
def T.parts : T → List T
  | .node _ ps => ps
/-! ### trees in the heap -/
def fT (p : Addr) (t : T) : List (Str × V) := [("name", .str t.name), ("parts", .ref p), ("size", .int t.size), ("levels", .int t.levels), ("term", .str t.term), ("_gaps", .int t.gaps)]
mutual
/-- v is a Tree object of the class at C that stands for t -/
def TreeAt (C : Addr) (H : Hp) : V → T → Prop
  | v, .node n ps => ∃ a dx p vs, v = .ref a ∧ H a = some (.ins C dx (fT p (.node n ps))) ∧ H p = some (.tup vs) ∧ TreesAt C H vs ps
def TreesAt (C : Addr) (H : Hp) : List V → List T → Prop
  | [], [] => True
  | v :: vs, t :: ts => TreeAt C H v t ∧ TreesAt C H vs ts
  | [], _ :: _ => False
  | _ :: _, [] => False
end
theorem TreeAt.ex {C : Addr} {H : Hp} {v : V} {t : T} (h : TreeAt C H v t) : ∃ a dx p vs, v = .ref a ∧ H a = some (.ins C dx (fT p t)) ∧ H p = some (.tup vs) ∧ TreesAt C H vs t.parts := by
  cases t with
  | node n ps =>
    unfold TreeAt at h
    exact h
theorem TreeAt.mk {C : Addr} {H : Hp} {a dx p : Addr} {vs : List V} {t : T} (h1 : H a = some (.ins C dx (fT p t))) (h2 : H p = some (.tup vs)) (h3 : TreesAt C H vs t.parts) : TreeAt C H (.ref a) t := by
  cases t with
  | node n ps =>
    unfold TreeAt
    exact ⟨a, dx, p, vs, rfl, h1, h2, h3⟩
theorem TreesAt.len {C : Addr} {H : Hp} : ∀ {vs : List V} {ts : List T}, TreesAt C H vs ts → vs.length = ts.length
  | [], [], _ => rfl
  | _ :: _, _ :: _, h => by
    unfold TreesAt at h
    rw [List.length_cons, List.length_cons, TreesAt.len h.2]
  | [], _ :: _, h => by unfold TreesAt at h; exact h.elim
  | _ :: _, [], h => by unfold TreesAt at h; exact h.elim
theorem TreesAt.get {C : Addr} {H : Hp} : ∀ {vs : List V} {ts : List T} {i : Nat} {v : V}, TreesAt C H vs ts → vs[i]? = some v → ∃ t, ts[i]? = some t ∧ TreeAt C H v t
  | [], _, i, v, _, e => by simp at e
  | v' :: vs, t :: ts, 0, v, h, e => by
    unfold TreesAt at h
    have : v' = v := by simpa using e
    subst this
    exact ⟨t, rfl, h.1⟩
  | v' :: vs, t :: ts, i + 1, v, h, e => by
    unfold TreesAt at h
    obtain ⟨t', e', h'⟩ := TreesAt.get (i := i) (v := v) h.2 (by simpa using e)
    exact ⟨t', by simpa using e', h'⟩
  | _ :: _, [], _, _, h, _ => by unfold TreesAt at h; exact h.elim
theorem TreesAt.snoc {C : Addr} {H : Hp} {v : V} {t : T} (h1 : TreeAt C H v t) : ∀ {vs : List V} {ts : List T}, TreesAt C H vs ts → TreesAt C H (vs ++ [v]) (ts ++ [t])
  | [], [], _ => by
    show TreesAt C H [v] [t]
    unfold TreesAt
    exact ⟨h1, by unfold TreesAt; trivial⟩
  | _ :: _, _ :: _, h => by
    unfold TreesAt at h
    show TreesAt C H (_ :: (_ ++ [v])) (_ :: (_ ++ [t]))
    unfold TreesAt
    exact ⟨h.1, TreesAt.snoc h1 h.2⟩
  | [], _ :: _, h => by unfold TreesAt at h; exact h.elim
  | _ :: _, [], h => by unfold TreesAt at h; exact h.elim
mutual
theorem TreeAt.mono {C : Addr} {H H' : Hp} (s : Same H H') : ∀ {v : V} {t : T}, TreeAt C H v t → TreeAt C H' v t
  | v, .node n ps, h => by
    obtain ⟨a, dx, p, vs, rfl, h1, h2, h3⟩ := h.ex
    exact .mk (s _ _ h1) (s _ _ h2) (TreesAt.mono s h3)
theorem TreesAt.mono {C : Addr} {H H' : Hp} (s : Same H H') : ∀ {vs : List V} {ts : List T}, TreesAt C H vs ts → TreesAt C H' vs ts
  | [], [], _ => by unfold TreesAt; trivial
  | v :: vs, t :: ts, h => by
    unfold TreesAt at h ⊢
    exact ⟨TreeAt.mono s h.1, TreesAt.mono s h.2⟩
  | [], _ :: _, h => by unfold TreesAt at h; exact h.elim
  | _ :: _, [], h => by unfold TreesAt at h; exact h.elim
end
end Tw
set_option maxHeartbeats 4000000
/-! most_levels. -/
namespace Tw
open PySem PySem.Spec PyProof.Rows L2
abbrev sTree (j : Nat) : Stmt := inClass (top 14) j
abbrev sMost : Stmt := top 16
theorem nameNe : (("parts" : Str) == ("name" : Str)) = false ∧ (("size" : Str) == ("name" : Str)) = false ∧ (("size" : Str) == ("parts" : Str)) = false ∧ (("levels" : Str) == ("name" : Str)) = false ∧ (("levels" : Str) == ("parts" : Str)) = false ∧ (("levels" : Str) == ("size" : Str)) = false ∧
    (("term" : Str) == ("name" : Str)) = false ∧ (("term" : Str) == ("parts" : Str)) = false ∧ (("term" : Str) == ("size" : Str)) = false ∧ (("term" : Str) == ("levels" : Str)) = false ∧
    (("_gaps" : Str) == ("name" : Str)) = false ∧ (("_gaps" : Str) == ("parts" : Str)) = false ∧ (("_gaps" : Str) == ("size" : Str)) = false ∧ (("_gaps" : Str) == ("levels" : Str)) = false ∧ (("_gaps" : Str) == ("term" : Str)) = false := by decide +kernel
section
variable {p : Addr} {t : T}
theorem fT_name : (fT p t).lookup ("name" : Str) = some (.str t.name) := by simp only [fT, List.lookup, beq_self_eq_true]
theorem fT_parts : (fT p t).lookup ("parts" : Str) = some (.ref p) := by simp only [fT, List.lookup, beq_self_eq_true, nameNe]
theorem fT_size : (fT p t).lookup ("size" : Str) = some (.int t.size) := by simp only [fT, List.lookup, beq_self_eq_true, nameNe]
theorem fT_levels : (fT p t).lookup ("levels" : Str) = some (.int t.levels) := by simp only [fT, List.lookup, beq_self_eq_true, nameNe]
theorem fT_term : (fT p t).lookup ("term" : Str) = some (.str t.term) := by simp only [fT, List.lookup, beq_self_eq_true, nameNe]
theorem fT_gaps : (fT p t).lookup ("_gaps" : Str) = some (.int t.gaps) := by simp only [fT, List.lookup, beq_self_eq_true, nameNe]
end
/-- what the top says of the class Tree, as far as its fields go -/
structure Tt (K : PySem.W.Frag) (C : Addr) : Prop where
  cl : Cls K C
  nName : NoAttr K C "name"
  nParts : NoAttr K C "parts"
  nSize : NoAttr K C "size"
  nLevels : NoAttr K C "levels"
  nTerm : NoAttr K C "term"
  nGaps : NoAttr K C "_gaps"
theorem take_snoc {α : Type} : ∀ {l : List α} {i : Nat} {x : α}, l[i]? = some x → l.take (i + 1) = l.take i ++ [x]
  | [], i, x, h => by simp at h
  | a :: l, 0, x, h => by
    have e : a = x := Option.some.inj h
    subst e
    rfl
  | a :: l, i + 1, x, h => by
    have ih := take_snoc (l := l) (i := i) (x := x) h
    show a :: l.take (i + 1) = a :: l.take i ++ [x]
    rw [ih]
    rfl
theorem mostFrom_snoc (t : T) : ∀ (l : List T) (m : Nat), T.mostFrom m (l ++ [t]) = if t.levels > T.mostFrom m l then t.levels else T.mostFrom m l
  | [], m => by
    show T.mostFrom (if t.levels > m then t.levels else m) [] = _
    unfold T.mostFrom
    rfl
  | a :: l, m => by
    show T.mostFrom m (a :: (l ++ [t])) = _
    unfold T.mostFrom
    exact mostFrom_snoc t l _
def spMost (K : PySem.W.Frag) (C : Addr) : Sp := fun vs H Q _ => ∃ (p : Addr) (ws : List V) (ts : List T), vs = [.ref p] ∧ SqT K H p ws ∧ TreesAt C H ws ts ∧ Q (.int (T.mostFrom 0 ts : Nat)) H
section
variable {P : Program} {w : World} {K : PySem.W.Frag} {mg : Str → Option Value} {base : Heap} {C : Addr}
theorem scM : FnScope ["trees", "most", "tree"] ["trees"] (defScope sMost) := ⟨rfl, rfl, rfl, by decide +kernel, rfl, by decide +kernel, by decide +kernel⟩
theorem ok_most (T1 : Tt K C) {f : Addr} {fd : FuncData} (F : Fun K "most_levels" "most_levels" sMost f fd) : FnR P w K mg base CX0 1 f (spMost K C) := by
  refine okR F scM (fun vs H Q E h => ?_) (fun _ _ _ _ _ _ us hl => match us, hl with | [_], _ => rfl) (fun cdv A outer s H vs Q E hr h => ?_)
  · obtain ⟨p, ws, ts, rfl, _⟩ := h
    rfl
  · obtain ⟨p, ws, ts, rfl, hp, ht, q⟩ := h
    refine ⟨_, pss_cons (ps_set (i := 1) scM.nd rfl (Or.inl rfl) pe_int)
      (pss_cons (ps_for PassesOwn.never rfl (pi_tup (pv 0)) (pg_name (i := 2) scM.nd rfl (Or.inl rfl))
        (pss_one (ps_if (pt_cmpR op_gt (pe_fld (pv 2) rfl) (pv 1) (nomark _)) (pss_one (ps_set (i := 1) scM.nd rfl (Or.inl rfl) (pe_fld (pv 2) rfl))) pss_nil)))
      (pss_one (ps_ret (pv 1)))), ?_⟩
    refine ⟨_, rfl, p, rfl, ⟨_, hp⟩, for_tup (K := K) (a := p) (xs := ws) (fun i σ H' => H' = H ∧ ∃ v, σ = [some (.ref p), some (.int (T.mostFrom 0 (ts.take i) : Nat)), v])
      ⟨rfl, none, rfl⟩ (fun i σ H' _ ⟨e, _⟩ => e ▸ hp) ?_ ?_⟩
    · rintro i x σ H' hi ⟨rfl, v, rfl⟩
      obtain ⟨t, e, ha⟩ := ht.get hi
      obtain ⟨a, dx, p', vs', rfl, h1, h2, h3⟩ := ha.ex
      refine ⟨_, rfl, a, C, dx, _, _, rfl, h1, T1.cl, T1.nLevels, fT_levels, _, rfl, _, _, rfl, rfl, _, rfl, ?_⟩
      have en : T.mostFrom 0 (ts.take (i + 1)) = if t.levels > T.mostFrom 0 (ts.take i) then t.levels else T.mostFrom 0 (ts.take i) := by
        rw [take_snoc e, mostFrom_snoc]
      refine ite2 (fun c => ?_) (fun c => ?_)
      · have c' : t.levels > T.mostFrom 0 (ts.take i) := by
          have := of_decide_eq_true c
          omega
        refine ⟨_, rfl, a, C, dx, _, _, rfl, h1, T1.cl, T1.nLevels, fT_levels, rfl, some (.ref a), ?_⟩
        rw [en, if_pos c']
        rfl
      · have c' : ¬ t.levels > T.mostFrom 0 (ts.take i) := by
          have := of_decide_eq_false (Bool.eq_false_iff.mpr c)
          omega
        refine ⟨rfl, some (.ref a), ?_⟩
        rw [en, if_neg c']
        rfl
    · rintro σ H' ⟨rfl, v, rfl⟩
      rw [ht.len, List.take_length]
      exact ⟨_, rfl, q⟩
end
end Tw
set_option maxHeartbeats 4000000
/-! Tree.__init__. -/
namespace Tw
open PySem PySem.Spec PyProof.Rows L2
/-- a comprehension whose element is found without a change of the heap: ys[i] of xs[i] -/
theorem lc_map {J : It} {xs ys : List V} {G : Hp → Prop} (w : Walk J xs.length G (YAt xs)) {g : TG} {te : TE} {vs : List Nat} {σ : L2.St} {H1 : Hp} {D : Addr} {Qd : Hp → Prop} (hD : H1 D = none) (hG : ∀ H, Same H1 H → G H) (hl : ys.length = xs.length) (hz : xs.length ≤ sizeLine)
    (hs : ∀ (i : Nat) x y H (R : VK), xs[i]? = some x → ys[i]? = some y → Same H1 H → R y H → g x (wipe σ vs) H fun σ2 H2 => wipe σ2 vs = wipe σ vs ∧ te σ2 H2 R)
    (hd : Qd (upd H1 D (.lst ys))) :
    ∃ W : Nat → Nat → Hp → Prop, (∃ m, W 0 m (upd H1 D (.lst []))) ∧ ∀ i m H, W i m H →
      (J.stop i H ∧ Qd H) ∨ (J.go i H ∧ ∃ Nx : Hp → Prop, (∀ H', Nx H' → ∃ m', m' < m ∧ W (i + 1) m' H') ∧ ∀ x H', J.yld i H x H' → g x (wipe σ vs) H' fun σ2 H2 => wipe σ2 vs = wipe σ vs ∧ tYes σ2 H2 fun b H3 =>
        if b = true then te σ2 H3 fun y H4 => ∃ acc, H4 D = some (.lst acc) ∧ acc.length < sizeLine ∧ Nx (upd H4 D (.lst (acc ++ [y]))) else Nx H3) := by
  have same : ∀ zs : List V, Same H1 (upd H1 D (.lst zs)) := fun zs b o e => by rw [upd_ne (ne_of_none e hD)]; exact e
  refine lc_it w (fun i H => H = upd H1 D (.lst (ys.take i))) rfl (fun i H _ e => e ▸ hG _ (same _)) (fun i x H H' hi e y => ?_) (fun H e => ?_)
  · obtain ⟨rfl, hx⟩ := y
    have hi' : i < ys.length := by omega
    have hy : ys[i]? = some ys[i] := by simp [hi']
    have := hs i x ys[i] H' (fun y H4 => ∃ acc, H4 D = some (.lst acc) ∧ acc.length < sizeLine ∧ upd H4 D (.lst (acc ++ [y])) = upd H1 D (.lst (ys.take (i + 1)))) hx hy (e ▸ same _) ⟨ys.take i, by rw [e, upd_same], by rw [List.length_take]; omega, by rw [e, upd_upd, take_snoc hy]⟩
    exact this
  · subst e
    rw [← hl, List.take_length]
    exact hd
section
variable {X : Cx} {x : Str} {pos : Pos}
theorem pe_gs {z : Str} {tk : Tok} (hm : X.mg x = some (.str z tk)) (hg : Gl X x := by rfl) (hd : (x == ("__debug__" : Str)) = false := by decide) : PE X (.Name x pos) (tC (.str z)) := pe_glob hg hm ⟨tk, rfl⟩ hd
theorem pe_gi {z : Int} {tk : Tok} (hm : X.mg x = some (.int z tk)) (hg : Gl X x := by rfl) (hd : (x == ("__debug__" : Str)) = false := by decide) : PE X (.Name x pos) (tC (.int z)) := pe_glob hg hm ⟨tk, rfl⟩ hd
theorem pe_gr {a : Addr} (hm : X.mg x = some (.ref a)) (hg : Gl X x := by rfl) (hd : (x == ("__debug__" : Str)) = false := by decide) : PE X (.Name x pos) (tC (.ref a)) := pe_glob hg hm rfl hd
end
abbrev sInit : Stmt := sTree 2
section
variable {P : Program} {w : World} {K : PySem.W.Frag} {mg : Str → Option Value} {base : Heap} {C : Addr}
/-- a def with one star parameter behind its others -/
theorem okStar {x qual : Str} {st : Stmt} {f : Addr} {fd : FuncData} {N ps : List Str} {pv : Str} {k : Nat} {sp : Sp} (F : Fun K x qual st f fd) (S : FnScope N (ps ++ [pv]) (defScope st))
    (hb : ∀ (kV doc pm : Value) (an : Option Addr) (cdv ct : Value) (us rest : List Value), us.length = ps.length → bindArgs (PySem.W.fnOf x qual (defArgs st) (defBody st) (defScope st) .none kV doc pm an cdv ct) ⟨us ++ rest, []⟩ = (newTuple rest >>= fun t => pure (ps.zip us ++ [(pv, t)])))
    (hbody : ∀ (cdv : Value) (A : Around) (outer : List Env) (s : Shared) (H : Hp) (vs : List V) (Q : VK) (E : XK), Room k (A.deeper (envOfC qual (defScope st) s.heap.objs.size f cdv)) → sp vs H Q E →
      ∃ t, PSs (cxOf CX0 P w K mg base N qual (defScope st) f cdv A outer s H E).nox (defBody st) t ∧ t { nx := fun _ H' => Q .non H', rt := Q } (start N vs) H) :
    FnR P w K mg base CX0 (k + 1) f (fun vs H Q E => ∃ ws rest, vs = ws ++ rest ∧ ws.length = ps.length ∧ rest.length ≤ sizeLine ∧ ∀ p, H p = none → sp (ws ++ [V.ref p]) (upd H p (.tup rest)) Q E) := by
  obtain ⟨oc, od, kV, doc, pm, an, cdv, ct, osl, rfl, lk, hcd⟩ := F.ex
  refine StX.fn_star lk hcd S StX.cxUp_none (hb kV doc pm an cdv ct) fun A outer s H vs Q E hr h => ?_
  obtain ⟨t, h1, h2⟩ := hbody cdv A outer s H vs Q E hr h
  exact ⟨t, h1.nox, h2⟩
end
theorem putF_len (f : Str) (v : V) : ∀ fs : List (Str × V), (putF f v fs).length ≤ fs.length + 1
  | [] => Nat.le_refl _
  | (g, x) :: r => by
    unfold putF
    split
    · exact Nat.le_succ _
    · exact Nat.succ_le_succ (putF_len f v r)
theorem putF_new (f : Str) (v : V) : ∀ fs : List (Str × V), fs.lookup f = none → putF f v fs = fs ++ [(f, v)]
  | [], _ => rfl
  | (g, x) :: r, h => by
    unfold putF
    by_cases e : g = f
    · subst e
      simp [List.lookup] at h
    · rw [if_neg e]
      have e' : (f == g) = false := by simpa using fun z => e z.symm
      simp only [List.lookup, e'] at h
      rw [putF_new f v r h]
      rfl
/-- an instance that is being filled; all else as it was -/
structure StI (C a dx : Addr) (H H' : Hp) (fs : List (Str × V)) : Prop where
  at_ : H' a = some (.ins C dx fs)
  kp : ∀ b o, H b = some o → b ≠ a → H' b = some o
theorem StI.store {C a dx : Addr} {H H' : Hp} {fs : List (Str × V)} (s : StI C a dx H H' fs) (f : Str) (v : V) : StI C a dx H (upd H' a (.ins C dx (putF f v fs))) (putF f v fs) :=
  ⟨upd_same, fun b o e n => by rw [upd_ne n]; exact s.kp b o e n⟩
theorem StI.add {C a dx D : Addr} {H H' : Hp} {fs : List (Str × V)} {o : HO} (s : StI C a dx H H' fs) (hD : H' D = none) : StI C a dx H (upd H' D o) fs :=
  ⟨by rw [upd_ne (ne_of_none s.at_ hD)]; exact s.at_, fun b o e n => by rw [upd_ne (ne_of_none (s.kp b o e n) hD)]; exact s.kp b o e n⟩
theorem StI.same {C a dx : Addr} {H H1 H2 : Hp} {fs : List (Str × V)} (s : StI C a dx H H1 fs) (k : Same H1 H2) : StI C a dx H H2 fs :=
  ⟨k _ _ s.at_, fun b o e n => k _ _ (s.kp b o e n)⟩
def Tm (t : T) : Nat := t.term.length
/-- the sizes of a term's texts as the model bounds them -/
def TermFits (n : Str) (ts : List T) : Prop := n.length ≤ 1000000 ∧ ts.length ≤ 1000000 ∧ ((T.terms ts).map (·.length)).sum + ts.length * 2 ≤ 4000000
def spInit (C : Addr) : Sp := fun vs H Q _ => ∃ (a dx p : Addr) (n : Str) (ws : List V) (ts : List T), vs = [.ref a, .str n, .ref p] ∧ H a = some (.ins C dx []) ∧ H p = some (.tup ws) ∧ a ≠ p ∧ (∀ H', (∀ b o, H b = some o → b ≠ a → H' b = some o) → TreesAt C H' ws ts) ∧ TermFits n ts ∧
  ∀ H', H' a = some (.ins C dx (fT p (.node n ts))) → (∀ b o, H b = some o → b ≠ a → H' b = some o) → Q .non H'
theorem TreesAt.ints {C : Addr} {H : Hp} {ws : List V} {ts : List T} (h : TreesAt C H ws ts) {i : Nat} {x : V} (hx : ws[i]? = some x) : ∃ t a dx p, ts[i]? = some t ∧ x = .ref a ∧ H a = some (.ins C dx (fT p t)) := by
  obtain ⟨t, e, ht⟩ := h.get hx
  obtain ⟨a, dx, p, vs, rfl, h1, _, _⟩ := ht.ex
  exact ⟨t, a, dx, p, e, rfl, h1⟩
theorem sizes_sum : ∀ ts : List T, (ts.map fun t => (t.size : Int)).sum = (T.sizes ts : Int)
  | [] => rfl
  | t :: r => by
    unfold T.sizes
    rw [List.map_cons, List.sum_cons, sizes_sum r]
    omega
theorem gaps_sum : ∀ ts : List T, (ts.map fun t => (t.gaps : Int)).sum = (T.gapsL ts : Int)
  | [] => rfl
  | t :: r => by
    unfold T.gapsL
    rw [List.map_cons, List.sum_cons, gaps_sum r]
    omega
theorem terms_map : ∀ ts : List T, T.terms ts = ts.map T.term
  | [] => rfl
  | t :: r => by
    unfold T.terms
    rw [List.map_cons, terms_map r]
theorem get_map {α : Type} {f : T → α} {ts : List T} {i : Nat} {t : T} {y : α} (e : ts[i]? = some t) (h : (ts.map f)[i]? = some y) : y = f t := by
  rw [List.getElem?_map, e] at h
  exact (Option.some.inj h).symm
theorem empty_add (n : Str) : Str.empty ++ n = n := by
  obtain ⟨c⟩ := n
  show (⟨#[] ++ c⟩ : Str) = ⟨c⟩
  simp
theorem add_len (a b : Str) : (a ++ b).length = a.length + b.length := by
  obtain ⟨a⟩ := a
  obtain ⟨b⟩ := b
  show (a ++ b).size = a.size + b.size
  simp
theorem term_cons (n : Str) : ∀ {ts : List T}, ts ≠ [] → T.term (.node n ts) = n ++ "(" ++ Txt.join ", " (T.terms ts) ++ ")"
  | [], h => absurd rfl h
  | t :: r, _ => by
    simp only [T.term, T.terms]
theorem fT_built (p : Addr) (n : Str) (ts : List T) : putF "_gaps" (.int (T.gaps (.node n ts))) (putF "term" (.str (T.term (.node n ts))) (putF "levels" (.int (1 + (T.mostFrom 0 ts : Nat))) (putF "size" (.int (1 + (ts.map fun t => (t.size : Int)).sum)) (putF "parts" (.ref p) (putF "name" (.str n) []))))) = fT p (.node n ts) := by
  have e1 : (1 + (ts.map fun t => (t.size : Int)).sum) = ((T.node n ts).size : Int) := by
    rw [sizes_sum]
    unfold T.size
    omega
  have e2 : (1 + (T.mostFrom 0 ts : Nat) : Int) = ((T.node n ts).levels : Int) := by
    unfold T.levels
    omega
  rw [e1, e2]
  rw [putF_new "name" _ [] rfl, putF_new "parts" _ _ (by simp [List.lookup, nameNe]), putF_new "size" _ _ (by simp [List.lookup, nameNe]), putF_new "levels" _ _ (by simp [List.lookup, nameNe]), putF_new "term" _ _ (by simp [List.lookup, nameNe]), putF_new "_gaps" _ _ (by simp [List.lookup, nameNe])]
  rfl
theorem join_len : ∀ ys : List Str, (Txt.join ", " ys).length ≤ (ys.map (·.length)).sum + ys.length * 2
  | [] => by rw [TL.join_eq] <;> exact Nat.zero_le _
  | [y] => by
    rw [TL.join_eq]
    show y.length ≤ _
    simp
  | y :: z :: r => by
    have ih := join_len (z :: r)
    have e : Txt.join ", " (y :: z :: r) = y ++ ", " ++ Txt.join ", " (z :: r) := by rw [TL.join_eq, TL.join_eq] <;> rfl
    rw [e, add_len, add_len]
    have e2 : (", " : Str).length = 2 := by decide
    rw [e2, List.map_cons, List.sum_cons, List.length_cons]
    omega
section
variable {K : PySem.W.Frag} {H : Hp} {p : Addr} {ws : List V} {n : Str} {ts : List T} {σ : L2.St} {Q : VK}
theorem rd_term (h1 : σ[1]? = some (some (.str n))) (h2 : σ[2]? = some (some (.ref p))) (h3 : σ[3]? = some (some (.str (Txt.join ", " (T.terms ts))))) (hp : SqT K H p ws) (el : ws.length = ts.length) (hfit : TermFits n ts) (q : Q (.str (T.term (.node n ts))) H) :
    tIf (fun σ H Q => tVar 2 σ H fun x H' => ∃ k, TruV K x H' k ∧ Q k H') (fun σ H Q => tJs [tFmt (tVar 1), tC (V.str "("), tFmt (tVar 3), tC (V.str ")")] Str.empty σ H fun out H1 => Q (V.str out) H1) (tVar 1) σ H Q := by
  refine ⟨_, h2, !ws.isEmpty, .inr (.inl ⟨ws, hp, rfl⟩), ?_⟩
  cases ws with
  | nil =>
    have e : ts = [] := List.eq_nil_of_length_eq_zero el.symm
    subst e
    refine iteF ⟨_, h1, ?_⟩
    have e : T.term (.node n []) = n := by unfold T.term; rfl
    exact e ▸ q
  | cons x r =>
    have ne : ts ≠ [] := fun e => by subst e; simp at el
    refine iteT ?_
    obtain ⟨l1, l2, l3⟩ := hfit
    have hs := sizeLine_eq
    have lt : (T.terms ts).length = ts.length := by rw [terms_map, List.length_map]
    have lj := join_len (T.terms ts)
    have lo : ("(" : Str).length = 1 := by decide
    have lc : (")" : Str).length = 1 := by decide
    rw [lt] at lj
    have b1 : (Str.empty ++ n).length ≤ sizeLine := by rw [empty_add]; omega
    have b2 : (Str.empty ++ n ++ "(").length ≤ sizeLine := by rw [empty_add, add_len]; omega
    have b3 : (Str.empty ++ n ++ "(" ++ Txt.join ", " (T.terms ts)).length ≤ sizeLine := by rw [empty_add, add_len, add_len]; omega
    have b4 : (Str.empty ++ n ++ "(" ++ Txt.join ", " (T.terms ts) ++ ")").length ≤ sizeLine := by rw [empty_add, add_len, add_len, add_len]; omega
    refine ⟨_, h1, .inl ⟨n, rfl, by omega, n, rfl, b1, _, rfl, b2, _, h3, .inl ⟨_, rfl, by omega, _, rfl, b3, _, rfl, b4, ?_⟩⟩⟩
    have e : Str.empty ++ n ++ "(" ++ Txt.join ", " (T.terms ts) ++ ")" = T.term (.node n ts) := by rw [term_cons n ne, empty_add]
    show Q (V.str (Str.empty ++ n ++ "(" ++ Txt.join ", " (T.terms ts) ++ ")")) H
    rw [e]
    exact q
end
section
variable {P : Program} {w : World} {K : PySem.W.Frag} {mg : Str → Option Value} {base : Heap} {C : Addr}
theorem scI : FnScope ["self", "name", "parts", "terms", "part"] ((["self", "name"] : List Str) ++ [("parts" : Str)]) (defScope sInit) := ⟨rfl, rfl, rfl, by decide +kernel, rfl, by decide +kernel, by decide +kernel⟩
theorem ok_init (T1 : Tt K C) {fm : Addr} (gm : Gf K mg "most_levels" fm) (Fm : FnR P w K mg base CX0 1 fm (spMost K C)) {tk : Tok} (hH : mg "HOLE" = some (.str "_" tk)) (hs : mg "sum" = none) {f : Addr} {fd : FuncData} (F : Fun K "__init__" "Tree.__init__" sInit f fd) :
    FnR P w K mg base CX0 3 f (fun vs H Q E => ∃ ws rest, vs = ws ++ rest ∧ ws.length = (["self", "name"] : List Str).length ∧ rest.length ≤ sizeLine ∧ ∀ p, H p = none → spInit C (ws ++ [V.ref p]) (upd H p (.tup rest)) Q E) := by
  refine okStar (ps := ["self", "name"]) (pv := "parts") F scI (fun kV doc pm an cdv ct => StX.bind_star2 (p1 := "self") (p2 := "name") (pv := "parts") (B := fun us => bindArgs (PySem.W.fnOf "__init__" "Tree.__init__" (defArgs sInit) (defBody sInit) (defScope sInit) .none kV doc pm an cdv ct) ⟨us, []⟩) (fun _ _ => rfl) (fun _ _ _ _ => rfl)) (fun cdv A outer s H vs Q E hr h => ?_)
  obtain ⟨a, dx, p, n, ws, ts, rfl, ha, hp, nap, hts, hfit, q⟩ := h
  have hr1 : Room 1 _ := hr.mono (by decide)
  refine ⟨_, pss_cons (ps_fld (pv 0) (pv 1) rfl) (pss_cons (ps_fld (pv 0) (pv 2) rfl)
    (pss_cons (ps_fld (pv 0) (pe_op op_add pe_int (pe_callB (cr_sum rfl) (by rfl) hs (by decide +kernel) (pa_cons
        (pe_lc (own := [("part", 4)]) (g := gName 4) (tt := tYes) (te := tFld K (tVar 4) "size") rfl scI.nd (pi_tup (pv 2)) (blkOk_by (own := [("part", 4)]) (N := ["self", "name", "parts", "terms", "part"]) (sc := defScope sInit) (by decide +kernel)) (fun _ _ _ _ _ => by exact pg_name (i := 4) scI.nd rfl (Or.inl rfl)) (fun _ _ _ _ _ => by exact pts_nil) (fun _ _ _ _ _ => by exact pe_fld (pv 4) rfl)) pa_nil))) rfl)
    (pss_cons (ps_fld (pv 0) (pe_op op_add pe_int (pe_cf Fm hr1 gm pass0 (pa_cons (pv 2) pa_nil))) rfl)
    (pss_cons (ps_set (i := 3) scI.nd rfl (Or.inl rfl) (pe_join pe_str 
        (pe_lc (own := [("part", 4)]) (g := gName 4) (tt := tYes) (te := tFld K (tVar 4) "term") rfl scI.nd (pi_tup (pv 2)) (blkOk_by (own := [("part", 4)]) (N := ["self", "name", "parts", "terms", "part"]) (sc := defScope sInit) (by decide +kernel)) (fun _ _ _ _ _ => by exact pg_name (i := 4) scI.nd rfl (Or.inl rfl)) (fun _ _ _ _ _ => by exact pts_nil) (fun _ _ _ _ _ => by exact pe_fld (pv 4) rfl))))
    (pss_cons (ps_fld (pv 0) (pe_ifExp (pt_truth (pv 2) (by intro _; rfl)) (pe_joined (.cons (pe_fmt (pv 1)) (.cons pe_str (.cons (pe_fmt (pv 3)) (.cons pe_str .nil))))) (pv 1)) rfl)
    (pss_one (ps_fld (pv 0) (pe_ifExp (PW.pt (pw_and (pt_cmpR op_eq (pv 1) (pe_gs hH) (nomark _)) (pw_and1 (pt_not (pt_truth (pv 2) (by intro _; rfl)))))) pe_int
        (pe_callB (cr_sum rfl) (by rfl) hs (by decide +kernel) (pa_cons
        (pe_lc (own := [("part", 4)]) (g := gName 4) (tt := tYes) (te := tFld K (tVar 4) "_gaps") rfl scI.nd (pi_tup (pv 2)) (blkOk_by (own := [("part", 4)]) (N := ["self", "name", "parts", "terms", "part"]) (sc := defScope sInit) (by decide +kernel)) (fun _ _ _ _ _ => by exact pg_name (i := 4) scI.nd rfl (Or.inl rfl)) (fun _ _ _ _ _ => by exact pts_nil) (fun _ _ _ _ _ => by exact pe_fld (pv 4) rfl)) pa_nil))) rfl))))))), ?_⟩
  -- name, parts
  have S0 : StI C a dx H H [] := ⟨ha, fun b o e _ => e⟩
  have S1 := S0.store "name" (.str n)
  have S2 := S1.store "parts" (.ref p)
  refine ⟨_, rfl, _, rfl, a, C, dx, _, rfl, S0.at_, T1.cl, T1.nName, (by decide), _, rfl, _, rfl, a, C, dx, _, rfl, S1.at_, T1.cl, T1.nParts, Nat.lt_of_le_of_lt (putF_len _ _ _) (by decide), ?_⟩
  generalize upd (upd H a (HO.ins C dx (putF "name" (V.str n) []))) a (HO.ins C dx (putF "parts" (V.ref p) (putF "name" (V.str n) []))) = H2 at S2 ⊢
  have el : ws.length = ts.length := (hts H fun b o e _ => e).len
  have hz : ws.length ≤ sizeLine := by
    rw [el, sizeLine_eq]
    have := hfit.2.1
    omega
  have pT : ∀ {H' fs}, StI C a dx H H' fs → SqT K H' p ws := fun S => SqT.of (S.kp p _ hp nap.symm)
  -- size
  refine ⟨_, rfl, p, rfl, ⟨_, pT S2⟩, fun D hD => lc_map (ys := (ts.map fun t => (t.size : Int)).map V.int) walk_tup hD (fun H' s => pT (S2.same s)) (by simp [el]) hz (fun i x y H' R hx hy sm hR => ?_) ?_⟩
  · obtain ⟨t, a', dx', p', e, rfl, h1⟩ := (hts _ (S2.same sm).kp).ints hx
    rw [List.map_map] at hy
    have ey := get_map (f := V.int ∘ fun t => (t.size : Int)) e hy
    subst ey
    exact ⟨rfl, _, rfl, a', C, dx', _, _, rfl, h1, T1.cl, T1.nSize, fT_size, hR⟩
  have S3 := S2.add (o := .lst ((ts.map fun t => (t.size : Int)).map V.int)) hD
  refine ⟨D, _, rfl, SqL.of upd_same, ?_⟩
  have len2 : (putF "parts" (V.ref p) (putF "name" (V.str n) [])).length ≤ 2 := Nat.le_trans (putF_len _ _ _) (Nat.succ_le_succ (putF_len _ _ _))
  generalize hf2 : putF "parts" (V.ref p) (putF "name" (V.str n) []) = f2 at S2 S3 len2
  have S4 := S3.store "size" (.int (1 + (ts.map fun t => (t.size : Int)).sum))
  refine ⟨_, _, rfl, rfl, _, rfl, a, C, dx, _, rfl, S3.at_, T1.cl, T1.nSize, by omega, ?_⟩
  generalize upd (upd H2 D _) a _ = H4 at S4 ⊢
  -- levels
  refine ⟨_, rfl, p, ws, ts, rfl, pT S4, hts _ S4.kp, ?_⟩
  have len3 : (putF "size" (V.int (1 + (ts.map fun t => (t.size : Int)).sum)) f2).length ≤ 3 := Nat.le_trans (putF_len _ _ _) (Nat.succ_le_succ len2)
  generalize hf3 : putF "size" (V.int (1 + (ts.map fun t => (t.size : Int)).sum)) f2 = f3 at S4 len3
  have S5 := S4.store "levels" (.int (1 + (T.mostFrom 0 ts : Nat)))
  refine ⟨_, _, rfl, rfl, _, rfl, a, C, dx, _, rfl, S4.at_, T1.cl, T1.nLevels, by omega, ?_⟩
  generalize upd H4 a _ = H5 at S5 ⊢
  -- terms
  have len4 : (putF "levels" (V.int (1 + (T.mostFrom 0 ts : Nat))) f3).length ≤ 4 := Nat.le_trans (putF_len _ _ _) (Nat.succ_le_succ len3)
  generalize hf4 : putF "levels" (V.int (1 + (T.mostFrom 0 ts : Nat))) f3 = f4 at S5 len4
  refine ⟨⟨_, rfl⟩, _, rfl, p, rfl, ⟨_, pT S5⟩, fun D2 hD2 => lc_map (ys := (T.terms ts).map V.str) walk_tup hD2 (fun H' s => pT (S5.same s)) (by rw [terms_map]; simp [el]) hz (fun i x y H' R hx hy sm hR => ?_) ?_⟩
  · obtain ⟨t, a', dx', p', e, rfl, h1⟩ := (hts _ (S5.same sm).kp).ints hx
    rw [terms_map, List.map_map] at hy
    have ey := get_map (f := V.str ∘ T.term) e hy
    subst ey
    exact ⟨rfl, _, rfl, a', C, dx', _, _, rfl, h1, T1.cl, T1.nTerm, fT_term, hR⟩
  have S6 := S5.add (o := .lst ((T.terms ts).map V.str)) hD2
  have hsum : ((T.terms ts).map (·.length)).sum + (T.terms ts).length * (", " : Str).length ≤ 16777216 := by
    have h1 := hfit.2.2
    have h2 : (T.terms ts).length = ts.length := by rw [terms_map, List.length_map]
    have h3 : (", " : Str).length = 2 := by decide
    rw [h2, h3]
    omega
  refine ⟨_, D2, T.terms ts, rfl, rfl, .inl (SqL.of upd_same), hsum, ?_⟩
  generalize upd H5 D2 _ = H6 at S6 ⊢
  have S7 := S6.store "term" (.str (T.term (.node n ts)))
  refine rd_term (K := K) rfl rfl rfl (pT S6) el hfit ⟨_, rfl, a, C, dx, _, rfl, S6.at_, T1.cl, T1.nTerm, by omega, ?_⟩
  generalize upd H6 a _ = H7 at S7 ⊢
  have len5 : (putF "term" (V.str (T.term (.node n ts))) f4).length ≤ 5 := Nat.le_trans (putF_len _ _ _) (Nat.succ_le_succ len4)
  generalize hf5 : putF "term" (V.str (T.term (.node n ts))) f4 = f5 at S7 len5
  have fin : ∀ H8, StI C a dx H H8 f5 → Q .non (upd H8 a (.ins C dx (putF "_gaps" (.int (T.gaps (.node n ts))) f5))) := fun H8 S8 => by
    refine q _ ?_ (S8.store "_gaps" (.int (T.gaps (.node n ts)))).kp
    rw [upd_same]
    subst hf2 hf3 hf4 hf5
    rw [fT_built]
  have nm : ∀ {b : Bool} {m : Str}, V.str n = V.str m → n = m := fun e => V.str.inj e
  have eg : ¬ (n = "_" ∧ ts = []) → T.gaps (.node n ts) = T.gapsL ts := fun h => by unfold T.gaps; rw [if_neg h]
  have sumcase : ∀ (σ : L2.St) (hσ : σ = [some (V.ref a), some (V.str n), some (V.ref p), some (V.str (Txt.join ", " (T.terms ts))), none]) (R : VK), ¬ (n = "_" ∧ ts = []) → (∀ H8, StI C a dx H H8 f5 → R (.int (T.gaps (.node n ts))) H8) →
      tCB (rSum K) (tCons (tLc (iTup K (tVar 2)) (gName 4) tYes (tFld K (tVar 4) "_gaps") (List.map (fun x => x.snd) [(("part" : Str), 4)])) tNil) σ H7 R := by
    rintro σ rfl R hn hR
    refine ⟨_, rfl, p, rfl, ⟨_, pT S7⟩, fun D hD => lc_map (ys := (ts.map fun t => (t.gaps : Int)).map V.int) walk_tup hD (fun H' s => pT (S7.same s)) (by simp [el]) hz (fun i x y H' R hx hy sm hR => ?_) ?_⟩
    · obtain ⟨t, a', dx', p', e, rfl, h1⟩ := (hts _ (S7.same sm).kp).ints hx
      rw [List.map_map] at hy
      have ey := get_map (f := V.int ∘ fun t => (t.gaps : Int)) e hy
      subst ey
      exact ⟨rfl, _, rfl, a', C, dx', _, _, rfl, h1, T1.cl, T1.nGaps, fT_gaps, hR⟩
    have S8 := S7.add (o := .lst ((ts.map fun t => (t.gaps : Int)).map V.int)) hD
    refine ⟨D, _, rfl, SqL.of upd_same, ?_⟩
    rw [gaps_sum, ← eg hn]
    exact hR _ S8
  -- _gaps
  refine ⟨_, rfl, rfl, _, rfl, ?_⟩
  refine ite2 (fun c => ?_) (fun c => ?_)
  · have en : n = "_" := nm (b := true) (of_decide_eq_true c)
    refine ⟨_, rfl, !ws.isEmpty, .inr (.inl ⟨ws, pT S7, rfl⟩), ?_⟩
    cases ws with
    | nil =>
      have e : ts = [] := List.eq_nil_of_length_eq_zero el.symm
      refine iteT ?_
      have eg1 : T.gaps (.node n ts) = 1 := by unfold T.gaps; rw [if_pos ⟨en, e⟩]
      refine ⟨_, rfl, a, C, dx, _, rfl, S7.at_, T1.cl, T1.nGaps, by omega, ?_⟩
      have z := fin H7 S7
      rw [eg1] at z
      exact z
    | cons x r =>
      have ne : ¬ (n = "_" ∧ ts = []) := fun e => by obtain ⟨_, e⟩ := e; subst e; simp at el
      refine iteF ?_
      refine sumcase _ rfl _ ne fun H8 S8 => ?_
      exact ⟨_, rfl, a, C, dx, _, rfl, S8.at_, T1.cl, T1.nGaps, by omega, fin H8 S8⟩
  · have ne : ¬ (n = "_" ∧ ts = []) := fun e => by
      obtain ⟨e, _⟩ := e
      subst e
      exact c (decide_eq_true rfl)
    refine iteF ?_
    refine sumcase _ rfl _ ne fun H8 S8 => ?_
    exact ⟨_, rfl, a, C, dx, _, rfl, S8.at_, T1.cl, T1.nGaps, by omega, fin H8 S8⟩
end
end Tw
set_option maxHeartbeats 4000000
/-! Places of a tree in reading order; what stays of the heap when lists change. -/
namespace Tw
open PySem PySem.Spec PyProof.Rows L2
abbrev Path := List Nat
mutual
def T.walk (pa : Path) : T → List (Path × T)
  | .node n ps => (pa, .node n ps) :: T.walks pa 0 ps
def T.walks (pa : Path) : Nat → List T → List (Path × T)
  | _, [] => []
  | i, t :: r => T.walk (pa ++ [i]) t ++ T.walks pa (i + 1) r
end
def kids (pa : Path) : Nat → List T → List (Path × T)
  | _, [] => []
  | i, t :: r => (pa ++ [i], t) :: kids pa (i + 1) r
def flat (l : List (Path × T)) : List (Path × T) := l.flatMap fun e => e.2.walk e.1
theorem flat_nil : flat [] = [] := rfl
theorem flat_cons (e : Path × T) (l : List (Path × T)) : flat (e :: l) = e.2.walk e.1 ++ flat l := rfl
theorem flat_append (l m : List (Path × T)) : flat (l ++ m) = flat l ++ flat m := by simp [flat]
theorem walks_kids (pa : Path) : ∀ (ps : List T) (i : Nat), T.walks pa i ps = flat (kids pa i ps)
  | [], i => by unfold T.walks kids; rfl
  | t :: r, i => by
    unfold T.walks kids
    rw [flat_cons, walks_kids pa r]
theorem walk_eq (pa : Path) (t : T) : t.walk pa = (pa, t) :: flat (kids pa 0 t.parts) := by
  cases t with
  | node n ps =>
    unfold T.walk
    rw [walks_kids]
    rfl
theorem kids_len (pa : Path) : ∀ (ps : List T) (i : Nat), (kids pa i ps).length = ps.length
  | [], _ => rfl
  | _ :: r, i => by
    unfold kids
    rw [List.length_cons, List.length_cons, kids_len pa r]
theorem kids_get (pa : Path) : ∀ (ps : List T) (i j : Nat) {t : T}, ps[j]? = some t → (kids pa i ps)[j]? = some (pa ++ [i + j], t)
  | [], _, _, _, h => by simp at h
  | a :: r, i, 0, t, h => by
    have e : a = t := Option.some.inj h
    subst e
    rfl
  | a :: r, i, j + 1, t, h => by
    unfold kids
    rw [List.getElem?_cons_succ, kids_get pa r (i + 1) j (by simpa using h), show i + 1 + j = i + (j + 1) by omega]
mutual
theorem walk_len (pa : Path) : ∀ t : T, (t.walk pa).length = t.size
  | .node n ps => by
    unfold T.walk T.size
    rw [List.length_cons, walks_len pa 0 ps]
    omega
theorem walks_len (pa : Path) : ∀ (i : Nat) (ps : List T), (T.walks pa i ps).length = T.sizes ps
  | _, [] => by unfold T.walks T.sizes; rfl
  | i, t :: r => by
    unfold T.walks T.sizes
    rw [List.length_append, walk_len _ t, walks_len pa _ r]
end
mutual
theorem walk_deep (pa : Path) : ∀ (t : T) (e : Path × T), e ∈ t.walk pa → e.1.length + e.2.size ≤ pa.length + t.size
  | .node n ps, e, h => by
    unfold T.walk at h
    rcases List.mem_cons.mp h with rfl | h
    · exact Nat.le_refl _
    · have := walks_deep pa 0 ps e h
      unfold T.size at *
      omega
theorem walks_deep (pa : Path) : ∀ (i : Nat) (ps : List T) (e : Path × T), e ∈ T.walks pa i ps → e.1.length + e.2.size ≤ pa.length + 1 + T.sizes ps
  | _, [], e, h => by unfold T.walks at h; cases h
  | i, t :: r, e, h => by
    unfold T.walks at h
    unfold T.sizes
    rcases List.mem_append.mp h with h | h
    · have := walk_deep (pa ++ [i]) t e h
      rw [List.length_append, List.length_singleton] at this
      omega
    · have := walks_deep pa (i + 1) r e h
      omega
end
theorem size_pos (t : T) : 1 ≤ t.size := by
  cases t
  unfold T.size
  omega
theorem sizes_ge : ∀ ps : List T, ps.length ≤ T.sizes ps
  | [] => Nat.zero_le _
  | t :: r => by
    have := size_pos t
    have := sizes_ge r
    unfold T.sizes
    rw [List.length_cons]
    omega
theorem parts_le (t : T) : t.parts.length + 1 ≤ t.size := by
  cases t with
  | node n ps =>
    have := sizes_ge ps
    unfold T.size
    show ps.length + 1 ≤ _
    omega
/-! ### firm things: tuples and instances -/
def Firm (H H' : Hp) : Prop := (∀ b xs, H b = some (.tup xs) → H' b = some (.tup xs)) ∧ ∀ b C dx fs, H b = some (.ins C dx fs) → H' b = some (.ins C dx fs)
theorem Firm.of {H H' : Hp} (s : Same H H') : Firm H H' := ⟨fun _ _ e => s _ _ e, fun _ _ _ _ e => s _ _ e⟩
theorem Firm.refl (H : Hp) : Firm H H := .of (Same.refl H)
theorem Firm.trans {H H1 H2 : Hp} (a : Firm H H1) (b : Firm H1 H2) : Firm H H2 := ⟨fun _ _ e => b.1 _ _ (a.1 _ _ e), fun _ _ _ _ e => b.2 _ _ _ _ (a.2 _ _ _ _ e)⟩
theorem Firm.list {H : Hp} {l : Addr} {xs : List V} {o : HO} (h : H l = some (.lst xs)) : Firm H (upd H l o) :=
  ⟨fun b ys e => by rw [upd_ne (ne_of e h (by intro z; cases z))]; exact e, fun b C dx fs e => by rw [upd_ne (ne_of e h (by intro z; cases z))]; exact e⟩
theorem Firm.new {H : Hp} {l : Addr} {o : HO} (h : H l = none) : Firm H (upd H l o) :=
  ⟨fun b ys e => by rw [upd_ne (ne_of_none e h)]; exact e, fun b C dx fs e => by rw [upd_ne (ne_of_none e h)]; exact e⟩
mutual
theorem TreeAt.firm {C : Addr} {H H' : Hp} (s : Firm H H') : ∀ {v : V} {t : T}, TreeAt C H v t → TreeAt C H' v t
  | v, .node n ps, h => by
    obtain ⟨a, dx, p, vs, rfl, h1, h2, h3⟩ := h.ex
    exact .mk (s.2 _ _ _ _ h1) (s.1 _ _ h2) (TreesAt.firm s h3)
theorem TreesAt.firm {C : Addr} {H H' : Hp} (s : Firm H H') : ∀ {vs : List V} {ts : List T}, TreesAt C H vs ts → TreesAt C H' vs ts
  | [], [], _ => by unfold TreesAt; trivial
  | v :: vs, t :: ts, h => by
    unfold TreesAt at h ⊢
    exact ⟨TreeAt.firm s h.1, TreesAt.firm s h.2⟩
  | [], _ :: _, h => by unfold TreesAt at h; exact h.elim
  | _ :: _, [], h => by unfold TreesAt at h; exact h.elim
end
def pV (p : Path) : List V := List.map (fun (k : Nat) => V.int (k : Int)) p
/-- an entry of places: a new pair of a path and a part -/
def EntAt (C : Addr) (H : Hp) (v : V) (e : Path × T) : Prop := ∃ a q w, v = .ref a ∧ H a = some (.tup [.ref q, w]) ∧ H q = some (.tup (pV e.1)) ∧ TreeAt C H w e.2
theorem EntAt.firm {C : Addr} {H H' : Hp} (s : Firm H H') {v : V} {e : Path × T} (h : EntAt C H v e) : EntAt C H' v e := by
  obtain ⟨a, q, w, rfl, h1, h2, h3⟩ := h
  exact ⟨a, q, w, rfl, s.1 _ _ h1, s.1 _ _ h2, h3.firm s⟩
abbrev Ents (C : Addr) (H : Hp) : List V → List (Path × T) → Prop := Paired (EntAt C H)
theorem Ents.firm {C : Addr} {H H' : Hp} (s : Firm H H') {vs : List V} {es : List (Path × T)} (h : Ents C H vs es) : Ents C H' vs es := Paired.mapP h fun _ _ x => x.firm s
theorem paired_len {α β : Type} {F : α → β → Prop} : ∀ {l₁ : List α} {l₂ : List β}, Paired F l₁ l₂ → l₁.length = l₂.length
  | _, _, .nil => rfl
  | _, _, .cons _ t => by rw [List.length_cons, List.length_cons, paired_len t]
theorem paired_get {α β : Type} {F : α → β → Prop} : ∀ {l₁ : List α} {l₂ : List β} {i : Nat} {x : α}, Paired F l₁ l₂ → l₁[i]? = some x → ∃ y, l₂[i]? = some y ∧ F x y
  | _, _, _, _, .nil, e => by simp at e
  | _, _, 0, _, .cons r _, e => by simp at e; subst e; exact ⟨_, rfl, r⟩
  | _, _, i + 1, x, .cons _ t, e => by
    obtain ⟨u, h1, h2⟩ := paired_get (i := i) (x := x) t (by simpa using e)
    exact ⟨u, by simpa using h1, h2⟩
theorem paired_last {α β : Type} {F : α → β → Prop} {l₁ : List α} {l₂ : List β} (h : Paired F l₁ l₂) (ne : l₁ ≠ []) : ∃ m₁ x m₂ y, l₁ = m₁ ++ [x] ∧ l₂ = m₂ ++ [y] ∧ Paired F m₁ m₂ ∧ F x y := by
  induction h with
  | nil => exact absurd rfl ne
  | @cons a b r1 r2 f t ih =>
    cases t with
    | nil => exact ⟨[], a, [], b, rfl, rfl, .nil, f⟩
    | cons f' t' =>
      obtain ⟨m₁, x, m₂, y, e1, e2, p, q⟩ := ih (by simp)
      exact ⟨a :: m₁, x, b :: m₂, y, by rw [e1]; rfl, by rw [e2]; rfl, .cons f p, q⟩
theorem name_go {i : Nat} {v : V} {σ : L2.St} {H : Hp} {Q : L2.St → Hp → Prop} (h : Q (σ.set i (some v)) H) : gName i v σ H Q := h
theorem seq_go {t u : TS} {D : Ends} {σ : L2.St} {H : Hp} (h : t { D with nx := u D } σ H) : tSeq t u D σ H := h
theorem while_n {c : TT} {tb : TS} {D : Ends} {σ : L2.St} {H : Hp} (Pv : Nat → L2.St → Hp → Prop) (h0 : ∃ m, Pv m σ H)
    (hs : ∀ m σ H, Pv m σ H → c σ H fun b H1 => if b = true then tb { D with nx := fun σ' H' => ∃ m', m' < m ∧ Pv m' σ' H', ct := fun σ' H' => ∃ m', m' < m ∧ Pv m' σ' H', bk := D.nx } σ H1 else D.nx σ H1)
    (mono : ∀ σ H Q Q', (∀ b H1, Q b H1 → Q' b H1) → c σ H Q → c σ H Q') : tWhile c tb D σ H := by
  refine ⟨Pv, h0, fun m σ H p => mono σ H _ _ (fun b H1 q => ?_) (hs m σ H p)⟩
  cases b with
  | true => exact ⟨_, fun _ _ h => h, q⟩
  | false => exact q
end Tw
set_option maxHeartbeats 4000000
/-! places. -/
namespace Tw
open PySem PySem.Spec PyProof.Rows L2
abbrev sPlaces : Stmt := top 17
/-- a new list of all places -/
def spPlaces (C : Addr) : Sp := fun vs H Q _ => ∃ (v : V) (t : T), vs = [v] ∧ TreeAt C H v t ∧ t.size ≤ 1000000 ∧
  ∀ l H' ws, Same H H' → H l = none → H' l = some (.lst ws) → Ents C H' ws (t.walk []) → Q (.ref l) H'
theorem flat_ge : ∀ l : List (Path × T), l.length ≤ (flat l).length
  | [] => Nat.zero_le _
  | e :: r => by
    have := size_pos e.2
    have := flat_ge r
    rw [flat_cons, List.length_append, walk_len, List.length_cons]
    omega
theorem drop_rev {α : Type} {l : List α} {k : Nat} {x : α} (h : l[k]? = some x) : (l.drop k).reverse = (l.drop (k + 1)).reverse ++ [x] := by
  obtain ⟨hk, e⟩ := List.getElem?_eq_some_iff.mp h
  rw [List.drop_eq_getElem_cons hk, List.reverse_cons, e]
theorem pV_snoc (p : Path) (j : Nat) : pV (p ++ [j]) = pV p ++ [V.int (j : Int)] := by simp [pV]
theorem pV_len (p : Path) : (pV p).length = p.length := by simp [pV]
section
variable {P : Program} {w : World} {K : PySem.W.Frag} {mg : Str → Option Value} {base : Heap} {C : Addr}
theorem scP : FnScope ["tree", "found", "waiting", "path", "part", "at"] ["tree"] (defScope sPlaces) := ⟨rfl, rfl, rfl, by decide +kernel, rfl, by decide +kernel, by decide +kernel⟩
/-- the state ahead of each turn: what is found, what is waiting -/
structure PlSt (C : Addr) (t0 : T) (H H' : Hp) (fa wa : Addr) (fvs wvs : List V) (fes wes : List (Path × T)) : Prop where
  same : Same H H'
  nf : H fa = none
  nw : H wa = none
  ne : fa ≠ wa
  fl : H' fa = some (.lst fvs)
  wl : H' wa = some (.lst wvs)
  fe : Ents C H' fvs fes
  we : Ents C H' wvs wes
  all : fes ++ flat wes.reverse = t0.walk []
theorem ok_places (T1 : Tt K C) (hl : mg "len" = none) (hrv : mg "reversed" = none) (hrg : mg "range" = none) {f : Addr} {fd : FuncData} (F : Fun K "places" "places" sPlaces f fd) : FnR P w K mg base CX0 1 f (spPlaces C) := by
  refine okR F scP (fun vs H Q E h => ?_) (fun _ _ _ _ _ _ us hl => match us, hl with | [_], _ => rfl) (fun cdv A outer s H vs Q E hr h => ?_)
  · obtain ⟨v, t, rfl, _⟩ := h
    rfl
  obtain ⟨v0, t0, rfl, h0, hsz, q⟩ := h
  refine ⟨_, pss_cons (ps_set (i := 1) scP.nd rfl (Or.inl rfl) (pe_lst pa_nil))
    (pss_cons (ps_set (i := 2) scP.nd rfl (Or.inl rfl) (pe_lst (pa_cons (pe_tup (pa_cons (pe_tup pa_nil) (pa_cons (pv 0) pa_nil))) pa_nil)))
    (pss_cons (ps_while PassesOwn.never (pt_truth (pv 2) (by intro _; rfl))
      (pss_cons (ps_asg (pe_bm0 PySem.F.plainAttrs_list PySem.F.slot_list_pop PySem.F.type_list_pop mt_pop (pv 2)) (pg_tup (by rfl) (pgs_cons (pg_name (i := 3) scP.nd rfl (Or.inl rfl)) (pgs_cons (pg_name (i := 4) scP.nd rfl (Or.inl rfl)) pgs_nil))))
      (pss_cons (ps_expr (pe_bm PySem.F.plainAttrs_list PySem.F.slot_list_append PySem.F.type_list_append mt_append (pv 1) (pa_cons (pe_tup (pa_cons (pv 3) (pa_cons (pv 4) pa_nil))) pa_nil)))
      (pss_one (ps_for PassesOwn.never rfl (pi_revR (by rfl) hrv (prg_1 (by rfl) hrg (pe_callB call_len_seq (by rfl) hl PySem.boot_len (pa_cons (pe_fld (pv 4) rfl) pa_nil)))) (pg_name (i := 5) scP.nd rfl (Or.inl rfl))
        (pss_one (ps_expr (pe_bm PySem.F.plainAttrs_list PySem.F.slot_list_append PySem.F.type_list_append mt_append (pv 2)
          (pa_cons (pe_tup (pa_cons (pe_tup (StX.pa_star (pv 3) (pa_cons (pv 5) pa_nil))) (pa_cons (pe_ix ix_tup (pe_fld (pv 4) rfl) (pv 5) (fun _ _ => rfl)) pa_nil))) pa_nil))))))))) 
    (pss_one (ps_ret (pv 1))))), ?_⟩
  have zl : (0 : Nat) ≤ sizeLine := Nat.zero_le _
  have sl := sizeLine_eq
  refine ⟨zl, fun fa nfa => ?_⟩
  refine ⟨zl, fun q0 nq0 => ⟨_, rfl, ?_⟩⟩
  refine ⟨(by show 2 ≤ sizeLine; omega), fun e0 ne0 => ⟨(by show 1 ≤ sizeLine; omega), fun wa nwa => ?_⟩⟩
  -- the state ahead of the loop
  have s1 : Same H (upd H fa (.lst [])) := fun b o e => by rw [upd_ne (ne_of_none e nfa)]; exact e
  have s2 : Same (upd H fa (.lst [])) (upd (upd H fa (.lst [])) q0 (.tup [])) := fun b o e => by rw [upd_ne (ne_of_none e nq0)]; exact e
  have s3 : Same (upd (upd H fa (.lst [])) q0 (.tup [])) (upd (upd (upd H fa (.lst [])) q0 (.tup [])) e0 (.tup [.ref q0, v0])) := fun b o e => by rw [upd_ne (ne_of_none e ne0)]; exact e
  have s4 : Same (upd (upd (upd H fa (.lst [])) q0 (.tup [])) e0 (.tup [.ref q0, v0])) (upd (upd (upd (upd H fa (.lst [])) q0 (.tup [])) e0 (.tup [.ref q0, v0])) wa (.lst [.ref e0])) := fun b o e => by rw [upd_ne (ne_of_none e nwa)]; exact e
  have hfa := s4 _ _ (s3 _ _ (s2 _ _ (upd_same (H := H) (a := fa) (o := .lst []))))
  have hq0 := s4 _ _ (s3 _ _ (upd_same (H := upd H fa (.lst [])) (a := q0) (o := .tup [])))
  have he0 := s4 _ _ (upd_same (H := upd (upd H fa (.lst [])) q0 (.tup [])) (a := e0) (o := .tup [.ref q0, v0]))
  have nwa' : H wa = none := (s1.trans (s2.trans s3)).free nwa
  have fw : fa ≠ wa := ne_of_none (s3 _ _ (s2 _ _ (upd_same (H := H) (a := fa) (o := .lst [])))) nwa
  have S0 : PlSt C t0 H _ fa wa [] [.ref e0] [] [([], t0)] := ⟨s1.trans (s2.trans (s3.trans s4)), nfa, nwa', fw, hfa, upd_same, .nil, .cons ⟨e0, q0, v0, rfl, he0, hq0, h0.mono (s1.trans (s2.trans (s3.trans s4)))⟩ .nil, by
    show flat [([], t0)] = _
    rw [flat_cons, flat_nil, List.append_nil]⟩
  refine name_go ?_
  dsimp only
  refine seq_go ?_
  refine while_n (fun m σ H' => ∃ fvs wvs fes wes v3 v4 v5, σ = [some v0, some (.ref fa), some (.ref wa), v3, v4, v5] ∧ PlSt C t0 H H' fa wa fvs wvs fes wes ∧ m = (flat wes.reverse).length)
    ⟨_, [], [.ref e0], [], [([], t0)], none, none, none, rfl, S0, rfl⟩ ?_ ?_
  · rintro m σ H1 ⟨fvs, wvs, fes, wes, v3, v4, v5, rfl, S, rfl⟩
    refine ⟨_, rfl, !wvs.isEmpty, .inl ⟨wvs, SqL.of S.wl, rfl⟩, ?_⟩
    by_cases hw : wvs = []
    · subst hw
      refine iteF ⟨_, rfl, ?_⟩
      have e : wes = [] := by
        have := paired_len S.we
        exact List.eq_nil_of_length_eq_zero this.symm
      have all := S.all
      rw [e] at all
      have all' : fes = t0.walk [] := by simpa [flat] using all
      exact q fa H1 fvs S.same S.nf S.fl (all' ▸ S.fe)
    · rw [show (!wvs.isEmpty) = true by cases wvs <;> simp_all]
      refine iteT ?_
      obtain ⟨m₁, x, m₂, e, rfl, rfl, pm, ⟨a, qa, pw, rfl, ha, hq, ht⟩⟩ := paired_last S.we hw
      obtain ⟨pa, tt⟩ := e
      have wl := S.wl
      refine ⟨_, rfl, .inl ⟨rfl, _, SqL.of wl⟩, wa, _, .ref a, rfl, rfl, wl, by simp, ?_⟩
      have f1 : Firm H1 (upd H1 wa (.lst (m₁ ++ [V.ref a]).dropLast)) := Firm.list wl
      rw [List.dropLast_concat] at f1 ⊢
      refine ⟨a, _, rfl, SqT.of (f1.1 _ _ ha), rfl, _, _, rfl, _, _, rfl, rfl, ?_⟩
      replace ht : TreeAt C H1 pw tt := ht
      replace hq : H1 qa = some (.tup (pV pa)) := hq
      obtain ⟨ap, dxp, pp, kvs, rfl, hap, hpp, hks⟩ := ht.ex
      -- sizes
      have all := S.all
      have alen := congrArg List.length all
      rw [List.reverse_append, List.reverse_singleton, List.singleton_append, flat_cons] at all alen
      dsimp only at all alen
      rw [List.length_append, List.length_append, walk_len, walk_len] at alen
      have g1 := flat_ge m₂.reverse
      rw [List.length_reverse] at g1
      have g2 := parts_le tt
      have hmem : (pa, tt) ∈ t0.walk [] := by
        rw [← all, walk_eq]
        exact List.mem_append_right _ List.mem_cons_self
      have g3 := walk_deep [] t0 _ hmem
      have g3' : pa.length + tt.size ≤ 0 + t0.size := g3
      have el := hks.len
      have lf := paired_len S.fe
      have lw := paired_len pm
      -- found.append
      have nfw : fa ≠ wa := S.ne
      have sm1 : Same H (upd H1 wa (.lst m₁)) := fun b o e => by rw [upd_ne (ne_of_none e S.nw)]; exact S.same b o e
      have fl1 : (upd H1 wa (.lst m₁)) fa = some (.lst fvs) := by rw [upd_ne nfw]; exact S.fl
      refine ⟨_, rfl, .inl ⟨rfl, _, SqL.of fl1⟩, _, rfl, _, rfl, (by show 2 ≤ sizeLine; omega), fun e1 ne1 => ?_⟩
      have s2 : Same (upd H1 wa (.lst m₁)) (upd (upd H1 wa (.lst m₁)) e1 (.tup [.ref qa, .ref ap])) := fun b o e => by rw [upd_ne (ne_of_none e ne1)]; exact e
      refine ⟨fa, fvs, .ref e1, rfl, rfl, s2 _ _ fl1, by omega, ?_⟩
      have f3 : Firm (upd (upd H1 wa (.lst m₁)) e1 (.tup [.ref qa, .ref ap])) (upd (upd (upd H1 wa (.lst m₁)) e1 (.tup [.ref qa, .ref ap])) fa (.lst (fvs ++ [.ref e1]))) := Firm.list (s2 _ _ fl1)
      have f4 : Firm H1 (upd (upd (upd H1 wa (.lst m₁)) e1 (.tup [.ref qa, .ref ap])) fa (.lst (fvs ++ [.ref e1]))) := f1.trans ((Firm.of s2).trans f3)
      have sm4 : Same H (upd (upd (upd H1 wa (.lst m₁)) e1 (.tup [.ref qa, .ref ap])) fa (.lst (fvs ++ [.ref e1]))) := fun b o e => by rw [upd_ne (ne_of_none e S.nf)]; exact s2 _ _ (sm1 b o e)
      have he1 : (upd (upd (upd H1 wa (.lst m₁)) e1 (.tup [.ref qa, .ref ap])) fa (.lst (fvs ++ [.ref e1]))) e1 = some (.tup [.ref qa, .ref ap]) := f3.1 _ _ upd_same
      have hfa4 : (upd (upd (upd H1 wa (.lst m₁)) e1 (.tup [.ref qa, .ref ap])) fa (.lst (fvs ++ [.ref e1]))) fa = some (.lst (fvs ++ [.ref e1])) := upd_same
      have hwa4 : (upd (upd (upd H1 wa (.lst m₁)) e1 (.tup [.ref qa, .ref ap])) fa (.lst (fvs ++ [.ref e1]))) wa = some (.lst m₁) := by
        rw [upd_ne nfw.symm]
        exact s2 _ _ upd_same
      generalize (upd (upd (upd H1 wa (.lst m₁)) e1 (.tup [.ref qa, .ref ap])) fa (.lst (fvs ++ [.ref e1]))) = H4 at f3 f4 sm4 he1 hfa4 hwa4 ⊢
      have kl := kids_len pa tt.parts 0
      -- the parts, the last one first
      refine ⟨_, rfl, ap, C, dxp, _, _, rfl, f4.2 _ _ _ _ hap, T1.cl, T1.nParts, fT_parts, pp, kvs, rfl, .inr (SqT.of (f4.1 _ _ hpp)), _, rfl, (by decide), (by decide), (by omega), (by omega), ?_⟩
      have en : ((kvs.length : Int) - 0).toNat = tt.parts.length := by omega
      rw [en]
      refine for_rangeC (fun i σ H' => ∃ w5 wvs', σ = [some v0, some (.ref fa), some (.ref wa), some (.ref qa), some (.ref ap), w5] ∧ Same H H' ∧ Firm H4 H' ∧ H' fa = some (.lst (fvs ++ [.ref e1])) ∧ H' wa = some (.lst wvs') ∧
          Ents C H' wvs' (m₂ ++ ((kids pa 0 tt.parts).drop (tt.parts.length - i)).reverse))
        ⟨v5, m₁, rfl, sm4, Firm.refl _, hfa4, hwa4, by rw [Nat.sub_zero, List.drop_of_length_le (by omega), List.reverse_nil, List.append_nil]; exact Ents.firm f4 pm⟩ ?_ ?_
      · rintro i σ H5 hi ⟨w5, wvs', rfl, sm5, f5, fl5, wl5, en5⟩
        have hj : tt.parts.length - 1 - i < tt.parts.length := by omega
        obtain ⟨tj, htj⟩ : ∃ tj, tt.parts[tt.parts.length - 1 - i]? = some tj := ⟨_, List.getElem?_eq_getElem hj⟩
        have hkj : ∃ z, kvs[tt.parts.length - 1 - i]? = some z := ⟨_, List.getElem?_eq_getElem (by omega)⟩
        obtain ⟨z, hz⟩ := hkj
        obtain ⟨tj', htj', hzt⟩ := hks.get hz
        rw [htj] at htj'
        cases htj'
        have ej : (0 + ((tt.parts.length : Nat) : Int) - 1 + (i : Nat) * (-1) : Int) = ((tt.parts.length - 1 - i : Nat) : Int) := by omega
        refine name_go ?_
        dsimp only
        rw [ej]
        have l5 := paired_len en5
        rw [List.length_append, List.length_reverse, List.length_drop, kl] at l5
        refine ⟨_, rfl, .inl ⟨rfl, _, SqL.of wl5⟩, _, rfl, qa, _, rfl, .inl (SqT.of ((f4.trans f5).1 _ _ hq)), _, rfl, (by rw [List.length_append, pV_len]; show _ + 1 ≤ _; omega), fun q1 nq1 => ?_⟩
        have s6 : Same H5 (upd H5 q1 (.tup (pV pa ++ [V.int ((tt.parts.length - 1 - i : Nat) : Int)]))) := fun b o e => by rw [upd_ne (ne_of_none e nq1)]; exact e
        refine ⟨_, rfl, ap, C, dxp, _, _, rfl, s6 _ _ ((f4.trans f5).2 _ _ _ _ hap), T1.cl, T1.nParts, fT_parts, _, rfl, pp, kvs, _, z, rfl, rfl, SqT.of (s6 _ _ ((f4.trans f5).1 _ _ hpp)), atI_nat hz, (by show 2 ≤ sizeLine; omega), fun e2 ne2 => ?_⟩
        have s7 : Same (upd H5 q1 (.tup (pV pa ++ [V.int ((tt.parts.length - 1 - i : Nat) : Int)]))) (upd (upd H5 q1 (.tup (pV pa ++ [V.int ((tt.parts.length - 1 - i : Nat) : Int)]))) e2 (.tup [.ref q1, z])) := fun b o e => by rw [upd_ne (ne_of_none e ne2)]; exact e
        have s67 := s6.trans s7
        refine ⟨wa, wvs', .ref e2, rfl, rfl, s67 _ _ wl5, by omega, ?_⟩
        have f8 := Firm.list (o := .lst (wvs' ++ [.ref e2])) (s67 _ _ wl5)
        have f58 := (Firm.of s67).trans f8
        refine ⟨_, wvs' ++ [.ref e2], rfl, fun b o e => ?_, f5.trans f58, ?_, upd_same, ?_⟩
        · rw [upd_ne (ne_of_none e S.nw)]
          exact s67 _ _ (sm5 b o e)
        · rw [upd_ne nfw]
          exact s67 _ _ fl5
        · have hk := kids_get pa tt.parts 0 (tt.parts.length - 1 - i) htj
          rw [Nat.zero_add] at hk
          have dr := drop_rev hk
          rw [show tt.parts.length - 1 - i + 1 = tt.parts.length - i by omega] at dr
          rw [show tt.parts.length - (i + 1) = tt.parts.length - 1 - i by omega, dr, ← List.append_assoc]
          refine Paired.snoc (Ents.firm f58 en5) ⟨e2, q1, z, rfl, f8.1 _ _ upd_same, ?_, hzt.firm ((f4.trans f5).trans f58)⟩
          rw [pV_snoc]
          exact f8.1 _ _ (s7 _ _ upd_same)
      · rintro σ H5 ⟨w5, wvs', rfl, sm5, f5, fl5, wl5, en5⟩
        rw [Nat.sub_self, List.drop_zero] at en5
        refine ⟨_, ?_, fvs ++ [.ref e1], wvs', fes ++ [(pa, tt)], _, _, _, _, rfl, ⟨sm5, S.nf, S.nw, nfw, fl5, wl5, Paired.snoc (Ents.firm (f4.trans f5) S.fe) ⟨e1, qa, .ref ap, rfl, f5.1 _ _ he1, (f4.trans f5).1 _ _ hq, ht.firm (f4.trans f5)⟩, en5, ?_⟩, rfl⟩
        · rw [List.reverse_append, List.reverse_append, List.reverse_reverse, List.reverse_singleton, List.singleton_append, flat_append, flat_cons, walk_eq, List.length_append, List.length_append, List.length_cons]
          dsimp only
          omega
        · rw [List.reverse_append, List.reverse_reverse, flat_append, ← all, walk_eq]
          simp
  · rintro σ H' Q1 Q2 hm ⟨v, e, k, hk, hq⟩
    exact ⟨v, e, k, hk, hm _ _ hq⟩
end
end Tw
set_option maxHeartbeats 4000000
/-! is_big_name, is_plain. -/
namespace Tw
open PySem PySem.Spec PyProof.Rows L2
abbrev sPlain : Stmt := top 15
section
variable {P : Program} {w : World} {K : PySem.W.Frag} {mg : Str → Option Value} {base : Heap} {C : Addr}
theorem FnOk.toR {CX : CXT} {k : Nat} {f : Addr} {fd : FuncData} {ps : List Str} {sp : Sp} (G : FnOk P w K mg base CX k f fd ps sp) (b : Binds K fd ps []) : FnR P w K mg base CX k f sp :=
  (G.raw b .nil).imp fun vs H Q E h => by rw [List.append_nil]; exact h
theorem okr_small {f : Addr} {fd : FuncData} (F : Fun K "is_small_letter" "is_small_letter" sSmall f fd) : FnR P w K mg base CX0 1 f (spOne isSmall) := FnOk.toR (ok_small F) (F.binds fun _ _ _ _ _ _ us hl => match us, hl with | [_], _ => rfl)
theorem okr_capital {f : Addr} {fd : FuncData} (F : Fun K "is_capital" "is_capital" sCapital f fd) : FnR P w K mg base CX0 1 f (spOne isCap) := FnOk.toR (ok_capital F) (F.binds fun _ _ _ _ _ _ us hl => match us, hl with | [_], _ => rfl)
theorem okr_digit (ml : mg "len" = none) {f : Addr} {fd : FuncData} (F : Fun K "is_digit" "is_digit" sDigit f fd) : FnR P w K mg base CX0 1 f spDigit := FnOk.toR (ok_digit ml F) (F.binds fun _ _ _ _ _ _ us hl => match us, hl with | [_], _ => rfl)
def signs (z : Str) : List V := z.cps.toList.map fun (c : Nat) => V.str ⟨#[c]⟩
theorem signs_len (z : Str) : (signs z).length = z.length := by simp [signs, Str.length]
theorem walk_signs {z : Str} : Walk (Its z) (signs z).length (fun _ => True) (YAt (signs z)) := by
  have w := walk_str (z := z)
  have e : (signs z).length = z.cps.size := signs_len z
  rw [e]
  refine w.mono (fun _ h => h) fun i H x H' hi _ y => ?_
  obtain ⟨e, c, hc, rfl⟩ := y
  refine ⟨e, ?_⟩
  simp only [signs, List.getElem?_map, Array.getElem?_toList, hc]
  rfl
theorem signs_get {z : Str} {i : Nat} {x : V} (h : (signs z)[i]? = some x) : ∃ c, z.cps.toList[i]? = some c ∧ x = .str ⟨#[c]⟩ := by
  rw [signs, List.getElem?_map] at h
  cases e : z.cps.toList[i]? with
  | none => rw [e] at h; cases h
  | some c => rw [e] at h; exact ⟨c, rfl, (Option.some.inj h).symm⟩
theorem digName_one (c : Nat) : digName (⟨#[c]⟩ : Str).cps.toList = isDig c := rfl
theorem bigName_cons (c : Nat) (r : List Nat) : bigName (c :: r) = (isCap c && (c :: r).all isWord && decide (r.length < 8)) := rfl
theorem all_map {α : Type} (p : α → Bool) : ∀ l : List α, (l.map p).all id = l.all p
  | [] => rfl
  | a :: r => by
    rw [List.map_cons, List.all_cons, List.all_cons, all_map p r]
    rfl
theorem ok_big (ml : mg "len" = none) (ma : mg "all" = none) {tk : Tok} (hM : mg "MOST_CHARACTERS" = some (.int 8 tk)) {fs fc fg : Addr} (gs : Gf K mg "is_small_letter" fs) (gc : Gf K mg "is_capital" fc) (gd : Gf K mg "is_digit" fg)
    (Fs : FnR P w K mg base CX0 1 fs (spOne isSmall)) (Fc : FnR P w K mg base CX0 1 fc (spOne isCap)) (Fd : FnR P w K mg base CX0 1 fg spDigit) {f : Addr} {fd : FuncData} (F : Fun K "is_big_name" "is_big_name" sBig f fd) : FnR P w K mg base CX0 2 f spBig := by
  refine okR F scB (fun vs H Q E h => ?_) (fun _ _ _ _ _ _ us hl => match us, hl with | [_], _ => rfl) (fun cdv A outer s H vs Q E hr h => ?_)
  · obtain ⟨z, rfl, _⟩ := h
    rfl
  obtain ⟨z, rfl, hz, q⟩ := h
  have hr1 : Room 1 _ := hr.mono (by decide)
  refine ⟨_, pss_cons (ps_if (PW.pt (pw_or (pt_not (pt_chain op_le op_le pe_int (pe_callB call_len_str (by rfl) ml PySem.boot_len (pa_cons (pv 0) pa_nil)) (pe_gi hM))) (pw_or1 (pt_not (pt_val (pe_cf Fc hr1 gc pass0 (pa_cons (pe_item_str (pv 0) pe_int (fun _ _ => rfl)) pa_nil))))))) (pss_one (ps_ret pe_bl)) pss_nil)
    (pss_one (ps_ret (pe_callB (cr_all rfl) (by rfl) ma (by decide +kernel) (pa_cons (pe_lc (own := [("sign", 1)]) (g := gName 1) (tt := tYes)
      (te := tOrV (tCf (spOne isCap) E0 (tCons (tVar 1) tNil)) (tOrV (tCf (spOne isSmall) E0 (tCons (tVar 1) tNil)) (tCf spDigit E0 (tCons (tVar 1) tNil)))) rfl scB.nd (pi_str (pv 0)) (blkOk_by (own := [("sign", 1)]) (N := ["name", "sign"]) (sc := defScope sBig) (by decide +kernel))
      (fun _ _ _ _ _ => by exact pg_name (i := 1) scB.nd rfl (Or.inl rfl)) (fun _ _ _ _ _ => by exact pts_nil) (fun _ _ _ _ _ => by exact pe_or (pe_cf Fc hr1 gc pass0 (pa_cons (pv 1) pa_nil)) (pe_or (pe_cf Fs hr1 gs pass0 (pa_cons (pv 1) pa_nil)) (pe_one (pe_cf Fd hr1 gd pass0 (pa_cons (pv 1) pa_nil)))))) pa_nil)))), ?_⟩
  refine ⟨_, rfl, z, rfl, hz, _, _, rfl, rfl, _, rfl, ?_⟩
  have tail : ∀ c r, z.cps.toList = c :: r → isCap c = true → r.length < 8 → 
     (tRet (tCB (rAll K) (tCons (tLc (iStr (tVar 0)) (gName 1) tYes (tOrV (tCf (spOne isCap) E0 (tCons (tVar 1) tNil)) (tOrV (tCf (spOne isSmall) E0 (tCons (tVar 1) tNil)) (tCf spDigit E0 (tCons (tVar 1) tNil)))) (List.map (fun x => x.snd) [(("sign" : Str), 1)])) tNil)))
      { nx := fun _ H' => Q .non H', rt := Q } [some (.str z), none] H := by
    intro c r ez hc hrl
    refine ⟨_, rfl, z, rfl, fun D hD => lc_map (ys := (z.cps.toList.map isWord).map V.bl) walk_signs hD (fun _ _ => trivial) (by rw [signs_len]; simp [Str.length]) (by rw [signs_len]; exact hz) (fun i x y H' R hx hy sm hR => ?_) ?_⟩
    · obtain ⟨c', hc', rfl⟩ := signs_get hx
      have ey : y = V.bl (isWord c') := by
        rw [List.map_map, List.getElem?_map, hc'] at hy
        exact (Option.some.inj hy).symm
      subst ey
      refine ⟨rfl, _, rfl, c', rfl, _, rfl, ?_⟩
      have ew : isWord c' = (isCap c' || isSmall c' || isDig c') := rfl
      refine ite2 (fun h => ?_) (fun h => ?_)
      · rw [ew, h] at hR
        exact hR
      · refine ⟨_, rfl, c', rfl, _, rfl, ?_⟩
        rw [ew, Bool.eq_false_iff.mpr h] at hR
        refine ite2 (fun h2 => ?_) (fun h2 => ?_)
        · rw [h2] at hR
          exact hR
        · rw [Bool.eq_false_iff.mpr h2] at hR
          exact ⟨_, rfl, _, rfl, (by rw [sizeLine_eq]; exact (by decide : 1 ≤ 16777216)), hR⟩
    · refine ⟨D, _, rfl, SqL.of upd_same, ?_⟩
      have e : bigName z.cps.toList = (z.cps.toList.map isWord).all id := by
        rw [all_map, ez, bigName_cons, hc, decide_eq_true hrl, Bool.true_and, Bool.and_true]
      rw [← e]
      exact q _ fun b o e => by rw [upd_ne (ne_of_none e hD)]; exact e
  have ln : z.cps.toList.length = z.length := by simp [Str.length]
  have no : (∀ c r, z.cps.toList = c :: r → isCap c = true → ¬ r.length < 8) → Q (.bl false) H := fun h => by
    have e : bigName z.cps.toList = false := by
      cases ez : z.cps.toList with
      | nil => rfl
      | cons c r =>
        rw [bigName_cons]
        cases hc : isCap c with
        | false => rfl
        | true => rw [decide_eq_false (h c r ez hc), Bool.and_false]
    have := q H (Same.refl H)
    rw [e] at this
    exact this
  refine ite2 (fun h1 => ?_) (fun h1 => ?_)
  · refine ⟨_, _, rfl, rfl, _, rfl, ?_⟩
    have h1' := of_decide_eq_true h1
    cases ez : z.cps.toList with
    | nil => rw [ez] at ln; simp at ln; omega
    | cons c r =>
      rw [ez, List.length_cons] at ln
      by_cases h2 : (z.length : Int) ≤ 8
      · rw [decide_eq_true h2]
        refine iteF ⟨_, rfl, _, _, c, rfl, rfl, by decide, by decide, by omega, by rw [← Array.getElem?_toList, ez]; rfl, _, rfl, _, rfl, ?_⟩
        cases hc : isCap c with
        | false =>
          refine iteT ?_
          refine no fun c' r' e hc' => ?_
          rw [ez] at e
          cases e
          rw [hc] at hc'
          cases hc'
        | true =>
          refine iteF ?_
          exact tail c r ez hc (by omega)
      · rw [decide_eq_false h2]
        refine iteT ?_
        refine no fun c' r' e _ => ?_
        rw [ez] at e
        cases e
        omega
  · have h1' := of_decide_eq_false (Bool.eq_false_iff.mpr h1)
    refine ⟨_, rfl, ?_⟩
    refine iteT ?_
    refine no fun c r e _ => ?_
    rw [e] at ln
    rw [List.length_cons] at ln
    omega
def holeName (n : Str) : Bool := decide (n = "_")
def plainTop (t : T) : Bool := if (holeName t.name || digName t.name.cps.toList) = true then t.parts.isEmpty else bigName t.name.cps.toList && decide (t.parts.length ≤ 3)
def spPlain (C : Addr) : Sp := fun vs H Q _ => ∃ (v : V) (t : T), vs = [v] ∧ TreeAt C H v t ∧ t.name.length ≤ sizeLine ∧ ∀ H', Same H H' → Q (.bl (plainTop t)) H'
theorem scPl : FnScope ["tree"] ["tree"] (defScope sPlain) := ⟨rfl, rfl, rfl, by decide +kernel, rfl, by decide +kernel, by decide +kernel⟩
theorem ok_plain (T1 : Tt K C) (ml : mg "len" = none) {tk tk2 : Tok} (hH : mg "HOLE" = some (.str "_" tk)) (hM : mg "MOST_PARTS" = some (.int 3 tk2)) {fb fg : Addr} (gb : Gf K mg "is_big_name" fb) (gd : Gf K mg "is_digit" fg)
    (Fb : FnR P w K mg base CX0 2 fb spBig) (Fd : FnR P w K mg base CX0 1 fg spDigit) {f : Addr} {fd : FuncData} (F : Fun K "is_plain" "is_plain" sPlain f fd) : FnR P w K mg base CX0 3 f (spPlain C) := by
  refine okR F scPl (fun vs H Q E h => ?_) (fun _ _ _ _ _ _ us hl => match us, hl with | [_], _ => rfl) (fun cdv A outer s H vs Q E hr h => ?_)
  · obtain ⟨v, t, rfl, _⟩ := h
    rfl
  obtain ⟨v, t, rfl, ht, hn, q⟩ := h
  have hr1 : Room 1 _ := hr.mono (by decide)
  refine ⟨_, pss_cons (ps_if (PW.pt (pw_or (pt_cmpR op_eq (pe_fld (pv 0) rfl) (pe_gs hH) (nomark _)) (pw_or1 (pt_val (pe_cf Fd hr1 gd pass0 (pa_cons (pe_fld (pv 0) rfl) pa_nil)))))) (pss_one (ps_ret (pe_notT (pe_fld (pv 0) rfl)))) pss_nil)
    (pss_one (ps_ret (pe_and (pe_cf Fb hr gb pass0 (pa_cons (pe_fld (pv 0) rfl) pa_nil)) (pe_one (pe_cmpR op_le (pe_callB call_len_seq (by rfl) ml PySem.boot_len (pa_cons (pe_fld (pv 0) rfl) pa_nil)) (pe_gi hM) (nomark _)))))), ?_⟩
  obtain ⟨a, dx, p, vs', rfl, h1, h2, h3⟩ := ht.ex
  have el := h3.len
  refine ⟨_, rfl, a, C, dx, _, _, rfl, h1, T1.cl, T1.nName, fT_name, rfl, _, rfl, ?_⟩
  have first : (holeName t.name || digName t.name.cps.toList) = true → 
      (tRet (tNotT K (tFld K (tVar 0) "parts"))) { nx := fun _ H' => Q .non H', rt := Q } [some (.ref a)] H := by
    intro hb
    refine ⟨_, rfl, a, C, dx, _, _, rfl, h1, T1.cl, T1.nParts, fT_parts, _, .inr (.inl ⟨vs', SqT.of h2, rfl⟩), ?_⟩
    have e : plainTop t = !(!vs'.isEmpty) := by
      unfold plainTop
      rw [if_pos hb, Bool.not_not]
      cases vs' with
      | nil =>
        have : t.parts = [] := List.eq_nil_of_length_eq_zero el.symm
        rw [this]
        rfl
      | cons x r =>
        cases hp : t.parts with
        | nil => rw [hp] at el; simp at el
        | cons y r' => rfl
    exact e ▸ q H (Same.refl H)
  refine ite2 (fun c => ?_) (fun c => ?_)
  · refine iteT ?_
    refine first ?_
    have : t.name = "_" := V.str.inj (of_decide_eq_true c)
    have : holeName t.name = true := decide_eq_true this
    rw [this, Bool.true_or]
  · have hh : holeName t.name = false := decide_eq_false fun e => c (decide_eq_true (congrArg V.str e))
    refine ⟨_, rfl, a, C, dx, _, _, rfl, h1, T1.cl, T1.nName, fT_name, _, rfl, hn, _, rfl, ?_⟩
    refine ite2 (fun c2 => ?_) (fun c2 => ?_)
    · exact first (by rw [c2, Bool.or_true])
    · have cb : (holeName t.name || digName t.name.cps.toList) = false := by rw [hh, Bool.eq_false_iff.mpr c2] <;> rfl
      have e : plainTop t = (bigName t.name.cps.toList && decide (t.parts.length ≤ 3)) := by
        unfold plainTop
        rw [cb, if_neg Bool.false_ne_true]
      refine ⟨_, rfl, a, C, dx, _, _, rfl, h1, T1.cl, T1.nName, fT_name, _, rfl, hn, fun H' sm => ⟨_, rfl, ?_⟩⟩
      have q' := q H' sm
      rw [e] at q'
      cases hb : bigName t.name.cps.toList with
      | true =>
        refine iteT ⟨_, rfl, a, C, dx, _, _, rfl, sm _ _ h1, T1.cl, T1.nParts, fT_parts, p, vs', rfl, .inr (SqT.of (sm _ _ h2)), _, _, rfl, rfl, ?_⟩
        rw [hb, Bool.true_and] at q'
        have : decide ((vs'.length : Int) ≤ 3) = decide (t.parts.length ≤ 3) := by
          rw [el]
          exact decide_eq_decide.mpr (by omega)
        rw [← this] at q'
        exact q'
      | false =>
        refine iteF ?_
        rw [hb, Bool.false_and] at q'
        exact q'
end
end Tw
set_option maxHeartbeats 4000000
/-! name_end. -/
namespace Tw
open PySem PySem.Spec PyProof.Rows L2
abbrev sNameEnd : Stmt := top 18
/-- the signs that end a name: ( ) , and the space -/
def spec : List Nat := [40, 41, 44, 32]
/-- how many signs of a name stand ahead -/
def nl : List Nat → Nat
  | [] => 0
  | c :: r => if c ∈ spec then 0 else nl r + 1
theorem nl_le : ∀ l, nl l ≤ l.length
  | [] => Nat.le_refl _
  | c :: r => by
    unfold nl
    have := nl_le r
    split
    · omega
    · rw [List.length_cons]; omega
def spNameEnd : Sp := fun vs H Q _ => ∃ (z : Str) (s : Nat), vs = [.str z, .int s] ∧ z.length ≤ sizeLine ∧ s ≤ z.length ∧ Q (.int ((s + nl (z.cps.toList.drop s) : Nat) : Int)) H
/-- a while: Pv by what is left; the test is read once, for whatever is wanted of it -/
theorem while_m {c : TT} {tb : TS} {D : Ends} {σ : L2.St} {H : Hp} (Pv : Nat → L2.St → Hp → Prop) (h0 : ∃ m, Pv m σ H)
    (hs : ∀ m σ H (R : Bool → Hp → Prop), Pv m σ H → (∀ H1, tb { D with nx := fun σ' H' => ∃ m', m' < m ∧ Pv m' σ' H', ct := fun σ' H' => ∃ m', m' < m ∧ Pv m' σ' H', bk := D.nx } σ H1 → R true H1) → (∀ H1, D.nx σ H1 → R false H1) → c σ H R) : tWhile c tb D σ H :=
  ⟨Pv, h0, fun m σ H p => hs m σ H _ p (fun H1 h => by
    show if true = true then _ else _
    rw [if_pos rfl]
    exact ⟨_, fun _ _ h => h, h⟩) fun H1 h => by
    show if false = true then _ else _
    rw [if_neg Bool.false_ne_true]
    exact h⟩
section
variable {P : Program} {w : World} {K : PySem.W.Frag} {mg : Str → Option Value} {base : Heap} {C : Addr}
theorem scNE : FnScope ["text", "start", "end"] ["text", "start"] (defScope sNameEnd) := ⟨rfl, rfl, rfl, by decide +kernel, rfl, by decide +kernel, by decide +kernel⟩
theorem len_list (z : Str) : z.cps.toList.length = z.length := by simp [Str.length]
theorem nl_drop {z : Str} {s c : Nat} (h : z.cps.toList[s]? = some c) : nl (z.cps.toList.drop s) = if c ∈ spec then 0 else nl (z.cps.toList.drop (s + 1)) + 1 := by
  obtain ⟨hk, e⟩ := List.getElem?_eq_some_iff.mp h
  rw [List.drop_eq_getElem_cons hk, e]
  rfl
theorem ok_nameEnd (ml : mg "len" = none) {f : Addr} {fd : FuncData} (F : Fun K "name_end" "name_end" sNameEnd f fd) : FnR P w K mg base CX0 1 f spNameEnd := by
  refine okR F scNE (fun vs H Q E h => ?_) (fun _ _ _ _ _ _ us hl => match us, hl with | [_, _], _ => rfl) (fun cdv A outer s H vs Q E hr h => ?_)
  · obtain ⟨z, s, rfl, _⟩ := h
    rfl
  obtain ⟨z, s0, rfl, hz, hs, q⟩ := h
  refine ⟨_, pss_cons (ps_set (i := 2) scNE.nd rfl (Or.inl rfl) (pv 1))
    (pss_cons (ps_while PassesOwn.never (PW.pt (pw_and (pt_cmpR op_lt (pv 2) (pe_callB call_len_str (by rfl) ml PySem.boot_len (pa_cons (pv 0) pa_nil)) (nomark _)) (pw_and1 (pt_cmpR op_notIn_sign (pe_item_str (pv 0) (pv 2) (fun _ _ => rfl)) pe_str (by rfl)))))
      (pss_one (ps_aug (i := 2) scNE.nd rfl (Or.inl rfl) pe_int ip_add)))
    (pss_one (ps_ret (pv 2)))), ?_⟩
  have ll := len_list z
  have sl := sizeLine_eq
  refine ⟨_, rfl, ?_⟩
  refine name_go ?_
  dsimp only
  refine seq_go ?_
  refine while_m (fun m σ H' => ∃ s : Nat, σ = [some (.str z), some (.int s0), some (.int s)] ∧ H' = H ∧ s ≤ z.length ∧ s + nl (z.cps.toList.drop s) = s0 + nl (z.cps.toList.drop s0) ∧ m = z.length - s)
    ⟨_, s0, rfl, rfl, hs, rfl, rfl⟩ ?_
  · rintro m σ H1 R ⟨s, rfl, rfl, hs1, he, rfl⟩ ht hf
    refine ⟨_, rfl, _, rfl, z, rfl, hz, _, _, rfl, rfl, _, rfl, ?_⟩
    refine ite2 (fun c => ?_) (fun c => ?_)
    · have c' : s < z.length := by
        have := of_decide_eq_true c
        omega
      obtain ⟨ch, hch⟩ : ∃ ch, z.cps.toList[s]? = some ch := ⟨_, List.getElem?_eq_getElem (by omega)⟩
      have nd := nl_drop hch
      refine ⟨_, rfl, _, rfl, _, _, ch, rfl, rfl, by omega, by omega, by omega, by rw [← Array.getElem?_toList]; exact hch, _, _, rfl, rfl, _, rfl, ?_⟩
      by_cases hc : ch ∈ spec
      · rw [if_pos hc] at nd
        rw [show decide (ch ∈ ("(), " : Str).cps.toList) = true from decide_eq_true hc]
        rw [nd] at he
        have : s = s0 + nl (z.cps.toList.drop s0) := by omega
        rw [← this] at q
        exact hf _ ⟨_, rfl, q⟩
      · rw [if_neg hc] at nd
        rw [show decide (ch ∈ ("(), " : Str).cps.toList) = false from decide_eq_false hc]
        exact ht _ ⟨_, rfl, _, _, rfl, rfl, _, by omega, s + 1, rfl, rfl, by omega, by omega, rfl⟩
    · have c' : s = z.length := by
        have := of_decide_eq_false (Bool.eq_false_iff.mpr c)
        omega
      have e0 : nl (z.cps.toList.drop s) = 0 := by rw [List.drop_of_length_le (by omega)]; rfl
      have : s = s0 + nl (z.cps.toList.drop s0) := by omega
      rw [← this] at q
      exact hf _ ⟨_, rfl, q⟩
end
end Tw
set_option maxHeartbeats 4000000
/-! What written_tree reads: the mirror. -/
namespace Tw
open PySem PySem.Spec PyProof.Rows L2
def mkS (l : List Nat) : Str := ⟨l.toArray⟩
theorem mkS_list (l : List Nat) : (mkS l).cps.toList = l := by simp [mkS]
theorem mkS_len (l : List Nat) : (mkS l).length = l.length := by simp [mkS, Str.length]
theorem str_ext {a b : Str} (h : a.cps.toList = b.cps.toList) : a = b := by
  obtain ⟨a⟩ := a
  obtain ⟨b⟩ := b
  congr
  exact Array.toList_inj.mp h
theorem mkS_of (z : Str) : mkS z.cps.toList = z := str_ext (mkS_list _)
abbrev Stack := List (Str × List T)
/-- the nodes that end here -/
def closing : Stack → T → List Nat → T × Stack × List Nat
  | [], t, r => (t, [], r)
  | (n, ps) :: rest, t, [] => (t, (n, ps) :: rest, [])
  | (n, ps) :: rest, t, c :: r => if c = 41 then closing rest (.node n (ps ++ [t])) r else (t, (n, ps) :: rest, c :: r)
/-- the tree that is written here, behind what is open; fuel: more than the signs -/
def wtF : Nat → Stack → List Nat → Option T
  | 0, _, _ => none
  | f + 1, stk, cs =>
    if nl cs = 0 then none
    else if (cs.drop (nl cs)).take 1 = [40] then wtF f ((mkS (cs.take (nl cs)), []) :: stk) (cs.drop (nl cs + 1))
    else match closing stk (.node (mkS (cs.take (nl cs))) []) (cs.drop (nl cs)) with
      | (t, [], r) => if r = [] then some t else none
      | (t, (n, ps) :: rest, r) => if r.take 2 = [44, 32] then wtF f ((n, ps ++ [t]) :: rest) (r.drop 2) else none
/-- text[s:e] -/
theorem cut_eq {z : Str} {s e : Nat} (hs : s ≤ z.length) (he : s ≤ e) : cutS z (some (s : Int)) (some (e : Int)) = mkS ((z.cps.toList.drop s).take (e - s)) := by
  refine str_ext ?_
  rw [mkS_list]
  unfold cutS
  rw [HT.sIx_nat, HT.sIx_nat, Nat.min_eq_left hs]
  show ((z.cps.toList.drop s).take (min e z.length - s)).toArray.toList = _
  rw [List.toList_toArray]
  by_cases h : e ≤ z.length
  · rw [Nat.min_eq_left h]
  · rw [Nat.min_eq_right (by omega), List.take_of_length_le (by rw [List.length_drop, len_list] <;> omega), List.take_of_length_le (by rw [List.length_drop, len_list]; omega)]
theorem mkS_inj {a b : List Nat} : mkS a = mkS b ↔ a = b := ⟨fun h => by rw [← mkS_list a, h, mkS_list], fun h => by rw [h]⟩
theorem mkS_is {l : List Nat} {z : Str} (m : List Nat) (h : z.cps.toList = m) : decide (V.str (mkS l) = V.str z) = decide (l = m) := by
  refine decide_eq_decide.mpr ⟨fun e => ?_, fun e => ?_⟩
  · rw [← h, ← V.str.inj e, mkS_list]
  · subst e
    rw [← h, mkS_of]
/-! the lengths of texts -/
def partsW (ps : List T) : Nat := (ps.map fun p => p.term.length + 2).sum
def stkW : Stack → Nat
  | [] => 0
  | (n, ps) :: r => n.length + 1 + partsW ps + stkW r
theorem partsW_snoc (ps : List T) (t : T) : partsW (ps ++ [t]) = partsW ps + (t.term.length + 2) := by
  unfold partsW
  rw [List.map_append, List.sum_append]
  simp
theorem partsW_terms : ∀ ps : List T, ((T.terms ps).map (·.length)).sum + ps.length * 2 = partsW ps
  | [] => by unfold T.terms partsW; rfl
  | p :: r => by
    have ih := partsW_terms r
    unfold T.terms
    unfold partsW at *
    rw [List.map_cons, List.sum_cons, List.map_cons, List.sum_cons, List.length_cons]
    omega
theorem partsW_len (ps : List T) : ps.length * 2 ≤ partsW ps := by
  rw [← partsW_terms]
  omega
theorem term_len_le (n : Str) (ps : List T) : (T.term (.node n ps)).length ≤ n.length + 2 + partsW ps := by
  cases ps with
  | nil => unfold T.term; omega
  | cons p r =>
    rw [term_cons n (by simp), add_len, add_len, add_len]
    have lj := join_len (T.terms (p :: r))
    have lt : (T.terms (p :: r)).length = (p :: r).length := by rw [terms_map, List.length_map]
    have lo : ("(" : Str).length = 1 := by decide
    have lc : (")" : Str).length = 1 := by decide
    rw [lt, partsW_terms] at lj
    omega
/-- .. where the last one has no comma behind it -/
theorem join_len2 : ∀ ys : List Str, ys ≠ [] → (Txt.join ", " ys).length + 2 = (ys.map (·.length)).sum + ys.length * 2
  | [], h => absurd rfl h
  | [y], _ => by
    rw [TL.join_eq]
    show y.length + 2 = _
    simp
  | y :: z :: r, _ => by
    have ih := join_len2 (z :: r) (by simp)
    have e : Txt.join ", " (y :: z :: r) = y ++ ", " ++ Txt.join ", " (z :: r) := by rw [TL.join_eq, TL.join_eq] <;> rfl
    rw [e, add_len, add_len]
    have e2 : (", " : Str).length = 2 := by decide
    rw [e2, List.map_cons, List.sum_cons, List.length_cons]
    omega
theorem term_len_snoc (n : Str) (ps : List T) (t : T) : (T.term (.node n (ps ++ [t]))).length ≤ n.length + 1 + partsW ps + t.term.length + 1 := by
  rw [term_cons n (by simp), add_len, add_len, add_len]
  have lj := join_len2 (T.terms (ps ++ [t])) (by rw [terms_map]; simp)
  have lt : (T.terms (ps ++ [t])).length = (ps ++ [t]).length := by rw [terms_map, List.length_map]
  have lo : ("(" : Str).length = 1 := by decide
  have lc : (")" : Str).length = 1 := by decide
  rw [lt, partsW_terms, partsW_snoc] at lj
  omega
end Tw
set_option maxHeartbeats 4000000
/-! Tree(..): a new tree. -/
namespace Tw
open PySem PySem.Spec PyProof.Rows L2
section
variable {X : Cx} {CX : CXT} {k : Nat} {f C : Addr} {sp : Sp} {E : XK} {x : Str} {e : Expr} {es : List Expr} {t : TA} {p pos : Pos}
/-- C(e, .., *y) -/
theorem pe_makeS2 (M : Mk X.K C f) (F : FnR X.prog X.w X.K X.mg X.base CX k f sp) (hr : Room (k + 1) X.A) (hm : X.mg x = some (.ref C)) (hx : Passes CX X E) (ha : PA X (e :: es) t) (hg : Gl X x := by rfl) (hd : (x == ("__debug__" : Str)) = false := by decide)
    (he : starEach (e :: es) X.env = (false, eval e X.env) :: starEach es X.env := by rfl) (hst : (backTo pos (starEach es X.env)).any (·.1) = true := by rfl) :
    PE X (.Call (.Name x p) (e :: es) [] pos) (StX.tMakeR C sp E t) := by
  refine ⟨fun pins s σ H Q I h => ?_⟩
  refine wpAny_Call_Name_kw (ld_glob I hg hm ?_ hd)
  refine PySem.W.callWith_S2 (h₀ := X.base) I.ok.mod.kin M.kp (thn (ha.run pos pins s σ H _ I h) fun us s1 ⟨vs, H1, I1, r, q⟩ => ⟨I1.kIn, ?_⟩) he hst
  exact StX.run_makeR M F hr hx I1 r q
end
/-- the promise of Tree.__init__ as its callers see it -/
def spMk (C : Addr) : Sp := fun vs H Q E => ∃ ws rest, vs = ws ++ rest ∧ ws.length = (["self", "name"] : List Str).length ∧ rest.length ≤ sizeLine ∧ ∀ p, H p = none → spInit C (ws ++ [V.ref p]) (upd H p (.tup rest)) Q E
/-- what a reading of Tree(n, ..) asks -/
theorem rd_make {C : Addr} {H1 : Hp} {n : Str} {ws : List V} {ts : List T} {Q : VK} {E : XK} (h : TreesAt C H1 ws ts) (fit : TermFits n ts) (hQ : ∀ a H', Same H1 H' → TreeAt C H' (.ref a) (.node n ts) → Q (.ref a) H') :
    ∀ x dx, H1 x = none → H1 dx = none → dx ≠ x → spMk C (V.ref x :: (.str n :: ws)) (upd (upd H1 dx (.own x)) x (.ins C dx [])) (fun v H2 => v = .non ∧ Q (.ref x) H2) E := by
  intro x dx nx ndx ne
  have s0 : Same H1 (upd (upd H1 dx (.own x)) x (.ins C dx [])) := fun b o e => by rw [upd_ne (ne_of_none e nx), upd_ne (ne_of_none e ndx)]; exact e
  have el := h.len
  have sl := sizeLine_eq
  refine ⟨[V.ref x, .str n], ws, rfl, rfl, by have := fit.2.1; omega, fun p hp => ?_⟩
  have s1 : Same (upd (upd H1 dx (.own x)) x (.ins C dx [])) (upd (upd (upd H1 dx (.own x)) x (.ins C dx [])) p (.tup ws)) := fun b o e => by rw [upd_ne (ne_of_none e hp)]; exact e
  have keep : ∀ H', (∀ b o, (upd (upd (upd H1 dx (.own x)) x (.ins C dx [])) p (.tup ws)) b = some o → b ≠ x → H' b = some o) → Same H1 H' := fun H' k b o e => k b o (s1 _ _ (s0 _ _ e)) (ne_of_none e nx)
  refine ⟨x, dx, p, n, ws, ts, rfl, s1 _ _ upd_same, upd_same, ne_of_none (upd_same (H := upd H1 dx (.own x)) (a := x) (o := .ins C dx [])) hp, fun H' k => h.mono (keep H' k), fit, fun H' e k => ⟨rfl, hQ x H' (keep H' k) (.mk e ?_ (h.mono (keep H' k)))⟩⟩
  exact k p _ upd_same (ne_of_none (upd_same (H := upd H1 dx (.own x)) (a := x) (o := .ins C dx [])) hp).symm
/-- Tree(n, ..): a new tree of these parts -/
def tMkT (C : Addr) (t : TA) : TE := fun σ H Q => t σ H fun vs H1 => ∃ (n : Str) (ws : List V) (ts : List T), vs = .str n :: ws ∧ TreesAt C H1 ws ts ∧ TermFits n ts ∧ ∀ a H', Same H1 H' → TreeAt C H' (.ref a) (.node n ts) → Q (.ref a) H'
section
variable {X : Cx} {f C : Addr} {x : Str} {e : Expr} {es : List Expr} {t : TA} {p pos : Pos}
theorem run_mkT {pins : List (Addr × Obj)} {σ : L2.St} {H1 : Hp} {s : Shared} {Q : VK} {us : List Value} {vs : List V} (M : Mk X.K C f) (F : FnR X.prog X.w X.K X.mg X.base CX0 3 f (spMk C)) (hr : Room 4 X.A) (I : Inv X pins σ H1 s) (r : Vals vs us)
    (q : ∃ (n : Str) (ws : List V) (ts : List T), vs = .str n :: ws ∧ TreesAt C H1 ws ts ∧ TermFits n ts ∧ ∀ a H', Same H1 H' → TreeAt C H' (.ref a) (.node n ts) → Q (.ref a) H') : wpAny (model X.prog X.w) X.A (call (.ref C) us) (EP X pins σ Q) X.xe s := by
  obtain ⟨n, ws, ts, rfl, h, fit, hQ⟩ := q
  exact StX.run_makeR (E := E0) M F hr pass0 I r (rd_make h fit hQ)
theorem pe_mk (M : Mk X.K C f) (F : FnR X.prog X.w X.K X.mg X.base CX0 3 f (spMk C)) (hr : Room 4 X.A) (hm : X.mg x = some (.ref C)) (ha : PA X (e :: es) t) (hg : Gl X x := by rfl) (hdb : (x == ("__debug__" : Str)) = false := by decide)
    (he : starEach (e :: es) X.env = (false, eval e X.env) :: starEach es X.env := by rfl) (hpl : (backTo pos (starEach es X.env)).any (·.1) = false := by rfl) : PE X (.Call (.Name x p) (e :: es) [] pos) (tMkT C t) := by
  refine ⟨fun pins s σ H Q I h => ?_⟩
  refine wpAny_Call_Name_kw (ld_glob I hg hm ?_ hdb)
  refine PySem.W.callWith_K (h₀ := X.base) I.ok.mod.kin M.kp (thn (ha.run pos pins s σ H _ I h) fun us s1 ⟨vs, H1, I1, r, q⟩ => ⟨I1.kIn, ?_⟩) he hpl
  exact run_mkT M F hr I1 r q
theorem pe_mkS (M : Mk X.K C f) (F : FnR X.prog X.w X.K X.mg X.base CX0 3 f (spMk C)) (hr : Room 4 X.A) (hm : X.mg x = some (.ref C)) (ha : PA X (e :: es) t) (hg : Gl X x := by rfl) (hdb : (x == ("__debug__" : Str)) = false := by decide)
    (he : starEach (e :: es) X.env = (false, eval e X.env) :: starEach es X.env := by rfl) (hst : (backTo pos (starEach es X.env)).any (·.1) = true := by rfl) : PE X (.Call (.Name x p) (e :: es) [] pos) (tMkT C t) := by
  refine ⟨fun pins s σ H Q I h => ?_⟩
  refine wpAny_Call_Name_kw (ld_glob I hg hm ?_ hdb)
  refine PySem.W.callWith_S2 (h₀ := X.base) I.ok.mod.kin M.kp (thn (ha.run pos pins s σ H _ I h) fun us s1 ⟨vs, H1, I1, r, q⟩ => ⟨I1.kIn, ?_⟩) he hst
  exact run_mkT M F hr I1 r q
end
end Tw
set_option maxHeartbeats 4000000
/-! written_tree. -/
namespace Tw
open PySem PySem.Spec PyProof.Rows L2
abbrev sWritten : Stmt := top 19
/-- what is open, the innermost first: a pair of a name and a list of parts each -/
inductive StkAt (C : Addr) (H0 H : Hp) : List V → List Addr → Stack → Prop
  | nil : StkAt C H0 H [] [] []
  | cons {e l : Addr} {n : Str} {pvs vs : List V} {ps : List T} {ls : List Addr} {stk : Stack} (h1 : H e = some (.tup [.str n, .ref l])) (h2 : H0 l = none) (h3 : H l = some (.lst pvs)) (h4 : TreesAt C H pvs ps) (h5 : l ∉ ls) (h6 : StkAt C H0 H vs ls stk) :
      StkAt C H0 H (.ref e :: vs) (l :: ls) ((n, ps) :: stk)
theorem StkAt.firm {C : Addr} {H0 H H' : Hp} (f : Firm H H') {vs : List V} {ls : List Addr} {stk : Stack} (s : StkAt C H0 H vs ls stk) : (∀ l ∈ ls, H' l = H l) → StkAt C H0 H' vs ls stk := by
  induction s with
  | nil => exact fun _ => .nil
  | cons h1 h2 h3 h4 h5 h6 ih => exact fun k => .cons (f.1 _ _ h1) h2 ((k _ List.mem_cons_self).trans h3) (h4.firm f) h5 (ih fun l hl => k l (List.mem_cons_of_mem _ hl))
theorem StkAt.len {C : Addr} {H0 H : Hp} {vs : List V} {ls : List Addr} {stk : Stack} (s : StkAt C H0 H vs ls stk) : vs.length = stk.length := by
  induction s with
  | nil => rfl
  | cons _ _ _ _ _ _ ih => rw [List.length_cons, List.length_cons, ih]
theorem StkAt.tracked {C : Addr} {H0 H : Hp} {vs : List V} {ls : List Addr} {stk : Stack} (s : StkAt C H0 H vs ls stk) : ∀ l ∈ ls, ∃ pvs, H l = some (.lst pvs) := by
  induction s with
  | nil => exact fun _ h => by cases h
  | cons h1 h2 h3 h4 h5 h6 ih =>
    intro l hl
    rcases List.mem_cons.mp hl with rfl | hl
    · exact ⟨_, h3⟩
    · exact ih l hl
structure WtSt (C : Addr) (z : Str) (H H' : Hp) (ab : Addr) (avs : List V) (ls : List Addr) (stk : Stack) (at_ : Nat) : Prop where
  same : Same H H'
  nab : H ab = none
  al : H' ab = some (.lst avs.reverse)
  st : StkAt C H H' avs ls stk
  nin : ab ∉ ls
  le : at_ ≤ z.length
/-- further new things change nothing -/
theorem WtSt.more {C : Addr} {z : Str} {H H' H2 : Hp} {ab : Addr} {avs : List V} {ls : List Addr} {stk : Stack} {at_ : Nat} (s : WtSt C z H H' ab avs ls stk at_) (k : Same H' H2) : WtSt C z H H2 ab avs ls stk at_ :=
  ⟨s.same.trans k, s.nab, k _ _ s.al, s.st.firm (.of k) fun l hl => by obtain ⟨pvs, e⟩ := s.st.tracked l hl; rw [e, k _ _ e], s.nin, s.le⟩
def spWritten (C : Addr) : Sp := fun vs H Q _ => ∃ z : Str, vs = [.str z] ∧ z.length ≤ 1000000 ∧ ∀ v H', Same H H' → (match wtF (z.length + 1) [] z.cps.toList with | none => v = .non | some t => TreeAt C H' v t) → Q v H'
section
variable {P : Program} {w : World} {K : PySem.W.Frag} {mg : Str → Option Value} {base : Heap} {C : Addr}
theorem scW : FnScope ["text", "above", "at", "end", "name", "tree", "parts"] ["text"] (defScope sWritten) := ⟨rfl, rfl, rfl, by decide +kernel, rfl, by decide +kernel, by decide +kernel⟩
theorem ok_written {fI fe : Addr} (M : Mk K C fI) (Fi : FnR P w K mg base CX0 3 fI (spMk C)) (gT : mg "Tree" = some (.ref C)) (ge : Gf K mg "name_end" fe) (Fe : FnR P w K mg base CX0 1 fe spNameEnd) (ml : mg "len" = none) {f : Addr} {fd : FuncData} (F : Fun K "written_tree" "written_tree" sWritten f fd) : FnR P w K mg base CX0 5 f (spWritten C) := by
  refine okR F scW (fun vs H Q E h => ?_) (fun _ _ _ _ _ _ us hl => match us, hl with | [_], _ => rfl) (fun cdv A outer s H vs Q E hr h => ?_)
  · obtain ⟨z, rfl, _⟩ := h
    rfl
  obtain ⟨z, rfl, hz, q⟩ := h
  have hr1 : Room 1 _ := hr.mono (by decide)
  refine ⟨_, pss_cons (ps_set (i := 1) scW.nd rfl (Or.inl rfl) (pe_lst pa_nil))
    (pss_cons (ps_set (i := 2) scW.nd rfl (Or.inl rfl) pe_int)
    (pss_one (ps_while PassesOwn.never (pt_val pe_bl)
      (pss_cons (ps_set (i := 3) scW.nd rfl (Or.inl rfl) (pe_cf Fe hr1 ge pass0 (pa_cons (pv 0) (pa_cons (pv 2) pa_nil))))
      (pss_cons (ps_if (pt_cmpR op_eq (pv 3) (pv 2) (nomark _)) (pss_one (ps_ret pe_non)) pss_nil)
      (pss_cons (ps_set (i := 4) scW.nd rfl (Or.inl rfl) (pe_slice sl_str (pv 0) (po_some (pv 2)) (po_some (pv 3))))
      (pss_cons (ps_if (pt_cmpR op_eq (pe_slice sl_str (pv 0) (po_some (pv 3)) (po_some (pe_op op_add (pv 3) pe_int))) pe_str (nomark _))
          (pss_cons (ps_expr (pe_bm PySem.F.plainAttrs_list PySem.F.slot_list_append PySem.F.type_list_append mt_append (pv 1) (pa_cons (pe_tup (pa_cons (pv 4) (pa_cons (pe_lst pa_nil) pa_nil))) pa_nil)))
          (pss_cons (ps_set (i := 2) scW.nd rfl (Or.inl rfl) (pe_op op_add (pv 3) pe_int))
          (pss_one ps_continue))) pss_nil)
      (pss_cons (ps_set (i := 5) scW.nd rfl (Or.inl rfl) (pe_mk M Fi hr gT (pa_cons (pv 4) pa_nil)))
      (pss_cons (ps_set (i := 2) scW.nd rfl (Or.inl rfl) (pv 3))
      (pss_cons (ps_while PassesOwn.never (PW.pt (pw_and (pt_truth (pv 1) (by intro _; rfl)) (pw_and1 (pt_cmpR op_eq (pe_slice sl_str (pv 0) (po_some (pv 2)) (po_some (pe_op op_add (pv 2) pe_int))) pe_str (nomark _)))))
          (pss_cons (ps_asg (pe_bm0 PySem.F.plainAttrs_list PySem.F.slot_list_pop PySem.F.type_list_pop mt_pop (pv 1)) (pg_tup (by rfl) (pgs_cons (pg_name (i := 4) scW.nd rfl (Or.inl rfl)) (pgs_cons (pg_name (i := 6) scW.nd rfl (Or.inl rfl)) pgs_nil))))
          (pss_cons (ps_expr (pe_bm PySem.F.plainAttrs_list PySem.F.slot_list_append PySem.F.type_list_append mt_append (pv 6) (pa_cons (pv 5) pa_nil)))
          (pss_cons (ps_set (i := 5) scW.nd rfl (Or.inl rfl) (pe_mkS M Fi hr gT (pa_cons (pv 4) (StX.pa_star (pv 6) pa_nil))))
          (pss_one (ps_aug (i := 2) scW.nd rfl (Or.inl rfl) pe_int ip_add))))))
      (pss_cons (ps_if (pt_not (pt_truth (pv 1) (by intro _; rfl))) (pss_one (ps_ret (pe_ifExp (pt_cmpR op_eq (pv 2) (pe_callB call_len_str (by rfl) ml PySem.boot_len (pa_cons (pv 0) pa_nil)) (nomark _)) (pv 5) pe_non))) pss_nil)
      (pss_cons (ps_if (pt_cmpR op_ne (pe_slice sl_str (pv 0) (po_some (pv 2)) (po_some (pe_op op_add (pv 2) pe_int))) pe_str (nomark _)) (pss_one (ps_ret pe_non)) pss_nil)
      (pss_cons (ps_expr (pe_bm PySem.F.plainAttrs_list PySem.F.slot_list_append PySem.F.type_list_append mt_append (pe_ix ix_tup (pe_ix ix_list (pv 1) (pe_un un_neg pe_int) (fun _ _ => rfl)) pe_int (fun _ _ => rfl)) (pa_cons (pv 5) pa_nil)))
      (pss_one (ps_aug (i := 2) scW.nd rfl (Or.inl rfl) pe_int ip_add))))))))))))))), ?_⟩
  have zl : (0 : Nat) ≤ sizeLine := Nat.zero_le _
  have sl := sizeLine_eq
  have ll := len_list z
  obtain ⟨res, hres0⟩ : ∃ res, wtF (z.length + 1) [] z.cps.toList = res := ⟨_, rfl⟩
  rw [hres0] at q
  refine ⟨zl, fun ab nab => ?_⟩
  refine name_go ?_
  dsimp only
  refine seq_go ?_
  refine name_go ?_
  dsimp only
  have s1 : Same H (upd H ab (.lst [])) := fun b o e => by rw [upd_ne (ne_of_none e nab)]; exact e
  refine while_m (fun m σ H' => ∃ (at_ : Nat) (stk : Stack) (avs : List V) (ls : List Addr) (v3 v4 v5 v6 : Option V) (fu : Nat), σ = [some (.str z), some (.ref ab), some (.int at_), v3, v4, v5, v6] ∧ WtSt C z H H' ab avs ls stk at_ ∧ stkW stk ≤ at_ ∧
      (z.cps.toList.drop at_).length < fu ∧ wtF fu stk (z.cps.toList.drop at_) = res ∧ m = z.length - at_)
    ⟨_, 0, [], [], [], none, none, none, none, z.length + 1, rfl, ⟨s1, nab, upd_same, .nil, by simp, Nat.zero_le _⟩, Nat.zero_le _, by rw [List.drop_zero, ll]; omega, by rw [List.drop_zero]; exact hres0, rfl⟩ ?_
  rintro m σ H1 R ⟨at_, stk, avs, ls, v3, v4, v5, v6, fu, rfl, S, hw, hfu, hres, rfl⟩ ht hf
  refine ⟨_, rfl, ht _ ?_⟩
  obtain ⟨fu', rfl⟩ : ∃ fu', fu = fu' + 1 := ⟨fu - 1, by omega⟩
  have hres' := hres
  generalize hcs : z.cps.toList.drop at_ = cs at hres' hfu
  have hle := S.le
  have csl : cs.length = z.length - at_ := by rw [← hcs, List.length_drop, ll]
  have nle := nl_le cs
  unfold wtF at hres'
  refine ⟨_, rfl, _, rfl, z, at_, rfl, by omega, S.le, ?_⟩
  rw [hcs]
  refine ⟨_, rfl, _, rfl, rfl, _, rfl, ?_⟩
  refine ite2 (fun c => ?_) (fun c => ?_)
  · -- no name
    have e0 : nl cs = 0 := by
      have := V.int.inj (of_decide_eq_true c)
      omega
    rw [if_pos e0] at hres'
    refine q _ _ S.same ?_
    rw [← hres']
  have n0 : nl cs ≠ 0 := fun e => c (decide_eq_true (by rw [e]; rfl))
  rw [if_neg n0] at hres'
  have le2 : at_ + nl cs ≤ z.length := by omega
  have d2 : z.cps.toList.drop (at_ + nl cs) = cs.drop (nl cs) := by rw [← hcs, List.drop_drop]
  -- name = text[at:end]
  refine ⟨_, rfl, _, rfl, _, rfl, _, rfl, _, rfl, z, rfl, by omega, ?_⟩
  have nm : cutS z (some (at_ : Int)) (some ((at_ + nl cs : Nat) : Int)) = mkS (cs.take (nl cs)) := by
    rw [cut_eq S.le (by omega), hcs, show at_ + nl cs - at_ = nl cs by omega]
  rw [nm]
  have nml : (mkS (cs.take (nl cs))).length = nl cs := by rw [mkS_len, List.length_take]; omega
  generalize mkS (cs.take (nl cs)) = name at hres' nml ⊢
  -- is it a (
  have c1 : cutS z (some ((at_ + nl cs : Nat) : Int)) (some (((at_ + nl cs : Nat) : Int) + 1)) = mkS ((cs.drop (nl cs)).take 1) := by
    have := cut_eq (z := z) (s := at_ + nl cs) (e := at_ + nl cs + 1) le2 (by omega)
    rw [d2, show at_ + nl cs + 1 - (at_ + nl cs) = 1 by omega] at this
    rw [← this]
    rfl
  refine ⟨_, rfl, _, rfl, _, rfl, _, rfl, _, _, rfl, rfl, _, rfl, z, rfl, by omega, rfl, _, rfl, ?_⟩
  rw [c1, mkS_is [40] (by decide +kernel)]
  refine ite2 (fun c2 => ?_) (fun c2 => ?_)
  · have c2' := of_decide_eq_true c2
    rw [if_pos c2'] at hres'
    have hlt : nl cs < cs.length := by
      rcases Nat.lt_or_ge (nl cs) cs.length with h | h
      · exact h
      · rw [List.drop_of_length_le h] at c2'
        cases c2'
    refine ⟨_, rfl, .inl ⟨rfl, _, SqL.of S.al⟩, _, rfl, zl, fun l nl' => ⟨by show 2 ≤ sizeLine; omega, fun e ne => ?_⟩⟩
    have k1 : Same H1 (upd H1 l (.lst [])) := fun b o h => by rw [upd_ne (ne_of_none h nl')]; exact h
    have k2 : Same (upd H1 l (.lst [])) (upd (upd H1 l (.lst [])) e (.tup [.str name, .ref l])) := fun b o h => by rw [upd_ne (ne_of_none h ne)]; exact h
    have S2 := S.more (k1.trans k2)
    have hl2 := k2 _ _ (upd_same (H := H1) (a := l) (o := .lst []))
    have he2 := upd_same (H := upd H1 l (.lst [])) (a := e) (o := .tup [.str name, .ref l])
    have nl0 : H l = none := S.same.free nl'
    have lab : l ≠ ab := (ne_of_none S.al nl').symm
    have lls : l ∉ ls := fun h => by obtain ⟨pvs, e⟩ := S.st.tracked l h; rw [nl'] at e; cases e
    have avl := S.st.len
    have stl : ∀ stk : Stack, stk.length ≤ stkW stk := fun stk => by
      induction stk with
      | nil => exact Nat.zero_le _
      | cons a r ih =>
        obtain ⟨n, ps⟩ := a
        unfold stkW
        rw [List.length_cons]
        omega
    have stk1 := stl stk
    refine ⟨ab, avs.reverse, .ref e, rfl, rfl, S2.al, by rw [List.length_reverse]; omega, ?_⟩
    have fm := Firm.list (o := .lst (avs.reverse ++ [.ref e])) S2.al
    refine ⟨_, rfl, _, _, rfl, rfl, ?_⟩
    refine ⟨_, ?_, at_ + nl cs + 1, (name, []) :: stk, .ref e :: avs, l :: ls, _, _, _, _, fu', rfl, ⟨fun b o h => ?_, S.nab, by rw [upd_same, List.reverse_cons], .cons (fm.1 _ _ he2) nl0 (by rw [upd_ne lab]; exact hl2) (by unfold TreesAt; trivial) lls (S2.st.firm fm fun l' hl' => upd_ne fun h => S.nin (h ▸ hl')), ?_, by omega⟩, ?_, ?_, ?_, rfl⟩
    · omega
    · rw [upd_ne (ne_of_none h S.nab)]
      exact S2.same b o h
    · intro h
      rcases List.mem_cons.mp h with h | h
      · exact lab h.symm
      · exact S.nin h
    · unfold stkW partsW
      rw [nml]
      simp
      omega
    · rw [List.length_drop, ll]
      omega
    · rw [← hres', ← hcs, List.drop_drop]
      rfl
  have c2' : ¬ (cs.drop (nl cs)).take 1 = [40] := of_decide_eq_false (Bool.eq_false_iff.mpr c2)
  rw [if_neg c2'] at hres'
  -- tree = Tree(name); at = end
  have fit0 : TermFits name [] := ⟨by omega, Nat.zero_le _, by unfold T.terms; simp⟩
  refine ⟨_, rfl, name, [], [], rfl, (by unfold TreesAt; trivial), fit0, fun a2 H2 k2 ta2 => ?_⟩
  have S2 := S.more k2
  refine ⟨_, rfl, ?_⟩
  refine name_go ?_
  dsimp only
  refine seq_go ?_
  have tl0 : (T.term (.node name [])).length = nl cs := by unfold T.term; exact nml
  obtain ⟨cl, hcl⟩ : ∃ cl, closing stk (.node name []) (cs.drop (nl cs)) = cl := ⟨_, rfl⟩
  rw [hcl] at hres'
  refine while_m (fun m σ H' => ∃ (at2 : Nat) (stk2 : Stack) (avs2 : List V) (ls2 : List Addr) (t : T) (a : Addr) (v4 v6 : Option V), σ = [some (.str z), some (.ref ab), some (.int at2), some (.int ((at_ + nl cs : Nat) : Int)), v4, some (.ref a), v6] ∧ WtSt C z H H' ab avs2 ls2 stk2 at2 ∧
      TreeAt C H' (.ref a) t ∧ t.term.length + stkW stk2 ≤ at2 ∧ at_ < at2 ∧ closing stk2 t (z.cps.toList.drop at2) = cl ∧ m = stk2.length)
    ⟨_, at_ + nl cs, stk, avs, ls, .node name [], a2, some (.str name), v6, rfl, ⟨S2.same, S2.nab, S2.al, S2.st, S2.nin, le2⟩, ta2, by omega, by omega, by rw [d2]; exact hcl, rfl⟩ ?_
  clear k2 ta2 S2
  rintro m2 σ2 H3 R2 ⟨at2, stk2, avs2, ls2, t, a, w4, w6, rfl, S3, ta, hw3, hlt, hcl2, rfl⟩ ht2 hf2
  generalize hcs2 : z.cps.toList.drop at2 = cs2 at hcl2
  have le3 := S3.le
  have cs2l : cs2.length = z.length - at2 := by rw [← hcs2, List.length_drop, ll]
  have c3 : cutS z (some (at2 : Int)) (some ((at2 : Int) + 1)) = mkS (cs2.take 1) := by
    have := cut_eq (z := z) (s := at2) (e := at2 + 1) le3 (by omega)
    rw [hcs2, show at2 + 1 - at2 = 1 by omega] at this
    rw [← this]
    rfl
  -- what comes behind the inner loop
  have after : closing stk2 t cs2 = (t, stk2, cs2) → R2 false H3 := by
    intro e0
    rw [e0] at hcl2
    rw [← hcl2] at hres'
    refine hf2 _ ?_
    refine ⟨_, rfl, !avs2.reverse.isEmpty, .inl ⟨avs2.reverse, SqL.of S3.al, rfl⟩, ?_⟩
    cases hst : S3.st with
    | nil =>
      refine iteT ?_
      refine ⟨_, rfl, _, rfl, z, rfl, by omega, rfl, _, rfl, ?_⟩
      refine ite2 (fun c5 => ?_) (fun c5 => ?_)
      · have e5 : at2 = z.length := by
          have := V.int.inj (of_decide_eq_true c5)
          omega
        have e6 : cs2 = [] := List.eq_nil_of_length_eq_zero (by omega)
        refine ⟨_, rfl, q _ _ S3.same ?_⟩
        rw [← hres']
        dsimp only
        rw [if_pos e6]
        exact ta
      · have e6 : cs2 ≠ [] := fun h => by
          rw [h] at cs2l
          exact c5 (decide_eq_true (congrArg V.int (by simp at cs2l; omega)))
        refine q _ _ S3.same ?_
        rw [← hres']
        dsimp only
        rw [if_neg e6]
    | @cons e l n pvs vs ps ls' stk' h1 h2 h3 h4 h5 h6 =>
      rw [show (!(V.ref e :: vs).reverse.isEmpty) = true by simp]
      refine iteF ?_
      have c6 : cutS z (some (at2 : Int)) (some ((at2 : Int) + 2)) = mkS (cs2.take 2) := by
        have := cut_eq (z := z) (s := at2) (e := at2 + 2) le3 (by omega)
        rw [hcs2, show at2 + 2 - at2 = 2 by omega] at this
        rw [← this]
        rfl
      refine ⟨_, rfl, _, rfl, _, rfl, _, rfl, _, _, rfl, rfl, _, rfl, z, rfl, by omega, rfl, _, rfl, ?_⟩
      rw [c6, mkS_is [44, 32] (by decide +kernel)]
      dsimp only at hres'
      by_cases c7 : cs2.take 2 = [44, 32]
      · rw [decide_eq_true c7]
        rw [if_pos c7] at hres'
        refine iteF ?_
        have al := S3.al
        rw [List.reverse_cons] at al
        unfold stkW at hw3
        have pl := partsW_len ps
        have pvl := h4.len
        have lc2 : 2 ≤ cs2.length := by
          have := congrArg List.length c7
          rw [List.length_take] at this
          simp at this
          omega
        refine ⟨_, rfl, _, rfl, ab, _, _, .ref e, rfl, rfl, SqL.of al, atI_last _ _, e, _, _, .ref l, rfl, rfl, SqT.of h1, atI_nat (j := 1) rfl, .inl ⟨rfl, _, SqL.of h3⟩, _, rfl, l, pvs, .ref a, rfl, rfl, h3, by omega, ?_⟩
        have fm := Firm.list (o := .lst (pvs ++ [.ref a])) h3
        have nab : ab ≠ l := fun h => S3.nin (by rw [h]; exact List.mem_cons_self)
        refine ⟨_, rfl, _, _, rfl, rfl, _, ?_, at2 + 2, (n, ps ++ [t]) :: stk', .ref e :: vs, l :: ls', _, _, _, _, fu', rfl, ⟨fun b o h => ?_, S3.nab, ?_, .cons (fm.1 _ _ h1) h2 upd_same (TreesAt.snoc (ta.firm fm) (h4.firm fm)) h5 (h6.firm fm fun l' hl' => upd_ne fun h => h5 (h ▸ hl')), S3.nin, by omega⟩, ?_, ?_, ?_, rfl⟩
        · omega
        · rw [upd_ne (ne_of_none h h2)]
          exact S3.same b o h
        · rw [upd_ne nab, List.reverse_cons]
          exact al
        · unfold stkW
          rw [partsW_snoc]
          omega
        · rw [List.length_drop, ll]
          omega
        · rw [← hres', ← hcs2, List.drop_drop]
      · rw [decide_eq_false c7]
        rw [if_neg c7] at hres'
        refine iteT ?_
        refine q _ _ S3.same ?_
        rw [← hres']
  refine ⟨_, rfl, !avs2.reverse.isEmpty, .inl ⟨avs2.reverse, SqL.of S3.al, rfl⟩, ?_⟩
  cases hst : S3.st with
  | nil =>
    refine iteF ?_
    exact after (by unfold closing; rfl)
  | @cons e l n pvs vs ps ls' stk' h1 h2 h3 h4 h5 h6 =>
    rw [show (!(V.ref e :: vs).reverse.isEmpty) = true by simp]
    refine iteT ?_
    refine ⟨_, rfl, _, rfl, _, rfl, _, rfl, _, _, rfl, rfl, _, rfl, z, rfl, by omega, rfl, _, rfl, ?_⟩
    rw [c3, mkS_is [41] (by decide +kernel)]
    by_cases c4 : cs2.take 1 = [41]
    · rw [decide_eq_true c4]
      refine ht2 _ ?_
      obtain ⟨r, rfl⟩ : ∃ r, cs2 = 41 :: r := by
        cases cs2 with
        | nil => cases c4
        | cons x r =>
          have : x = 41 := by simpa using c4
          subst this
          exact ⟨r, rfl⟩
      have al := S3.al
      rw [List.reverse_cons] at al
      unfold stkW at hw3
      have pl := partsW_len ps
      have pvl := h4.len
      rw [List.length_cons] at cs2l
      have nab : ab ≠ l := fun h => S3.nin (by rw [h]; exact List.mem_cons_self)
      refine ⟨_, rfl, .inl ⟨rfl, _, SqL.of al⟩, ab, _, .ref e, rfl, rfl, al, by simp, ?_⟩
      rw [List.dropLast_concat]
      have f4 := Firm.list (o := .lst vs.reverse) al
      have h3' : (upd H3 ab (.lst vs.reverse)) l = some (.lst pvs) := by rw [upd_ne nab.symm]; exact h3
      refine ⟨e, _, rfl, SqT.of (f4.1 _ _ h1), rfl, _, _, rfl, _, _, rfl, rfl, ?_⟩
      refine ⟨_, rfl, .inl ⟨rfl, _, SqL.of h3'⟩, _, rfl, l, pvs, .ref a, rfl, rfl, h3', by omega, ?_⟩
      have f5 := Firm.list (o := .lst (pvs ++ [.ref a])) h3'
      have f45 := f4.trans f5
      have tr5 : TreesAt C (upd (upd H3 ab (.lst vs.reverse)) l (.lst (pvs ++ [.ref a]))) (pvs ++ [.ref a]) (ps ++ [t]) := TreesAt.snoc (ta.firm f45) (h4.firm f45)
      have ts := partsW_terms (ps ++ [t])
      rw [partsW_snoc] at ts
      have fit : TermFits n (ps ++ [t]) := ⟨by omega, by rw [List.length_append, List.length_singleton]; omega, by omega⟩
      have tsn := term_len_snoc n ps t
      refine ⟨_, rfl, _, rfl, l, _, rfl, .inr (SqL.of upd_same), n, pvs ++ [.ref a], ps ++ [t], by simp, tr5, fit, fun a3 H6 k6 ta3 => ?_⟩
      have same5 : Same H (upd (upd H3 ab (.lst vs.reverse)) l (.lst (pvs ++ [.ref a]))) := fun b o h => by
        rw [upd_ne (ne_of_none h h2), upd_ne (ne_of_none h S3.nab)]
        exact S3.same b o h
      have S5 : WtSt C z H (upd (upd H3 ab (.lst vs.reverse)) l (.lst (pvs ++ [.ref a]))) ab vs ls' stk' (at2 + 1) := by
        refine ⟨same5, S3.nab, by rw [upd_ne nab, upd_same], h6.firm f45 fun l' hl' => ?_, fun h => S3.nin (List.mem_cons_of_mem _ h), by omega⟩
        have n1 : l' ≠ l := fun h => h5 (h ▸ hl')
        have n2 : l' ≠ ab := fun h => S3.nin (h ▸ List.mem_cons_of_mem _ hl')
        rw [upd_ne n1, upd_ne n2]
      refine ⟨_, rfl, _, _, rfl, rfl, _, ?_, at2 + 1, stk', vs, ls', .node n (ps ++ [t]), a3, _, _, rfl, S5.more k6, ta3, by omega, by omega, ?_, rfl⟩
      · rw [List.length_cons]
        omega
      · unfold closing at hcl2
        rw [if_pos rfl] at hcl2
        rw [← hcl2, ← List.drop_drop, hcs2]
        rfl
    · rw [decide_eq_false c4]
      refine after ?_
      cases hc : cs2 with
      | nil => unfold closing; rfl
      | cons x r =>
        unfold closing
        rw [if_neg]
        rintro rfl
        rw [hc] at c4
        exact c4 rfl
end
end Tw
set_option maxHeartbeats 4000000
/-! Comprehensions whose elements make new things. -/
namespace Tw
open PySem PySem.Spec PyProof.Rows L2
theorem lc_mapS {J : It} {xs ys : List V} {G : Hp → Prop} (w : Walk J xs.length G (YAt xs)) {g : TG} {te : TE} {vs : List Nat} {σ : L2.St} {H1 : Hp} {D : Addr} {Qd : Hp → Prop} (hD : H1 D = none) (hG : ∀ H, Same H1 H → G H) (hl : ys.length = xs.length) (hz : xs.length ≤ sizeLine)
    (hs : ∀ (i : Nat) x y H (R : VK), xs[i]? = some x → ys[i]? = some y → Same H1 H → (∀ H4, Same H H4 → R y H4) → g x (wipe σ vs) H fun σ2 H2 => wipe σ2 vs = wipe σ vs ∧ te σ2 H2 R)
    (hd : ∀ H', Same H1 H' → H' D = some (.lst ys) → Qd H') :
    ∃ W : Nat → Nat → Hp → Prop, (∃ m, W 0 m (upd H1 D (.lst []))) ∧ ∀ i m H, W i m H →
      (J.stop i H ∧ Qd H) ∨ (J.go i H ∧ ∃ Nx : Hp → Prop, (∀ H', Nx H' → ∃ m', m' < m ∧ W (i + 1) m' H') ∧ ∀ x H', J.yld i H x H' → g x (wipe σ vs) H' fun σ2 H2 => wipe σ2 vs = wipe σ vs ∧ tYes σ2 H2 fun b H3 =>
        if b = true then te σ2 H3 fun y H4 => ∃ acc, H4 D = some (.lst acc) ∧ acc.length < sizeLine ∧ Nx (upd H4 D (.lst (acc ++ [y]))) else Nx H3) := by
  refine lc_it w (fun i H => Same H1 H ∧ H D = some (.lst (ys.take i))) ⟨fun b o e => by rw [upd_ne (ne_of_none e hD)]; exact e, upd_same⟩ (fun i H _ e => hG _ e.1) (fun i x H H' hi e y => ?_) (fun H e => ?_)
  · obtain ⟨rfl, hx⟩ := y
    obtain ⟨sm, hDl⟩ := e
    have hi' : i < ys.length := by omega
    have hy : ys[i]? = some ys[i] := by simp [hi']
    have := hs i x ys[i] H' (fun y H4 => ∃ acc, H4 D = some (.lst acc) ∧ acc.length < sizeLine ∧ Same H1 (upd H4 D (.lst (acc ++ [y]))) ∧ (upd H4 D (.lst (acc ++ [y]))) D = some (.lst (ys.take (i + 1)))) hx hy sm
      (fun H4 k => ⟨ys.take i, k _ _ hDl, by rw [List.length_take]; omega, fun b o e => by rw [upd_ne (ne_of_none e hD)]; exact k _ _ (sm _ _ e), by rw [upd_same, take_snoc hy]⟩)
    exact this
  · obtain ⟨sm, hDl⟩ := e
    rw [← hl, List.take_length] at hDl
    exact hd _ sm hDl
/-- the elements are told by a relation -/
theorem lc_rel {J : It} {xs : List V} {G : Hp → Prop} (w : Walk J xs.length G (YAt xs)) {g : TG} {te : TE} {vs : List Nat} {σ : L2.St} {H1 : Hp} {D : Addr} {Qd : Hp → Prop} (hD : H1 D = none) (hG : ∀ H, Same H1 H → G H) (hz : xs.length ≤ sizeLine) (Rel : Nat → V → Hp → Prop)
    (m1 : ∀ j v H H', Same H1 H → Same H H' → Rel j v H → Rel j v H') (m2 : ∀ j v H l l', Same H1 H → H D = some (.lst l) → Rel j v H → Rel j v (upd H D (.lst l')))
    (hs : ∀ (i : Nat) x H (R : VK), xs[i]? = some x → Same H1 H → (∃ l, H D = some (.lst l)) → (∀ y H4, Same H H4 → Rel i y H4 → R y H4) → g x (wipe σ vs) H fun σ2 H2 => wipe σ2 vs = wipe σ vs ∧ te σ2 H2 R)
    (hd : ∀ H' ys, Same H1 H' → H' D = some (.lst ys) → ys.length = xs.length → (∀ j v, ys[j]? = some v → Rel j v H') → Qd H') :
    ∃ W : Nat → Nat → Hp → Prop, (∃ m, W 0 m (upd H1 D (.lst []))) ∧ ∀ i m H, W i m H →
      (J.stop i H ∧ Qd H) ∨ (J.go i H ∧ ∃ Nx : Hp → Prop, (∀ H', Nx H' → ∃ m', m' < m ∧ W (i + 1) m' H') ∧ ∀ x H', J.yld i H x H' → g x (wipe σ vs) H' fun σ2 H2 => wipe σ2 vs = wipe σ vs ∧ tYes σ2 H2 fun b H3 =>
        if b = true then te σ2 H3 fun y H4 => ∃ acc, H4 D = some (.lst acc) ∧ acc.length < sizeLine ∧ Nx (upd H4 D (.lst (acc ++ [y]))) else Nx H3) := by
  refine lc_it w (fun i H => Same H1 H ∧ ∃ ys, H D = some (.lst ys) ∧ ys.length = i ∧ ∀ j v, ys[j]? = some v → Rel j v H) ⟨fun b o e => by rw [upd_ne (ne_of_none e hD)]; exact e, [], upd_same, rfl, fun j v e => by simp at e⟩ (fun i H _ e => hG _ e.1) (fun i x H H' hi e y => ?_) (fun H e => ?_)
  · obtain ⟨rfl, hx⟩ := y
    obtain ⟨sm, ys, hDl, hyl, hR⟩ := e
    refine hs i x H' (fun y H4 => ∃ acc, H4 D = some (.lst acc) ∧ acc.length < sizeLine ∧ Same H1 (upd H4 D (.lst (acc ++ [y]))) ∧ ∃ ys, (upd H4 D (.lst (acc ++ [y]))) D = some (.lst ys) ∧ ys.length = i + 1 ∧ ∀ j v, ys[j]? = some v → Rel j v (upd H4 D (.lst (acc ++ [y])))) hx sm ⟨ys, hDl⟩
      (fun y H4 k r => ⟨ys, k _ _ hDl, by omega, fun b o e => by rw [upd_ne (ne_of_none e hD)]; exact k _ _ (sm _ _ e), ys ++ [y], upd_same, by rw [List.length_append, hyl] <;> rfl, fun j v e => ?_⟩)
    refine m2 j v H4 ys _ (sm.trans k) (k _ _ hDl) ?_
    by_cases hj : j < ys.length
    · rw [List.getElem?_append_left hj] at e
      exact m1 j v _ _ sm k (hR j v e)
    · have : j = ys.length := by
        have := (List.getElem?_eq_some_iff.mp e).1
        rw [List.length_append, List.length_singleton] at this
        omega
      subst this
      rw [List.getElem?_append_right (Nat.le_refl _), Nat.sub_self] at e
      have : y = v := by simpa using e
      subst this
      rw [hyl]
      exact r
  · obtain ⟨sm, ys, hDl, hyl, hR⟩ := e
    exact hd _ ys sm hDl hyl hR
end Tw
set_option maxHeartbeats 4000000
/-! What wtF gives: sizes and names. -/
namespace Tw
open PySem PySem.Spec PyProof.Rows L2
mutual
def T.allN (p : Str → Prop) : T → Prop
  | .node n ps => p n ∧ T.allNs p ps
def T.allNs (p : Str → Prop) : List T → Prop
  | [] => True
  | t :: r => T.allN p t ∧ T.allNs p r
end
theorem allNs_snoc {p : Str → Prop} {t : T} (h : t.allN p) : ∀ {ps : List T}, T.allNs p ps → T.allNs p (ps ++ [t])
  | [], _ => by
    show T.allNs p [t]
    unfold T.allNs
    exact ⟨h, by unfold T.allNs; trivial⟩
  | a :: r, h' => by
    unfold T.allNs at h'
    show T.allNs p (a :: (r ++ [t]))
    unfold T.allNs
    exact ⟨h'.1, allNs_snoc h h'.2⟩
mutual
theorem allN_walk {p : Str → Prop} : ∀ (t : T) (pa : Path), t.allN p → ∀ e ∈ t.walk pa, p e.2.name
  | .node n ps, pa, h, e, he => by
    unfold T.allN at h
    unfold T.walk at he
    rcases List.mem_cons.mp he with rfl | he
    · exact h.1
    · exact allNs_walks ps pa 0 h.2 e he
theorem allNs_walks {p : Str → Prop} : ∀ (ps : List T) (pa : Path) (i : Nat), T.allNs p ps → ∀ e ∈ T.walks pa i ps, p e.2.name
  | [], _, _, _, e, he => by unfold T.walks at he; cases he
  | t :: r, pa, i, h, e, he => by
    unfold T.allNs at h
    unfold T.walks at he
    rcases List.mem_append.mp he with he | he
    · exact allN_walk t _ h.1 e he
    · exact allNs_walks r pa _ h.2 e he
end
theorem sizes_snoc (t : T) : ∀ ps : List T, T.sizes (ps ++ [t]) = T.sizes ps + t.size
  | [] => by
    show T.sizes [t] = T.sizes [] + t.size
    unfold T.sizes T.sizes
    omega
  | a :: r => by
    show T.sizes (a :: (r ++ [t])) = T.sizes (a :: r) + t.size
    unfold T.sizes
    rw [sizes_snoc t r]
    omega
theorem node_size (n : Str) (ps : List T) : (T.node n ps).size = 1 + T.sizes ps := by unfold T.size; rfl
def szStk : Stack → Nat
  | [] => 0
  | (_, ps) :: r => 1 + T.sizes ps + szStk r
theorem szStk_cons (n : Str) (ps : List T) (r : Stack) : szStk ((n, ps) :: r) = 1 + T.sizes ps + szStk r := rfl
theorem szStk_nil : szStk [] = 0 := rfl
def okStk (p : Str → Prop) : Stack → Prop
  | [] => True
  | (n, ps) :: r => p n ∧ T.allNs p ps ∧ okStk p r
theorem closing_size : ∀ (stk : Stack) (t : T) (r : List Nat), (closing stk t r).1.size + szStk (closing stk t r).2.1 = t.size + szStk stk ∧ (closing stk t r).2.2.length ≤ r.length
  | [], t, r => ⟨rfl, Nat.le_refl _⟩
  | (n, ps) :: rest, t, [] => ⟨rfl, Nat.le_refl _⟩
  | (n, ps) :: rest, t, c :: r => by
    unfold closing
    split
    · have ih := closing_size rest (.node n (ps ++ [t])) r
      rw [node_size, sizes_snoc] at ih
      rw [szStk_cons, List.length_cons]
      constructor
      · have := ih.1
        omega
      · omega
    · exact ⟨rfl, Nat.le_refl _⟩
theorem closing_ok {p : Str → Prop} : ∀ (stk : Stack) (t : T) (r : List Nat), t.allN p → okStk p stk → (closing stk t r).1.allN p ∧ okStk p (closing stk t r).2.1
  | [], t, r, h1, h2 => ⟨h1, h2⟩
  | (n, ps) :: rest, t, [], h1, h2 => ⟨h1, h2⟩
  | (n, ps) :: rest, t, c :: r, h1, h2 => by
    unfold closing
    split
    · unfold okStk at h2
      exact closing_ok rest _ r (by unfold T.allN; exact ⟨h2.1, allNs_snoc h1 h2.2.1⟩) h2.2.2
    · exact ⟨h1, h2⟩
theorem nl_free : ∀ (cs : List Nat), ∀ c ∈ cs.take (nl cs), c ∉ spec
  | [], c, h => by simp at h
  | x :: r, c, h => by
    unfold nl at h
    split at h
    · simp at h
    · rename_i hx
      rw [List.take_succ_cons] at h
      rcases List.mem_cons.mp h with rfl | h
      · exact hx
      · exact nl_free r c h
/-- a name of a term, of at most B signs -/
def nameOk (B : Nat) (n : Str) : Prop := n.cps.toList ≠ [] ∧ (∀ c ∈ n.cps.toList, c ∉ spec) ∧ n.length ≤ B
theorem nameOk_take {B : Nat} {cs : List Nat} (h0 : nl cs ≠ 0) (hB : cs.length ≤ B) : nameOk B (mkS (cs.take (nl cs))) := by
  have := nl_le cs
  refine ⟨?_, ?_, ?_⟩
  · rw [mkS_list]
    intro e
    have := congrArg List.length e
    rw [List.length_take, List.length_nil] at this
    omega
  · rw [mkS_list]
    exact nl_free cs
  · rw [mkS_len, List.length_take]
    omega
theorem wt_size : ∀ (f : Nat) (stk : Stack) (cs : List Nat) (t : T), wtF f stk cs = some t → t.size ≤ szStk stk + cs.length
  | 0, _, _, _, h => by cases h
  | f + 1, stk, cs, t, h => by
    have nle := nl_le cs
    unfold wtF at h
    split at h
    · cases h
    · rename_i n0
      split at h
      · have ih := wt_size f _ _ t h
        rw [szStk_cons, List.length_drop] at ih
        unfold T.sizes at ih
        omega
      · have cz := closing_size stk (.node (mkS (cs.take (nl cs))) []) (cs.drop (nl cs))
        rw [node_size, List.length_drop] at cz
        unfold T.sizes at cz
        generalize closing stk (.node (mkS (cs.take (nl cs))) []) (cs.drop (nl cs)) = cl at h cz
        obtain ⟨t', stk', r'⟩ := cl
        cases stk' with
        | nil =>
          dsimp only at h
          split at h
          · cases h
            have := cz.1
            rw [szStk_nil] at this
            dsimp only at *
            omega
          · cases h
        | cons a rest =>
          obtain ⟨n, ps⟩ := a
          dsimp only at h
          split at h
          · have ih := wt_size f _ _ t h
            rw [szStk_cons, sizes_snoc, List.length_drop] at ih
            have z1 := cz.1
            have z2 := cz.2
            dsimp only at z1 z2
            rw [szStk_cons] at z1
            omega
          · cases h
theorem wt_names {B : Nat} : ∀ (f : Nat) (stk : Stack) (cs : List Nat) (t : T), wtF f stk cs = some t → okStk (nameOk B) stk → cs.length ≤ B → t.allN (nameOk B)
  | 0, _, _, _, h, _, _ => by cases h
  | f + 1, stk, cs, t, h, ho, hB => by
    have nle := nl_le cs
    unfold wtF at h
    split at h
    · cases h
    · rename_i n0
      have nk := nameOk_take n0 hB
      split at h
      · exact wt_names f _ _ t h (by unfold okStk T.allNs; exact ⟨nk, trivial, ho⟩) (by rw [List.length_drop]; omega)
      · have cz := closing_size stk (.node (mkS (cs.take (nl cs))) []) (cs.drop (nl cs))
        have co := closing_ok (p := nameOk B) stk (.node (mkS (cs.take (nl cs))) []) (cs.drop (nl cs)) (by unfold T.allN T.allNs; exact ⟨nk, trivial⟩) ho
        rw [List.length_drop] at cz
        generalize closing stk (.node (mkS (cs.take (nl cs))) []) (cs.drop (nl cs)) = cl at h cz co
        obtain ⟨t', stk', r'⟩ := cl
        cases stk' with
        | nil =>
          dsimp only at h
          split at h
          · cases h
            exact co.1
          · cases h
        | cons a rest =>
          obtain ⟨n, ps⟩ := a
          dsimp only at h
          split at h
          · have c2 := co.2
            unfold okStk at c2
            refine wt_names f _ _ t h (by unfold okStk; exact ⟨c2.1, allNs_snoc co.1 c2.2.1, c2.2.2⟩) ?_
            have := cz.2
            dsimp only at this
            rw [List.length_drop]
            omega
          · cases h
end Tw
set_option maxHeartbeats 4000000
/-! The two errors; Tree.read. -/
namespace Tw
open PySem PySem.Spec PyProof.Rows L2
abbrev sBadTerm : Stmt := inClass (top 3) 0
abbrev sNoPlace : Stmt := inClass (top 4) 0
abbrev sRead : Stmt := sTree 3
def spEx (C : Addr) (f : Str) : Sp := fun vs H Q _ => ∃ (a : Addr) (v : V), vs = [.ref a, v] ∧ H a = some (exo a C none) ∧ ∀ dx, H dx = none → dx ≠ a → Q .non (upd (upd H dx (exd dx [(f, v)])) a (exo a C (some dx)))
/-- what the top says of an error's class -/
structure Ext (K : PySem.W.Frag) (mg : Str → Option Value) (x : Str) (C fI : Addr) (f : Str) : Prop where
  oex : OexC K C
  noF : PySem.W.findIn K (.ref C) f = some none
  iC : PySem.W.findIn K (.ref C) "__init__" = some (some (.ref fI))
  tI : PySem.W.typeIn K (.ref fI) = some (.type "function")
  gC : mg x = some (.ref C)
  te : PySem.W.exmOne K (.ref C) (.ref C) = some true
section
variable {P : Program} {w : World} {K : PySem.W.Frag} {mg : Str → Option Value} {base : Heap} {C : Addr}
theorem scBT : FnScope ["self", "term"] ["self", "term"] (defScope sBadTerm) := ⟨rfl, rfl, rfl, by decide +kernel, rfl, by decide +kernel, by decide +kernel⟩
theorem scNP : FnScope ["self", "path"] ["self", "path"] (defScope sNoPlace) := ⟨rfl, rfl, rfl, by decide +kernel, rfl, by decide +kernel, by decide +kernel⟩
theorem ok_badTerm {fI : Addr} {x : Str} (T : Ext K mg x C fI "term") {fd : FuncData} (F : Fun K "__init__" "BadTerm.__init__" sBadTerm fI fd) : FnOk P w K mg base CX0 1 fI fd ["self", "term"] (spEx C "term") := by
  refine F.ok scBT (fun vs H Q E h => ?_) (fun cdv A outer s H vs Q E hr h => ?_)
  · obtain ⟨a, v, rfl, _⟩ := h
    rfl
  obtain ⟨a, v, rfl, ha, q⟩ := h
  exact ⟨_, pss_one (ps_ost (pv 0) (pv 1)), _, rfl, _, rfl, a, C, rfl, T.oex, T.noF, .inl ⟨ha, q⟩⟩
theorem ok_noPlace {fI : Addr} {x : Str} (T : Ext K mg x C fI "path") {fd : FuncData} (F : Fun K "__init__" "NoPlace.__init__" sNoPlace fI fd) : FnOk P w K mg base CX0 1 fI fd ["self", "path"] (spEx C "path") := by
  refine F.ok scNP (fun vs H Q E h => ?_) (fun cdv A outer s H vs Q E hr h => ?_)
  · obtain ⟨a, v, rfl, _⟩ := h
    rfl
  obtain ⟨a, v, rfl, ha, q⟩ := h
  exact ⟨_, pss_one (ps_ost (pv 0) (pv 1)), _, rfl, _, rfl, a, C, rfl, T.oex, T.noF, .inl ⟨ha, q⟩⟩
end
/-- raising it: a new dict with the field -/
theorem rd_mkO {C : Addr} {f : Str} {σ : L2.St} {i : Nat} {v : V} {H : Hp} {Q : XK} (hv : σ[i]? = some (some v)) (q : ∀ d, H d = none → Q (.ref C) (some d) (upd H d (.xd [(f, v)]))) : tMkO C (spEx C f) [] (tCons (tVar i) tNil) σ H Q := by
  refine ⟨v, hv, by simp, fun a na => ?_⟩
  refine ⟨a, v, rfl, upd_same, fun dx ndx ne => ⟨rfl, dx, [(f, v)], upd_same, by rw [upd_ne ne, upd_same], ?_, ?_⟩⟩
  · rw [upd_ne ne] at ndx
    exact ndx
  · have nd : H dx = none := by rw [upd_ne ne] at ndx; exact ndx
    have e : upd (del (upd (upd (upd H a (exo a C none)) dx (exd dx [(f, v)])) a (exo a C (some dx))) a) dx (.xd [(f, v)]) = upd H dx (.xd [(f, v)]) := by
      funext b
      by_cases hb : b = dx
      · subst hb; rw [upd_same, upd_same]
      · rw [upd_ne hb, upd_ne hb]
        by_cases ha : b = a
        · subst ha; rw [del_same, na]
        · rw [del_ne ha, upd_ne ha, upd_ne hb, upd_ne ha]
    rw [e]
    exact q dx nd
def plainAll (t : T) : Bool := (t.walk []).all fun e => plainTop e.2
/-- what Tree.read reads -/
def readT (z : Str) : Option T := match wtF (z.length + 1) [] z.cps.toList with
  | none => none
  | some t => if plainAll t = true then some t else none
def spRead (C CB : Addr) : Sp := fun vs H Q E => ∃ z : Str, vs = [.ref C, .str z] ∧ z.length ≤ 1000000 ∧ (∀ t, readT z = some t → ∀ v H', Same H H' → TreeAt C H' v t → Q v H') ∧
  (readT z = none → ∀ d H', H d = none → Same H H' → H' d = some (.xd [("term", .str z)]) → E (.ref CB) (some d) H')
section
variable {P : Program} {w : World} {K : PySem.W.Frag} {mg : Str → Option Value} {base : Heap} {C CB fB : Addr}
theorem scR : FnScope ["cls", "term", "tree", "_", "part"] ["cls", "term"] (defScope sRead) := ⟨rfl, rfl, rfl, by decide +kernel, rfl, by decide +kernel, by decide +kernel⟩
theorem ok_read {fw fp fq : Addr} (gw : Gf K mg "written_tree" fw) (Fw : FnR P w K mg base CX0 5 fw (spWritten C)) (gp : Gf K mg "places" fp) (Fp : FnR P w K mg base CX0 1 fp (spPlaces C)) (gq : Gf K mg "is_plain" fq) (Fq : FnR P w K mg base CX0 3 fq (spPlain C)) (ma : mg "all" = none)
    (B : Ext K mg "BadTerm" CB fB "term") {fdB : FuncData} (FB : Fun K "__init__" "BadTerm.__init__" sBadTerm fB fdB) {f : Addr} {fd : FuncData} (F : Fun K "read" "Tree.read" sRead f fd) : FnR P w K mg base (L2.CX P w) 6 f (spRead C CB) := by
  have bB : Binds K fdB ["self", "term"] [] := FB.binds fun _ _ _ _ _ _ us hl => match us, hl with | [_, _], _ => rfl
  have GB : FnOk P w K mg base CX0 1 fB fdB ["self", "term"] (spEx CB "term") := ok_badTerm B FB
  refine FnOk.toR (fd := fd) (ps := ["cls", "term"]) ?_ (F.binds fun _ _ _ _ _ _ us hl => match us, hl with | [_, _], _ => rfl)
  refine F.okX scR (fun vs H Q E h => ?_) (fun cdv A outer s H vs Q E hr h => ?_)
  · obtain ⟨z, rfl, _⟩ := h
    rfl
  obtain ⟨z, rfl, hz, q1, q2⟩ := h
  have hr1 : Room 1 _ := hr.mono (by decide)
  have hr2 : Room 2 _ := hr.mono (by decide)
  have hr3 : Room 3 _ := hr.mono (by decide)
  refine ⟨_, pss_cons (ps_set (i := 2) scR.nd rfl (Or.inl rfl) (pe_cf Fw hr gw pass0 (pa_cons (pv 1) pa_nil)))
    (pss_cons (ps_if (PW.pt (pw_or (pt_cmp (pc_isN (pv 2))) (pw_or1 (pt_not (pt_val (pe_callB (cr_all rfl) (by rfl) ma (by decide +kernel) (pa_cons
        (pe_lc (own := [("_", 3), ("part", 4)]) (g := gTup K 2 (gCons (gName 3) (gCons (gName 4) gNil))) (tt := tYes) (te := tCf (spPlain C) E0 (tCons (tVar 4) tNil)) rfl scR.nd (pi_list (pe_cf Fp hr1 gp pass0 (pa_cons (pv 2) pa_nil))) (blkOk_by (own := [("_", 3), ("part", 4)]) (N := ["cls", "term", "tree", "_", "part"]) (sc := defScope sRead) (by decide +kernel))
          (fun _ _ _ _ _ => by exact pg_tup (by rfl) (pgs_cons (pg_name (i := 3) scR.nd rfl (Or.inl rfl)) (pgs_cons (pg_name (i := 4) scR.nd rfl (Or.inl rfl)) pgs_nil))) (fun _ _ _ _ _ => by exact pts_nil) (fun _ _ _ _ _ => by exact pe_cf Fq hr3 gq pass0 (pa_cons (pv 4) pa_nil))) pa_nil)))))))
        (pss_one (ps_raise rfl (takes_of rfl rfl rfl rfl) (pmk_oex B.oex B.iC B.tI GB hr2 bB .nil pass0 rfl B.gC (pa_cons (pv 1) pa_nil)))) pss_nil)
    (pss_one (ps_ret (pv 2)))), ?_⟩
  refine ⟨_, rfl, z, rfl, hz, fun v H1 k1 hv => ?_⟩
  have sl := sizeLine_eq
  have fail : ∀ (v : V) (H2 : Hp), readT z = none → Same H H2 → tMkO CB (spEx CB "term") [] (tCons (tVar 1) tNil) [some (.ref C), some (.str z), some v, none, none] H2 (fun cls d H' => E cls d H') := fun v H2 hn k => by
    refine rd_mkO rfl fun d nd => q2 hn d _ (k.free nd) (fun b o e => ?_) upd_same
    rw [upd_ne (ne_of_none (k b o e) nd)]
    exact k b o e
  cases hw : wtF (z.length + 1) [] z.cps.toList with
  | none =>
    rw [hw] at hv
    have hv' : v = .non := hv
    subst hv'
    refine ⟨_, rfl, _, rfl, iteT ?_⟩
    refine iteT ?_
    exact fail _ H1 (by unfold readT; rw [hw]) k1
  | some t =>
    rw [hw] at hv
    have hv' : TreeAt C H1 v t := hv
    obtain ⟨a, dx, p, vs', rfl, h1, h2, h3⟩ := hv'.ex
    have tsz := wt_size _ _ _ _ hw
    rw [szStk_nil, len_list] at tsz
    have tnm := wt_names (B := z.length) _ _ _ _ hw (by unfold okStk; trivial) (by rw [len_list]; omega)
    refine ⟨_, rfl, _, rfl, iteF ?_⟩
    refine ⟨_, rfl, .ref a, t, rfl, hv', by omega, fun l H2 ws k2 nl hl en => ⟨l, rfl, ⟨_, SqL.of hl⟩, fun D hD => lc_mapS (ys := ((t.walk []).map fun e => plainTop e.2).map V.bl) walk_list hD (fun H' s => s.seq (SqL.of hl)) ?_ ?_ (fun i x y H' R hx hy sm hR => ?_) (fun H' sm hD' => ?_)⟩⟩
    · rw [List.length_map, List.length_map, paired_len en]
    · rw [paired_len en, walk_len]
      omega
    · obtain ⟨e, he, ⟨ae, q, we, rfl, g1, g2, g3⟩⟩ := paired_get en hx
      have ey : y = V.bl (plainTop e.2) := by
        rw [List.map_map, List.getElem?_map, he] at hy
        exact (Option.some.inj hy).symm
      subst ey
      have hn := allN_walk t [] tnm e (List.mem_of_getElem? he)
      exact ⟨ae, _, rfl, SqT.of (sm _ _ g1), rfl, _, _, rfl, _, _, rfl, rfl, rfl, _, rfl, we, e.2, rfl, g3.mono sm, (by have := hn.2.2; omega), fun H4 k4 => hR H4 k4⟩
    · refine ⟨D, _, rfl, SqL.of hD', _, rfl, ?_⟩
      have k3 : Same H H' := k1.trans (k2.trans sm)
      have ea : (((t.walk []).map fun e => plainTop e.2).all id) = plainAll t := all_map _ _
      rw [ea]
      cases hp : plainAll t with
      | true =>
        refine iteF ?_
        refine ⟨_, rfl, q1 t ?_ _ H' k3 (hv'.mono (k2.trans sm))⟩
        unfold readT
        rw [hw]
        dsimp only
        rw [if_pos hp]
      | false =>
        refine iteT ?_
        refine fail _ H' ?_ k3
        unfold readT
        rw [hw]
        dsimp only
        rw [hp, if_neg Bool.false_ne_true]
end
end Tw
set_option maxHeartbeats 4000000
/-! Order of pairs and of trees. -/
namespace Tw
open PySem PySem.Spec PyProof.Rows L2
/-- (int, text) < (int, text) -/
def pairLt (a : Int) (s : Str) (b : Int) (t : Str) : Bool := if a = b then decide (s.cps.toList < t.cps.toList) else decide (a < b)
def pairLe (a : Int) (s : Str) (b : Int) (t : Str) : Bool := if a = b then (if s = t then true else !decide (t.cps.toList < s.cps.toList)) else decide (a ≤ b)
def rPair (K : PySem.W.Frag) (f : Int → Str → Int → Str → Bool) : R2 := fun x y H Q => ∃ (p q : Addr) (a b : Int) (s t : Str), x = .ref p ∧ y = .ref q ∧ SqT K H p [.int a, .str s] ∧ SqT K H q [.int b, .str t] ∧ Q (.bl (f a s b t)) H
theorem two_vals {a : Int} {s : Str} {its : List Value} (r : Vals [V.int a, V.str s] its) : ∃ t u, its = [Value.int a t, Value.str s u] := by
  obtain ⟨u1, u2, rfl, r1, r2⟩ := vals2 r
  obtain ⟨t, rfl⟩ := r1
  obtain ⟨u, rfl⟩ := r2
  exact ⟨t, u, rfl⟩
def sel (p q : Bool) : Nat → Bool
  | 0 => p
  | _ => q
theorem eq_at2 {A : Around} {sh : Shared} {a b : Int} {s t : Str} {t1 t2 t3 t4 : Tok} : ∀ j (h1 : j < (#[Value.int a t1, Value.str s t2] : Array Value).size) (h2 : j < (#[Value.int b t3, Value.str t t4] : Array Value).size), SeqAt.EqAt A sh (#[Value.int a t1, Value.str s t2] : Array Value)[j] (#[Value.int b t3, Value.str t t4] : Array Value)[j] (sel (a == b) (s == t) j)
  | 0, _, _ => SeqAt.EqAt.int_int a t1 b t3
  | 1, _, _ => SeqAt.EqAt.str_str s t2 t t4
  | j + 2, h, _ => absurd h (by simp)
theorem op_pairLt {X : Cx} (hu : X.A.units < cLine) : OpR X (compareOp .Lt) (rPair X.K pairLt) := by
  intro pins sh σ H x y v u Q I rx ry h
  obtain ⟨p, q, a, b, s, t, rfl, rfl, ha, hb, qq⟩ := h
  cases rx
  cases ry
  obtain ⟨its, r1, p1, _⟩ := I.tuple ha
  obtain ⟨its2, r2, p2, _⟩ := I.tuple hb
  obtain ⟨t1, t2, rfl⟩ := two_vals r1
  obtain ⟨t3, t4, rfl⟩ := two_vals r2
  have R := Ob.RcOp.tuples_lt (A := X.A) (s := sh) (e := sel (a == b) (s == t)) (r := sel (decide (a < b)) (decide (s.cps.toList < t.cps.toList))) p1 p2 hu eq_at2 (fun j h1 h2 _ => by
    match j, h1 with
    | 0, _ => exact Ob.RcOp.lt_int _ _ _ _
    | 1, _ => exact fun _ _ _ _ h => PyProof.Rows.lt_str h
    | j + 2, h => exact absurd h (by simp))
  have e : Ob.lexAt (sel (a == b) (s == t)) (sel (decide (a < b)) (decide (s.cps.toList < t.cps.toList))) (decide ((#[Value.int a t1, Value.str s t2] : Array Value).size < (#[Value.int b t3, Value.str t t4] : Array Value).size)) 0 (min (#[Value.int a t1, Value.str s t2] : Array Value).size (#[Value.int b t3, Value.str t t4] : Array Value).size) = pairLt a s b t := by
    show (if (a == b) = true then (if (s == t) = true then false else decide (s.cps.toList < t.cps.toList)) else decide (a < b)) = _
    unfold pairLt
    by_cases h1 : a = b
    · rw [if_pos (beq_iff_eq.mpr h1), if_pos h1]
      by_cases h2 : s = t
      · subst h2
        rw [if_pos (beq_self_eq_true s)]
        exact (decide_eq_false (List.lt_irrefl _)).symm
      · rw [if_neg (fun z => h2 (beq_iff_eq.mp z))]
    · rw [if_neg (fun z => h1 (beq_iff_eq.mp z)), if_neg h1]
  have z : wpAny (model X.prog X.w) X.A (compareOp .Lt (.ref p) (.ref q)) (EP X pins σ Q) X.xe sh := R X.prog X.w X.xe (EP X pins σ Q) ⟨.bl _, H, I, rfl, e ▸ qq⟩
  exact z
theorem op_pairLe {X : Cx} (hu : X.A.units < cLine) : OpR X (compareOp .LtE) (rPair X.K pairLe) := by
  intro pins sh σ H x y v u Q I rx ry h
  obtain ⟨p, q, a, b, s, t, rfl, rfl, ha, hb, qq⟩ := h
  cases rx
  cases ry
  obtain ⟨its, r1, p1, _⟩ := I.tuple ha
  obtain ⟨its2, r2, p2, _⟩ := I.tuple hb
  obtain ⟨t1, t2, rfl⟩ := two_vals r1
  obtain ⟨t3, t4, rfl⟩ := two_vals r2
  have R := Ob.RcOp.tuples_le (A := X.A) (s := sh) (e := sel (a == b) (s == t)) (r := sel (decide (a ≤ b)) (!decide (t.cps.toList < s.cps.toList))) p1 p2 hu eq_at2 (fun j h1 h2 _ => by
    match j, h1 with
    | 0, _ => exact Ob.RcOp.le_int _ _ _ _
    | 1, _ => exact fun _ _ _ _ h => PySem.P.le_str h
    | j + 2, h => exact absurd h (by simp))
  have e : Ob.lexAt (sel (a == b) (s == t)) (sel (decide (a ≤ b)) (!decide (t.cps.toList < s.cps.toList))) (decide ((#[Value.int a t1, Value.str s t2] : Array Value).size ≤ (#[Value.int b t3, Value.str t t4] : Array Value).size)) 0 (min (#[Value.int a t1, Value.str s t2] : Array Value).size (#[Value.int b t3, Value.str t t4] : Array Value).size) = pairLe a s b t := by
    show (if (a == b) = true then (if (s == t) = true then true else !decide (t.cps.toList < s.cps.toList)) else decide (a ≤ b)) = _
    unfold pairLe
    by_cases h1 : a = b
    · rw [if_pos (beq_iff_eq.mpr h1), if_pos h1]
      by_cases h2 : s = t
      · subst h2
        rw [if_pos (beq_self_eq_true s), if_pos rfl]
      · rw [if_neg (fun z => h2 (beq_iff_eq.mp z)), if_neg h2]
    · rw [if_neg (fun z => h1 (beq_iff_eq.mp z)), if_neg h1]
  have z : wpAny (model X.prog X.w) X.A (compareOp .LtE (.ref p) (.ref q)) (EP X pins σ Q) X.xe sh := R X.prog X.w X.xe (EP X pins σ Q) ⟨.bl _, H, I, rfl, e ▸ qq⟩
  exact z
def pairEq (a : Int) (s : Str) (b : Int) (t : Str) : Bool := (a == b) && (s == t)
theorem op_pairEq {X : Cx} (hu : X.A.units < cLine) : OpR X (compareOp .Eq) (rPair X.K pairEq) := by
  intro pins sh σ H x y v u Q I rx ry h
  obtain ⟨p, q, a, b, s, t, rfl, rfl, ha, hb, qq⟩ := h
  cases rx
  cases ry
  obtain ⟨its, r1, p1, _⟩ := I.tuple ha
  obtain ⟨its2, r2, p2, _⟩ := I.tuple hb
  obtain ⟨t1, t2, rfl⟩ := two_vals r1
  obtain ⟨t3, t4, rfl⟩ := two_vals r2
  have R := SeqAt.RcAt.tuples (A := X.A) (s := sh) (e := sel (a == b) (s == t)) p1 p2 hu eq_at2
  have e : ((List.range (min (#[Value.int a t1, Value.str s t2] : Array Value).size (#[Value.int b t3, Value.str t t4] : Array Value).size)).all (sel (a == b) (s == t)) && (#[Value.int a t1, Value.str s t2] : Array Value).size == (#[Value.int b t3, Value.str t t4] : Array Value).size) = pairEq a s b t := by
    show (((a == b) && ((s == t) && true)) && true) = _
    unfold pairEq
    rw [Bool.and_true, Bool.and_true]
  have z : wpAny (model X.prog X.w) X.A (compareOp .Eq (.ref p) (.ref q)) (EP X pins σ Q) X.xe sh := R X.prog X.w X.xe (EP X pins σ Q) ⟨.bl _, H, I, rfl, e ▸ qq⟩
  exact z
/-- x op y of two instances of the class at C by its own def at g -/
def rOwnD (C : Addr) (sp : Sp) (E : XK) : R2 := fun x y H Q => ∃ a dx fs b dy gs, x = .ref a ∧ y = .ref b ∧ H a = some (.ins C dx fs) ∧ H b = some (.ins C dy gs) ∧ sp [x, y] H Q E
theorem op_ownD {X : Cx} {CX : CXT} {C g : Addr} {n : Nat} {sp : Sp} {E : XK} {op : CmpOp} (hop : ∀ a b, compareOp op a b = richCompare op a b) (hs : PySem.W.findIn X.K (.ref C) (cmpInfo op).2.1 = some (some (.ref g))) (hf : PySem.W.isFn X.K (.ref g) = true) (hn : PySem.W.notFirst X.K C (.ref C) = true) (F : FnR X.prog X.w X.K X.mg X.base CX n g sp)
    (hr : Room n X.A) (hx : Passes CX X E) : OpR X (compareOp op) (rOwnD C sp E) := by
  intro pins s σ H x y v u Q I rx ry h
  obtain ⟨a, dx, fs, b, dy, gs, rfl, rfl, ha, hb, q⟩ := h
  cases (show v = Value.ref a from rx)
  cases (show u = Value.ref b from ry)
  obtain ⟨mA, O, _⟩ := ins_get I.hok ha
  obtain ⟨od, J, _⟩ := O.look
  obtain ⟨mB, O', _⟩ := ins_get I.hok hb
  obtain ⟨od', J', _⟩ := O'.look
  obtain ⟨m, hF⟩ := I.fr
  rw [hop]
  refine PySem.W.cmp_K (op := op) (tb := .ref C) hr.units0 hF I.ok.mod.kin J J'.type hn hs hf ?_
  refine wpAny_mono (wpAny_call (run_fnR (us := [.ref a, .ref b]) (vs := [.ref a, .ref b]) F hr hx I (.cons rfl (.cons rfl .nil)) q)) (fun w s' z => ?_) fun _ _ x => x
  obtain ⟨z', H', I', rz, qz⟩ := z
  exact SlX.cmpback rz ⟨z', H', I', rz, qz⟩
end Tw
set_option maxHeartbeats 4000000
/-! whole, __eq__, __lt__, __le__, __contains__, __getitem__. -/
namespace Tw
open PySem PySem.Spec PyProof.Rows L2
abbrev sWhole : Stmt := sTree 4
abbrev sEq : Stmt := sTree 5
abbrev sLt : Stmt := sTree 6
abbrev sLe : Stmt := sTree 7
/-- what isinstance asks of the class -/
structure Ti (K : PySem.W.Frag) (C : Addr) : Prop where
  ca : PySem.W.findIn K (.ref C) "__class__" = some (some (.builtin "object.__class__"))
  cn : PySem.W.specialIn K (.builtin "object.__class__") "__get__" = some (some (.builtin "getset_descriptor.__get__"))
  ct : PySem.W.takesIn K (.builtin "object.__class__") = some true
  cm : PySem.W.mroIn K C (.type "object") = some true
theorem kit_self (K : PySem.W.Frag) (v : Value) (h : (v == v) = true) : PySem.W.kitOne K v v = some true := if_pos h
theorem kit_ref (K : PySem.W.Frag) (C : Addr) : PySem.W.kitOne K (.ref C) (.ref C) = some true := kit_self K _ (by simp)
def spWhole (C : Addr) : Sp := fun vs H Q _ => ∃ (v : V) (t : T), vs = [v] ∧ TreeAt C H v t ∧ Q (.bl (decide (t.gaps = 0))) H
def spCmp (C : Addr) (f : T → T → Bool) : Sp := fun vs H Q _ => ∃ (v w : V) (t u : T), vs = [v, w] ∧ TreeAt C H v t ∧ TreeAt C H w u ∧ ∀ H', Same H H' → Q (.bl (f t u)) H'
def tLt (t u : T) : Bool := pairLt t.size t.term u.size u.term
def tLe (t u : T) : Bool := pairLe t.size t.term u.size u.term
def tEq (t u : T) : Bool := pairEq t.size t.term u.size u.term
section
variable {P : Program} {w : World} {K : PySem.W.Frag} {mg : Str → Option Value} {base : Heap} {C : Addr}
theorem scWh : FnScope ["self"] ["self"] (defScope sWhole) := ⟨rfl, rfl, rfl, by decide +kernel, rfl, by decide +kernel, by decide +kernel⟩
theorem ok_whole (T1 : Tt K C) {f : Addr} {fd : FuncData} (F : Fun K "whole" "Tree.whole" sWhole f fd) : FnOk P w K mg base CX0 1 f fd ["self"] (spWhole C) := by
  refine F.ok scWh (fun vs H Q E h => ?_) (fun cdv A outer s H vs Q E hr h => ?_)
  · obtain ⟨v, t, rfl, _⟩ := h
    rfl
  obtain ⟨v, t, rfl, ht, q⟩ := h
  obtain ⟨a, dx, p, vs', rfl, h1, h2, h3⟩ := ht.ex
  refine ⟨_, pss_one (ps_ret (pe_cmpR op_eq (pe_fld (pv 0) rfl) pe_int (nomark _))), _, rfl, a, C, dx, _, _, rfl, h1, T1.cl, T1.nGaps, fT_gaps, rfl, ?_⟩
  have e : decide (V.int (t.gaps : Int) = V.int 0) = decide (t.gaps = 0) := decide_eq_decide.mpr ⟨fun h => by have := V.int.inj h; omega, fun h => by rw [h]; rfl⟩
  show Q (.bl (decide (V.int (t.gaps : Int) = V.int 0))) H
  rw [e]
  exact q
theorem scEq : FnScope ["self", "other"] ["self", "other"] (defScope sEq) := ⟨rfl, rfl, rfl, by decide +kernel, rfl, by decide +kernel, by decide +kernel⟩
theorem scLt : FnScope ["self", "other"] ["self", "other"] (defScope sLt) := ⟨rfl, rfl, rfl, by decide +kernel, rfl, by decide +kernel, by decide +kernel⟩
theorem scLe : FnScope ["self", "other"] ["self", "other"] (defScope sLe) := ⟨rfl, rfl, rfl, by decide +kernel, rfl, by decide +kernel, by decide +kernel⟩
theorem ok_lt (T1 : Tt K C) (T2 : Ti K C) (gT : mg "Tree" = some (.ref C)) (mi : mg "isinstance" = none) {f : Addr} {fd : FuncData} (F : Fun K "__lt__" "Tree.__lt__" sLt f fd) : FnR P w K mg base CX0 1 f (spCmp C tLt) := by
  refine okR F scLt (fun vs H Q E h => ?_) (fun _ _ _ _ _ _ us hl => match us, hl with | [_, _], _ => rfl) (fun cdv A outer s H vs Q E hr h => ?_)
  · obtain ⟨v, w, t, u, rfl, _⟩ := h
    rfl
  obtain ⟨v, w, t, u, rfl, ht, hu, q⟩ := h
  obtain ⟨a, dx, p, vs', rfl, h1, _, _⟩ := ht.ex
  obtain ⟨b, dy, p', ws', rfl, g1, _, _⟩ := hu.ex
  refine ⟨_, pss_cons (ps_if (pt_not (pt_val (pe_callB call_isi (by rfl) mi (by decide +kernel) (pa_cons (pv 1) (pa_cons (pe_gr gT) pa_nil))))) (pss_one ps_never) pss_nil)
    (pss_one (ps_ret (pe_cmpR (op_pairLt hr.units0) (pe_tup (pa_cons (pe_fld (pv 0) rfl) (pa_cons (pe_fld (pv 0) rfl) pa_nil))) (pe_tup (pa_cons (pe_fld (pv 1) rfl) (pa_cons (pe_fld (pv 1) rfl) pa_nil))) (nomark _)))), ?_⟩
  have sl := sizeLine_eq
  refine ⟨_, rfl, _, .ref C, _, _, true, rfl, .own C, .base (.ins g1 T1.cl T2.ca T2.cn T2.ct T2.cm), kit_ref K C, _, rfl, iteF ?_⟩
  refine ⟨_, rfl, a, C, dx, _, _, rfl, h1, T1.cl, T1.nSize, fT_size, _, rfl, a, C, dx, _, _, rfl, h1, T1.cl, T1.nTerm, fT_term, (by show 2 ≤ sizeLine; omega), fun q1 nq1 => ?_⟩
  have k1 : Same H (upd H q1 (.tup [.int t.size, .str t.term])) := fun b o e => by rw [upd_ne (ne_of_none e nq1)]; exact e
  refine ⟨_, rfl, b, C, dy, _, _, rfl, k1 _ _ g1, T1.cl, T1.nSize, fT_size, _, rfl, b, C, dy, _, _, rfl, k1 _ _ g1, T1.cl, T1.nTerm, fT_term, (by show 2 ≤ sizeLine; omega), fun q2 nq2 => ?_⟩
  have k2 : Same (upd H q1 (.tup [.int t.size, .str t.term])) (upd (upd H q1 (.tup [.int t.size, .str t.term])) q2 (.tup [.int u.size, .str u.term])) := fun b o e => by rw [upd_ne (ne_of_none e nq2)]; exact e
  exact ⟨q1, q2, _, _, _, _, rfl, rfl, SqT.of (k2 _ _ upd_same), SqT.of upd_same, q _ (k1.trans k2)⟩
theorem ok_le (T1 : Tt K C) (T2 : Ti K C) (gT : mg "Tree" = some (.ref C)) (mi : mg "isinstance" = none) {f : Addr} {fd : FuncData} (F : Fun K "__le__" "Tree.__le__" sLe f fd) : FnR P w K mg base CX0 1 f (spCmp C tLe) := by
  refine okR F scLe (fun vs H Q E h => ?_) (fun _ _ _ _ _ _ us hl => match us, hl with | [_, _], _ => rfl) (fun cdv A outer s H vs Q E hr h => ?_)
  · obtain ⟨v, w, t, u, rfl, _⟩ := h
    rfl
  obtain ⟨v, w, t, u, rfl, ht, hu, q⟩ := h
  obtain ⟨a, dx, p, vs', rfl, h1, _, _⟩ := ht.ex
  obtain ⟨b, dy, p', ws', rfl, g1, _, _⟩ := hu.ex
  refine ⟨_, pss_cons (ps_if (pt_not (pt_val (pe_callB call_isi (by rfl) mi (by decide +kernel) (pa_cons (pv 1) (pa_cons (pe_gr gT) pa_nil))))) (pss_one ps_never) pss_nil)
    (pss_one (ps_ret (pe_cmpR (op_pairLe hr.units0) (pe_tup (pa_cons (pe_fld (pv 0) rfl) (pa_cons (pe_fld (pv 0) rfl) pa_nil))) (pe_tup (pa_cons (pe_fld (pv 1) rfl) (pa_cons (pe_fld (pv 1) rfl) pa_nil))) (nomark _)))), ?_⟩
  have sl := sizeLine_eq
  refine ⟨_, rfl, _, .ref C, _, _, true, rfl, .own C, .base (.ins g1 T1.cl T2.ca T2.cn T2.ct T2.cm), kit_ref K C, _, rfl, iteF ?_⟩
  refine ⟨_, rfl, a, C, dx, _, _, rfl, h1, T1.cl, T1.nSize, fT_size, _, rfl, a, C, dx, _, _, rfl, h1, T1.cl, T1.nTerm, fT_term, (by show 2 ≤ sizeLine; omega), fun q1 nq1 => ?_⟩
  have k1 : Same H (upd H q1 (.tup [.int t.size, .str t.term])) := fun b o e => by rw [upd_ne (ne_of_none e nq1)]; exact e
  refine ⟨_, rfl, b, C, dy, _, _, rfl, k1 _ _ g1, T1.cl, T1.nSize, fT_size, _, rfl, b, C, dy, _, _, rfl, k1 _ _ g1, T1.cl, T1.nTerm, fT_term, (by show 2 ≤ sizeLine; omega), fun q2 nq2 => ?_⟩
  have k2 : Same (upd H q1 (.tup [.int t.size, .str t.term])) (upd (upd H q1 (.tup [.int t.size, .str t.term])) q2 (.tup [.int u.size, .str u.term])) := fun b o e => by rw [upd_ne (ne_of_none e nq2)]; exact e
  exact ⟨q1, q2, _, _, _, _, rfl, rfl, SqT.of (k2 _ _ upd_same), SqT.of upd_same, q _ (k1.trans k2)⟩
theorem ok_eq (T1 : Tt K C) (T2 : Ti K C) (gT : mg "Tree" = some (.ref C)) (mi : mg "isinstance" = none) {f : Addr} {fd : FuncData} (F : Fun K "__eq__" "Tree.__eq__" sEq f fd) : FnR P w K mg base CX0 1 f (spCmp C tEq) := by
  refine okR F scEq (fun vs H Q E h => ?_) (fun _ _ _ _ _ _ us hl => match us, hl with | [_, _], _ => rfl) (fun cdv A outer s H vs Q E hr h => ?_)
  · obtain ⟨v, w, t, u, rfl, _⟩ := h
    rfl
  obtain ⟨v, w, t, u, rfl, ht, hu, q⟩ := h
  obtain ⟨a, dx, p, vs', rfl, h1, _, _⟩ := ht.ex
  obtain ⟨b, dy, p', ws', rfl, g1, _, _⟩ := hu.ex
  refine ⟨_, pss_cons (ps_if (pt_not (pt_val (pe_callB call_isi (by rfl) mi (by decide +kernel) (pa_cons (pv 1) (pa_cons (pe_gr gT) pa_nil))))) (pss_one ps_never) pss_nil)
    (pss_one (ps_ret (pe_cmpR (op_pairEq hr.units0) (pe_tup (pa_cons (pe_fld (pv 0) rfl) (pa_cons (pe_fld (pv 0) rfl) pa_nil))) (pe_tup (pa_cons (pe_fld (pv 1) rfl) (pa_cons (pe_fld (pv 1) rfl) pa_nil))) (nomark _)))), ?_⟩
  have sl := sizeLine_eq
  refine ⟨_, rfl, _, .ref C, _, _, true, rfl, .own C, .base (.ins g1 T1.cl T2.ca T2.cn T2.ct T2.cm), kit_ref K C, _, rfl, iteF ?_⟩
  refine ⟨_, rfl, a, C, dx, _, _, rfl, h1, T1.cl, T1.nSize, fT_size, _, rfl, a, C, dx, _, _, rfl, h1, T1.cl, T1.nTerm, fT_term, (by show 2 ≤ sizeLine; omega), fun q1 nq1 => ?_⟩
  have k1 : Same H (upd H q1 (.tup [.int t.size, .str t.term])) := fun b o e => by rw [upd_ne (ne_of_none e nq1)]; exact e
  refine ⟨_, rfl, b, C, dy, _, _, rfl, k1 _ _ g1, T1.cl, T1.nSize, fT_size, _, rfl, b, C, dy, _, _, rfl, k1 _ _ g1, T1.cl, T1.nTerm, fT_term, (by show 2 ≤ sizeLine; omega), fun q2 nq2 => ?_⟩
  have k2 : Same (upd H q1 (.tup [.int t.size, .str t.term])) (upd (upd H q1 (.tup [.int t.size, .str t.term])) q2 (.tup [.int u.size, .str u.term])) := fun b o e => by rw [upd_ne (ne_of_none e nq2)]; exact e
  exact ⟨q1, q2, _, _, _, _, rfl, rfl, SqT.of (k2 _ _ upd_same), SqT.of upd_same, q _ (k1.trans k2)⟩
end
end Tw
set_option maxHeartbeats 4000000
/-! in, [] and the walk over an instance of one's own. -/
namespace Tw
open PySem PySem.Spec PyProof.Rows L2
/-- x in y, y an instance of the class at C with its own def for it at g, which answers a truth value -/
def rInD (C : Addr) (sp : Sp) (E : XK) : R2 := fun x y H Q => ∃ a dx fs, y = .ref a ∧ H a = some (.ins C dx fs) ∧ sp [y, x] H (fun v H' => ∃ b, v = .bl b ∧ Q (.bl b) H') E
theorem op_inD {X : Cx} {CX : CXT} {C g : Addr} {n : Nat} {sp : Sp} {E : XK} (hs : PySem.W.findIn X.K (.ref C) "__contains__" = some (some (.ref g))) (hf : PySem.W.isFn X.K (.ref g) = true) (F : FnR X.prog X.w X.K X.mg X.base CX n g sp)
    (hr : Room n X.A) (hx : Passes CX X E) : OpR X (compareOp .In) (rInD C sp E) := by
  intro pins s σ H x y v u Q I rx ry h
  obtain ⟨a, dx, fs, rfl, ha, q⟩ := h
  cases (show u = Value.ref a from ry)
  obtain ⟨mA, O, _⟩ := ins_get I.hok ha
  obtain ⟨od, J, _⟩ := O.look
  obtain ⟨m, hF⟩ := I.fr
  refine PySem.W.in_K hF I.ok.mod.kin J hs hf ?_
  refine wpAny_mono (wpAny_call (run_fnR (us := [.ref a, v]) (vs := [.ref a, x]) F hr hx I (.cons rfl (.cons rx .nil)) q)) (fun w s' z => ?_) fun _ _ x => x
  obtain ⟨z', H', I', rz, b, rfl, qz⟩ := z
  cases (show w = Value.bool b from rz)
  exact wpAny_truthy_bool ⟨.bl b, H', I', rfl, qz⟩
/-- y[x], y an instance of the class at C with its own def for it at g -/
def rIxD (C : Addr) (sp : Sp) (E : XK) : R2 := fun x y H Q => ∃ a dx fs, x = .ref a ∧ H a = some (.ins C dx fs) ∧ sp [x, y] H Q E
theorem pe_ixD {X : Cx} {CX : CXT} {C g : Addr} {n : Nat} {sp : Sp} {E : XK} {a b : Expr} {ta tb : TE} {pos : Pos} (hs : PySem.W.findIn X.K (.ref C) "__getitem__" = some (some (.ref g))) (hf : PySem.W.fnIn X.K g = true) (hfn : PySem.W.isFn X.K (.ref g) = true) (F : FnR X.prog X.w X.K X.mg X.base CX n g sp)
    (hr : Room (n + 1) X.A) (hx : Passes CX X E) (ha : PE X a ta) (hb : PE X b tb) (hsl : ∀ (x : Addr) (i : Value), subscripted b true (.ref x) i = runValue (.builtin "lifetime.subscript" ⟨[.ref x, i], []⟩) := by intro _ _; with_unfolding_all rfl) :
    PE X (.Subscript a b pos) (tOp (rIxD C sp E) ta tb) := by
  refine ⟨fun pins s σ H Q I h => ?_⟩
  refine Subscript_ (binT ha hb I h fun v u s2 x y H2 I2 rx ry q => ?_)
  obtain ⟨p, dx, fs, rfl, hp, q⟩ := q
  cases (show v = Value.ref p from rx)
  obtain ⟨mA, O, _⟩ := ins_get I2.hok hp
  obtain ⟨od, J, _⟩ := O.look
  obtain ⟨m, hF⟩ := I2.fr
  refine PySem.W.sub_K hF I2.ok.mod.kin J hs hf hfn (wpAny_call (SlX.run_at (us := [.ref p, u]) (ws := [.ref p, y]) F hr.in1 I2.env0.in1 hx I2 (.cons rfl (.cons ry .nil)) q)) (hsl _ _)
/-! ### iter(a tuple) -/
def itT (it p : Addr) : HO := .ext fun h => h.IsTupleIter it p 0
theorem itT_ok {P : Program} {w : World} {H : Hp} {h : Heap} {it p : Addr} (e : h.IsTupleIter it p 0) : ObjOk P w H h it (itT it p) := by
  obtain ⟨o, ho, r⟩ := id e
  refine ⟨e, ⟨o, ho⟩, fun h1 h2 q k => ?_⟩
  obtain ⟨o', ho', r'⟩ := q
  exact ⟨o', k _ ho', r'⟩
def rIterT (K : PySem.W.Frag) (n : Nat) : List V → Hp → VK → Prop := fun xs H Q => ∃ (l : Addr) (zs : List V), xs = [.ref l] ∧ SqT K H l zs ∧ ∀ it, H it = none → n ≤ it → Q (.ref it) (upd H it (itT it l))
theorem call_iterT {X : Cx} : CallR X (.builtin "iter") (rIterT X.K X.s_0.heap.objs.size) := by
  intro pins s σ H xs us Q I r h
  obtain ⟨l, zs, rfl, hq, q⟩ := h
  obtain rfl := Vals.ref1 r
  obtain ⟨its, rv, pl, hz⟩ := I.tuple hq
  refine Calls.call_function_entry (by decide +kernel) (by decide +kernel) PySem.W.kdk_entry_iter (PySem.W.kdk_args_iter _) ?_
  unfold Builtin.«iter»
  refine wpAny_bind (m := someArgs "iter" 1 2 _) (wpAny_of_eq (a := [Value.ref l]) (by first | rfl | kernel_rfl!) ?_)
  show wpAny _ _ (pyIter (.ref l) >>= _) _ _ _
  refine wpAny_bind (wpAny_pyIter_tuple (show s.heap.IsTuple l its.toArray from pl) ?_)
  refine wpAny_pure ⟨_, rfl, ?_⟩
  exact ⟨.ref s.heap.objs.size, _, I.laid (t' := s.toks) (fun b u e => Heap.get?_push_of_some _ e) (Nat.le_refl _) (itT_ok ⟨_, Heap.get?_push_size _ rfl, rfl, rfl⟩), rfl, q _ (I.hok.fresh (Nat.le_refl _)) I.sz⟩
/-! ### a def whose promise may speak of the state it is called in -/
section
variable {CX : CXT} {P : Program} {w : World} {K : PySem.W.Frag} {mg : Str → Option Value} {base : Heap} {k : Nat} {f : Addr} {name qual : Str} {params : Arguments} {body : List Stmt} {scope : Scope} {dV kV doc pm cdv ct oc : Value} {an od : Option Addr}
  {osl : Array (Option Value)} {N ps : List Str}
theorem run_s {A : Around} {outer : List Env} {s : Shared} {H : Hp} {us : List Value} {vs : List V} {Q : VK} {E : XK} (lk : K.lookup f = some ⟨oc, od, .func (PySem.W.fnOf name qual params body scope dV kV doc pm an cdv ct), osl⟩) (hcd : PySem.W.codeIn K cdv qual = true)
    (S : FnScope N ps scope) (hr : Room (k + 1) A) (e0 : Env0 P w K mg base A outer s H) (hb : bindArgs (PySem.W.fnOf name qual params body scope dV kV doc pm an cdv ct) ⟨us, []⟩ = pure (ps.zip us)) (r : Vals vs us) (hl : vs.length = ps.length)
    (hbody : Room k (A.deeper (envOfC qual scope s.heap.objs.size f cdv)) → ∃ t, PSs (cxOf CX P w K mg base N qual scope f cdv A outer s H E) body t ∧ t { nx := fun _ H' => Q .non H', rt := Q } (start N vs) H) :
    codeAny (model P w) A (.call (.ref f) ⟨us, []⟩) (CR CX outer P w H s Q E) s := by
  have KX : K.In s.heap := e0.mod.kin.keeps fun b o e => (e0.bs b o e).1
  have lim : s.heap.NoLimit := e0.mod.nolimit.keeps fun b o e => (e0.bs b o e).1
  refine codeAny_call_function hr.depth (KX _ _ lk) rfl S.co S.gen rfl (PySem.W.codeRec_of KX hcd) ?_
  rw [hb]
  refine wpAny_pure ?_
  have hkind : ∀ y ∈ ps.zip us, scope.names.lookup y.1 = some .local ∨ (scope.names.lookup y.1 = some .cell ∧ ((cellsFrom (s.heap.objs.size + 1) scope.names []).lookup y.1).isSome = true) := fun y hy => by
    rcases S.par y.1 (List.of_mem_zip hy).1 with q | q
    · exact .inl q
    · exact .inr ⟨q, PySem.W.cellsFrom_some _ _ _ (.inl q)⟩
  refine wpAny_newFunctionEnv_cells (s := s) S.kind hkind fun env he s1 x => ?_
  subst he
  refine ⟨lim.keeps x.toInCall.keep, codeAny_func ?_⟩
  obtain ⟨t, ht, hq⟩ := hbody (hr.deeper _)
  have I : Inv (cxOf CX P w K mg base N qual scope f cdv A outer s H E) [] (start N vs) H s1 := inv_start S hr.hd e0 hl r x
  refine wpAny_mono (ht.run [] s1 _ _ _ I hq) (fun fl s' hs => ?_) fun e s' hs => ?_
  · have fin : ∀ {σ' : L2.St} {H' : Hp} {v' : V} {u' : Value}, Inv (cxOf CX P w K mg base N qual scope f cdv A outer s H E) [] σ' H' s' → RelV v' u' → Q v' H' → CE outer P w H s Q u' s' :=
      fun {σ' H' v' u'} J rv' q => ⟨v', H', J.os, J.bare, J.base, J.hok, rv', q⟩
    cases fl with
    | ret u' =>
      obtain ⟨v', σ', H', J, rv', q⟩ := hs
      exact fin J rv' q
    | next =>
      obtain ⟨σ', H', J, q⟩ := hs
      exact fin (v' := V.non) (u' := Value.none) J rfl q
    | brk =>
      obtain ⟨_, _, _, q⟩ := hs
      exact False.elim q
    | cont =>
      obtain ⟨_, _, _, q⟩ := hs
      exact False.elim q
  · exact hs
end
end Tw
set_option maxHeartbeats 4000000
/-! The walk over a tree's parts; __contains__, __getitem__. -/
namespace Tw
open PySem PySem.Spec PyProof.Rows L2
abbrev sContains : Stmt := sTree 10
abbrev sGetitem : Stmt := sTree 11
abbrev sIter : Stmt := sTree 12
theorem scIt : FnScope ["self"] ["self"] (defScope sIter) := ⟨rfl, rfl, rfl, by decide +kernel, rfl, by decide +kernel, by decide +kernel⟩
def iOwn (K : PySem.W.Frag) (C : Addr) (te : TE) : TI := fun σ H R => te σ H fun v H1 => ∃ a dx t p ws, v = .ref a ∧ H1 a = some (.ins C dx (fT p t)) ∧ H1 p = some (.tup ws) ∧ ∀ H2, Same H1 H2 → R (Itt K p) H2
section
variable {X : Cx} {C fIt : Addr} {fd : FuncData}
theorem pi_own {tg e : Expr} {te : TE} (T1 : Tt X.K C) (F : Fun X.K "__iter__" "Tree.__iter__" sIter fIt fd) (mi : X.mg "iter" = none) (hs : PySem.W.findIn X.K (.ref C) "__iter__" = some (some (.ref fIt))) (hf : PySem.W.isFn X.K (.ref fIt) = true) (hr : Room 1 X.A) (he : PE X e te) : PI X tg e (iOwn X.K C te) := by
  refine ⟨fun pins s σ H R I h => ?_⟩
  refine thn (he.run pins s σ H _ I h) fun v s1 ⟨x, H1, I1, r1, a, dx, t, p, ws, ex, ha, hp, q⟩ => ?_
  subst ex
  obtain rfl : v = Value.ref a := r1
  obtain ⟨mA, O, _⟩ := ins_get I1.hok ha
  obtain ⟨od, J, _⟩ := O.look
  obtain ⟨m, hF⟩ := I1.fr
  refine PySem.W.owit_iter hF I1.ok.mod.kin J hs hf (wpAny_call ?_)
  obtain ⟨oc, od', kV, doc, pm, an, cdv, ct, osl, rfl, lk, hcd⟩ := F.ex
  have run := run_s (CX := CX0) (A := X.A) (outer := X.stack) (s := s1) (H := H1) (us := [.ref a]) (vs := [.ref a]) (Q := fun v H' => ∃ it, v = .ref it ∧ H1 it = none ∧ s1.heap.objs.size ≤ it ∧ H' = upd H1 it (itT it p)) (E := E0) (k := 0) lk hcd scIt hr I1.env0 rfl (.cons rfl .nil) rfl (fun _ =>
    ⟨_, pss_one (ps_ret (pe_callB call_iterT (by rfl) mi (by decide +kernel) (pa_cons (pe_fld (pv 0) rfl) pa_nil))), _, rfl, a, C, dx, _, _, rfl, ha, T1.cl, T1.nParts, fT_parts, p, ws, rfl, SqT.of hp, fun it nit hn => ⟨it, rfl, nit, hn, rfl⟩⟩)
  refine codeAny_mono run fun r s' hq => ?_
  cases r with
  | error e => exact hq.elim
  | ok fl =>
    cases fl with
    | next => exact False.elim hq
    | brk => exact False.elim hq
    | cont => exact False.elim hq
    | ret u =>
      obtain ⟨v', H', I2, rv, it, ev, nit, hn, eH⟩ := I1.after hq
      subst ev eH
      obtain rfl : u = Value.ref it := rv
      have hit : s'.heap.IsTupleIter it p 0 := by
        have z : ObjOk X.prog X.w (upd H1 it (itT it p)) s'.heap it (itT it p) := I2.hok it _ upd_same
        exact z.1
      have hn0 : X.s_0.heap.objs.size ≤ it := Nat.le_trans I1.sz hn
      have fp := ItX.inv_fp I2 (u := itT it p) upd_same hn0
      have I3 := ItX.inv_drop I2 (φ := fun h => h.IsTupleIter it p 0) upd_same
      unfold PySem.W.OwitIt
      refine wpAny_specialOf (name := Str.ofString "__next__") hit.typeIs PySem.F.slot_tuple_iterator_next.lookup ?_
      refine ⟨it, [it], _, _, _, rfl, I3, turn_tuple p it, hit, fun b hb => ?_, q _ ?_⟩
      · have e : b = it := by simpa using hb
        subst e
        exact fp
      · intro b o e
        have nb : b ≠ it := ne_of_none e nit
        rw [ItX.dropH_ne nb, upd_ne nb]
        exact e
end
/-- the part at a path of any ints -/
def atP : List Int → T → Option T
  | [], t => some t
  | i :: r, t => if 0 ≤ i ∧ i < (t.parts.length : Int) then (t.parts[i.toNat]?).bind (atP r) else none
def spContains (K : PySem.W.Frag) (C : Addr) : Sp := fun vs H Q _ => ∃ (v : V) (t : T) (pa : Addr) (is : List Int), vs = [v, .ref pa] ∧ TreeAt C H v t ∧ SqT K H pa (is.map V.int) ∧ Q (.bl (atP is t).isSome) H
def spGetitem (K : PySem.W.Frag) (C CN : Addr) : Sp := fun vs H Q E => ∃ (v : V) (t : T) (pa : Addr) (is : List Int), vs = [v, .ref pa] ∧ TreeAt C H v t ∧ SqT K H pa (is.map V.int) ∧
  (∀ u, atP is t = some u → ∀ w, TreeAt C H w u → Q w H) ∧ (atP is t = none → ∀ d, H d = none → E (.ref CN) (some d) (upd H d (.xd [("path", .ref pa)])))
section
variable {P : Program} {w : World} {K : PySem.W.Frag} {mg : Str → Option Value} {base : Heap} {C : Addr}
theorem scCo : FnScope ["self", "path", "here", "at"] ["self", "path"] (defScope sContains) := ⟨rfl, rfl, rfl, by decide +kernel, rfl, by decide +kernel, by decide +kernel⟩
theorem scGe : FnScope ["self", "path", "here", "at"] ["self", "path"] (defScope sGetitem) := ⟨rfl, rfl, rfl, by decide +kernel, rfl, by decide +kernel, by decide +kernel⟩
theorem atP_drop {is : List Int} {j : Nat} {i : Int} (h : is[j]? = some i) (t : T) : atP (is.drop j) t = if 0 ≤ i ∧ i < (t.parts.length : Int) then (t.parts[i.toNat]?).bind (atP (is.drop (j + 1))) else none := by
  obtain ⟨hk, e⟩ := List.getElem?_eq_some_iff.mp h
  rw [List.drop_eq_getElem_cons hk, e]
  rfl
theorem ok_contains (T1 : Tt K C) (ml : mg "len" = none) {f : Addr} {fd : FuncData} (F : Fun K "__contains__" "Tree.__contains__" sContains f fd) : FnR P w K mg base CX0 1 f (spContains K C) := by
  refine okR F scCo (fun vs H Q E h => ?_) (fun _ _ _ _ _ _ us hl => match us, hl with | [_, _], _ => rfl) (fun cdv A outer s H vs Q E hr h => ?_)
  · obtain ⟨v, t, pa, is, rfl, _⟩ := h
    rfl
  obtain ⟨v, t, pa, is, rfl, ht, hpa, q⟩ := h
  refine ⟨_, pss_cons (ps_set (i := 2) scCo.nd rfl (Or.inl rfl) (pv 0))
    (pss_cons (ps_for PassesOwn.never rfl (pi_tup (pv 1)) (pg_name (i := 3) scCo.nd rfl (Or.inl rfl))
      (pss_cons (ps_if (pt_not (pt_chain op_le op_lt pe_int (pv 3) (pe_callB call_len_seq (by rfl) ml PySem.boot_len (pa_cons (pe_fld (pv 2) rfl) pa_nil)))) (pss_one (ps_ret pe_bl)) pss_nil)
      (pss_one (ps_set (i := 2) scCo.nd rfl (Or.inl rfl) (pe_ix ix_tup (pe_fld (pv 2) rfl) (pv 3) (fun _ _ => rfl))))))
    (pss_one (ps_ret pe_bl))), ?_⟩
  refine ⟨_, rfl, _, rfl, pa, rfl, ⟨_, hpa⟩, for_tup (K := K) (a := pa) (xs := is.map V.int) (fun i σ H' => H' = H ∧ ∃ (hv : V) (u : T) (w4 : Option V), σ = [some v, some (.ref pa), some hv, w4] ∧ TreeAt C H hv u ∧ atP (is.drop i) u = atP is t)
    ⟨rfl, v, t, none, rfl, ht, by rw [List.drop_zero]⟩ (fun i σ H' _ ⟨e, _⟩ => e ▸ hpa) ?_ ?_⟩
  · rintro j x σ H' hj ⟨rfl, hv, u, w4, rfl, hu, he⟩
    obtain ⟨i, hi, rfl⟩ : ∃ i, is[j]? = some i ∧ x = V.int i := by
      rw [List.getElem?_map] at hj
      cases e : is[j]? with
      | none => rw [e] at hj; cases hj
      | some i => rw [e] at hj; exact ⟨i, rfl, (Option.some.inj hj).symm⟩
    rw [atP_drop hi] at he
    obtain ⟨a, dx, p, ws, rfl, h1, h2, h3⟩ := hu.ex
    have el := h3.len
    refine ⟨_, rfl, _, _, rfl, rfl, _, rfl, ?_⟩
    have no : ¬ (0 ≤ i ∧ i < (u.parts.length : Int)) → Q (.bl false) H' := fun h => by
      rw [if_neg h] at he
      rw [← he] at q
      exact q
    refine ite2 (fun c => ?_) (fun c => ?_)
    · have c' := of_decide_eq_true c
      refine ⟨_, rfl, a, C, dx, _, _, rfl, h1, T1.cl, T1.nParts, fT_parts, p, ws, rfl, .inr (SqT.of h2), _, _, rfl, rfl, _, rfl, ?_⟩
      by_cases c2 : i < (ws.length : Int)
      · rw [decide_eq_true c2]
        refine iteF ?_
        rw [if_pos ⟨c', by omega⟩] at he
        have hlt : i.toNat < ws.length := by omega
        have hw : ws[i.toNat]? = some ws[i.toNat] := List.getElem?_eq_getElem hlt
        obtain ⟨u', hu', hat⟩ := h3.get hw
        rw [hu', Option.bind_some] at he
        refine ⟨_, rfl, a, C, dx, _, _, rfl, h1, T1.cl, T1.nParts, fT_parts, _, rfl, p, ws, i, _, rfl, rfl, SqT.of h2, at_of (j := i.toNat) (by omega) hw, rfl, _, u', _, rfl, hat, he⟩
      · rw [decide_eq_false c2]
        refine iteT ?_
        exact no fun h => c2 (by omega)
    · have c' := of_decide_eq_false (Bool.eq_false_iff.mpr c)
      refine ⟨_, rfl, ?_⟩
      refine iteT ?_
      exact no fun h => c' h.1
  · rintro σ H' ⟨rfl, hv, u, w4, rfl, hu, he⟩
    rw [List.length_map, List.drop_length] at he
    rw [← he] at q
    exact q
theorem ok_getitem (T1 : Tt K C) (ml : mg "len" = none) {CN fN : Addr} (B : Ext K mg "NoPlace" CN fN "path") {fdN : FuncData} (FN : Fun K "__init__" "NoPlace.__init__" sNoPlace fN fdN) {f : Addr} {fd : FuncData} (F : Fun K "__getitem__" "Tree.__getitem__" sGetitem f fd) : FnR P w K mg base (L2.CX P w) 3 f (spGetitem K C CN) := by
  have bN : Binds K fdN ["self", "path"] [] := FN.binds fun _ _ _ _ _ _ us hl => match us, hl with | [_, _], _ => rfl
  have GN : FnOk P w K mg base CX0 1 fN fdN ["self", "path"] (spEx CN "path") := ok_noPlace B FN
  refine FnOk.toR (fd := fd) (ps := ["self", "path"]) ?_ (F.binds fun _ _ _ _ _ _ us hl => match us, hl with | [_, _], _ => rfl)
  refine F.okX scGe (fun vs H Q E h => ?_) (fun cdv A outer s H vs Q E hr h => ?_)
  · obtain ⟨v, t, pa, is, rfl, _⟩ := h
    rfl
  obtain ⟨v, t, pa, is, rfl, ht, hpa, q1, q2⟩ := h
  refine ⟨_, pss_cons (ps_set (i := 2) scGe.nd rfl (Or.inl rfl) (pv 0))
    (pss_cons (ps_for (passes_of rfl) rfl (pi_tup (pv 1)) (pg_name (i := 3) scGe.nd rfl (Or.inl rfl))
      (pss_cons (ps_if (pt_not (pt_chain op_le op_lt pe_int (pv 3) (pe_callB call_len_seq (by rfl) ml PySem.boot_len (pa_cons (pe_fld (pv 2) rfl) pa_nil)))) (pss_one (ps_raise rfl (takes_of rfl rfl rfl rfl) (pmk_oex B.oex B.iC B.tI GN hr bN .nil pass0 rfl B.gC (pa_cons (pv 1) pa_nil)))) pss_nil)
      (pss_one (ps_set (i := 2) scGe.nd rfl (Or.inl rfl) (pe_ix ix_tup (pe_fld (pv 2) rfl) (pv 3) (fun _ _ => rfl))))))
    (pss_one (ps_ret (pv 2)))), ?_⟩
  refine ⟨_, rfl, _, rfl, pa, rfl, ⟨_, hpa⟩, for_tup (K := K) (a := pa) (xs := is.map V.int) (fun i σ H' => H' = H ∧ ∃ (hv : V) (u : T) (w4 : Option V), σ = [some v, some (.ref pa), some hv, w4] ∧ TreeAt C H hv u ∧ atP (is.drop i) u = atP is t)
    ⟨rfl, v, t, none, rfl, ht, by rw [List.drop_zero]⟩ (fun i σ H' _ ⟨e, _⟩ => e ▸ hpa) ?_ ?_⟩
  · rintro j x σ H' hj ⟨rfl, hv, u, w4, rfl, hu, he⟩
    obtain ⟨i, hi, rfl⟩ : ∃ i, is[j]? = some i ∧ x = V.int i := by
      rw [List.getElem?_map] at hj
      cases e : is[j]? with
      | none => rw [e] at hj; cases hj
      | some i => rw [e] at hj; exact ⟨i, rfl, (Option.some.inj hj).symm⟩
    rw [atP_drop hi] at he
    obtain ⟨a, dx, p, ws, rfl, h1, h2, h3⟩ := hu.ex
    have el := h3.len
    refine ⟨_, rfl, _, _, rfl, rfl, _, rfl, ?_⟩
    have no : ¬ (0 ≤ i ∧ i < (u.parts.length : Int)) → tMkO CN (spEx CN "path") [] (tCons (tVar 1) tNil) [some v, some (.ref pa), some (.ref a), some (.int i)] H' (fun cls d H2 => E cls d H2) := fun h => by
      rw [if_neg h] at he
      exact rd_mkO rfl fun d nd => q2 he.symm d nd
    refine ite2 (fun c => ?_) (fun c => ?_)
    · have c' := of_decide_eq_true c
      refine ⟨_, rfl, a, C, dx, _, _, rfl, h1, T1.cl, T1.nParts, fT_parts, p, ws, rfl, .inr (SqT.of h2), _, _, rfl, rfl, _, rfl, ?_⟩
      by_cases c2 : i < (ws.length : Int)
      · rw [decide_eq_true c2]
        refine iteF ?_
        rw [if_pos ⟨c', by omega⟩] at he
        have hlt : i.toNat < ws.length := by omega
        have hw : ws[i.toNat]? = some ws[i.toNat] := List.getElem?_eq_getElem hlt
        obtain ⟨u', hu', hat⟩ := h3.get hw
        rw [hu', Option.bind_some] at he
        refine ⟨_, rfl, a, C, dx, _, _, rfl, h1, T1.cl, T1.nParts, fT_parts, _, rfl, p, ws, i, _, rfl, rfl, SqT.of h2, at_of (j := i.toNat) (by omega) hw, rfl, _, u', _, rfl, hat, he⟩
      · rw [decide_eq_false c2]
        refine iteT ?_
        exact no fun h => c2 (by omega)
    · have c' := of_decide_eq_false (Bool.eq_false_iff.mpr c)
      refine ⟨_, rfl, ?_⟩
      refine iteT ?_
      exact no fun h => c' h.1
  · rintro σ H' ⟨rfl, hv, u, w4, rfl, hu, he⟩
    rw [List.length_map, List.drop_length] at he
    exact ⟨_, rfl, q1 u he.symm hv hu⟩
end
end Tw
set_option maxHeartbeats 4000000
/-! A for in a generator's body. -/
namespace Tw
open PySem PySem.Spec PyProof.Rows L2 GenW
section
variable {X : Cx}
def tGFor (wi : TI) (g : TG) (tb : TGn) : TGn := fun D ys σ H => wi σ H fun J H1 => ∃ W : Nat → Nat → List V → L2.St → Hp → Prop, (∃ m, W 0 m ys σ H1) ∧ ∀ i m ys σ H, W i m ys σ H →
  (J.stop i H ∧ D.nx ys σ H) ∨ (J.go i H ∧ ∃ N : List V → L2.St → Hp → Prop, (∀ ys' σ' H', N ys' σ' H' → ∃ m', m' < m ∧ W (i + 1) m' ys' σ' H') ∧ ∀ x H', J.yld i H x H' → g x σ H' fun σ2 H2 => tb { D with nx := N, ct := N, bk := D.nx } ys σ2 H2)
theorem gs_for {tg iter : Expr} {body : List Stmt} {wi : TI} {g : TG} {tb : TGn} {pos : Pos} (hp : PassesOwn (model X.prog X.w) X.A X.env X.xe) (hc : X.calm = true) (hi : PI X tg iter wi) (hg : PG X tg g) (hb : GSs X body tb)
    (hs : ∀ x, foldedSetIterable iter X.env x = pure x := by intro _; rfl) : GS X (.For tg iter body [] pos) (tGFor wi g tb) := by
  refine ⟨fun A S ip R n ys s₀ c fs K J gd lv s σ H D gc hn k hI ht => ?_⟩
  obtain ⟨acc, cc, r, I⟩ := hI
  rw [exec_For]
  refine seg_bind_wrap (wpAny_standAt ?_)
  refine seg_bind_wrap ?_
  rw [gc.over]
  refine wpAny_mono (hi.run _ s σ H _ I ht) (fun v s1 h1 => ?_) fun x s' hx => k.exc n s₀ x s' hx
  refine seg_bind_wrap (wpAny_of_eq (hs v) ?_)
  refine seg_bind_wrap (wpAny_standAt ?_)
  refine seg_bind_wrap (wpAny_holding ?_)
  rw [gc.over]
  refine wpAny_mono h1 (fun itv s2 h2 => ?_) fun x s' hx => k.exc n s₀ x s' hx
  obtain ⟨it, fp, tn, It, H2, rfl, I2, T, st2, f2, W, ⟨m0, w0⟩, turn⟩ := h2
  refine seg_call fun p => ?_
  have gl := fun (kk : Result → Sem PySem.Fin) => gc_loop (k := kk) (c' := .forLoop tg (.ref it) body [] X.env) (l := lv []) (kp := []) (p := p) gc rfl rfl
  have stat : ∀ {H' : Hp}, (∀ b ∈ fp, H' b = none) → ∀ b ∈ fp, FpOk X ((S, lstObj acc cc) :: ip) H' b := fun hn b hb => ⟨hn b hb, (f2 b hb).2⟩
  have statS : ∀ {acc' : Array Value} {c' : Nat} {H' : Hp}, (∀ b ∈ fp, H' b = none) → ∀ b ∈ fp, FpOk X ((S, lstObj acc' c') :: ip) H' b := fun {acc' c' H'} hn b hb => by
    obtain ⟨q1, q2, q3, q4, q5, q6⟩ := f2 b hb
    refine ⟨hn b hb, q2, q3, q4, q5, fun p hp => ?_⟩
    rcases List.mem_append.mp hp with hp | hp
    · exact q6 p (List.mem_append_left _ hp)
    · rcases List.mem_cons.mp hp with hp | hp
      · rw [hp]
        exact q6 (S, lstObj acc cc) (List.mem_append_right _ List.mem_cons_self)
      · exact q6 p (List.mem_append_right _ (List.mem_cons_of_mem _ hp))
  have loop : ∀ (m i n : Nat) (ys : List V) (s₀ s : Shared) (σ : L2.St) (H : Hp), n + ys.length = sizeLine → W i m ys σ H → GI X S ip ys σ H s → tn i s.heap → (∀ b ∈ fp, H b = none) →
      Seg (model X.prog X.w) A R (GY X S) n s₀ (.forLoop tg (.ref it) body [] X.env) ((model X.prog X.w).den (.forLoop tg (.ref it) body [] X.env))
        (.ret (fun r => ((match r with | .ok f => (.pure f : Sem Flow) | .error e => .raise e).onRaise (cameBack X.env)).wrap K J gd lv) none (gd false) (lv []) c p [] :: fs) s := by
    intro m
    induction m using Nat.strongRecOn with
    | ind m ih =>
      intro i n ys s₀ s σ H hn w hI hst hfr
      have ee : ∀ (n : Nat) (s₀ : Shared) (x : Value) (s' : Shared), X.xe x s' → Seg (model X.prog X.w) A R (GY X S) n s₀ (.forLoop tg (.ref it) body [] X.env)
          ((do noteFrame x X.env; theTreesLotGoes x : Sem Unit).bind fun _ => .raise x)
          (.ret (fun r => ((match r with | .ok f => (.pure f : Sem Flow) | .error e => .raise e).onRaise (cameBack X.env)).wrap K J gd lv) none (gd false) (lv []) c p [] :: fs) s' := fun n s₀ x s' hx => by
        rw [Sem.bind_eq_wrap]
        refine seg_wrap ?_
        rw [(gl _).over]
        refine wpAny_bind (wpAny_mono (hp x s' hx) (fun _ s'' hcb => wpAny_theTreesLotGoes ?_) fun y s'' hcb => ?_)
        · exact seg_leaf (.error x) (seg_cameBack gc k hcb)
        · exact seg_leaf (.error y) (seg_cameBack gc k hcb)
      show Seg _ A R _ n s₀ _ ((forTurn tg (.ref it) body [] X.env).onRaise (fun x => do noteFrame x X.env; theTreesLotGoes x)) _ s
      rw [Sem.onRaise_eq_wrap]
      unfold forTurn
      obtain ⟨acc3, cc3, r3, I3⟩ := hI
      refine seg_bind_wrap (wpAny_standAt ?_)
      refine seg_bind_wrap (wpAny_onRaise ?_)
      rw [(gl _).over]
      rcases turn i m ys σ H w with ⟨stop, qn⟩ | ⟨go, N, hN, step⟩
      · refine wpAny_mono (T.done X rfl rfl rfl hc i _ s σ H X.xe I3 (statS hfr) hst stop) (fun r s4 hr => ?_) fun x s' hx => wpAny_standAt ?_
        · obtain ⟨rfl, I4⟩ := hr
          refine seg_again rfl ?_
          have el := seg_leaf (M := model X.prog X.w) (A := A) (R := R) (Y := GY X S) (n := n) (s₀ := s₀) (c := .block [] X.env) (k := fun r => ((match r with | .ok f => (.pure f : Sem Flow) | .error e => .raise e).onRaise (cameBack X.env)).wrap K J gd lv) (h := none) (g := gd false) (l := lv []) (c₁ := c) (p₁ := p) (kp := []) (.ok .next) (k.ok n ys s₀ s4 .next hn ⟨σ, H, ⟨acc3, cc3, r3, I4⟩, qn⟩)
          exact el
        · exact ee n s₀ x s' hx
      · refine wpAny_mono (T.item X rfl rfl rfl hc i _ s σ H X.xe I3 (statS hfr) hst go) (fun r s4 hr => ?_) fun x s' hx => wpAny_standAt ?_
        · obtain ⟨u, rfl, h4⟩ := hr
          refine seg_bind_wrap ?_
          rw [(gl _).over]
          refine wpAny_mono h4 (fun _ s5 h5 => ?_) fun x s' hx => ee n s₀ x s' hx
          obtain ⟨x, H5, I5, r5, y5, st5, fr5⟩ := h5
          have I5' := I5.pinned (statS fr5) (T.obj _ _ st5)
          refine seg_bind_wrap ?_
          rw [(gl _).over]
          refine wpAny_mono (hg.run _ s5 σ H5 x u _ I5' r5 (step x H5 y5)) (fun _ s6 h6 => ?_) fun x s' hx => ee n s₀ x s' hx
          obtain ⟨σ6, H6, I6, q6⟩ := h6
          have hip : ∀ p ∈ ip ++ pinsAt fp s5.heap, p.1 ≠ S := fun p hp => by
            rcases List.mem_append.mp hp with hp | hp
            · exact gc.ip p hp
            · obtain ⟨hb, _⟩ := of_pinsAt hp
              exact fun e => (f2 p.1 hb).2.2.2.2.2 (S, lstObj acc cc) (List.mem_append_right _ List.mem_cons_self) e.symm
          have g2 : GC X S (ip ++ pinsAt fp s5.heap) A (.forLoop tg (.ref it) body [] X.env) (.ret (fun r => ((match r with | .ok f => (.pure f : Sem Flow) | .error e => .raise e).onRaise (cameBack X.env)).wrap K J gd lv) none (gd false) (lv []) c p [] :: fs) id := { gl _ with ip := hip }
          rw [Sem.bind_eq_wrap', Sem.wrap_wrap]
          refine hb.run A S (ip ++ pinsAt fp s5.heap) R n ys s₀ _ _ _ _ id id s6 σ6 H6 { D with nx := N, ct := N, bk := D.nx } g2 hn ⟨fun n' ys' s₀' s7 f hn' hs => ?_, fun n' s₀' x s7 hx => ee n' s₀' x s7 hx⟩ ⟨acc3, cc3, r3, I6⟩ q6
          have again : ∀ {σ7 : L2.St} {H7 : Hp}, GI X S (ip ++ pinsAt fp s5.heap) ys' σ7 H7 s7 → GI X S ip ys' σ7 H7 s7 ∧ tn (i + 1) s7.heap ∧ ∀ b ∈ fp, H7 b = none := fun {σ7 H7} G7 => by
            obtain ⟨acc7, cc7, r7, I7⟩ := G7
            refine ⟨⟨acc7, cc7, r7, I7.unpinned (pins := (S, lstObj acc7 cc7) :: ip)⟩, T.keep _ _ _ st5 fun b hb o e => (I7.pin (b, o) (List.mem_append_right _ (List.mem_cons_of_mem _ (List.mem_append_right _ (mem_pinsAt hb e))))).1, fun b hb => ?_⟩
            obtain ⟨o, e, d⟩ := T.obj _ _ st5 b hb
            exact (I7.pin (b, o) (List.mem_append_right _ (List.mem_cons_of_mem _ (List.mem_append_right _ (mem_pinsAt hb e))))).2.1
          cases f with
          | next =>
            obtain ⟨σ7, H7, G7, n7⟩ := hs
            obtain ⟨G8, t8, f8⟩ := again G7
            obtain ⟨m', hm, w7⟩ := hN ys' σ7 H7 n7
            exact seg_again rfl (ih m' hm (i + 1) n' ys' s₀' s7 σ7 H7 hn' w7 G8 t8 f8)
          | cont =>
            obtain ⟨σ7, H7, G7, n7⟩ := hs
            obtain ⟨G8, t8, f8⟩ := again G7
            obtain ⟨m', hm, w7⟩ := hN ys' σ7 H7 n7
            exact seg_again rfl (ih m' hm (i + 1) n' ys' s₀' s7 σ7 H7 hn' w7 G8 t8 f8)
          | brk =>
            obtain ⟨σ7, H7, G7, q7⟩ := hs
            exact seg_leaf (.ok .next) (k.ok n' ys' s₀' s7 .next hn' ⟨σ7, H7, (again G7).1, q7⟩)
          | ret v =>
            obtain ⟨x7, σ7, H7, G7, r7, q7⟩ := hs
            exact seg_leaf (.ok (.ret v)) (k.ok n' ys' s₀' s7 (.ret v) hn' ⟨x7, σ7, H7, (again G7).1, r7, q7⟩)
        · exact ee n s₀ x s' hx
  exact loop m0 0 n ys s₀ s2 σ H2 hn w0 ⟨acc, cc, r, I2⟩ st2 fun b hb => (f2 b hb).1
end
theorem gfor_list {K : PySem.W.Frag} {a : Addr} {xs : List V} {g : TG} {tb : TGn} {D : GEnds} {ys : List V} {σ : L2.St} {H : Hp} (Pv : Nat → List V → L2.St → Hp → Prop) (h0 : Pv 0 ys σ H) (hl : ∀ i ys σ H, i ≤ xs.length → Pv i ys σ H → SqL K H a xs)
    (hs : ∀ i x ys σ H, xs[i]? = some x → Pv i ys σ H → g x σ H fun σ2 H2 => tb { D with nx := Pv (i + 1), ct := Pv (i + 1), bk := D.nx } ys σ2 H2) (hd : ∀ ys σ H, Pv xs.length ys σ H → D.nx ys σ H) :
    ∃ W : Nat → Nat → List V → L2.St → Hp → Prop, (∃ m, W 0 m ys σ H) ∧ ∀ i m ys σ H, W i m ys σ H →
      ((Itl K a).stop i H ∧ D.nx ys σ H) ∨ ((Itl K a).go i H ∧ ∃ N : List V → L2.St → Hp → Prop, (∀ ys' σ' H', N ys' σ' H' → ∃ m', m' < m ∧ W (i + 1) m' ys' σ' H') ∧ ∀ x H', (Itl K a).yld i H x H' → g x σ H' fun σ2 H2 => tb { D with nx := N, ct := N, bk := D.nx } ys σ2 H2) := by
  refine ⟨fun i m ys σ H => m = xs.length - i ∧ i ≤ xs.length ∧ Pv i ys σ H, ⟨xs.length, by simp, Nat.zero_le _, h0⟩, ?_⟩
  rintro i m ys σ H ⟨rfl, hi, p⟩
  have q := hl i ys σ H hi p
  by_cases hlt : i < xs.length
  · refine .inr ⟨⟨xs, xs[i], q, by simp [hlt]⟩, Pv (i + 1), fun ys' σ' H' p' => ⟨xs.length - (i + 1), by omega, rfl, hlt, p'⟩, fun x H' y => ?_⟩
    obtain ⟨e, y⟩ := y
    subst e
    exact hs i x ys σ _ (y xs q) p
  · have e : i = xs.length := by omega
    subst e
    exact .inl ⟨⟨xs, q, Nat.le_refl _⟩, hd ys σ H p⟩
end Tw
set_option maxHeartbeats 4000000
/-! Tree.paths. -/
namespace Tw
open PySem PySem.Spec PyProof.Rows L2
abbrev sPaths : Stmt := inClass (top 14) 13
/-- a path as a tuple -/
def PathAt (H : Hp) (v : V) (p : Path) : Prop := ∃ q, v = .ref q ∧ H q = some (.tup (pV p))
theorem PathAt.firm {H H' : Hp} (f : Firm H H') {v : V} {p : Path} (h : PathAt H v p) : PathAt H' v p := by
  obtain ⟨q, rfl, e⟩ := h
  exact ⟨q, rfl, f.1 _ _ e⟩
def spPaths (C : Addr) : SpG := fun vs H Q _ => ∃ (v : V) (t : T), vs = [v] ∧ TreeAt C H v t ∧ t.size ≤ 1000000 ∧ ∀ ys H', Same H H' → Paired (PathAt H') ys ((t.walk []).map (·.1)) → Q ys H'
section
variable {P : Program} {w : World} {K : PySem.W.Frag} {mg : Str → Option Value} {base : Heap} {C : Addr}
theorem scPa : GScope ["self", "path", "_"] ["self"] (defScope sPaths) := ⟨rfl, rfl, rfl, by decide +kernel, rfl, by decide +kernel, by decide +kernel⟩
theorem ok_paths {fp : Addr} (gp : Gf K mg "places" fp) (Fp : FnR P w K mg base CX0 1 fp (spPlaces C)) {f : Addr} {fd : FuncData} (F : Fun K "paths" "Tree.paths" sPaths f fd) : GFn P w K mg base 2 f fd ["self"] (spPaths C) := by
  obtain ⟨oc, od, kV, doc, pm, an, cdv, ct, osl, rfl, lk, hcd⟩ := F.ex
  refine gfn_of lk hcd scPa (fun vs H Q E h => ?_) fun A outer s H vs Q E pn hr h => ?_
  · obtain ⟨v, t, rfl, _⟩ := h
    rfl
  obtain ⟨v, t, rfl, ht, hsz, q⟩ := h
  refine ⟨_, gss_cons (gs_for owns_gcx rfl (pi_list (pe_cf Fp hr gp pass0 (pa_cons (pv 0) pa_nil))) (pg_tup (by rfl) (pgs_cons (pg_name (i := 1) scPa.nd rfl (Or.inl rfl)) (pgs_cons (pg_name (i := 2) scPa.nd rfl (Or.inl rfl)) pgs_nil)))
    (gss_cons (gs_yield (pv 1)) gss_nil)) gss_nil, ?_⟩
  refine ⟨v, rfl, v, t, rfl, ht, hsz, fun l H1 ws sm nl hl en => ?_⟩
  have wl := paired_len en
  have wk := walk_len [] t
  have sl := sizeLine_eq
  refine ⟨l, rfl, ⟨ws, SqL.of hl⟩, ?_⟩
  refine gfor_list (xs := ws) (fun i ys σ H' => H' = H1 ∧ (∃ a b, σ = [some v, a, b]) ∧ Paired (PathAt H1) ys (((t.walk []).take i).map (·.1))) ⟨rfl, ⟨none, none, rfl⟩, .nil⟩ (fun i ys σ H' hi z => z.1 ▸ SqL.of hl) ?_ ?_
  · rintro i x ys σ H' hx ⟨rfl, ⟨a, b, rfl⟩, hp⟩
    obtain ⟨e, he, ea, qa, z, rfl, h1, h2, h3⟩ := paired_get en hx
    have hle := paired_len hp
    rw [List.length_map, List.length_take] at hle
    refine ⟨ea, _, rfl, SqT.of h1, rfl, _, _, rfl, _, _, rfl, rfl, ?_⟩
    refine ⟨by omega, _, rfl, rfl, ⟨_, _, rfl⟩, ?_⟩
    rw [take_snoc he, List.map_append]
    exact Paired.snoc hp ⟨qa, rfl, h2⟩
  · rintro ys σ H' ⟨rfl, _, hp⟩
    rw [List.take_of_length_le (by omega)] at hp
    exact q ys _ sm hp
end
end Tw
set_option maxHeartbeats 4000000
/-! The law's pool and its draws. -/
namespace Tw
open PySem PySem.Spec PyProof.Rows L2
abbrev sPool : Stmt := top 21
abbrev sDraw : Stmt := top 22
abbrev sName : Stmt := top 23
/-- the pool: what is left of the great numbers, the seed, the count -/
def PoolAt (H : Hp) (p r : Addr) : Prop := p ≠ r ∧ ∃ (rows : List Int) (s c : Int), H p = some (.lst [.ref r, .int s, .int c]) ∧ H r = some (.lst (rows.map V.int)) ∧ rows.length ≤ 63
/-- all but these stands -/
def KeptBut (l : List Addr) (H H' : Hp) : Prop := ∀ b o, H b = some o → b ∉ l → H' b = some o
theorem KeptBut.refl (l : List Addr) (H : Hp) : KeptBut l H H := fun _ _ e _ => e
theorem KeptBut.trans {l : List Addr} {H H1 H2 : Hp} (a : KeptBut l H H1) (b : KeptBut l H1 H2) : KeptBut l H H2 := fun x o e n => b x o (a x o e n) n
theorem KeptBut.of {l : List Addr} {H H' : Hp} (s : Same H H') : KeptBut l H H' := fun b o e _ => s b o e
theorem KeptBut.mono {l m : List Addr} {H H' : Hp} (h : KeptBut l H H') (s : ∀ a ∈ l, a ∈ m) : KeptBut m H H' := fun b o e n => h b o e fun hb => n (s b hb)
theorem KeptBut.upd {l : List Addr} {H : Hp} {a : Addr} {o : HO} (h : a ∈ l) : KeptBut l H (upd H a o) := fun b o' e n => by rw [upd_ne (fun z => n (by rw [z]; exact h))]; exact e
theorem i31 : (0 : Int) < 2147483647 := by decide
theorem i10007 : (0 : Int) < 10007 := by decide
theorem i65521 : (0 : Int) < 65521 := by decide
theorem shaped_ints (rows : List Int) : SeqAt.shaped (.list (rows.map PyData.int)) = true := by
  have h1 : ∀ rs : List Int, PyData.canLayAll0 (rs.map PyData.int) = true := fun rs => by
    induction rs with
    | nil => rfl
    | cons x r ih => rw [List.map_cons]; unfold PyData.canLayAll0; rw [ih]; rfl
  have h2 : ∀ rs : List Int, PyData.depthAll (rs.map PyData.int) = 0 := fun rs => by
    induction rs with
    | nil => rfl
    | cons x r ih => rw [List.map_cons]; unfold PyData.depthAll; rw [ih]; rfl
  unfold SeqAt.shaped
  refine Bool.and_eq_true_iff.mpr ⟨?_, decide_eq_true ?_⟩
  · unfold PyData.canLay0; exact h1 rows
  · unfold PyData.depth; rw [h2]; decide
theorem dpall_ints {K : PySem.W.Frag} {H : Hp} : ∀ rows : List Int, DpAll K H (rows.map V.int) (rows.map PyData.int)
  | [] => .nil
  | x :: r => .cons (.int x) (dpall_ints r)
def spPool (K : PySem.W.Frag) : Sp := fun vs H Q _ => ∃ (a : Addr) (ns : List Int), vs = [.ref a] ∧ SqL K H a (ns.map V.int) ∧ ∀ p r H', Same H H' → H p = none → H r = none → PoolAt H' p r → Q (.ref p) H'
/-- a draw: any number below many -/
def spDraw : Sp := fun vs H Q _ => ∃ (p r : Addr) (m : Nat), vs = [.ref p, .int (m : Int)] ∧ PoolAt H p r ∧ 0 < m ∧ m ≤ 1000000 ∧ ∀ d H', d < m → PoolAt H' p r → KeptBut [p, r] H H' → Firm H H' → Q (.int ((d : Nat) : Int)) H'
section
variable {P : Program} {w : World} {K : PySem.W.Frag} {mg : Str → Option Value} {base : Heap}
theorem scDr : FnScope ["pool", "many", "rows", "pick", "mixed"] ["pool", "many"] (defScope sDraw) := ⟨rfl, rfl, rfl, by decide +kernel, rfl, by decide +kernel, by decide +kernel⟩
theorem scPo : FnScope ["script", "seed", "rows", "cell"] ["script"] (defScope sPool) := ⟨rfl, rfl, rfl, by decide +kernel, rfl, by decide +kernel, by decide +kernel⟩
theorem ok_draw (mi : mg "int" = none) {f : Addr} {fd : FuncData} (F : Fun K "_law_draw" "_law_draw" sDraw f fd) : FnR P w K mg base CX0 1 f spDraw := by
  refine okR F scDr (fun vs H Q E h => ?_) (fun _ _ _ _ _ _ us hl => match us, hl with | [_, _], _ => rfl) (fun cdv A outer s H vs Q E hr h => ?_)
  · obtain ⟨p, r, m, rfl, _⟩ := h
    rfl
  obtain ⟨p, r, m, rfl, ⟨hne, rows, sd, c, hp, hrw, hlen⟩, hm, hm2, q⟩ := h
  refine ⟨_, pss_cons (ps_set (i := 2) scDr.nd rfl (Or.inl rfl) (pe_ix ix_list (pv 0) pe_int (fun _ _ => rfl)))
    (pss_cons (ps_if (pt_cmpR (op_neD hr.units) (pv 2) (pe_lst pa_nil) (nomark _))
      (pss_cons (ps_set (i := 3) scDr.nd rfl (Or.inl rfl) (pe_op op_mod (pe_callTy call_int1 (by rfl) mi (by decide +kernel) (pa_cons (pe_ix ix_list (pv 2) pe_int (fun _ _ => rfl)) pa_nil)) (pv 1)))
      (pss_cons (ps_asg (pe_op op_fdiv (pe_ix ix_list (pv 2) pe_int (fun _ _ => rfl)) (pv 1)) (pg_sub (pv 2) pe_int set_list))
      (pss_cons (ps_if (pt_cmpR op_eq (pe_ix ix_list (pv 2) pe_int (fun _ _ => rfl)) pe_int (nomark _))
        (pss_one (ps_expr (pe_bm PySem.F.plainAttrs_list PySem.F.slot_list_pop PySem.F.type_list_pop mt_popAt (pv 2) (pa_cons pe_int pa_nil)))) pss_nil)
      (pss_one (ps_ret (pv 3)))))) pss_nil)
    (pss_cons (ps_asg (pe_op op_add (pe_ix ix_list (pv 0) pe_int (fun _ _ => rfl)) pe_int) (pg_sub (pv 0) pe_int set_list))
    (pss_cons (ps_set (i := 4) scDr.nd rfl (Or.inl rfl) (pe_op op_mod (pe_callTy call_int1 (by rfl) mi (by decide +kernel) (pa_cons (pe_op op_add (pe_ix ix_list (pv 0) pe_int (fun _ _ => rfl)) (pe_op op_mul (pe_ix ix_list (pv 0) pe_int (fun _ _ => rfl)) pe_int)) pa_nil)) pe_int))
    (pss_cons (ps_set (i := 4) scDr.nd rfl (Or.inl rfl) (pe_op op_mod (pe_callTy call_int1 (by rfl) mi (by decide +kernel) (pa_cons (pe_op op_mul (pv 4) pe_int) pa_nil)) pe_int))
    (pss_one (ps_ret (pe_op op_mod (pe_op op_mod (pe_callTy call_int1 (by rfl) mi (by decide +kernel) (pa_cons (pe_op op_add (pe_op op_fdiv (pv 4) pe_int) (pe_op op_mul (pe_op op_mod (pe_callTy call_int1 (by rfl) mi (by decide +kernel) (pa_cons (pv 4) pa_nil)) pe_int) (pe_ix ix_list (pv 0) pe_int (fun _ _ => rfl)))) pa_nil)) pe_int) (pv 1)))))))), ?_⟩
  have sl := sizeLine_eq
  have mpos : (0 : Int) < (m : Int) := by omega
  have md : ∀ x : Int, ∃ d : Nat, x % (m : Int) = (d : Int) ∧ d < m := fun x => by
    have h1 := Int.emod_nonneg x (show (m : Int) ≠ 0 by omega)
    have h2 := Int.emod_lt_of_pos x mpos
    exact ⟨(x % (m : Int)).toNat, by omega, by omega⟩
  refine ⟨_, rfl, p, _, _, .ref r, rfl, rfl, SqL.of hp, rfl, ?_⟩
  refine ⟨_, rfl, Nat.zero_le _, fun e ne => ?_⟩
  have k0 : Same H (upd H e (.lst [])) := fun b o h => by rw [upd_ne (ne_of_none h ne)]; exact h
  refine ⟨_, _, .lst (SqL.of (k0 _ _ hrw)) (dpall_ints rows), .lst (SqL.of upd_same) .nil, shaped_ints rows, rfl, ?_⟩
  cases rows with
  | nil =>
    refine ⟨_, rfl, iteF ?_⟩
    refine ⟨_, rfl, p, _, _, .int c, rfl, rfl, SqL.of (k0 _ _ hp), rfl, _, _, rfl, rfl, ?_⟩
    refine ⟨_, rfl, p, _, 2, 2, rfl, rfl, k0 _ _ hp, rfl, ?_⟩
    have hp2 : (upd (upd H e (.lst [])) p (.lst ([V.ref r, .int sd, .int c].set 2 (.int (c + 1))))) p = some (.lst [.ref r, .int sd, .int (c + 1)]) := upd_same
    have hr2 : (upd (upd H e (.lst [])) p (.lst ([V.ref r, .int sd, .int c].set 2 (.int (c + 1))))) r = some (.lst []) := by rw [upd_ne (Ne.symm hne)]; exact k0 _ _ hrw
    have kb2 : KeptBut [p, r] H (upd (upd H e (.lst [])) p (.lst ([V.ref r, .int sd, .int c].set 2 (.int (c + 1))))) := (KeptBut.of k0).trans (KeptBut.upd List.mem_cons_self)
    have fm2 : Firm H (upd (upd H e (.lst [])) p (.lst ([V.ref r, .int sd, .int c].set 2 (.int (c + 1))))) := (Firm.of k0).trans (Firm.list (k0 _ _ hp))
    generalize (upd (upd H e (.lst [])) p (.lst ([V.ref r, .int sd, .int c].set 2 (.int (c + 1))))) = H2 at hp2 hr2 kb2 fm2 ⊢
    refine ⟨_, rfl, p, _, _, .int sd, rfl, rfl, SqL.of hp2, rfl, _, rfl, p, _, _, .int (c + 1), rfl, rfl, SqL.of hp2, rfl, _, _, rfl, rfl, .inr (by decide), _, _, rfl, rfl, .inl ⟨_, rfl, _, _, rfl, rfl, i31, ?_⟩⟩
    refine ⟨_, rfl, _, _, rfl, rfl, .inr (by decide), .inl ⟨_, rfl, _, _, rfl, rfl, i31, ?_⟩⟩
    have mb : ∀ x : Int, -(2 ^ 64 : Int) < x % 10007 ∧ x % 10007 < 2 ^ 64 := fun x => by
      have h1 := Int.emod_nonneg x (show (10007 : Int) ≠ 0 by decide)
      have h2 := Int.emod_lt_of_pos x (show (0 : Int) < 10007 by decide)
      omega
    refine ⟨_, rfl, _, _, rfl, rfl, ⟨by decide, by decide⟩, _, rfl, .inl ⟨_, rfl, _, _, rfl, rfl, i10007, _, rfl, p, _, _, .int (c + 1), rfl, rfl, SqL.of hp2, rfl, _, _, rfl, rfl, .inl (mb _), _, _, rfl, rfl, .inl ⟨_, rfl, _, _, rfl, rfl, i65521, _, rfl, _, _, rfl, rfl, mpos, ?_⟩⟩⟩
    obtain ⟨d, e1, e2⟩ := md ((((sd + (c + 1) * 69621) % 2147483647 * 48271 % 2147483647 / 7) + (((sd + (c + 1) * 69621) % 2147483647 * 48271 % 2147483647) % 10007 * (c + 1))) % 65521)
    dsimp only
    rw [e1]
    exact q d _ e2 ⟨hne, [], sd, c + 1, hp2, hr2, Nat.zero_le _⟩ kb2 fm2
  | cons x rows =>
    refine ⟨_, rfl, iteT ?_⟩
    have hr1 := k0 _ _ hrw
    have hp1 := k0 _ _ hp
    have kb1 : KeptBut [p, r] H (upd H e (.lst [])) := KeptBut.of k0
    have fm1 : Firm H (upd H e (.lst [])) := Firm.of k0
    generalize upd H e (.lst []) = H1 at hr1 hp1 kb1 fm1 ⊢
    obtain ⟨d, e1, e2⟩ := md x
    have ix0 : ixN ((x :: rows).map V.int).length 0 = some 0 := by unfold ixN; rw [if_pos (by decide), if_pos (by rw [List.length_map, List.length_cons]; omega)]; rfl
    have sq0 : seqIndex? 0 (((x / (m : Int)) :: rows).map V.int).length = some 0 := seqIndex_of (by decide) (by rw [List.length_map, List.length_cons]; omega)
    refine ⟨_, rfl, r, _, _, .int x, rfl, rfl, SqL.of hr1, atI_nat (j := 0) rfl, .inl ⟨_, rfl, _, rfl, _, _, rfl, rfl, mpos, ?_⟩⟩
    refine name_go ?_
    dsimp only
    rw [e1]
    refine ⟨_, rfl, r, _, _, .int x, rfl, rfl, SqL.of hr1, atI_nat (j := 0) rfl, _, rfl, _, _, rfl, rfl, ⟨mpos, by omega⟩, ?_⟩
    refine ⟨_, rfl, r, _, 0, 0, rfl, rfl, hr1, ix0, ?_⟩
    have hr2 : (upd H1 r (.lst (((x :: rows).map V.int).set 0 (.int (x / (m : Int)))))) r = some (.lst (((x / (m : Int)) :: rows).map V.int)) := upd_same
    have hp2 : (upd H1 r (.lst (((x :: rows).map V.int).set 0 (.int (x / (m : Int)))))) p = some (.lst [.ref r, .int sd, .int c]) := by rw [upd_ne hne]; exact hp1
    have kb2 : KeptBut [p, r] H (upd H1 r (.lst (((x :: rows).map V.int).set 0 (.int (x / (m : Int)))))) := kb1.trans (KeptBut.upd (List.mem_cons_of_mem _ List.mem_cons_self))
    have fm2 : Firm H (upd H1 r (.lst (((x :: rows).map V.int).set 0 (.int (x / (m : Int)))))) := fm1.trans (Firm.list hr1)
    generalize (upd H1 r (.lst (((x :: rows).map V.int).set 0 (.int (x / (m : Int)))))) = H2 at hp2 hr2 kb2 fm2 ⊢
    refine ⟨_, rfl, r, _, _, .int (x / (m : Int)), rfl, rfl, SqL.of hr2, atI_nat (j := 0) rfl, rfl, ?_⟩
    refine ⟨_, rfl, ?_⟩
    refine ite2 (fun z => ?_) (fun z => ?_)
    · refine ⟨_, rfl, .inl ⟨rfl, _, SqL.of hr2⟩, r, _, 0, 0, _, rfl, rfl, hr2, by decide, by decide, sq0, rfl, ?_⟩
      refine ⟨_, rfl, ?_⟩
      exact q d _ e2 ⟨hne, rows, sd, c, by rw [upd_ne hne]; exact hp2, upd_same, by simp at hlen; omega⟩ (kb2.trans (KeptBut.upd (List.mem_cons_of_mem _ List.mem_cons_self))) (fm2.trans (Firm.list hr2))
    · exact ⟨_, rfl, q d _ e2 ⟨hne, _, sd, c, hp2, hr2, by simpa using hlen⟩ kb2 fm2⟩
end
end Tw
set_option maxHeartbeats 4000000
/-! The law's pool is made. -/
namespace Tw
open PySem PySem.Spec PyProof.Rows L2
theorem SqL.same {K : PySem.W.Frag} {H H' : Hp} {a : Addr} {xs : List V} (s : Same H H') (h : SqL K H a xs) : SqL K H' a xs := by
  rcases h with h | h
  · exact .inl (h.elim (fun e => .inl (s _ _ e)) fun ⟨i, e⟩ => .inr ⟨i, s _ _ e⟩)
  · exact .inr h
section
variable {P : Program} {w : World} {K : PySem.W.Frag} {mg : Str → Option Value} {base : Heap}
theorem ok_pool (mi : mg "int" = none) (ma : mg "abs" = none) {f : Addr} {fd : FuncData} (F : Fun K "_law_pool_of" "_law_pool_of" sPool f fd) : FnR P w K mg base CX0 1 f (spPool K) := by
  refine okR F scPo (fun vs H Q E h => ?_) (fun _ _ _ _ _ _ us hl => match us, hl with | [_], _ => rfl) (fun cdv A outer s H vs Q E hr h => ?_)
  · obtain ⟨a, ns, rfl, _⟩ := h
    rfl
  obtain ⟨a, ns, rfl, ha, q⟩ := h
  refine ⟨_, pss_cons (ps_set (i := 1) scPo.nd rfl (Or.inl rfl) pe_int)
    (pss_cons (ps_set (i := 2) scPo.nd rfl (Or.inl rfl) (pe_lst pa_nil))
    (pss_cons (ps_for PassesOwn.never rfl (pi_list (pe_slice sl_list (pv 0) po_none (po_some pe_int))) (pg_name (i := 3) scPo.nd rfl (Or.inl rfl))
      (pss_one (ps_if (pt_cmpR op_ge (pe_callB call_abs (by rfl) ma (by decide +kernel) (pa_cons (pv 3) pa_nil)) (pe_op op_pow pe_int pe_int) (nomark _))
        (pss_one (ps_expr (pe_bm PySem.F.plainAttrs_list PySem.F.slot_list_append PySem.F.type_list_append mt_append (pv 2) (pa_cons (pe_callB call_abs (by rfl) ma (by decide +kernel) (pa_cons (pv 3) pa_nil)) pa_nil))))
        (pss_one (ps_set (i := 1) scPo.nd rfl (Or.inl rfl) (pe_op op_mod (pe_callTy call_int1 (by rfl) mi (by decide +kernel) (pa_cons (pe_op op_add (pe_op op_mul (pv 1) pe_int) (pv 3)) pa_nil)) pe_int))))))
    (pss_one (ps_ret (pe_lst (pa_cons (pv 2) (pa_cons (pv 1) (pa_cons pe_int pa_nil)))))))), ?_⟩
  have sl := sizeLine_eq
  refine ⟨Nat.zero_le _, fun r nr => ?_⟩
  refine name_go ?_
  dsimp only
  have k0 : Same H (upd H r (.lst [])) := fun b o h => by rw [upd_ne (ne_of_none h nr)]; exact h
  have ha1 : SqL K (upd H r (.lst [])) a (ns.map V.int) := Tw.SqL.same k0 ha
  refine ⟨_, rfl, 63, rfl, a, _, rfl, ha1, fun cs ncs => ⟨cs, rfl, ⟨_, SqL.of upd_same⟩, ?_⟩⟩
  have e63 : cutV (ns.map V.int) none (some 63) = (ns.take 63).map V.int := by
    unfold cutV
    rw [HT.sIx_none, show (63 : Int) = ((63 : Nat) : Int) from rfl, HT.sIx_nat, List.drop_zero, Nat.sub_zero, List.map_take]
    by_cases h : 63 ≤ (ns.map V.int).length
    · rw [Nat.min_eq_left h]
    · rw [Nat.min_eq_right (by omega), List.take_of_length_le (Nat.le_refl _), List.take_of_length_le (by omega)]
  rw [e63]
  have l63 : (ns.take 63).length ≤ 63 := by rw [List.length_take]; omega
  generalize ns.take 63 = ms at l63 ⊢
  have nrc : r ≠ cs := fun h => by rw [← h, upd_same] at ncs; cases ncs
  refine for_list (xs := ms.map V.int) (fun i σ H' => ∃ (sd : Int) (rows : List Int) (w3 : Option V), σ = [some (.ref a), some (.int sd), some (.ref r), w3] ∧ Same H H' ∧ H' r = some (.lst (rows.map V.int)) ∧ H' cs = some (.lst (ms.map V.int)) ∧ rows.length ≤ i)
    ⟨26, [], none, rfl, fun b o e => ?_, ?_, upd_same, Nat.zero_le _⟩ (fun i σ H' hi z => ?_) ?_ ?_
  · have h1 := k0 b o e
    rw [upd_ne (ne_of_none h1 ncs)]
    exact h1
  · rw [upd_ne nrc]
    exact upd_same
  · obtain ⟨sd, rows, w3, _, _, _, h3, _⟩ := z
    exact SqL.of h3
  · rintro i x σ H1 hx ⟨sd, rows, w3, rfl, sm, h1, h2, h3⟩
    obtain ⟨y, hy, rfl⟩ : ∃ y : Int, ms[i]? = some y ∧ V.int y = x := by
      rw [List.getElem?_map] at hx
      cases h : ms[i]? with
      | none => rw [h] at hx; cases hx
      | some y => rw [h] at hx; exact ⟨y, rfl, Option.some.inj hx⟩
    have il : i < 63 := by
      have := (List.getElem?_eq_some_iff.mp hy).1
      omega
    refine name_go ?_
    dsimp only
    refine ⟨_, rfl, y, rfl, _, _, rfl, rfl, ⟨by decide, by decide, by decide⟩, _, _, rfl, rfl, _, rfl, ?_⟩
    refine ite2 (fun z => ?_) (fun z => ?_)
    · refine ⟨_, rfl, .inl ⟨rfl, _, SqL.of h1⟩, _, rfl, y, rfl, r, _, _, rfl, rfl, h1, by rw [List.length_map]; omega, ?_⟩
      refine ⟨sd, rows ++ [if y < 0 then -y else y], _, rfl, fun b o e => ?_, ?_, ?_, by rw [List.length_append, List.length_singleton]; omega⟩
      · rw [upd_ne (ne_of_none e nr)]
        exact sm b o e
      · rw [upd_same, List.map_append]
        rfl
      · rw [upd_ne (Ne.symm nrc)]
        exact h2
    · refine ⟨_, rfl, _, _, rfl, rfl, .inr (by decide), _, rfl, _, _, rfl, rfl, .inl ⟨_, rfl, _, _, rfl, rfl, i31, ?_⟩⟩
      exact ⟨_, rows, _, rfl, sm, h1, h2, by omega⟩
  · rintro σ H1 ⟨sd, rows, w3, rfl, sm, h1, h2, h3⟩
    rw [List.length_map] at h3
    refine ⟨_, rfl, _, rfl, by (show 3 ≤ sizeLine; omega), fun p np => ?_⟩
    have npr : p ≠ r := fun h => by rw [h, h1] at np; cases np
    exact q p r _ (fun b o e => by rw [upd_ne (ne_of_none (sm b o e) np)]; exact sm b o e) (sm.free np) nr ⟨npr, rows, sd, 0, upd_same, by rw [upd_ne (Ne.symm npr)]; exact h1, by omega⟩
end
end Tw
set_option maxHeartbeats 4000000
/-! The law's names. -/
namespace Tw
open PySem PySem.Spec PyProof.Rows L2
theorem add_list (a b : Str) : (a ++ b).cps.toList = a.cps.toList ++ b.cps.toList := by
  show (a.cps ++ b.cps).toList = _
  simp
def spName : Sp := fun vs H Q _ => ∃ (p r : Addr), vs = [.ref p] ∧ PoolAt H p r ∧ ∀ z H', bigName z.cps.toList = true → PoolAt H' p r → KeptBut [p, r] H H' → Firm H H' → Q (.str z) H'
def wordSigns : Str := "ABCDEFGHIJKLMNOPQRSTUVWXYZabcdefghijklmnopqrstuvwxyz0123456789"
theorem word_len : wordSigns.length = 62 := by decide +kernel
theorem word_capb : ((wordSigns.cps.toList.take 26).all isCap) = true := by decide +kernel
theorem word_allb : (wordSigns.cps.toList.all isWord) = true := by decide +kernel
theorem word_at {d : Nat} (h : d < 62) : ∃ c, atI wordSigns.cps.toList (d : Int) = some c ∧ isWord c = true ∧ (d < 26 → isCap c = true) := by
  have hl : wordSigns.cps.toList.length = 62 := by rw [len_list]; exact word_len
  have hd : d < wordSigns.cps.toList.length := by omega
  refine ⟨wordSigns.cps.toList[d], atI_nat (List.getElem?_eq_getElem hd), List.all_eq_true.mp word_allb _ (List.getElem_mem hd), fun h26 => ?_⟩
  refine List.all_eq_true.mp word_capb _ ?_
  rw [List.mem_take_iff_getElem]
  exact ⟨d, by omega, rfl⟩
section
variable {P : Program} {w : World} {K : PySem.W.Frag} {mg : Str → Option Value} {base : Heap}
theorem scNm : FnScope ["pool", "signs", "word", "k"] ["pool"] (defScope sName) := ⟨rfl, rfl, rfl, by decide +kernel, rfl, by decide +kernel, by decide +kernel⟩
theorem ok_name {fd0 : Addr} (gd : Gf K mg "_law_draw" fd0) (Fd : FnR P w K mg base CX0 1 fd0 spDraw) (mr : mg "range" = none) {f : Addr} {fd : FuncData} (F : Fun K "_law_name_of" "_law_name_of" sName f fd) : FnR P w K mg base CX0 2 f spName := by
  refine okR F scNm (fun vs H Q E h => ?_) (fun _ _ _ _ _ _ us hl => match us, hl with | [_], _ => rfl) (fun cdv A outer s H vs Q E hr h => ?_)
  · obtain ⟨p, r, rfl, _⟩ := h
    rfl
  obtain ⟨p, r, rfl, hp, q⟩ := h
  refine ⟨_, pss_cons (ps_set (i := 1) scNm.nd rfl (Or.inl rfl) pe_str)
    (pss_cons (ps_set (i := 2) scNm.nd rfl (Or.inl rfl) (pe_ix ix_str (pv 1) (pe_cf Fd hr gd pass0 (pa_cons (pv 0) (pa_cons pe_int pa_nil))) (fun _ _ => rfl)))
    (pss_cons (ps_for PassesOwn.never rfl (pi_range1 (by rfl) mr (pa_cons (pe_cf Fd hr gd pass0 (pa_cons (pv 0) (pa_cons pe_int pa_nil))) pa_nil)) (pg_name (i := 3) scNm.nd rfl (Or.inl rfl))
      (pss_one (ps_set (i := 2) scNm.nd rfl (Or.inl rfl) (pe_op op_add_str (pv 2) (pe_ix ix_str (pv 1) (pe_cf Fd hr gd pass0 (pa_cons (pv 0) (pa_cons pe_int pa_nil))) (fun _ _ => rfl))))))
    (pss_one (ps_ret (pv 2))))), ?_⟩
  have sl := sizeLine_eq
  have wl := word_len
  refine ⟨_, rfl, _, rfl, p, r, 26, rfl, hp, by decide, by decide, fun d H1 hd hp1 kb1 fm1 => ?_⟩
  obtain ⟨c, hc, hcw, hcc⟩ := word_at (d := d) (by omega)
  refine ⟨wordSigns, _, c, rfl, rfl, by omega, hc, ?_⟩
  refine ⟨_, rfl, p, r, 8, rfl, hp1, by decide, by decide, fun n H2 hn hp2 kb2 fm2 => ?_⟩
  refine ⟨_, rfl, by omega, by omega, ?_⟩
  refine for_range (n := n) (fun i σ H' => ∃ (l : List Nat) (w3 : Option V), σ = [some (.ref p), some (.str wordSigns), some (.str (mkS l)), w3] ∧ PoolAt H' p r ∧ KeptBut [p, r] H H' ∧ Firm H H' ∧ ∃ rest, l = c :: rest ∧ rest.length = i ∧ rest.all isWord = true)
    ⟨[c], none, rfl, hp2, kb1.trans kb2, fm1.trans fm2, [], rfl, rfl, rfl⟩ ?_ ?_
  · rintro i σ H3 hi ⟨l, w3, rfl, hp3, kb3, fm3, rest, rfl, hr1, hr2⟩
    refine name_go ?_
    dsimp only
    refine ⟨_, rfl, _, rfl, _, rfl, p, r, 62, rfl, hp3, by decide, by decide, fun e H4 he hp4 kb4 fm4 => ?_⟩
    obtain ⟨x, hx, hxw, _⟩ := word_at (d := e) he
    refine ⟨wordSigns, _, x, rfl, rfl, by omega, hx, _, _, rfl, rfl, ?_, ?_⟩
    · rw [mkS_len, List.length_cons]
      show rest.length + 1 + 1 ≤ sizeLine
      omega
    · refine ⟨c :: (rest ++ [x]), some (.int (0 + (i : Int))), ?_, hp4, kb3.trans kb4, fm3.trans fm4, rest ++ [x], rfl, by rw [List.length_append, hr1] <;> rfl, ?_⟩
      · have : (mkS (c :: rest) ++ (⟨#[x]⟩ : Str)) = mkS (c :: (rest ++ [x])) := by
          refine str_ext ?_
          rw [add_list, mkS_list, mkS_list]
          rfl
        rw [this]
        rfl
      · rw [List.all_append, hr2]
        simp [hxw]
  · rintro σ H3 ⟨l, w3, rfl, hp3, kb3, fm3, rest, rfl, hr1, hr2⟩
    refine ⟨_, rfl, q _ _ ?_ hp3 kb3 fm3⟩
    rw [mkS_list]
    show (isCap c && (c :: rest).all isWord && decide (rest.length < 8)) = true
    rw [hcc (by omega), List.all_cons, hcw, hr2, decide_eq_true (by omega)]
    rfl
end
end Tw
set_option maxHeartbeats 4000000
/-! The law's trees of tuples; they grow. -/
namespace Tw
open PySem PySem.Spec PyProof.Rows L2
mutual
/-- v is a pair of a name and a tuple of parts that stands for t -/
def TupAt (H : Hp) : V → T → Prop
  | v, .node n ps => ∃ a c vs, v = .ref a ∧ H a = some (.tup [.str n, .ref c]) ∧ H c = some (.tup vs) ∧ TupsAt H vs ps
def TupsAt (H : Hp) : List V → List T → Prop
  | [], [] => True
  | v :: vs, t :: ts => TupAt H v t ∧ TupsAt H vs ts
  | [], _ :: _ => False
  | _ :: _, [] => False
end
theorem TupAt.ex {H : Hp} {v : V} {t : T} (h : TupAt H v t) : ∃ a c vs, v = .ref a ∧ H a = some (.tup [.str t.name, .ref c]) ∧ H c = some (.tup vs) ∧ TupsAt H vs t.parts := by
  cases t with
  | node n ps =>
    unfold TupAt at h
    exact h
theorem TupAt.mk {H : Hp} {a c : Addr} {n : Str} {vs : List V} {ps : List T} (h1 : H a = some (.tup [.str n, .ref c])) (h2 : H c = some (.tup vs)) (h3 : TupsAt H vs ps) : TupAt H (.ref a) (.node n ps) := by
  unfold TupAt
  exact ⟨a, c, vs, rfl, h1, h2, h3⟩
theorem TupsAt.nil {H : Hp} : TupsAt H [] [] := by unfold TupsAt; trivial
theorem TupsAt.cons {H : Hp} {v : V} {t : T} {vs : List V} {ts : List T} (h1 : TupAt H v t) (h2 : TupsAt H vs ts) : TupsAt H (v :: vs) (t :: ts) := by unfold TupsAt; exact ⟨h1, h2⟩
theorem TupsAt.len {H : Hp} : ∀ {vs : List V} {ts : List T}, TupsAt H vs ts → vs.length = ts.length
  | [], [], _ => rfl
  | _ :: _, _ :: _, h => by
    unfold TupsAt at h
    rw [List.length_cons, List.length_cons, TupsAt.len h.2]
  | [], _ :: _, h => by unfold TupsAt at h; exact h.elim
  | _ :: _, [], h => by unfold TupsAt at h; exact h.elim
theorem TupsAt.get {H : Hp} : ∀ {vs : List V} {ts : List T} {i : Nat} {v : V}, TupsAt H vs ts → vs[i]? = some v → ∃ t, ts[i]? = some t ∧ TupAt H v t
  | [], _, i, v, _, e => by simp at e
  | v' :: vs, t :: ts, 0, v, h, e => by
    unfold TupsAt at h
    have : v' = v := by simpa using e
    subst this
    exact ⟨t, rfl, h.1⟩
  | v' :: vs, t :: ts, i + 1, v, h, e => by
    unfold TupsAt at h
    obtain ⟨t', e', h'⟩ := TupsAt.get (i := i) (v := v) h.2 (by simpa using e)
    exact ⟨t', by simpa using e', h'⟩
  | _ :: _, [], _, _, h, _ => by unfold TupsAt at h; exact h.elim
theorem TupsAt.snoc {H : Hp} {v : V} {t : T} (h1 : TupAt H v t) : ∀ {vs : List V} {ts : List T}, TupsAt H vs ts → TupsAt H (vs ++ [v]) (ts ++ [t])
  | [], [], _ => .cons h1 .nil
  | _ :: _, _ :: _, h => by
    unfold TupsAt at h
    exact .cons h.1 (TupsAt.snoc h1 h.2)
  | [], _ :: _, h => by unfold TupsAt at h; exact h.elim
  | _ :: _, [], h => by unfold TupsAt at h; exact h.elim
mutual
theorem TupAt.firm {H H' : Hp} (s : Firm H H') : ∀ {v : V} {t : T}, TupAt H v t → TupAt H' v t
  | v, .node n ps, h => by
    obtain ⟨a, c, vs, rfl, h1, h2, h3⟩ := h.ex
    exact .mk (s.1 _ _ h1) (s.1 _ _ h2) (TupsAt.firm s h3)
theorem TupsAt.firm {H H' : Hp} (s : Firm H H') : ∀ {vs : List V} {ts : List T}, TupsAt H vs ts → TupsAt H' vs ts
  | [], [], _ => .nil
  | v :: vs, t :: ts, h => by
    unfold TupsAt at h
    exact .cons (TupAt.firm s h.1) (TupsAt.firm s h.2)
  | [], _ :: _, h => by unfold TupsAt at h; exact h.elim
  | _ :: _, [], h => by unfold TupsAt at h; exact h.elim
end
/-! ### right names and right trees -/
def leafName (n : Str) : Bool := decide (n.cps.toList = [95]) || digName n.cps.toList
mutual
def T.fine : T → Bool
  | .node n ps => (leafName n && ps.isEmpty) || (bigName n.cps.toList && decide (ps.length ≤ 3) && T.fines ps)
def T.fines : List T → Bool
  | [] => true
  | t :: r => t.fine && T.fines r
end
theorem fines_snoc {t : T} (h : t.fine = true) : ∀ {l : List T}, T.fines l = true → T.fines (l ++ [t]) = true
  | [], _ => by
    show T.fines [t] = true
    unfold T.fines
    rw [h]
    unfold T.fines
    rfl
  | a :: l, z => by
    unfold T.fines at z
    show T.fines (a :: (l ++ [t])) = true
    unfold T.fines
    rw [Bool.and_eq_true] at z ⊢
    exact ⟨z.1, fines_snoc h z.2⟩
theorem fine_leaf {n : Str} (h : leafName n = true) : (T.node n []).fine = true := by
  unfold T.fine
  rw [h]
  rfl
theorem fine_big {n : Str} {ps : List T} (h : bigName n.cps.toList = true) (l : ps.length ≤ 3) (f : T.fines ps = true) : (T.node n ps).fine = true := by
  unfold T.fine
  rw [h, f, decide_eq_true l]
  simp
theorem fine_mem : ∀ {l : List T}, T.fines l = true → ∀ t ∈ l, t.fine = true
  | a :: l, z, t, h => by
    unfold T.fines at z
    rw [Bool.and_eq_true] at z
    rcases List.mem_cons.mp h with rfl | h
    · exact z.1
    · exact fine_mem z.2 t h
theorem mostFrom_le {k : Nat} : ∀ {l : List T} {m : Nat}, m ≤ k → (∀ t ∈ l, t.levels ≤ k) → T.mostFrom m l ≤ k
  | [], m, h, _ => by unfold T.mostFrom; exact h
  | a :: l, m, h, z => by
    unfold T.mostFrom
    refine mostFrom_le ?_ fun t ht => z t (List.mem_cons_of_mem _ ht)
    have := z a List.mem_cons_self
    split <;> omega
abbrev sGrow : Stmt := top 24
/-- the names in use -/
def NamesAt (H : Hp) (nl : Addr) : Prop := ∃ names : List Str, H nl = some (.lst (names.map V.str)) ∧ names ≠ [] ∧ names.length ≤ 5 ∧ ∀ n ∈ names, bigName n.cps.toList = true
def RoomAt (H : Hp) (ro : Addr) : Prop := ∃ k : Int, H ro = some (.lst [.int k])
def spGrow (D : Nat) : Sp := fun vs H Q _ => ∃ (p r nl ro : Addr) (deep : Nat), vs = [.ref p, .ref nl, .ref ro, .int (deep : Int)] ∧ deep ≤ D ∧ PoolAt H p r ∧ NamesAt H nl ∧ RoomAt H ro ∧ nl ∉ [p, r, ro] ∧ ro ∉ [p, r] ∧
  ∀ v t H', TupAt H' v t → t.fine = true → t.levels ≤ deep + 1 → PoolAt H' p r → RoomAt H' ro → KeptBut [p, r, ro] H H' → Firm H H' → Q v H'
theorem NamesAt.kept {H H' : Hp} {nl : Addr} {l : List Addr} (h : NamesAt H nl) (k : KeptBut l H H') (n : nl ∉ l) : NamesAt H' nl := by
  obtain ⟨names, e, r⟩ := h
  exact ⟨names, k _ _ e n, r⟩
theorem sameN {H : Hp} {a : Addr} {o : HO} (h : H a = none) : Same H (upd H a o) := fun b x e => by rw [upd_ne (ne_of_none e h)]; exact e
theorem PoolAt.same {H H' : Hp} {p r : Addr} (s : Same H H') (h : PoolAt H p r) : PoolAt H' p r := by
  obtain ⟨ne, rows, sd, c, e1, e2, l⟩ := h
  exact ⟨ne, rows, sd, c, s _ _ e1, s _ _ e2, l⟩
theorem RoomAt.same {H H' : Hp} {ro : Addr} (s : Same H H') (h : RoomAt H ro) : RoomAt H' ro := by
  obtain ⟨k, e⟩ := h
  exact ⟨k, s _ _ e⟩
theorem PoolAt.kept {H H' : Hp} {p r : Addr} {l : List Addr} (k : KeptBut l H H') (n1 : p ∉ l) (n2 : r ∉ l) (h : PoolAt H p r) : PoolAt H' p r := by
  obtain ⟨ne, rows, sd, c, e1, e2, le⟩ := h
  exact ⟨ne, rows, sd, c, k _ _ e1 n1, k _ _ e2 n2, le⟩
theorem KeptBut.updNew {l : List Addr} {H H' : Hp} {a : Addr} {o : HO} (k : KeptBut l H H') (n : H a = none) : KeptBut l H (L2.upd H' a o) := fun b x e nb => by rw [upd_ne (ne_of_none e n)]; exact k b x e nb
theorem seq_join {t u : TS} {D : Ends} {σ : L2.St} {H : Hp} (Pv : L2.St → Hp → Prop) (h1 : ∀ nx : L2.St → Hp → Prop, (∀ σ' H', Pv σ' H' → nx σ' H') → t { D with nx := nx } σ H) (h2 : ∀ σ' H', Pv σ' H' → u D σ' H') : tSeq t u D σ H := h1 (u D) h2
theorem pick8 : ∀ d : Nat, d < 12 → ∃ e : Nat, e < 12 ∧ atI [V.int 2, .int 3, .int 5, .int 6, .int 7, .int 9, .int 10, .int 11] ((d : Int) % 8) = some (.int (e : Int))
  | 0, _ => ⟨2, by decide, rfl⟩
  | 1, _ => ⟨3, by decide, rfl⟩
  | 2, _ => ⟨5, by decide, rfl⟩
  | 3, _ => ⟨6, by decide, rfl⟩
  | 4, _ => ⟨7, by decide, rfl⟩
  | 5, _ => ⟨9, by decide, rfl⟩
  | 6, _ => ⟨10, by decide, rfl⟩
  | 7, _ => ⟨11, by decide, rfl⟩
  | 8, _ => ⟨2, by decide, rfl⟩
  | 9, _ => ⟨3, by decide, rfl⟩
  | 10, _ => ⟨5, by decide, rfl⟩
  | 11, _ => ⟨6, by decide, rfl⟩
  | n + 12, h => absurd h (by omega)
def digSigns : Str := "0123456789"
theorem dig_at : ∀ d : Nat, d < 10 → ∃ c, atI digSigns.cps.toList (d : Int) = some c ∧ isDig c = true
  | 0, _ => ⟨48, rfl, by decide⟩
  | 1, _ => ⟨49, rfl, by decide⟩
  | 2, _ => ⟨50, rfl, by decide⟩
  | 3, _ => ⟨51, rfl, by decide⟩
  | 4, _ => ⟨52, rfl, by decide⟩
  | 5, _ => ⟨53, rfl, by decide⟩
  | 6, _ => ⟨54, rfl, by decide⟩
  | 7, _ => ⟨55, rfl, by decide⟩
  | 8, _ => ⟨56, rfl, by decide⟩
  | 9, _ => ⟨57, rfl, by decide⟩
  | n + 10, h => absurd h (by omega)
section
variable {P : Program} {w : World} {K : PySem.W.Frag} {mg : Str → Option Value} {base : Heap}
theorem scGr : FnScope ["pool", "names", "room", "deep", "pick", "name", "parts", "k"] ["pool", "names", "room", "deep"] (defScope sGrow) := ⟨rfl, rfl, rfl, by decide +kernel, rfl, by decide +kernel, by decide +kernel⟩
theorem grow_step {fd0 : Addr} (gd : Gf K mg "_law_draw" fd0) (Fd : FnR P w K mg base CX0 1 fd0 spDraw) (mr : mg "range" = none) (mi : mg "int" = none) (ml : mg "len" = none) (mt : mg "tuple" = none) {f : Addr} {fd : FuncData} (F : Fun K "_law_grow" "_law_grow" sGrow f fd)
    (gg : Gf K mg "_law_grow" f) {k D : Nat} {sp : Sp} (FG : FnR P w K mg base CX0 (k + 1) f sp) (hD : ∀ vs H Q E, D ≠ 0 → spGrow (D - 1) vs H Q E → sp vs H Q E) : FnR P w K mg base CX0 (k + 2) f (spGrow D) := by
  refine okR F scGr (fun vs H Q E h => ?_) (fun _ _ _ _ _ _ us hl => match us, hl with | [_, _, _, _], _ => rfl) (fun cdv A outer s H vs Q E hr h => ?_)
  · obtain ⟨p, r, nl, ro, deep, rfl, _⟩ := h
    rfl
  obtain ⟨p, r, nl, ro, deep, rfl, hdp, hp, hn, ⟨rk, hro⟩, nnl, nro, q⟩ := h
  have hr1 : Room 1 _ := hr.mono (by omega)
  refine ⟨_, pss_cons (ps_asg (pe_op op_sub (pe_ix ix_list (pv 2) pe_int (fun _ _ => rfl)) pe_int) (pg_sub (pv 2) pe_int set_list))
    (pss_cons (ps_set (i := 4) scGr.nd rfl (Or.inl rfl) (pe_cf Fd hr1 gd pass0 (pa_cons (pv 0) (pa_cons pe_int pa_nil))))
    (pss_cons (ps_if (pt_cmpR op_gt (pv 3) pe_int (nomark _)) (pss_one (ps_set (i := 4) scGr.nd rfl (Or.inl rfl) (pe_ix ix_list (pe_lst (pa_cons pe_int (pa_cons pe_int (pa_cons pe_int (pa_cons pe_int (pa_cons pe_int (pa_cons pe_int (pa_cons pe_int (pa_cons pe_int pa_nil))))))))) (pe_op op_mod (pe_callTy call_int1 (by rfl) mi (by decide +kernel) (pa_cons (pv 4) pa_nil)) pe_int) (fun _ _ => rfl)))) pss_nil)
    (pss_cons (ps_if (pt_cmpR op_eq (pv 4) pe_int (nomark _)) (pss_one (ps_ret (pe_tup (pa_cons pe_str (pa_cons (pe_tup pa_nil) pa_nil))))) pss_nil)
    (pss_cons (ps_if (pt_cmpR op_eq (pv 4) pe_int (nomark _)) (pss_one (ps_ret (pe_tup (pa_cons (pe_ix ix_str pe_str (pe_cf Fd hr1 gd pass0 (pa_cons (pv 0) (pa_cons pe_int pa_nil))) (fun _ _ => rfl)) (pa_cons (pe_tup pa_nil) pa_nil))))) pss_nil)
    (pss_cons (ps_set (i := 5) scGr.nd rfl (Or.inl rfl) (pe_ix ix_list (pv 1) (pe_cf Fd hr1 gd pass0 (pa_cons (pv 0) (pa_cons (pe_callB call_len_seq (by rfl) ml PySem.boot_len (pa_cons (pv 1) pa_nil)) pa_nil))) (fun _ _ => rfl)))
    (pss_cons (ps_set (i := 6) scGr.nd rfl (Or.inl rfl) (pe_lst pa_nil))
    (pss_cons (ps_if (PW.pt (pw_and (pt_cmpR op_gt (pv 3) pe_int (nomark _)) (pw_and1 (pt_cmpR op_gt (pe_ix ix_list (pv 2) pe_int (fun _ _ => rfl)) pe_int (nomark _)))))
      (pss_one (ps_for PassesOwn.never rfl (pi_range1 (by rfl) mr (pa_cons (pe_op op_mod (pe_callTy call_int1 (by rfl) mi (by decide +kernel) (pa_cons (pv 4) pa_nil)) pe_int) pa_nil)) (pg_name (i := 7) scGr.nd rfl (Or.inl rfl))
        (pss_one (ps_expr (pe_bm PySem.F.plainAttrs_list PySem.F.slot_list_append PySem.F.type_list_append mt_append (pv 6) (pa_cons (pe_cf FG hr gg pass0 (pa_cons (pv 0) (pa_cons (pv 1) (pa_cons (pv 2) (pa_cons (pe_op op_sub (pv 3) pe_int) pa_nil))))) pa_nil)))))) pss_nil)
    (pss_one (ps_ret (pe_tup (pa_cons (pv 5) (pa_cons (pe_callTy call_tuple_of (by rfl) mt (by decide +kernel) (pa_cons (pv 6) pa_nil)) pa_nil)))))))))))), ?_⟩
  have sl := sizeLine_eq
  have rk2 : [p, r, ro] = [p, r] ++ [ro] := rfl
  have leaf : ∀ (n : Str) (H3 : Hp) (c a : Addr), leafName n = true → PoolAt H3 p r → RoomAt H3 ro → KeptBut [p, r, ro] H H3 → Firm H H3 → H3 c = none → (upd H3 c (.tup [])) a = none → Q (.ref a) (upd (upd H3 c (.tup [])) a (.tup [.str n, .ref c])) := by
    intro n H3 c a hl h1 h2 h3 h4 nc na
    have s1 : Same H3 (upd H3 c (.tup [])) := sameN nc
    have s2 : Same (upd H3 c (.tup [])) (upd (upd H3 c (.tup [])) a (.tup [.str n, .ref c])) := sameN na
    have s12 := s1.trans s2
    refine q _ (.node n []) _ (.mk upd_same (s2 _ _ upd_same) .nil) (fine_leaf hl) ?_ (h1.same s12) (h2.same s12) (h3.trans (.of s12)) (h4.trans (.of s12))
    unfold T.levels T.mostFrom
    omega
  -- room[0] = room[0] - 1
  refine ⟨_, rfl, ro, _, _, .int rk, rfl, rfl, SqL.of hro, rfl, _, _, rfl, rfl, _, rfl, ro, _, 0, 0, rfl, rfl, hro, rfl, ?_⟩
  have npo : p ≠ ro := fun h => nro (h ▸ List.mem_cons_self)
  have nqo : r ≠ ro := fun h => nro (h ▸ List.mem_cons_of_mem _ List.mem_cons_self)
  have k1 : KeptBut [p, r, ro] H (upd H ro (.lst ([V.int rk].set 0 (.int (rk - 1))))) := KeptBut.upd (by simp)
  have f1 : Firm H (upd H ro (.lst ([V.int rk].set 0 (.int (rk - 1))))) := Firm.list hro
  have ko : KeptBut [ro] H (upd H ro (.lst ([V.int rk].set 0 (.int (rk - 1))))) := KeptBut.upd (by simp)
  have p1 : PoolAt (upd H ro (.lst ([V.int rk].set 0 (.int (rk - 1))))) p r := hp.kept ko (by simpa using npo) (by simpa using nqo)
  have o1 : RoomAt (upd H ro (.lst ([V.int rk].set 0 (.int (rk - 1))))) ro := ⟨rk - 1, upd_same⟩
  have n1 := hn.kept k1 nnl
  generalize (upd H ro (.lst ([V.int rk].set 0 (.int (rk - 1))))) = H1 at k1 f1 p1 o1 n1 ⊢
  -- pick
  refine ⟨_, rfl, p, r, 12, rfl, p1, by decide, by decide, fun d H2 hd p2 kb2 f2 => ?_⟩
  have k2 : KeptBut [p, r, ro] H H2 := k1.trans (kb2.mono (by simp))
  have o2 : RoomAt H2 ro := by
    obtain ⟨k, e⟩ := o1
    exact ⟨k, kb2 _ _ e nro⟩
  have n2 := hn.kept k2 nnl
  refine name_go ?_
  dsimp only
  have f12 := f1.trans f2
  refine seq_join (fun σ H' => ∃ e : Nat, σ = [some (.ref p), some (.ref nl), some (.ref ro), some (.int (deep : Int)), some (.int (e : Int)), none, none, none] ∧ PoolAt H' p r ∧ RoomAt H' ro ∧ KeptBut [p, r, ro] H H' ∧ Firm H H') (fun nx hnx => ?_) ?_
  · refine ⟨_, rfl, _, _, rfl, rfl, _, rfl, ?_⟩
    refine ite2 (fun _ => ?_) (fun _ => hnx _ _ ⟨d, rfl, p2, o2, k2, f12⟩)
    obtain ⟨e, he, hat⟩ := pick8 d hd
    refine ⟨by (show 8 ≤ sizeLine; omega), fun a na => ?_⟩
    have s := sameN (o := .lst [V.int 2, .int 3, .int 5, .int 6, .int 7, .int 9, .int 10, .int 11]) na
    refine ⟨_, rfl, .inl ⟨_, rfl, _, _, rfl, rfl, (by show (0 : Int) < 8; decide), a, _, _, _, rfl, rfl, SqL.of upd_same, hat, ?_⟩⟩
    exact hnx _ _ ⟨e, rfl, p2.same s, o2.same s, k2.trans (.of s), f12.trans (.of s)⟩
  clear p2 o2 k2 f12 n2 f2 kb2 hd
  rintro σ H3 ⟨e, rfl, p3, o3, k3, f3⟩
  have n3 := hn.kept k3 nnl
  refine ⟨_, rfl, rfl, _, rfl, ?_⟩
  refine ite2 (fun _ => ?_) (fun _ => ?_)
  · exact ⟨Nat.zero_le _, fun c nc => ⟨by (show 2 ≤ sizeLine; omega), fun a na => leaf _ H3 c a (by decide +kernel) p3 o3 k3 f3 nc na⟩⟩
  refine ⟨_, rfl, rfl, _, rfl, ?_⟩
  refine ite2 (fun _ => ?_) (fun _ => ?_)
  · refine ⟨_, rfl, p, r, 10, rfl, p3, by decide, by decide, fun d H4 hd p4 kb4 f4 => ?_⟩
    obtain ⟨x, hx, hxd⟩ := dig_at d hd
    refine ⟨digSigns, _, x, rfl, rfl, (by show 10 ≤ sizeLine; omega), hx, ?_⟩
    have o4 : RoomAt H4 ro := by
      obtain ⟨k, e⟩ := o3
      exact ⟨k, kb4 _ _ e nro⟩
    refine ⟨Nat.zero_le _, fun c nc => ⟨by (show 2 ≤ sizeLine; omega), fun a na => leaf _ H4 c a ?_ p4 o4 (k3.trans (kb4.mono (by simp))) (f3.trans f4) nc na⟩⟩
    unfold leafName
    show (_ || isDig x) = true
    rw [hxd]
    simp
  -- a name
  obtain ⟨names, hnl, nne, nle, nbig⟩ := n3
  have nlen : 0 < names.length := List.length_pos_iff.mpr nne
  refine ⟨_, rfl, _, rfl, _, rfl, nl, _, rfl, .inl (SqL.of hnl), p, r, names.length, ?_, p3, nlen, by omega, fun d H4 hd p4 kb4 f4 => ?_⟩
  · rw [List.length_map]
  have hnm : ∃ n, names[d]? = some n := ⟨_, List.getElem?_eq_getElem hd⟩
  obtain ⟨n, hnd⟩ := hnm
  have o4 : RoomAt H4 ro := by
    obtain ⟨k, e⟩ := o3
    exact ⟨k, kb4 _ _ e nro⟩
  have nn2 : nl ∉ [p, r] := fun h => nnl (List.mem_append_left [ro] h)
  have hnl4 := kb4 _ _ hnl nn2
  refine ⟨nl, _, _, .str n, rfl, rfl, SqL.of hnl4, atI_nat (by rw [List.getElem?_map, hnd] <;> rfl), ?_⟩
  have hbig := nbig n (List.mem_of_getElem? hnd)
  have k4 : KeptBut [p, r, ro] H H4 := k3.trans (kb4.mono (by simp))
  have f34 := f3.trans f4
  refine name_go ?_
  dsimp only
  -- parts = []
  refine ⟨Nat.zero_le _, fun pl npl => ?_⟩
  refine name_go ?_
  dsimp only
  have s5 := sameN (o := .lst []) npl
  have inUse : ∀ b, b ∈ [p, r, ro] → ∀ H', PoolAt H' p r → RoomAt H' ro → H' b ≠ none := fun b hb H' ⟨_, rows, sd, c, e1, e2, _⟩ ⟨k, e3⟩ => by
    simp at hb
    rcases hb with rfl | rfl | rfl
    · rw [e1]; simp
    · rw [e2]; simp
    · rw [e3]; simp
  have npl3 : pl ∉ [p, r, ro] := fun h => inUse pl h H4 p4 o4 npl
  have nplH : H pl = none := by
    cases h : H pl with
    | none => rfl
    | some o => exact absurd (k4 _ _ h npl3) (by rw [npl]; simp)
  refine seq_join (fun σ H' => ∃ (e : Nat) (vs : List V) (ts : List T) (w7 : Option V), σ = [some (.ref p), some (.ref nl), some (.ref ro), some (.int (deep : Int)), some (.int (e : Int)), some (.str n), some (.ref pl), w7] ∧ H' pl = some (.lst vs) ∧ TupsAt H' vs ts ∧ ts.length ≤ 3 ∧ T.fines ts = true ∧ (∀ u ∈ ts, u.levels ≤ deep) ∧
      PoolAt H' p r ∧ RoomAt H' ro ∧ KeptBut [p, r, ro] H H' ∧ Firm H H') (fun nx hnx => ?_) ?_
  · have skip : nx [some (.ref p), some (.ref nl), some (.ref ro), some (.int (deep : Int)), some (.int (e : Int)), some (.str n), some (.ref pl), none] (upd H4 pl (.lst [])) := hnx _ _ ⟨e, [], [], _, rfl, upd_same, TupsAt.nil, Nat.zero_le _, (by unfold T.fines; rfl), (fun u hu => absurd hu List.not_mem_nil), p4.same s5, o4.same s5, k4.updNew nplH, f34.trans (.of s5)⟩
    refine ⟨_, rfl, _, _, rfl, rfl, _, rfl, ?_⟩
    refine ite2 (fun hpos => ?_) (fun _ => skip)
    have dpos : 0 < deep := by
      have := of_decide_eq_true hpos
      omega
    obtain ⟨k5, e5⟩ := o4.same s5
    refine ⟨_, rfl, ro, _, _, .int k5, rfl, rfl, SqL.of e5, rfl, _, _, rfl, rfl, _, rfl, ?_⟩
    refine ite2 (fun _ => ?_) (fun _ => skip)
    obtain ⟨j, hj, hj4⟩ : ∃ j : Nat, (e : Int) % 4 = (j : Int) ∧ j < 4 := ⟨e % 4, by omega, by omega⟩
    refine ⟨_, rfl, .inl ⟨_, rfl, _, _, rfl, rfl, (by show (0 : Int) < 4; decide), ?_⟩⟩
    dsimp only
    rw [hj]
    refine ⟨_, rfl, by omega, by omega, ?_⟩
    refine for_range (lo := 0) (n := j) (D := { nx := nx, rt := Q }) (fun i σ H' => ∃ (vs : List V) (ts : List T) (w7 : Option V), σ = [some (.ref p), some (.ref nl), some (.ref ro), some (.int (deep : Int)), some (.int (e : Int)), some (.str n), some (.ref pl), w7] ∧ H' pl = some (.lst vs) ∧ TupsAt H' vs ts ∧ ts.length = i ∧ T.fines ts = true ∧ (∀ u ∈ ts, u.levels ≤ deep) ∧
      PoolAt H' p r ∧ RoomAt H' ro ∧ KeptBut [p, r, ro] H H' ∧ Firm H H') ⟨[], [], _, rfl, upd_same, TupsAt.nil, rfl, (by unfold T.fines; rfl), (fun u hu => absurd hu List.not_mem_nil), p4.same s5, o4.same s5, k4.updNew nplH, f34.trans (.of s5)⟩ ?_ ?_
    · rintro i σ H6 hi ⟨vs, ts, w7, rfl, hpl, hts, htl, htf, htv, p6, o6, k6, f6⟩
      have hvl := hts.len
      refine name_go ?_
      dsimp only
      refine ⟨_, rfl, .inl ⟨rfl, _, SqL.of hpl⟩, _, rfl, _, rfl, _, rfl, _, rfl, _, _, rfl, rfl, ?_⟩
      refine hD _ _ _ _ (by omega) ⟨p, r, nl, ro, deep - 1, ?_, by omega, p6, hn.kept k6 nnl, o6, nnl, nro, fun v u H7 hv hu1 hu2 p7 o7 k7 f7 => ?_⟩
      · dsimp only
        rw [show ((deep : Int) - 1) = ((deep - 1 : Nat) : Int) by omega]
      have hpl7 := k7 _ _ hpl npl3
      refine ⟨pl, vs, v, rfl, rfl, hpl7, by omega, ?_⟩
      have f8 := Firm.list (o := .lst (vs ++ [v])) hpl7
      have kp : KeptBut [pl] H7 (upd H7 pl (.lst (vs ++ [v]))) := KeptBut.upd (by simp)
      refine ⟨vs ++ [v], ts ++ [u], _, rfl, upd_same, TupsAt.snoc (hv.firm f8) (hts.firm (f7.trans f8)), by rw [List.length_append, htl] <;> rfl, fines_snoc hu1 htf, fun x hx => ?_, p7.kept kp (fun h => npl3 (by simp at h; simp [h])) (fun h => npl3 (by simp at h; simp [h])), ?_, (k6.trans k7).updNew nplH, (f6.trans f7).trans f8⟩
      · rcases List.mem_append.mp hx with hx | hx
        · exact htv x hx
        · rw [List.mem_singleton.mp hx]
          omega
      · obtain ⟨k8, e8⟩ := o7
        exact ⟨k8, kp _ _ e8 (fun h => npl3 (by simp at h; simp [h]))⟩
    · rintro σ H6 ⟨vs, ts, w7, rfl, hpl, hts, htl, htf, htv, p6, o6, k6, f6⟩
      exact hnx _ _ ⟨e, vs, ts, w7, rfl, hpl, hts, by omega, htf, htv, p6, o6, k6, f6⟩
  · rintro σ H6 ⟨e, vs, ts, w7, rfl, hpl, hts, htl, htf, htv, p6, o6, k6, f6⟩
    refine ⟨_, rfl, _, rfl, pl, _, rfl, .inl ⟨SqL.of hpl, fun c nc => ?_⟩⟩
    have s7 := sameN (o := .tup vs) nc
    refine ⟨by (show 2 ≤ sizeLine; omega), fun a na => ?_⟩
    have s8 := sameN (o := .tup [V.str n, .ref c]) na
    have s78 := s7.trans s8
    refine q _ (.node n ts) _ (.mk upd_same (s8 _ _ upd_same) (hts.firm (.of s78))) (fine_big hbig htl htf) ?_ (p6.same s78) (o6.same s78) (k6.trans (.of s78)) (f6.trans (.of s78))
    unfold T.levels
    have := mostFrom_le (k := deep) (m := 0) (Nat.zero_le _) htv
    omega
theorem ok_grow {fd0 : Addr} (gd : Gf K mg "_law_draw" fd0) (Fd : FnR P w K mg base CX0 1 fd0 spDraw) (mr : mg "range" = none) (mi : mg "int" = none) (ml : mg "len" = none) (mt : mg "tuple" = none) {f : Addr} {fd : FuncData} (F : Fun K "_law_grow" "_law_grow" sGrow f fd)
    (gg : Gf K mg "_law_grow" f) : ∀ D : Nat, FnR P w K mg base CX0 (D + 2) f (spGrow D)
  | 0 => grow_step gd Fd mr mi ml mt F gg (sp := fun _ _ _ _ => False) (fun _ _ _ _ _ _ _ _ _ _ _ hs => hs.elim) fun _ _ _ _ h => absurd rfl h
  | D + 1 => grow_step gd Fd mr mi ml mt F gg (ok_grow gd Fd mr mi ml mt F gg D) fun _ _ _ _ _ h => h
end
end Tw
set_option maxHeartbeats 4000000
/-! t[::-1] of a tuple. -/
namespace Tw
open PySem PySem.Spec PyProof.Rows L2
section
variable {prog : Program} {w : World} {A : Around} {E : Value → Shared → Prop} {s : Shared}
theorem fm_congr {α β : Type} {f g : α → Option β} : ∀ {l : List α}, (∀ x ∈ l, f x = g x) → l.filterMap f = l.filterMap g
  | [], _ => rfl
  | a :: l, h => by
    have ih := fm_congr (l := l) fun x hx => h x (List.mem_cons_of_mem _ hx)
    rw [List.filterMap_cons, List.filterMap_cons, h a List.mem_cons_self, ih]
theorem adjust_rev (n : Nat) : Builtin.Slice.sliceAdjust none none (-1) (n : Int) = ((n : Int) - 1, -1) := by
  unfold Builtin.Slice.sliceAdjust
  simp
theorem places_rev (n : Nat) : Builtin.Slice.slicePlaces ((n : Int) - 1) (-1) (-1) = n := by
  unfold Builtin.Slice.slicePlaces
  have h1 : ¬ ((-1 : Int) > 0) := by omega
  simp only [h1, if_false]
  split
  · have : ((n : Int) - 1 - -1 - 1) / (- -1) = (n : Int) - 1 := by
      rw [show (- -1 : Int) = 1 by decide, Int.ediv_one]
      omega
    rw [this]
    omega
  · omega
theorem pick_rev (xs : Array Value) : ((List.range xs.size).filterMap fun (m : Nat) => xs[((xs.size : Int) - 1 + (m : Int) * (-1)).toNat]?).toArray = xs.toList.reverse.toArray := by
  have e : ((List.range xs.size).filterMap fun (m : Nat) => xs[((xs.size : Int) - 1 + (m : Int) * (-1)).toNat]?) = ((List.range xs.size).map fun k => xs.size - 1 - k).filterMap (xs[·]?) := by
    rw [List.filterMap_map]
    refine fm_congr fun m hm => ?_
    have := List.mem_range.mp hm
    have e1 : ((xs.size : Int) - 1 + (m : Int) * (-1)).toNat = xs.size - 1 - m := by omega
    rw [e1]
    rfl
  rw [e, PySem.W.krv_range, List.filterMap_reverse, PySem.W.krv_all]
theorem sliceApplied_rev {sl : Addr} {vk : Value} {n : Nat} {Q : Int × Int × Nat → Shared → Prop} (hs : s.heap.IsSliceOf sl .none .none vk) (pk : IsPart vk (some (-1)))
    (h : Q ((n : Int) - 1, -1, n) s) : wpAny (model prog w) A (Builtin.Slice.sliceApplied (.ref sl) (pure (n : Int))) Q E s := by
  obtain ⟨os, hos, hcs, hds⟩ := id hs
  unfold Builtin.Slice.sliceApplied Builtin.Slice.sliceFields
  refine wpAny_bind (wpAny_bind (wpAny_field hos hds (x := .none) rfl (wpAny_bind (wpAny_field hos hds (x := .none) rfl (wpAny_bind (wpAny_field hos hds (x := vk) rfl (wpAny_pure ?_)))))))
  refine wpAny_bind (HT.slicePart_ pk ?_)
  show wpAny _ _ (if ((-1 : Int) == 0) = true then _ else _) _ _ s
  rw [if_neg (by decide)]
  refine wpAny_bind (HT.slicePart_ .none (wpAny_bind (HT.slicePart_ .none (wpAny_bind (wpAny_pure ?_)))))
  show wpAny _ _ (match Builtin.Slice.sliceAdjust none none (-1) (n : Int) with | (lo, hi) => pure (lo, (-1 : Int), Builtin.Slice.slicePlaces lo hi (-1))) _ _ s
  rw [adjust_rev n]
  show wpAny _ _ (pure ((n : Int) - 1, (-1 : Int), Builtin.Slice.slicePlaces ((n : Int) - 1) (-1) (-1))) _ _ s
  rw [places_rev]
  exact wpAny_pure h
theorem getItem_tuple_rev {t sl : Addr} {items : Array Value} {vk : Value} {Q : Value → Shared → Prop} (ht : IsTup s.heap t items) (hs : s.heap.IsSliceOf sl .none .none vk) (pk : IsPart vk (some (-1)))
    (h : Q (.ref s.heap.objs.size) { s with heap := s.heap.push { cls := .type "tuple", data := .seq items.toList.reverse.toArray } })
    (hsz : items.size ≤ sizeLine) : wpAny (model prog w) A (getItem (.ref t) (.ref sl)) Q E s := by
  have htake : sizeOk (.seq items.toList.reverse.toArray) := by
    show items.toList.reverse.toArray.size ≤ sizeLine
    rw [List.size_toArray, List.length_reverse, Array.length_toList]
    omega
  obtain ⟨os, hos, hcs, hds⟩ := id hs
  have hTs : s.TypeIs (.ref sl) "slice" := ⟨os, hos, hcs⟩
  unfold getItem
  try with_reducible refine wpAny_holding ?_
  first | refine wpAny_bind (wpAny_pure ?_) | skip
  refine wpAny_bind (wpAny_sequenceKey ht.typeIs (by decide) ?_)
  refine wpAny_bind (wpAny_callSpecial?_slot (name := Str.ofString "__getitem__") ht.typeIs PyProof.Rows.slot_tuple_getitem
    (wpAny_call_entry PyProof.Rows.slot_tuple_getitem ht.typeIs entry_tuple_getitem ?_ (args_tuple_getitem _ _)))
  show wpAny _ _ (Builtin.Tuple.tupleItemsOf (.ref t) >>= _) _ _ s
  refine wpAny_bind (tupleItemsOf_ ht ?_)
  refine wpAny_bind (wpAny_typeOf hTs ?_)
  rw [if_pos (by decide)]
  refine wpAny_bind (sliceApplied_rev hs pk ?_)
  have hno : ¬ ((((items.size : Int) - 1) == 0 && (-1 : Int) == 1 && items.size == items.size) = true) := by
    intro q
    rw [Bool.and_eq_true, Bool.and_eq_true] at q
    exact absurd q.1.2 (by decide)
  show wpAny _ _ (if (((items.size : Int) - 1) == 0 && (-1 : Int) == 1 && items.size == items.size) = true then _ else _) _ _ s
  rw [if_neg hno, pick_rev]
  first
    | exact wpAny_bind (m := Builtin.Tuple.tupleExact _) (wpAny_newObj_type (wpAny_pure ⟨_, rfl, wpAny_pure h⟩) htake)
    | exact wpAny_bind (m := Builtin.Tuple.tupleExact _) (wpAny_newObj_type (wpAny_bind (wpAny_pure (wpAny_pure ⟨_, rfl, wpAny_pure h⟩))) htake)
    | exact wpAny_bind (wpAny_bind (m := Builtin.Tuple.tupleExact _) (wpAny_newObj_type (wpAny_pure (wpAny_pure ⟨_, rfl, wpAny_pure h⟩)) htake))
    | exact wpAny_bind (wpAny_bind (m := Builtin.Tuple.tupleExact _) (wpAny_newObj_type (wpAny_pure ⟨_, rfl, wpAny_pure h⟩) htake))
end
/-- t[::-1] -/
def tRevT (K : PySem.W.Frag) (te : TE) : TE := fun σ H Q => te σ H fun x H1 => ∃ a xs, x = .ref a ∧ SqT K H1 a xs ∧ ∀ p, H1 p = none → Q (.ref p) (upd H1 p (.tup xs.reverse))
section
variable {X : Cx}
theorem pe_revT {e : Expr} {te : TE} {k : Nat} {p1 p2 p3 pos : Pos} (he : PE X e te) : PE X (.Subscript e (.Slice none none (some (.UnaryOp .USub (.Constant (.int 1) k p1) p2)) p3) pos) (tRevT X.K te) := by
  refine ⟨fun pins s σ H Q I h => ?_⟩
  refine Subscript_ (thn (he.run pins s σ H _ I h) fun v s1 ⟨x, H1, I1, r1, q1⟩ => ?_)
  obtain ⟨a, xs, ex, hx, q⟩ := q1
  subst ex
  cases r1
  have hst : PO X (some (.UnaryOp .USub (.Constant (.int 1) k p1) p2)) (tPart (tUn (rU fun i => .int (-i)) (tC (.int 1)))) := po_some (pe_un un_neg pe_int)
  refine wpAny_Slice (thn (po_none.run pins s1 σ H1 (fun o H2 => o = none ∧ H2 = H1) I1 ⟨rfl, rfl⟩) fun vl s2 ⟨l, H2, I2, pl, el, e2⟩ => ?_)
  subst el e2
  refine thn (po_none.run pins s2 σ H2 (fun o H3 => o = none ∧ H3 = H2) I2 ⟨rfl, rfl⟩) fun vu s3 ⟨u, H3, I3, pu, eu, e3⟩ => ?_
  subst eu e3
  cases pl
  cases pu
  refine thn (hst.run pins s3 σ H3 (fun o H4 => o = some (-1) ∧ H4 = H3) I3 ⟨1, rfl, -1, rfl, rfl, rfl⟩) fun vs s4 ⟨o, H4, I4, ps, eo, e4⟩ => ?_
  subst eo e4
  have I5 : Inv X pins σ H4 { s4 with heap := s4.heap.push { cls := .type "slice", data := .fields #[.none, .none, vs] } } := I4.kept (t' := s4.toks) fun b ob q => Heap.get?_push_of_some _ q
  obtain ⟨its, r, ht, hz⟩ := I5.tuple hx
  have hlen := r.length
  show wpAny (model X.prog X.w) X.A (subscriptTail e (.Slice none none (some (.UnaryOp .USub (.Constant (.int 1) k p1) p2)) p3) (.ref a) (.ref s4.heap.objs.size)) (EP X pins σ Q) X.xe { s4 with heap := s4.heap.push { cls := .type "slice", data := .fields #[.none, .none, vs] } }
  refine tail_any (ops := [.ref a, .ref s4.heap.objs.size]) ht.typeIs (PyProof.Rows.slot_tuple_getitem.lookup) ?_ (by with_unfolding_all rfl)
  refine getItem_tuple_rev ht (Heap.IsSliceOf.new _ .none .none vs) ps ?_ (by rw [List.size_toArray]; omega)
  refine ⟨.ref _, _, I5.laid (t' := s4.toks) (o := .tup xs.reverse) (fun b ob q => Heap.get?_push_of_some _ q) (Nat.le_refl _) ?_, rfl, q _ (I5.hok.fresh (Nat.le_refl _))⟩
  exact ⟨by rw [List.length_reverse]; exact hz, _, r.reverse, IsTup.new _ _⟩
end
end Tw
set_option maxHeartbeats 4000000
/-! The law's mirrored trees, and Trees made of them. -/
namespace Tw
open PySem PySem.Spec PyProof.Rows L2
abbrev sMirror : Stmt := top 25
abbrev sMake : Stmt := top 28
theorem TupAt.mono {H H' : Hp} (s : Same H H') {v : V} {t : T} (h : TupAt H v t) : TupAt H' v t := h.firm (.of s)
theorem rel_tups {H : Hp} {F : T → Prop} : ∀ {ys : List V}, (∀ (j : Nat) (v : V), ys[j]? = some v → ∃ u, TupAt H v u ∧ F u) → ∃ us, TupsAt H ys us ∧ us.length = ys.length ∧ ∀ u ∈ us, F u
  | [], _ => ⟨[], .nil, rfl, fun u h => absurd h List.not_mem_nil⟩
  | y :: ys, h => by
    obtain ⟨u, hu, fu⟩ := h 0 y rfl
    obtain ⟨us, hus, hl, hf⟩ := rel_tups (ys := ys) fun j v e => h (j + 1) v (by simpa using e)
    refine ⟨u :: us, .cons hu hus, by rw [List.length_cons, List.length_cons, hl], fun x hx => ?_⟩
    rcases List.mem_cons.mp hx with rfl | hx
    · exact fu
    · exact hf x hx
theorem fines_of : ∀ {l : List T}, (∀ t ∈ l, t.fine = true) → T.fines l = true
  | [], _ => by unfold T.fines; rfl
  | a :: l, h => by
    unfold T.fines
    rw [h a List.mem_cons_self, fines_of fun t ht => h t (List.mem_cons_of_mem _ ht)]
    rfl
theorem fine_ex {n : Str} {ps : List T} (h : (T.node n ps).fine = true) : (leafName n = true ∧ ps = []) ∨ (bigName n.cps.toList = true ∧ ps.length ≤ 3 ∧ T.fines ps = true) := by
  unfold T.fine at h
  rw [Bool.or_eq_true] at h
  rcases h with h | h
  · rw [Bool.and_eq_true] at h
    exact .inl ⟨h.1, List.isEmpty_iff.mp h.2⟩
  · rw [Bool.and_eq_true, Bool.and_eq_true] at h
    exact .inr ⟨h.1.1, of_decide_eq_true h.1.2, h.2⟩
theorem fine_parts {t : T} (h : t.fine = true) : t.parts.length ≤ 3 ∧ ∀ u ∈ t.parts, u.fine = true := by
  cases t with
  | node n ps =>
    rcases fine_ex h with ⟨_, e⟩ | ⟨_, l, f⟩
    · subst e
      exact ⟨Nat.zero_le _, fun u hu => absurd hu List.not_mem_nil⟩
    · exact ⟨l, fine_mem f⟩
theorem mostFrom_ge {m k : Nat} : ∀ {l : List T}, m ≤ k → m ≤ T.mostFrom k l
  | [], h => by unfold T.mostFrom; exact h
  | a :: l, h => by
    unfold T.mostFrom
    refine mostFrom_ge ?_
    split <;> omega
theorem mostFrom_mem {t : T} : ∀ {l : List T} {m : Nat}, t ∈ l → t.levels ≤ T.mostFrom m l
  | a :: l, m, h => by
    unfold T.mostFrom
    rcases List.mem_cons.mp h with rfl | h
    · refine mostFrom_ge ?_
      split <;> omega
    · exact mostFrom_mem h
theorem levels_node (n : Str) (ps : List T) : (T.node n ps).levels = 1 + T.mostFrom 0 ps := by unfold T.levels; rfl
theorem size_node (n : Str) (ps : List T) : (T.node n ps).size = 1 + T.sizes ps := by unfold T.size; rfl
theorem levels_part {t u : T} (h : u ∈ t.parts) : u.levels + 1 ≤ t.levels := by
  cases t with
  | node n ps =>
    have := mostFrom_mem (m := 0) (l := ps) h
    rw [levels_node]
    omega
theorem levels_pos (t : T) : 1 ≤ t.levels := by
  cases t
  unfold T.levels
  omega
theorem levels_of {n : Str} {ps : List T} {k : Nat} (h : ∀ u ∈ ps, u.levels ≤ k) : (T.node n ps).levels ≤ k + 1 := by
  unfold T.levels
  have := mostFrom_le (m := 0) (Nat.zero_le _) h
  omega
theorem sizes_mem {t : T} : ∀ {l : List T}, t ∈ l → t.size ≤ T.sizes l
  | a :: l, h => by
    unfold T.sizes
    rcases List.mem_cons.mp h with rfl | h
    · omega
    · have := sizes_mem h
      omega
theorem size_part {t u : T} (h : u ∈ t.parts) : u.size + 1 ≤ t.size := by
  cases t with
  | node n ps =>
    have := sizes_mem (l := ps) h
    rw [size_node]
    omega
theorem name_small {t : T} (h : t.fine = true) : t.name.length ≤ 8 := by
  cases t with
  | node n ps =>
    show n.length ≤ 8
    rw [← len_list]
    rcases fine_ex h with ⟨hl, _⟩ | ⟨hb, _⟩
    · unfold leafName at hl
      rw [Bool.or_eq_true] at hl
      rcases hl with hl | hl
      · rw [of_decide_eq_true hl]
        decide
      · match e : n.cps.toList with
        | [] => simp
        | [c] => simp
        | a :: b :: r => rw [e] at hl; cases hl
    · match e : n.cps.toList with
      | [] => simp
      | c :: r =>
        rw [e] at hb
        have : (isCap c && (c :: r).all isWord && decide (r.length < 8)) = true := hb
        rw [Bool.and_eq_true] at this
        have := of_decide_eq_true this.2
        rw [List.length_cons]
        omega
mutual
theorem term_small : ∀ {t : T}, t.fine = true → t.term.length + 2 ≤ 12 * t.size
  | .node n ps, h => by
    have h1 := name_small h
    have h2 := partsW_small (ps := ps) (fine_parts h).2
    have h3 := term_len_le n ps
    have h4 : n.length ≤ 8 := h1
    unfold T.size
    omega
theorem partsW_small : ∀ {ps : List T}, (∀ u ∈ ps, u.fine = true) → partsW ps ≤ 12 * T.sizes ps
  | [], _ => by unfold partsW T.sizes; simp
  | p :: r, h => by
    have h1 := term_small (h p List.mem_cons_self)
    have h2 := partsW_small (ps := r) fun u hu => h u (List.mem_cons_of_mem _ hu)
    unfold partsW at h2 ⊢
    unfold T.sizes
    rw [List.map_cons, List.sum_cons]
    omega
end
theorem fits_small {n : Str} {ps : List T} (h : (T.node n ps).fine = true) (hs : (T.node n ps).size ≤ 10000) : TermFits n ps := by
  have h1 := name_small h
  have h2 := partsW_small (ps := ps) (fine_parts h).2
  have h3 := (fine_parts h).1
  have h4 := partsW_terms ps
  have h5 : n.length ≤ 8 := h1
  have h6 : ps.length ≤ 3 := h3
  unfold T.size at hs
  exact ⟨by omega, by omega, by omega⟩
/-- a mirrored tree is as fine and as high -/
def spMirror (D : Nat) : Sp := fun vs H Q _ => ∃ (v : V) (t : T), vs = [v] ∧ TupAt H v t ∧ t.fine = true ∧ t.levels ≤ D + 1 ∧ ∀ v' u H', Same H H' → TupAt H' v' u → u.fine = true → u.levels ≤ D + 1 → Q v' H'
section
variable {P : Program} {w : World} {K : PySem.W.Frag} {mg : Str → Option Value} {base : Heap} {C : Addr}
theorem scMi : FnScope ["tree", "one"] ["tree"] (defScope sMirror) := ⟨rfl, rfl, rfl, by decide +kernel, rfl, by decide +kernel, by decide +kernel⟩
theorem mirror_step (mt : mg "tuple" = none) {f : Addr} {fd : FuncData} (F : Fun K "_law_mirrored" "_law_mirrored" sMirror f fd) (gm : Gf K mg "_law_mirrored" f) {k D : Nat} {sp : Sp} (FM : FnR P w K mg base CX0 k f sp)
    (hD : ∀ vs H Q E, D ≠ 0 → spMirror (D - 1) vs H Q E → sp vs H Q E) : FnR P w K mg base CX0 (k + 1) f (spMirror D) := by
  refine okR F scMi (fun vs H Q E h => ?_) (fun _ _ _ _ _ _ us hl => match us, hl with | [_], _ => rfl) (fun cdv A outer s H vs Q E hr h => ?_)
  · obtain ⟨v, t, rfl, _⟩ := h
    rfl
  obtain ⟨v, t, rfl, ht, hf, hl, q⟩ := h
  refine ⟨_, pss_one (ps_ret (pe_tup (pa_cons (pe_ix ix_tup (pv 0) pe_int (fun _ _ => rfl)) (pa_cons (pe_callTy call_tuple_of (by rfl) mt (by decide +kernel) (pa_cons
    (pe_lc (own := [("one", 1)]) (g := gName 1) (tt := tYes) (te := tCf sp E0 (tCons (tVar 1) tNil)) rfl scMi.nd (pi_tup (pe_revT (pe_ix ix_tup (pv 0) pe_int (fun _ _ => rfl)))) (blkOk_by (own := [("one", 1)]) (N := ["tree", "one"]) (sc := defScope sMirror) (by decide +kernel))
      (fun _ _ _ _ _ => by exact pg_name (i := 1) scMi.nd rfl (Or.inl rfl)) (fun _ _ _ _ _ => by exact pts_nil) (fun _ _ _ _ _ => by exact pe_cf FM hr gm pass0 (pa_cons (pv 1) pa_nil))) pa_nil)) pa_nil)))), ?_⟩
  have sl := sizeLine_eq
  obtain ⟨a, c, ws, rfl, h1, h2, h3⟩ := ht.ex
  have hlen := h3.len
  obtain ⟨hp3, hpf⟩ := fine_parts hf
  refine ⟨_, rfl, a, _, _, .str t.name, rfl, rfl, SqT.of h1, rfl, _, rfl, a, _, _, .ref c, rfl, rfl, SqT.of h1, rfl, c, ws, rfl, SqT.of h2, fun e ne => ?_⟩
  have s1 := sameN (o := .tup ws.reverse) ne
  refine ⟨e, rfl, ⟨_, SqT.of upd_same⟩, fun D' hD' => ?_⟩
  refine lc_rel walk_tup hD' (fun H' s => SqT.of (s _ _ upd_same)) (by rw [List.length_reverse]; omega) (fun j v H' => ∃ u, TupAt H' v u ∧ (u.fine = true ∧ u.levels ≤ D)) ?_ ?_ ?_ ?_
  · rintro j v H1 H2 _ s ⟨u, hu, r⟩
    exact ⟨u, hu.mono s, r⟩
  · rintro j v H1 l l' _ e1 ⟨u, hu, r⟩
    exact ⟨u, hu.firm (Firm.list e1), r⟩
  · intro i x H1 R hx sm _ hR
    have hxm : x ∈ ws := by
      have := List.mem_of_getElem? hx
      exact List.mem_reverse.mp this
    obtain ⟨j, hj⟩ := List.getElem?_of_mem hxm
    obtain ⟨u, hu, hux⟩ := h3.get hj
    have hum := List.mem_of_getElem? hu
    have hlv := levels_part hum
    have hu1 := levels_pos u
    refine ⟨rfl, _, rfl, ?_⟩
    refine hD _ _ _ _ (by omega) ⟨x, u, rfl, hux.mono (s1.trans sm), hpf u hum, by omega, fun v' u' H' k' hv' hf' hl' => ?_⟩
    exact hR v' H' k' ⟨u', hv', hf', by omega⟩
  · intro H1 ys sm hys hyl hyr
    obtain ⟨us, hus, hul, huf⟩ := rel_tups hyr
    rw [List.length_reverse] at hyl
    refine ⟨D', _, rfl, .inl ⟨SqL.of hys, fun q1 nq1 => ?_⟩⟩
    have s2 := sameN (o := .tup ys) nq1
    refine ⟨by (show 2 ≤ sizeLine; omega), fun q2 nq2 => ?_⟩
    have s3 := sameN (o := .tup [V.str t.name, .ref q1]) nq2
    refine q _ (.node t.name us) _ (s1.trans (sm.trans (s2.trans s3))) (.mk upd_same (s3 _ _ upd_same) (hus.firm (.of (s2.trans s3)))) ?_ (levels_of fun u hu => (huf u hu).2)
    have hfs := fines_of fun u hu => (huf u hu).1
    cases t with
    | node n ps =>
      rcases fine_ex hf with ⟨hlf, e0⟩ | ⟨hb, hl3, _⟩
      · subst e0
        have : us = [] := List.eq_nil_of_length_eq_zero (by rw [hul, hyl, hlen]; rfl)
        subst this
        exact fine_leaf hlf
      · exact fine_big hb (by rw [hul, hyl, hlen]; exact hl3) hfs
theorem ok_mirror (mt : mg "tuple" = none) {f : Addr} {fd : FuncData} (F : Fun K "_law_mirrored" "_law_mirrored" sMirror f fd) (gm : Gf K mg "_law_mirrored" f) : ∀ D : Nat, FnR P w K mg base CX0 (D + 1) f (spMirror D)
  | 0 => mirror_step mt F gm (sp := fun _ _ _ _ => False) (fun _ _ _ _ _ _ _ _ _ _ _ hs => hs.elim) fun _ _ _ _ h => absurd rfl h
  | D + 1 => mirror_step mt F gm (ok_mirror mt F gm D) fun _ _ _ _ _ h => h
end
end Tw
set_option maxHeartbeats 4000000
/-! Trees made of the law's trees. -/
namespace Tw
open PySem PySem.Spec PyProof.Rows L2
def spMakeL (C : Addr) (D : Nat) : Sp := fun vs H Q _ => ∃ (v : V) (t : T), vs = [v] ∧ TupAt H v t ∧ t.fine = true ∧ t.size ≤ 10000 ∧ t.levels ≤ D + 1 ∧ ∀ v' H', Same H H' → TreeAt C H' v' t → Q v' H'
theorem rel_trees {C : Addr} {H : Hp} : ∀ {ys : List V} {ts : List T}, ys.length = ts.length → (∀ (j : Nat) (v : V), ys[j]? = some v → ∃ u, ts[j]? = some u ∧ TreeAt C H v u) → TreesAt C H ys ts
  | [], [], _, _ => by unfold TreesAt; trivial
  | [], _ :: _, l, _ => by simp at l
  | _ :: _, [], l, _ => by simp at l
  | y :: ys, t :: ts, l, h => by
    unfold TreesAt
    obtain ⟨u, hu, h0⟩ := h 0 y rfl
    have e : t = u := by simpa using hu
    subst e
    exact ⟨h0, rel_trees (by simpa using l) fun j v e => h (j + 1) v (by simpa using e)⟩
section
variable {P : Program} {w : World} {K : PySem.W.Frag} {mg : Str → Option Value} {base : Heap} {C : Addr}
theorem scMa : FnScope ["tree", "parts", "one"] ["tree"] (defScope sMake) := ⟨rfl, rfl, rfl, by decide +kernel, rfl, by decide +kernel, by decide +kernel⟩
theorem make_step {fI : Addr} (M : Mk K C fI) (Fi : FnR P w K mg base CX0 3 fI (spMk C)) (gT : mg "Tree" = some (.ref C)) (ml : mg "len" = none) {f : Addr} {fd : FuncData} (F : Fun K "_law_make" "_law_make" sMake f fd) (gm : Gf K mg "_law_make" f) {k D : Nat} {sp : Sp}
    (FM : FnR P w K mg base CX0 (k + 4) f sp) (hD : ∀ vs H Q E, D ≠ 0 → spMakeL C (D - 1) vs H Q E → sp vs H Q E) : FnR P w K mg base CX0 (k + 5) f (spMakeL C D) := by
  refine okR F scMa (fun vs H Q E h => ?_) (fun _ _ _ _ _ _ us hl => match us, hl with | [_], _ => rfl) (fun cdv A outer s H vs Q E hr h => ?_)
  · obtain ⟨v, t, rfl, _⟩ := h
    rfl
  obtain ⟨v, t, rfl, ht, hf, hz, hl, q⟩ := h
  have hr4 : Room 4 _ := hr.mono (by omega)
  refine ⟨_, pss_cons (ps_setLc (i := 1) (own := [("one", 2)]) (g := gName 2) (tt := tYes) (te := tCf sp E0 (tCons (tVar 2) tNil)) rfl scMa.nd rfl rfl (by rfl) (pi_tup (pe_ix ix_tup (pv 0) pe_int (fun _ _ => rfl))) (blkOk_by (own := [("one", 2)]) (N := ["tree", "parts", "one"]) (sc := defScope sMake) (by decide +kernel))
      (fun _ _ _ _ _ => by exact pg_name (i := 2) scMa.nd rfl (Or.inl rfl)) (fun _ _ _ _ _ => by exact pts_nil) (fun _ _ _ _ _ => by exact pe_cf FM hr gm pass0 (pa_cons (pv 2) pa_nil)))
    (pss_cons (ps_if (pt_cmpR op_eq (pe_callB call_len_seq (by rfl) ml PySem.boot_len (pa_cons (pv 1) pa_nil)) pe_int (nomark _)) (pss_one (ps_ret (pe_mk M Fi hr4 gT (pa_cons (pe_ix ix_tup (pv 0) pe_int (fun _ _ => rfl)) pa_nil)))) pss_nil)
    (pss_cons (ps_if (pt_cmpR op_eq (pe_callB call_len_seq (by rfl) ml PySem.boot_len (pa_cons (pv 1) pa_nil)) pe_int (nomark _)) (pss_one (ps_ret (pe_mk M Fi hr4 gT (pa_cons (pe_ix ix_tup (pv 0) pe_int (fun _ _ => rfl)) (pa_cons (pe_ix ix_list (pv 1) pe_int (fun _ _ => rfl)) pa_nil))))) pss_nil)
    (pss_cons (ps_if (pt_cmpR op_eq (pe_callB call_len_seq (by rfl) ml PySem.boot_len (pa_cons (pv 1) pa_nil)) pe_int (nomark _)) (pss_one (ps_ret (pe_mk M Fi hr4 gT (pa_cons (pe_ix ix_tup (pv 0) pe_int (fun _ _ => rfl)) (pa_cons (pe_ix ix_list (pv 1) pe_int (fun _ _ => rfl)) (pa_cons (pe_ix ix_list (pv 1) pe_int (fun _ _ => rfl)) pa_nil)))))) pss_nil)
    (pss_one (ps_ret (pe_mk M Fi hr4 gT (pa_cons (pe_ix ix_tup (pv 0) pe_int (fun _ _ => rfl)) (pa_cons (pe_ix ix_list (pv 1) pe_int (fun _ _ => rfl)) (pa_cons (pe_ix ix_list (pv 1) pe_int (fun _ _ => rfl)) (pa_cons (pe_ix ix_list (pv 1) pe_int (fun _ _ => rfl)) pa_nil)))))))))), ?_⟩
  have sl := sizeLine_eq
  obtain ⟨a, c, ws, rfl, h1, h2, h3⟩ := ht.ex
  have hlen := h3.len
  obtain ⟨hp3, hpf⟩ := fine_parts hf
  have hfit : TermFits t.name t.parts := by
    cases t
    exact fits_small hf hz
  have et : t = .node t.name t.parts := by cases t; rfl
  refine ⟨_, rfl, a, _, _, .ref c, rfl, rfl, SqT.of h1, rfl, c, rfl, ⟨_, SqT.of h2⟩, fun D' hD' => ?_⟩
  refine lc_rel walk_tup hD' (fun H' s => SqT.of (s _ _ h2)) (by omega) (fun j v H' => ∃ u, t.parts[j]? = some u ∧ TreeAt C H' v u) ?_ ?_ ?_ ?_
  · rintro j v H1 H2 _ s ⟨u, e, hu⟩
    exact ⟨u, e, hu.mono s⟩
  · rintro j v H1 l l' _ e1 ⟨u, e, hu⟩
    exact ⟨u, e, hu.firm (Firm.list e1)⟩
  · intro i x H1 R hx sm _ hR
    obtain ⟨u, hu, hux⟩ := h3.get hx
    have hum := List.mem_of_getElem? hu
    have hlv := levels_part hum
    have hsv := size_part hum
    have hu1 := levels_pos u
    refine ⟨rfl, _, rfl, ?_⟩
    exact hD _ _ _ _ (by omega) ⟨x, u, rfl, hux.mono sm, hpf u hum, by omega, by omega, fun v' H' k' hv' => hR v' H' k' ⟨u, hu, hv'⟩⟩
  · intro H1 ys sm hys hyl hyr
    have hts : TreesAt C H1 ys t.parts := rel_trees (by omega) hyr
    refine name_go ?_
    dsimp only
    have hyl' : ys.length = t.parts.length := by omega
    have h1' := sm _ _ h1
    have done : ∀ a' H', Same H1 H' → TreeAt C H' (.ref a') (.node t.name t.parts) → Q (.ref a') H' := fun a' H' k' h => q _ H' (sm.trans k') (et ▸ h)
    match ys, hyl', hts, hys with
    | [], e, hts, hys =>
      refine ⟨_, rfl, D', _, rfl, .inl (SqL.of hys), rfl, _, rfl, iteT ?_⟩
      exact ⟨_, rfl, a, _, _, .str t.name, rfl, rfl, SqT.of h1', rfl, t.name, _, t.parts, rfl, hts, hfit, done⟩
    | [y0], e, hts, hys =>
      refine ⟨_, rfl, D', _, rfl, .inl (SqL.of hys), rfl, _, rfl, iteF ?_⟩
      refine ⟨_, rfl, D', _, rfl, .inl (SqL.of hys), rfl, _, rfl, iteT ?_⟩
      exact ⟨_, rfl, a, _, _, .str t.name, rfl, rfl, SqT.of h1', rfl, _, rfl, D', _, _, y0, rfl, rfl, SqL.of hys, rfl, t.name, _, t.parts, rfl, hts, hfit, done⟩
    | [y0, y1], e, hts, hys =>
      refine ⟨_, rfl, D', _, rfl, .inl (SqL.of hys), rfl, _, rfl, iteF ?_⟩
      refine ⟨_, rfl, D', _, rfl, .inl (SqL.of hys), rfl, _, rfl, iteF ?_⟩
      refine ⟨_, rfl, D', _, rfl, .inl (SqL.of hys), rfl, _, rfl, iteT ?_⟩
      exact ⟨_, rfl, a, _, _, .str t.name, rfl, rfl, SqT.of h1', rfl, _, rfl, D', _, _, y0, rfl, rfl, SqL.of hys, rfl, _, rfl, D', _, _, y1, rfl, rfl, SqL.of hys, rfl, t.name, _, t.parts, rfl, hts, hfit, done⟩
    | [y0, y1, y2], e, hts, hys =>
      refine ⟨_, rfl, D', _, rfl, .inl (SqL.of hys), rfl, _, rfl, iteF ?_⟩
      refine ⟨_, rfl, D', _, rfl, .inl (SqL.of hys), rfl, _, rfl, iteF ?_⟩
      refine ⟨_, rfl, D', _, rfl, .inl (SqL.of hys), rfl, _, rfl, iteF ?_⟩
      exact ⟨_, rfl, a, _, _, .str t.name, rfl, rfl, SqT.of h1', rfl, _, rfl, D', _, _, y0, rfl, rfl, SqL.of hys, rfl, _, rfl, D', _, _, y1, rfl, rfl, SqL.of hys, rfl, _, rfl, D', _, _, y2, rfl, rfl, SqL.of hys, rfl, t.name, _, t.parts, rfl, hts, hfit, done⟩
    | _ :: _ :: _ :: _ :: r, e, hts, hys => simp at e; omega
theorem ok_make {fI : Addr} (M : Mk K C fI) (Fi : FnR P w K mg base CX0 3 fI (spMk C)) (gT : mg "Tree" = some (.ref C)) (ml : mg "len" = none) {f : Addr} {fd : FuncData} (F : Fun K "_law_make" "_law_make" sMake f fd) (gm : Gf K mg "_law_make" f) : ∀ D : Nat, FnR P w K mg base CX0 (D + 5) f (spMakeL C D)
  | 0 => make_step M Fi gT ml F gm (k := 0) (sp := fun _ _ _ _ => False) (fun _ _ _ _ _ _ _ _ _ _ _ hs => hs.elim) fun _ _ _ _ h => absurd rfl h
  | D + 1 => make_step M Fi gT ml F gm (k := D + 1) (ok_make M Fi gT ml F gm D) fun _ _ _ _ _ h => h
end
end Tw
set_option maxHeartbeats 4000000
/-! What the law tells of a tree. -/
namespace Tw
open PySem PySem.Spec PyProof.Rows L2
abbrev sTold : Stmt := top 29
/-- the row of a tree -/
def dueV (t : T) (l : Addr) : List V := [.int t.size, .int t.levels, .str t.term, .str t.name, .ref l]
mutual
/-- v is what is due for t; no list of it is at X -/
def DueAt (X : List Addr) (H : Hp) : V → T → Prop
  | v, .node n ps => ∃ a l vs, v = .ref a ∧ H a = some (.tup (dueV (.node n ps) l)) ∧ l ∉ X ∧ H l = some (.lst vs) ∧ DuesAt X H vs ps
def DuesAt (X : List Addr) (H : Hp) : List V → List T → Prop
  | [], [] => True
  | v :: vs, t :: ts => DueAt X H v t ∧ DuesAt X H vs ts
  | [], _ :: _ => False
  | _ :: _, [] => False
end
theorem DueAt.ex {X : List Addr} {H : Hp} {v : V} {t : T} (h : DueAt X H v t) : ∃ a l vs, v = .ref a ∧ H a = some (.tup (dueV t l)) ∧ l ∉ X ∧ H l = some (.lst vs) ∧ DuesAt X H vs t.parts := by
  cases t with
  | node n ps =>
    unfold DueAt at h
    exact h
theorem DueAt.mk {X : List Addr} {H : Hp} {a l : Addr} {t : T} {vs : List V} (h1 : H a = some (.tup (dueV t l))) (h2 : l ∉ X) (h3 : H l = some (.lst vs)) (h4 : DuesAt X H vs t.parts) : DueAt X H (.ref a) t := by
  cases t with
  | node n ps =>
    unfold DueAt
    exact ⟨a, l, vs, rfl, h1, h2, h3, h4⟩
theorem DuesAt.len {X : List Addr} {H : Hp} : ∀ {vs : List V} {ts : List T}, DuesAt X H vs ts → vs.length = ts.length
  | [], [], _ => rfl
  | _ :: _, _ :: _, h => by
    unfold DuesAt at h
    rw [List.length_cons, List.length_cons, DuesAt.len h.2]
  | [], _ :: _, h => by unfold DuesAt at h; exact h.elim
  | _ :: _, [], h => by unfold DuesAt at h; exact h.elim
theorem DuesAt.get {X : List Addr} {H : Hp} : ∀ {vs : List V} {ts : List T} {i : Nat} {v : V}, DuesAt X H vs ts → vs[i]? = some v → ∃ t, ts[i]? = some t ∧ DueAt X H v t
  | [], _, i, v, _, e => by simp at e
  | v' :: vs, t :: ts, 0, v, h, e => by
    unfold DuesAt at h
    have : v' = v := by simpa using e
    subst this
    exact ⟨t, rfl, h.1⟩
  | v' :: vs, t :: ts, i + 1, v, h, e => by
    unfold DuesAt at h
    obtain ⟨t', e', h'⟩ := DuesAt.get (i := i) (v := v) h.2 (by simpa using e)
    exact ⟨t', by simpa using e', h'⟩
  | _ :: _, [], _, _, h, _ => by unfold DuesAt at h; exact h.elim
mutual
theorem DueAt.kept {X Y : List Addr} {H H' : Hp} (k : KeptBut X H H') (f : Firm H H') (y : ∀ a ∈ Y, a ∈ X) : ∀ {v : V} {t : T}, DueAt X H v t → DueAt Y H' v t
  | v, .node n ps, h => by
    obtain ⟨a, l, vs, rfl, h1, h2, h3, h4⟩ := h.ex
    exact .mk (f.1 _ _ h1) (fun z => h2 (y l z)) (k _ _ h3 h2) (DuesAt.kept k f y h4)
theorem DuesAt.kept {X Y : List Addr} {H H' : Hp} (k : KeptBut X H H') (f : Firm H H') (y : ∀ a ∈ Y, a ∈ X) : ∀ {vs : List V} {ts : List T}, DuesAt X H vs ts → DuesAt Y H' vs ts
  | [], [], _ => by unfold DuesAt; trivial
  | v :: vs, t :: ts, h => by
    unfold DuesAt at h ⊢
    exact ⟨DueAt.kept k f y h.1, DuesAt.kept k f y h.2⟩
  | [], _ :: _, h => by unfold DuesAt at h; exact h.elim
  | _ :: _, [], h => by unfold DuesAt at h; exact h.elim
end
theorem DueAt.mono {X : List Addr} {H H' : Hp} (s : Same H H') {v : V} {t : T} (h : DueAt X H v t) : DueAt X H' v t := h.kept (.of s) (.of s) fun _ h => h
theorem rel_dues {X : List Addr} {H : Hp} : ∀ {ys : List V} {ts : List T}, ys.length = ts.length → (∀ (j : Nat) (v : V), ys[j]? = some v → ∃ u, ts[j]? = some u ∧ DueAt X H v u) → DuesAt X H ys ts
  | [], [], _, _ => by unfold DuesAt; trivial
  | [], _ :: _, l, _ => by simp at l
  | _ :: _, [], l, _ => by simp at l
  | y :: ys, t :: ts, l, h => by
    unfold DuesAt
    obtain ⟨u, hu, h0⟩ := h 0 y rfl
    have e : t = u := by simpa using hu
    subst e
    exact ⟨h0, rel_dues (by simpa using l) fun j v e => h (j + 1) v (by simpa using e)⟩
def spTold (D : Nat) : Sp := fun vs H Q _ => ∃ (v : V) (t : T) (X : List Addr), vs = [v] ∧ TupAt H v t ∧ t.fine = true ∧ t.size ≤ 10000 ∧ t.levels ≤ D + 1 ∧ (∀ x ∈ X, H x ≠ none) ∧ ∀ v' H', Same H H' → DueAt X H' v' t → Q v' H'
section
variable {P : Program} {w : World} {K : PySem.W.Frag} {mg : Str → Option Value} {base : Heap}
theorem scTo : FnScope ["tree", "parts", "below", "one", "term", "size"] ["tree"] (defScope sTold) := ⟨rfl, rfl, rfl, by decide +kernel, rfl, by decide +kernel, by decide +kernel⟩
theorem told_step (ml : mg "len" = none) (hs : mg "sum" = none) {f : Addr} {fd : FuncData} (F : Fun K "_law_told" "_law_told" sTold f fd) (gm : Gf K mg "_law_told" f) {k D : Nat} {sp : Sp}
    (FM : FnR P w K mg base CX0 k f sp) (hD : ∀ vs H Q E, D ≠ 0 → spTold (D - 1) vs H Q E → sp vs H Q E) : FnR P w K mg base CX0 (k + 1) f (spTold D) := by
  refine okR F scTo (fun vs H Q E h => ?_) (fun _ _ _ _ _ _ us hl => match us, hl with | [_], _ => rfl) (fun cdv A outer s H vs Q E hr h => ?_)
  · obtain ⟨v, t, X, rfl, _⟩ := h
    rfl
  obtain ⟨v, t, X, rfl, ht, hf, hz, hl, hX, q⟩ := h
  refine ⟨_, pss_cons (ps_setLc (i := 1) (own := [("one", 3)]) (g := gName 3) (tt := tYes) (te := tCf sp E0 (tCons (tVar 3) tNil)) rfl scTo.nd rfl rfl (by rfl) (pi_tup (pe_ix ix_tup (pv 0) pe_int (fun _ _ => rfl))) (blkOk_by (own := [("one", 3)]) (N := ["tree", "parts", "below", "one", "term", "size"]) (sc := defScope sTold) (by decide +kernel))
      (fun _ _ _ _ _ => by exact pg_name (i := 3) scTo.nd rfl (Or.inl rfl)) (fun _ _ _ _ _ => by exact pts_nil) (fun _ _ _ _ _ => by exact pe_cf FM hr gm pass0 (pa_cons (pv 3) pa_nil)))
    (pss_cons (ps_set (i := 2) scTo.nd rfl (Or.inl rfl) pe_int)
    (pss_cons (ps_for PassesOwn.never rfl (pi_list (pv 1)) (pg_name (i := 3) scTo.nd rfl (Or.inl rfl))
      (pss_one (ps_if (pt_cmpR op_gt (pe_ix ix_tup (pv 3) pe_int (fun _ _ => rfl)) (pv 2) (nomark _)) (pss_one (ps_set (i := 2) scTo.nd rfl (Or.inl rfl) (pe_ix ix_tup (pv 3) pe_int (fun _ _ => rfl)))) pss_nil)))
    (pss_cons (ps_set (i := 4) scTo.nd rfl (Or.inl rfl) (pe_ix ix_tup (pv 0) pe_int (fun _ _ => rfl)))
    (pss_cons (ps_if (pt_cmpR op_gt (pe_callB call_len_seq (by rfl) ml PySem.boot_len (pa_cons (pv 1) pa_nil)) pe_int (nomark _))
      (pss_one (ps_set (i := 4) scTo.nd rfl (Or.inl rfl) (pe_op op_add_str (pe_op op_add_str (pe_op op_add_str (pv 4) pe_str) (pe_join pe_str
        (pe_lc (own := [("one", 3)]) (g := gName 3) (tt := tYes) (te := tOp (rIxT K) (tVar 3) (tC (.int 2))) rfl scTo.nd (pi_list (pv 1)) (blkOk_by (own := [("one", 3)]) (N := ["tree", "parts", "below", "one", "term", "size"]) (sc := defScope sTold) (by decide +kernel)) (fun _ _ _ _ _ => by exact pg_name (i := 3) scTo.nd rfl (Or.inl rfl)) (fun _ _ _ _ _ => by exact pts_nil) (fun _ _ _ _ _ => by exact pe_ix ix_tup (pv 3) pe_int (fun _ _ => rfl))))) pe_str))) pss_nil)
    (pss_cons (ps_set (i := 5) scTo.nd rfl (Or.inl rfl) (pe_op op_add pe_int (pe_callB (cr_sum rfl) (by rfl) hs (by decide +kernel) (pa_cons
        (pe_lc (own := [("one", 3)]) (g := gName 3) (tt := tYes) (te := tOp (rIxT K) (tVar 3) (tC (.int 0))) rfl scTo.nd (pi_list (pv 1)) (blkOk_by (own := [("one", 3)]) (N := ["tree", "parts", "below", "one", "term", "size"]) (sc := defScope sTold) (by decide +kernel)) (fun _ _ _ _ _ => by exact pg_name (i := 3) scTo.nd rfl (Or.inl rfl)) (fun _ _ _ _ _ => by exact pts_nil) (fun _ _ _ _ _ => by exact pe_ix ix_tup (pv 3) pe_int (fun _ _ => rfl))) pa_nil))))
    (pss_one (ps_ret (pe_tup (pa_cons (pv 5) (pa_cons (pe_op op_add pe_int (pv 2)) (pa_cons (pv 4) (pa_cons (pe_ix ix_tup (pv 0) pe_int (fun _ _ => rfl)) (pa_cons (pv 1) pa_nil)))))))))))))  , ?_⟩
  have sl := sizeLine_eq
  obtain ⟨a, c, ws, rfl, h1, h2, h3⟩ := ht.ex
  have hlen := h3.len
  obtain ⟨hp3, hpf⟩ := fine_parts hf
  have hfit : TermFits t.name t.parts := by
    cases t
    exact fits_small hf hz
  have et : t = .node t.name t.parts := by cases t; rfl
  refine ⟨_, rfl, a, _, _, .ref c, rfl, rfl, SqT.of h1, rfl, c, rfl, ⟨_, SqT.of h2⟩, fun D' hD' => ?_⟩
  refine lc_rel walk_tup hD' (fun H' s => SqT.of (s _ _ h2)) (by omega) (fun j v H' => ∃ u, t.parts[j]? = some u ∧ DueAt (D' :: X) H' v u) ?_ ?_ ?_ ?_
  · rintro j v H1 H2 _ s ⟨u, e, hu⟩
    exact ⟨u, e, hu.mono s⟩
  · rintro j v H1 l l' _ e1 ⟨u, e, hu⟩
    exact ⟨u, e, hu.kept (KeptBut.upd List.mem_cons_self) (Firm.list e1) fun _ h => h⟩
  · intro i x H1 R hx sm ⟨l1, hl1⟩ hR
    obtain ⟨u, hu, hux⟩ := h3.get hx
    have hum := List.mem_of_getElem? hu
    have hlv := levels_part hum
    have hsv := size_part hum
    have hu1 := levels_pos u
    refine ⟨rfl, _, rfl, ?_⟩
    refine hD _ _ _ _ (by omega) ⟨x, u, D' :: X, rfl, hux.mono sm, hpf u hum, by omega, by omega, fun b hb => ?_, fun v' H' k' hv' => hR v' H' k' ⟨u, hu, hv'⟩⟩
    rcases List.mem_cons.mp hb with rfl | hb
    · rw [hl1]; simp
    · intro hn
      cases e : H b with
      | none => exact hX b hb e
      | some o => rw [sm _ _ e] at hn; cases hn
  · intro H1 ys sm hys hyl hyr
    have hds : DuesAt (D' :: X) H1 ys t.parts := rel_dues (by omega) hyr
    refine name_go ?_
    dsimp only
    have hyl' : ys.length = t.parts.length := by omega
    have h1' := sm _ _ h1
    have nDX : D' ∉ X := fun h => hX _ h hD'
    refine ⟨_, rfl, D', rfl, ⟨_, SqL.of hys⟩, for_list (xs := ys) (fun i σ H' => H' = H1 ∧ ∃ v3, σ = [some (.ref a), some (.ref D'), some (.int (T.mostFrom 0 (t.parts.take i) : Nat)), v3, none, none])
      ⟨rfl, none, rfl⟩ (fun i σ H' _ ⟨e, _⟩ => e ▸ SqL.of hys) ?_ ?_⟩
    · rintro i x σ H' hi ⟨rfl, v3, rfl⟩
      obtain ⟨u, e, hu⟩ := hds.get hi
      obtain ⟨ua, ul, uvs, rfl, g1, g2, g3, g4⟩ := hu.ex
      have en : T.mostFrom 0 (t.parts.take (i + 1)) = if u.levels > T.mostFrom 0 (t.parts.take i) then u.levels else T.mostFrom 0 (t.parts.take i) := by
        rw [take_snoc e, mostFrom_snoc]
      refine ⟨_, rfl, ua, _, _, .int u.levels, rfl, rfl, SqT.of g1, rfl, _, rfl, _, _, rfl, rfl, _, rfl, ?_⟩
      refine ite2 (fun c => ?_) (fun c => ?_)
      · have c' : u.levels > T.mostFrom 0 (t.parts.take i) := by
          have := of_decide_eq_true c
          omega
        refine ⟨_, rfl, ua, _, _, .int u.levels, rfl, rfl, SqT.of g1, rfl, rfl, some (.ref ua), ?_⟩
        rw [en, if_pos c']
        rfl
      · have c' : ¬ u.levels > T.mostFrom 0 (t.parts.take i) := by
          have := of_decide_eq_false (Bool.eq_false_iff.mpr c)
          omega
        refine ⟨rfl, some (.ref ua), ?_⟩
        rw [en, if_neg c']
        rfl
    · rintro σ H' ⟨rfl, v3, rfl⟩
      rw [hyl', List.take_length]
      refine ⟨_, rfl, a, _, _, .str t.name, rfl, rfl, SqT.of h1', rfl, ?_⟩
      refine name_go ?_
      dsimp only
      refine seq_join (fun σ H2 => ∃ v3, σ = [some (.ref a), some (.ref D'), some (.int (T.mostFrom 0 t.parts : Nat)), v3, some (.str t.term), none] ∧ Same H' H2) (fun nx hnx => ?_) ?_
      · refine ⟨_, rfl, D', _, rfl, .inl (SqL.of hys), _, _, rfl, rfl, _, rfl, ?_⟩
        refine ite2 (fun cp => ?_) (fun cp => ?_)
        · have ne : t.parts ≠ [] := fun e => by
            rw [e] at hyl'
            have := of_decide_eq_true cp
            simp [hyl'] at this
          obtain ⟨l1, l2, l3⟩ := hfit
          have lt : (T.terms t.parts).length = t.parts.length := by rw [terms_map, List.length_map]
          have lj := join_len (T.terms t.parts)
          rw [lt] at lj
          have lo : ("(" : Str).length = 1 := by decide
          have lc : (")" : Str).length = 1 := by decide
          have b1 : t.name.length + ("(" : Str).length ≤ sizeLine := by omega
          refine ⟨_, rfl, _, _, rfl, rfl, b1, ⟨_, rfl⟩, _, rfl, D', rfl, ⟨_, SqL.of hys⟩, fun D2 hD2 => lc_map (ys := (T.terms t.parts).map V.str) walk_list hD2 (fun H' s => SqL.of (s _ _ hys)) (by rw [terms_map]; simp [hyl']) (by omega) (fun i x y H2 R hx hy s2 hR => ?_) ?_⟩
          · obtain ⟨u, e, hu⟩ := hds.get hx
            obtain ⟨ua, ul, uvs, rfl, g1, g2, g3, g4⟩ := hu.ex
            rw [terms_map, List.map_map] at hy
            have ey := get_map (f := V.str ∘ T.term) e hy
            subst ey
            exact ⟨rfl, _, rfl, ua, _, _, .str u.term, rfl, rfl, SqT.of (s2 _ _ g1), rfl, hR⟩
          · have hsum : ((T.terms t.parts).map (·.length)).sum + (T.terms t.parts).length * (", " : Str).length ≤ 16777216 := by
              have h3 : (", " : Str).length = 2 := by decide
              rw [lt, h3]
              omega
            have b2 : (t.name ++ "(" : Str).length + (Txt.join ", " (T.terms t.parts)).length ≤ sizeLine := by rw [add_len]; omega
            have b3 : (t.name ++ "(" ++ Txt.join ", " (T.terms t.parts) : Str).length + (")" : Str).length ≤ sizeLine := by rw [add_len, add_len]; omega
            refine ⟨_, D2, T.terms t.parts, rfl, rfl, .inl (SqL.of upd_same), hsum, _, _, rfl, rfl, b2, _, _, rfl, rfl, b3, ?_⟩
            refine hnx _ _ ⟨v3, ?_, sameN hD2⟩
            have e : t.name ++ "(" ++ Txt.join ", " (T.terms t.parts) ++ ")" = t.term := by rw [← term_cons t.name ne, ← et]
            rw [e]
            rfl
        · have e0 : t.parts = [] := by
            have := of_decide_eq_false (Bool.eq_false_iff.mpr cp)
            exact List.eq_nil_of_length_eq_zero (by omega)
          have et2 : t.term = t.name := by
            rw [et, e0]
            unfold T.term
            rfl
          refine hnx _ _ ⟨v3, ?_, Same.refl _⟩
          rw [et2]
          rfl
      · rintro σ H2 ⟨v3, rfl, s2⟩
        refine ⟨_, rfl, D', rfl, ⟨_, SqL.of (s2 _ _ hys)⟩, fun D2 hD2 => lc_map (ys := (t.parts.map fun u => (u.size : Int)).map V.int) walk_list hD2 (fun H' s => SqL.of (s _ _ (s2 _ _ hys))) (by simp [hyl']) (by omega) (fun i x y H3 R hx hy s3 hR => ?_) ?_⟩
        · obtain ⟨u, e, hu⟩ := hds.get hx
          obtain ⟨ua, ul, uvs, rfl, g1, g2, g3, g4⟩ := hu.ex
          rw [List.map_map] at hy
          have ey := get_map (f := V.int ∘ fun u => (u.size : Int)) e hy
          subst ey
          exact ⟨rfl, _, rfl, ua, _, _, .int u.size, rfl, rfl, SqT.of (s3 _ _ (s2 _ _ g1)), rfl, hR⟩
        · have s4 := sameN (o := .lst ((t.parts.map fun u => (u.size : Int)).map V.int)) hD2
          refine ⟨D2, _, rfl, SqL.of upd_same, _, _, rfl, rfl, ?_⟩
          refine name_go ?_
          dsimp only
          have h1'' := s4 _ _ (s2 _ _ h1')
          have hys'' := s4 _ _ (s2 _ _ hys)
          refine ⟨_, rfl, _, rfl, _, _, rfl, rfl, _, rfl, _, rfl, a, _, _, .str t.name, rfl, rfl, SqT.of h1'', rfl, _, rfl, by (show 5 ≤ sizeLine; omega), fun b nb => ?_⟩
          have s5 := sameN (o := .tup [V.int (1 + (t.parts.map fun u => (u.size : Int)).sum), .int (1 + (T.mostFrom 0 t.parts : Nat)), .str t.term, .str t.name, .ref D']) nb
          have s25 := s2.trans (s4.trans s5)
          have k25 : KeptBut (D' :: X) H' _ := KeptBut.of s25
          refine q _ _ (sm.trans s25) (.mk (l := D') (vs := ys) ?_ nDX (s25 _ _ hys) (hds.kept k25 (.of s25) fun _ h => List.mem_cons_of_mem _ h))
          rw [upd_same]
          have e1 : (1 + (t.parts.map fun u => (u.size : Int)).sum : Int) = (t.size : Int) := by
            rw [sizes_sum]
            conv => rhs; rw [et, size_node]
            omega
          have e2 : (1 + (T.mostFrom 0 t.parts : Nat) : Int) = (t.levels : Int) := by
            conv => rhs; rw [et, levels_node]
            omega
          unfold dueV
          dsimp only
          rw [e1, e2]
theorem ok_told (ml : mg "len" = none) (hs : mg "sum" = none) {f : Addr} {fd : FuncData} (F : Fun K "_law_told" "_law_told" sTold f fd) (gm : Gf K mg "_law_told" f) : ∀ D : Nat, FnR P w K mg base CX0 (D + 1) f (spTold D)
  | 0 => told_step ml hs F gm (sp := fun _ _ _ _ => False) (fun _ _ _ _ _ _ _ _ _ _ _ hs => hs.elim) fun _ _ _ _ h => absurd rfl h
  | D + 1 => told_step ml hs F gm (ok_told ml hs F gm D) fun _ _ _ _ _ h => h
end
end Tw
set_option maxHeartbeats 4000000
/-! The law's six trees. -/
namespace Tw
open PySem PySem.Spec PyProof.Rows L2
abbrev sChained : Stmt := top 26
abbrev sSix : Stmt := top 27
def rLenQ (K : PySem.W.Frag) : List V → Hp → VK → Prop := fun xs H Q => ∃ a ys, xs = [.ref a] ∧ (SqL K H a ys ∨ SqT K H a ys) ∧ Q (.int ys.length) H
/-- names[draw(pool, len(names))] -/
theorem rd_nm {K : PySem.W.Frag} {σ : L2.St} {H : Hp} {Q : VK} {i j : Nat} {p r nl : Addr} (h1 : σ[i]? = some (some (.ref nl))) (h2 : σ[j]? = some (some (.ref p))) (hp : PoolAt H p r) (hn : NamesAt H nl) (nn : nl ∉ [p, r])
    (hQ : ∀ n H', bigName n.cps.toList = true → PoolAt H' p r → KeptBut [p, r] H H' → Firm H H' → Q (.str n) H') :
    tOp (rIxL K) (tVar i) (tCf spDraw E0 (tCons (tVar j) (tCons (tCB (rLenQ K) (tCons (tVar i) tNil)) tNil))) σ H Q := by
  obtain ⟨names, hnl, nne, nle, nbig⟩ := hn
  have nlen : 0 < names.length := List.length_pos_iff.mpr nne
  refine ⟨_, h1, _, h2, _, h1, nl, _, rfl, .inl (SqL.of hnl), p, r, names.length, ?_, hp, nlen, by omega, fun d H4 hd p4 kb4 f4 => ?_⟩
  · rw [List.length_map]
  have hnm : ∃ n, names[d]? = some n := ⟨_, List.getElem?_eq_getElem hd⟩
  obtain ⟨n, hnd⟩ := hnm
  exact ⟨nl, _, _, .str n, rfl, rfl, SqL.of (kb4 _ _ hnl nn), atI_nat (by rw [List.getElem?_map, hnd] <;> rfl), hQ n H4 (nbig n (List.mem_of_getElem? hnd)) p4 kb4 f4⟩
def spChained (L S : Nat) : Sp := fun vs H Q _ => ∃ (p r nl : Addr) (v : V) (t : T), vs = [.ref p, .ref nl, v] ∧ PoolAt H p r ∧ NamesAt H nl ∧ nl ∉ [p, r] ∧ TupAt H v t ∧ t.fine = true ∧ t.levels ≤ L ∧ t.size ≤ S ∧
  ∀ v' t' H', TupAt H' v' t' → t'.fine = true → t'.levels ≤ L + 50 → t'.size ≤ S + 100 → PoolAt H' p r → KeptBut [p, r] H H' → Firm H H' → Q v' H'
section
variable {P : Program} {w : World} {K : PySem.W.Frag} {mg : Str → Option Value} {base : Heap}
theorem scCh : FnScope ["pool", "names", "tree", "k", "name", "beside", "shape"] ["pool", "names", "tree"] (defScope sChained) := ⟨rfl, rfl, rfl, by decide +kernel, rfl, by decide +kernel, by decide +kernel⟩
theorem ok_chained {L S : Nat} {fd0 : Addr} (gd : Gf K mg "_law_draw" fd0) (Fd : FnR P w K mg base CX0 1 fd0 spDraw) (mr : mg "range" = none) (ml : mg "len" = none) {f : Addr} {fd : FuncData} (F : Fun K "_law_chained" "_law_chained" sChained f fd) : FnR P w K mg base CX0 2 f (spChained L S) := by
  refine okR F scCh (fun vs H Q E h => ?_) (fun _ _ _ _ _ _ us hl => match us, hl with | [_, _, _], _ => rfl) (fun cdv A outer s H vs Q E hr h => ?_)
  · obtain ⟨p, r, nl, v, t, rfl, _⟩ := h
    rfl
  obtain ⟨p, r, nl, v, t, rfl, hp, hn, nnl, ht, hf, hl, hz, q⟩ := h
  refine ⟨_, pss_cons (ps_for PassesOwn.never rfl (pi_range1 (by rfl) mr (pa_cons (pe_op op_add pe_int (pe_cf Fd hr gd pass0 (pa_cons (pv 0) (pa_cons pe_int pa_nil)))) pa_nil)) (pg_name (i := 3) scCh.nd rfl (Or.inl rfl))
      (pss_cons (ps_set (i := 4) scCh.nd rfl (Or.inl rfl) (pe_ix ix_list (pv 1) (pe_cf Fd hr gd pass0 (pa_cons (pv 0) (pa_cons (pe_callB (r := rLenQ _) call_len_seq (by rfl) ml PySem.boot_len (pa_cons (pv 1) pa_nil)) pa_nil))) (fun _ _ => rfl)))
      (pss_cons (ps_set (i := 5) scCh.nd rfl (Or.inl rfl) (pe_tup (pa_cons (pe_ix ix_list (pv 1) (pe_cf Fd hr gd pass0 (pa_cons (pv 0) (pa_cons (pe_callB (r := rLenQ _) call_len_seq (by rfl) ml PySem.boot_len (pa_cons (pv 1) pa_nil)) pa_nil))) (fun _ _ => rfl)) (pa_cons (pe_tup pa_nil) pa_nil))))
      (pss_cons (ps_set (i := 6) scCh.nd rfl (Or.inl rfl) (pe_cf Fd hr gd pass0 (pa_cons (pv 0) (pa_cons pe_int pa_nil))))
      (pss_one (ps_set (i := 2) scCh.nd rfl (Or.inl rfl) (pe_tup (pa_cons (pv 4) (pa_cons (pe_ix ix_list (pe_lst (pa_cons (pe_tup (pa_cons (pv 2) pa_nil)) (pa_cons (pe_tup (pa_cons (pv 2) (pa_cons (pv 5) pa_nil))) (pa_cons (pe_tup (pa_cons (pv 5) (pa_cons (pv 2) pa_nil))) pa_nil)))) (pv 6) (fun _ _ => rfl)) pa_nil)))))))))
    (pss_one (ps_ret (pv 2))), ?_⟩
  have sl := sizeLine_eq
  refine ⟨_, rfl, p, r, 50, rfl, hp, by decide, by decide, fun d H1 hd p1 kb1 f1 => ⟨_, _, rfl, rfl, ?_⟩⟩
  refine ⟨_, rfl, by omega, by omega, ?_⟩
  obtain ⟨m, hm, hm50⟩ : ∃ m : Nat, (1 + (d : Int)).toNat = m ∧ m ≤ 50 := ⟨_, rfl, by omega⟩
  rw [hm]
  refine for_range (n := m) (fun i σ H' => ∃ (v : V) (t : T) (w3 w4 w5 w6 : Option V), σ = [some (.ref p), some (.ref nl), some v, w3, w4, w5, w6] ∧ TupAt H' v t ∧ t.fine = true ∧ t.levels ≤ L + i ∧ t.size ≤ S + 2 * i ∧ PoolAt H' p r ∧ KeptBut [p, r] H H' ∧ Firm H H')
    ⟨v, t, none, none, none, none, rfl, ht.firm f1, hf, hl, hz, p1, kb1, f1⟩ ?_ ?_
  · clear ht hf hl hz hp p1 kb1 f1
    rintro i σ H2 hi ⟨v, t, w3, w4, w5, w6, rfl, ht, hf, hl, hz, p2, kb2, f2⟩
    refine name_go ?_
    dsimp only
    refine rd_nm rfl rfl p2 (hn.kept kb2 nnl) nnl fun n H3 hb p3 k3 f3 => ?_
    refine name_go ?_
    dsimp only
    refine rd_nm rfl rfl p3 (hn.kept (kb2.trans k3) nnl) nnl fun n' H4 hb' p4 k4 f4 => ?_
    refine ⟨Nat.zero_le _, fun c nc => ⟨by (show 2 ≤ sizeLine; omega), fun b nb => ?_⟩⟩
    refine name_go ?_
    dsimp only
    have s5 := sameN (o := .tup []) nc
    have s6 := sameN (o := .tup [V.str n', .ref c]) nb
    have hbs : TupAt (upd (upd H4 c (.tup [])) b (.tup [V.str n', .ref c])) (.ref b) (.node n' []) := .mk upd_same (s6 _ _ upd_same) .nil
    have s56 := s5.trans s6
    have p6 := p4.same s56
    have kb6 := kb2.trans (k3.trans (k4.trans (.of s56)))
    have f6 := f2.trans (f3.trans (f4.trans (.of s56)))
    have ht6 := ht.firm (f3.trans (f4.trans (.of s56)))
    generalize (upd (upd H4 c (.tup [])) b (.tup [V.str n', .ref c])) = H6 at hbs p6 kb6 f6 ht6 ⊢
    refine ⟨_, rfl, p, r, 3, rfl, p6, by decide, by decide, fun e H7 he p7 kb7 f7 => ?_⟩
    refine name_go ?_
    dsimp only
    have kb7' := kb6.trans kb7
    have f7' := f6.trans f7
    have ht7 := ht6.firm f7
    have hbs7 := hbs.firm f7
    have fb : (T.node n' []).fine = true := fine_big hb' (Nat.zero_le _) (by unfold T.fines; rfl)
    have lb : (T.node n' []).levels = 1 := by rw [levels_node]; unfold T.mostFrom; rfl
    have zb : (T.node n' []).size = 1 := by rw [size_node]; unfold T.sizes; rfl
    have lt1 := levels_pos t
    refine ⟨_, rfl, _, rfl, by (show 1 ≤ sizeLine; omega), fun q1 nq1 => ?_⟩
    have t1 := sameN (o := .tup [v]) nq1
    refine ⟨_, rfl, _, rfl, by (show 2 ≤ sizeLine; omega), fun q2 nq2 => ?_⟩
    have t2 := sameN (o := .tup [v, .ref b]) nq2
    refine ⟨_, rfl, _, rfl, by (show 2 ≤ sizeLine; omega), fun q3 nq3 => ?_⟩
    have t3 := sameN (o := .tup [.ref b, v]) nq3
    refine ⟨by (show 3 ≤ sizeLine; omega), fun ql nql => ?_⟩
    have t4 := sameN (o := .lst [V.ref q1, .ref q2, .ref q3]) nql
    have e1 := t4 _ _ (t3 _ _ (t2 _ _ (upd_same (H := H7) (a := q1) (o := .tup [v]))))
    have e2 := t4 _ _ (t3 _ _ (upd_same (H := upd H7 q1 (.tup [v])) (a := q2) (o := .tup [v, .ref b])))
    have e3 := t4 _ _ (upd_same (H := upd (upd H7 q1 (.tup [v])) q2 (.tup [v, .ref b])) (a := q3) (o := .tup [.ref b, v]))
    have e4 := upd_same (H := upd (upd (upd H7 q1 (.tup [v])) q2 (.tup [v, .ref b])) q3 (.tup [.ref b, v])) (a := ql) (o := .lst [V.ref q1, .ref q2, .ref q3])
    have t14 := t1.trans (t2.trans (t3.trans t4))
    generalize (upd (upd (upd (upd H7 q1 (.tup [v])) q2 (.tup [v, .ref b])) q3 (.tup [.ref b, v])) ql (.lst [V.ref q1, .ref q2, .ref q3])) = H8 at e1 e2 e3 e4 t14 ⊢
    have fin : ∀ (x : Addr) (xs : List V) (ts : List T) (a : Addr), H8 x = some (.tup xs) → TupsAt H8 xs ts → ts.length ≤ 3 → T.fines ts = true → (∀ u ∈ ts, u.levels ≤ L + i) → T.sizes ts ≤ S + 2 * i + 1 → H8 a = none →
        ∃ (v' : V) (t' : T) (w3 w4 w5 w6 : Option V), [some (V.ref p), some (.ref nl), some (.ref a), some (.int (0 + (i : Int))), some (.str n), some (.ref b), some (.int (e : Int))] = [some (V.ref p), some (.ref nl), some v', w3, w4, w5, w6] ∧ TupAt (upd H8 a (.tup [.str n, .ref x])) v' t' ∧ t'.fine = true ∧ t'.levels ≤ L + (i + 1) ∧ t'.size ≤ S + 2 * (i + 1) ∧
          PoolAt (upd H8 a (.tup [.str n, .ref x])) p r ∧ KeptBut [p, r] H (upd H8 a (.tup [.str n, .ref x])) ∧ Firm H (upd H8 a (.tup [.str n, .ref x])) := by
      intro x xs ts a h1 h2 h3 h4 h5 h6 na
      have s9 := sameN (o := .tup [V.str n, .ref x]) na
      refine ⟨.ref a, .node n ts, _, _, _, _, rfl, .mk upd_same (s9 _ _ h1) (h2.firm (.of s9)), fine_big hb h3 h4, ?_, ?_, p7.same (t14.trans s9), kb7'.trans (.of (t14.trans s9)), f7'.trans (.of (t14.trans s9))⟩
      · have := levels_of (n := n) h5
        omega
      · rw [size_node]
        omega
    have htv := ht7.mono t14
    have hbv := hbs7.mono t14
    have f1 : T.fines [t] = true := by unfold T.fines; rw [hf]; unfold T.fines; rfl
    have f2' : T.fines [t, .node n' []] = true := by unfold T.fines; rw [hf]; unfold T.fines; rw [fb]; unfold T.fines; rfl
    have f3' : T.fines [.node n' [], t] = true := by unfold T.fines; rw [fb]; unfold T.fines; rw [hf]; unfold T.fines; rfl
    have z1 : T.sizes [t] = t.size := by unfold T.sizes; unfold T.sizes; omega
    have z2 : T.sizes [t, .node n' []] = t.size + 1 := by unfold T.sizes; unfold T.sizes; rw [zb]; unfold T.sizes; omega
    have z3 : T.sizes [.node n' [], t] = t.size + 1 := by unfold T.sizes; rw [zb]; unfold T.sizes; unfold T.sizes; omega
    match e, he with
    | 0, _ =>
      refine ⟨_, rfl, ql, _, _, .ref q1, rfl, rfl, SqL.of e4, rfl, by (show 2 ≤ sizeLine; omega), fun a na => ?_⟩
      exact fin q1 _ [t] a e1 (.cons htv .nil) (by show 1 ≤ 3; decide) f1 (fun u hu => by rw [List.mem_singleton.mp hu]; exact hl) (by omega) na
    | 1, _ =>
      refine ⟨_, rfl, ql, _, _, .ref q2, rfl, rfl, SqL.of e4, rfl, by (show 2 ≤ sizeLine; omega), fun a na => ?_⟩
      exact fin q2 _ [t, .node n' []] a e2 (.cons htv (.cons hbv .nil)) (by show 2 ≤ 3; decide) f2' (fun u hu => by simp at hu; rcases hu with rfl | rfl <;> omega) (by omega) na
    | 2, _ =>
      refine ⟨_, rfl, ql, _, _, .ref q3, rfl, rfl, SqL.of e4, rfl, by (show 2 ≤ sizeLine; omega), fun a na => ?_⟩
      exact fin q3 _ [.node n' [], t] a e3 (.cons hbv (.cons htv .nil)) (by show 2 ≤ 3; decide) f3' (fun u hu => by simp at hu; rcases hu with rfl | rfl <;> omega) (by omega) na
    | e + 3, he => exact absurd he (by omega)
  · rintro σ H2 ⟨v, t, w3, w4, w5, w6, rfl, ht, hf, hl, hz, p2, kb2, f2⟩
    exact ⟨_, rfl, q v t H2 ht hf (by omega) (by omega) p2 kb2 f2⟩
end
end Tw
set_option maxHeartbeats 4000000
/-! The law's six trees. -/
namespace Tw
open PySem PySem.Spec PyProof.Rows L2
mutual
theorem size_pow : ∀ {t : T}, t.fine = true → 2 * t.size + 1 ≤ 3 ^ t.levels
  | .node n ps, h => by
    obtain ⟨h1, h2⟩ := fine_parts h
    have h3 : ps.length ≤ 3 := h1
    have h4 := sizes_pow (ps := ps) (k := T.mostFrom 0 ps) h2 fun u hu => mostFrom_mem hu
    rw [size_node, levels_node, Nat.pow_add]
    have hx : 0 < 3 ^ T.mostFrom 0 ps := Nat.pow_pos (by decide)
    generalize 3 ^ T.mostFrom 0 ps = x at h4 hx ⊢
    generalize ps.length = l at h3 h4
    match l, h3 with
    | 0, _ => omega
    | 1, _ => omega
    | 2, _ => omega
    | 3, _ => omega
    | l + 4, h => omega
theorem sizes_pow {k : Nat} : ∀ {ps : List T}, (∀ u ∈ ps, u.fine = true) → (∀ u ∈ ps, u.levels ≤ k) → 2 * T.sizes ps + ps.length ≤ ps.length * 3 ^ k
  | [], _, _ => by unfold T.sizes; simp
  | p :: r, h, hl => by
    have h1 := size_pow (h p List.mem_cons_self)
    have h2 := sizes_pow (k := k) (ps := r) (fun u hu => h u (List.mem_cons_of_mem _ hu)) fun u hu => hl u (List.mem_cons_of_mem _ hu)
    have h3 : 3 ^ p.levels ≤ 3 ^ k := Nat.pow_le_pow_right (by decide) (hl p List.mem_cons_self)
    unfold T.sizes
    rw [List.length_cons, Nat.add_mul, Nat.one_mul]
    omega
end
theorem big_cut {z : Str} {a b : List Nat} (h : bigName z.cps.toList = true) : bigName ((z.cps.toList ++ [48, 65]).take 8) = true ∧ bigName (z.cps.toList.take 1) = true := by
  match e : z.cps.toList with
  | [] => rw [e] at h; cases h
  | c :: r =>
    rw [e] at h
    have h' : (isCap c && (c :: r).all isWord && decide (r.length < 8)) = true := h
    rw [Bool.and_eq_true, Bool.and_eq_true] at h'
    obtain ⟨⟨h1, h2⟩, h3⟩ := h'
    have hw : isWord c = true := by
      rw [List.all_cons, Bool.and_eq_true] at h2
      exact h2.1
    constructor
    · show (isCap c && (c :: (r ++ [48, 65]).take 7).all isWord && decide (((r ++ [48, 65]).take 7).length < 8)) = true
      have h4 : ((c :: (r ++ [48, 65]).take 7).all isWord) = true := by
        rw [List.all_eq_true] at h2 ⊢
        intro x hx
        rcases List.mem_cons.mp hx with rfl | hx
        · exact hw
        · have := List.mem_of_mem_take hx
          rcases List.mem_append.mp this with h | h
          · exact h2 x (List.mem_cons_of_mem _ h)
          · simp at h
            rcases h with rfl | rfl <;> decide
      rw [h1, h4, decide_eq_true (by rw [List.length_take]; omega)]
      rfl
    · show (isCap c && [c].all isWord && decide (([] : List Nat).length < 8)) = true
      rw [h1]
      simp [hw]
end Tw
set_option maxHeartbeats 4000000
/-! The law's six trees. -/
namespace Tw
open PySem PySem.Spec PyProof.Rows L2
/-- a right tree of the law -/
structure Ok (t : T) : Prop where
  fine : t.fine = true
  size : t.size ≤ 9000
  levels : t.levels ≤ 58
theorem Ok.of {t : T} (h : t.fine = true) (hl : t.levels ≤ 8) : Ok t := by
  have h1 := size_pow h
  have h2 : 3 ^ t.levels ≤ 3 ^ 8 := Nat.pow_le_pow_right (by decide) hl
  have h3 : 3 ^ 8 = 6561 := by decide
  exact ⟨h, by omega, by omega⟩
theorem TupsAt.mono {H H' : Hp} (s : Same H H') {vs : List V} {ts : List T} (h : TupsAt H vs ts) : TupsAt H' vs ts := h.firm (.of s)
def spSix : Sp := fun vs H Q _ => ∃ (p r : Addr), vs = [.ref p] ∧ PoolAt H p r ∧ ∀ l us ts H', H' l = some (.lst us) → H l = none → TupsAt H' us ts → ts.length = 6 → (∀ t ∈ ts, Ok t) → PoolAt H' p r → KeptBut [p, r] H H' → Firm H H' → Q (.ref l) H'
theorem cut0 {z : Str} {e : Nat} : cutS z none (some (e : Int)) = mkS (z.cps.toList.take e) := by
  refine str_ext ?_
  rw [mkS_list]
  unfold cutS
  rw [HT.sIx_nat, HT.sIx_none]
  show ((z.cps.toList.drop 0).take (min e z.length - 0)).toArray.toList = _
  rw [List.toList_toArray, List.drop_zero, Nat.sub_zero]
  by_cases h : e ≤ z.length
  · rw [Nat.min_eq_left h]
  · rw [Nat.min_eq_right (by omega), List.take_of_length_le (by rw [len_list] <;> omega), List.take_of_length_le (by rw [len_list]; omega)]
theorem KeptBut.fresh {l : List Addr} {H H1 H2 : Hp} {a : Addr} {o : HO} (k : KeptBut l H H1) (n : H1 a = none) (ha : a ∉ l) (k2 : KeptBut (l ++ [a]) (L2.upd H1 a o) H2) : KeptBut l H H2 := by
  intro b x e nb
  have e1 := k b x e nb
  have ne := ne_of_none e1 n
  exact k2 b x (by rw [upd_ne ne]; exact e1) (by simp [nb, ne])
/-- the pool and the names, as they stand -/
structure SixSt (H H1 : Hp) (p r nl : Addr) : Prop where
  pool : PoolAt H1 p r
  names : NamesAt H1 nl
  kept : KeptBut [p, r] H H1
  firm : Firm H H1
theorem SixSt.more {H H1 H2 : Hp} {p r nl : Addr} (s : SixSt H H1 p r nl) (k : Same H1 H2) : SixSt H H2 p r nl := by
  obtain ⟨a, ⟨names, e, r⟩, c, d⟩ := s
  exact ⟨a.same k, ⟨names, k _ _ e, r⟩, c.trans (.of k), d.trans (.of k)⟩
theorem SixSt.drawn {H H1 H2 : Hp} {p r nl : Addr} (S : SixSt H H1 p r nl) (npr : nl ∉ [p, r]) (p' : PoolAt H2 p r) (k' : KeptBut [p, r] H1 H2) (f' : Firm H1 H2) : SixSt H H2 p r nl := ⟨p', S.names.kept k' npr, S.kept.trans k', S.firm.trans f'⟩
theorem SixSt.fresh {H H1 : Hp} {p r nl ro : Addr} (S : SixSt H H1 p r nl) (nro : H1 ro = none) : ro ∉ [p, r] ∧ nl ≠ ro ∧ H ro = none := by
  have ro1 : ro ∉ [p, r] := fun h => by
    obtain ⟨_, rows, sd, c, e1, e2, _⟩ := S.pool
    simp at h
    rcases h with rfl | rfl
    · rw [e1] at nro; cases nro
    · rw [e2] at nro; cases nro
  refine ⟨ro1, fun h => ?_, ?_⟩
  · obtain ⟨names, e, _⟩ := S.names
    rw [← h, e] at nro; cases nro
  · cases h : H ro with
    | none => rfl
    | some o => exact absurd (S.kept _ _ h ro1) (by rw [nro]; simp)
theorem three {p r nl ro : Addr} (npr : nl ∉ [p, r]) (ron : nl ≠ ro) : nl ∉ [p, r, ro] := fun h => by
  rcases List.mem_append.mp (show nl ∈ [p, r] ++ [ro] from h) with h | h
  · exact npr h
  · exact ron (by simpa using h)
theorem SixSt.grown {H H1 H2 : Hp} {p r nl ro : Addr} (S : SixSt H H1 p r nl) (nn : nl ∉ [p, r, ro]) (hro : H ro = none) (p' : PoolAt H2 p r) (k' : KeptBut [p, r, ro] H1 H2) (f' : Firm H1 H2) : SixSt H H2 p r nl := by
  refine ⟨p', S.names.kept k' nn, fun b o e nb => k' b o (S.kept b o e nb) fun h => ?_, S.firm.trans f'⟩
  rcases List.mem_append.mp (show b ∈ [p, r] ++ [ro] from h) with h | h
  · exact nb h
  · have : b = ro := by simpa using h
    subst this
    rw [hro] at e
    cases e
section
variable {P : Program} {w : World} {K : PySem.W.Frag} {mg : Str → Option Value} {base : Heap}
theorem scSx : FnScope ["pool", "first", "names", "one", "two", "top", "room", "large", "last"] ["pool"] (defScope sSix) := ⟨rfl, rfl, rfl, by decide +kernel, rfl, by decide +kernel, by decide +kernel⟩
theorem ok_six {fd0 fn fg fm fc : Addr} (gd : Gf K mg "_law_draw" fd0) (Fd : FnR P w K mg base CX0 1 fd0 spDraw) (gn : Gf K mg "_law_name_of" fn) (Fn : FnR P w K mg base CX0 2 fn spName) (gg : Gf K mg "_law_grow" fg) (Fg : ∀ D : Nat, FnR P w K mg base CX0 (D + 2) fg (spGrow D))
    (gm : Gf K mg "_law_mirrored" fm) (Fm : FnR P w K mg base CX0 5 fm (spMirror 4)) (gc : Gf K mg "_law_chained" fc) (Fc : FnR P w K mg base CX0 2 fc (spChained 7 1093)) (ml : mg "len" = none) {f : Addr} {fd : FuncData} (F : Fun K "_law_six" "_law_six" sSix f fd) : FnR P w K mg base CX0 10 f spSix := by
  refine okR F scSx (fun vs H Q E h => ?_) (fun _ _ _ _ _ _ us hl => match us, hl with | [_], _ => rfl) (fun cdv A outer s H vs Q E hr h => ?_)
  · obtain ⟨p, r, rfl, _⟩ := h
    rfl
  obtain ⟨p, r, rfl, hp, q⟩ := h
  have hr1 : Room 1 _ := hr.mono (by decide)
  have hr2 : Room 2 _ := hr.mono (by decide)
  have hr5 : Room 5 _ := hr.mono (by decide)
  have hr6 : Room 6 _ := hr.mono (by decide)
  have hr8 : Room 8 _ := hr.mono (by decide)
  refine ⟨_, pss_cons (ps_set (i := 1) scSx.nd rfl (Or.inl rfl) (pe_cf Fn hr2 gn pass0 (pa_cons (pv 0) pa_nil)))
    (pss_cons (ps_set (i := 2) scSx.nd rfl (Or.inl rfl) (pe_lst (pa_cons (pv 1) (pa_cons (pe_slice sl_str (pe_op op_add_str (pv 1) pe_str) po_none (po_some pe_int)) (pa_cons (pe_slice sl_str (pv 1) po_none (po_some pe_int)) pa_nil)))))
    (pss_cons (ps_expr (pe_bm PySem.F.plainAttrs_list PySem.F.slot_list_append PySem.F.type_list_append mt_append (pv 2) (pa_cons (pe_cf Fn hr2 gn pass0 (pa_cons (pv 0) pa_nil)) pa_nil)))
    (pss_cons (ps_expr (pe_bm PySem.F.plainAttrs_list PySem.F.slot_list_append PySem.F.type_list_append mt_append (pv 2) (pa_cons (pe_cf Fn hr2 gn pass0 (pa_cons (pv 0) pa_nil)) pa_nil)))
    (pss_cons (ps_set (i := 3) scSx.nd rfl (Or.inl rfl) (pe_cf (Fg 4) hr6 gg pass0 (pa_cons (pv 0) (pa_cons (pv 2) (pa_cons (pe_lst (pa_cons (pe_op op_add pe_int (pe_cf Fd hr1 gd pass0 (pa_cons (pv 0) (pa_cons pe_int pa_nil)))) pa_nil)) (pa_cons pe_int pa_nil))))))
    (pss_cons (ps_set (i := 4) scSx.nd rfl (Or.inl rfl) (pe_cf (Fg 6) hr8 gg pass0 (pa_cons (pv 0) (pa_cons (pv 2) (pa_cons (pe_lst (pa_cons (pe_op op_add pe_int (pe_cf Fd hr1 gd pass0 (pa_cons (pv 0) (pa_cons pe_int pa_nil)))) pa_nil)) (pa_cons (pe_cf Fd hr1 gd pass0 (pa_cons (pv 0) (pa_cons pe_int pa_nil))) pa_nil))))))
    (pss_cons (ps_set (i := 5) scSx.nd rfl (Or.inl rfl) (pe_ix ix_tup (pv 3) pe_int (fun _ _ => rfl)))
    (pss_cons (ps_if (pt_cmpR op_notIn_str (pv 5) pe_str (by rfl)) (pss_one (ps_set (i := 5) scSx.nd rfl (Or.inl rfl) (pe_ix ix_list (pv 2) (pe_cf Fd hr1 gd pass0 (pa_cons (pv 0) (pa_cons (pe_callB (r := rLenQ _) call_len_seq (by rfl) ml PySem.boot_len (pa_cons (pv 2) pa_nil)) pa_nil))) (fun _ _ => rfl)))) pss_nil)
    (pss_cons (ps_set (i := 6) scSx.nd rfl (Or.inl rfl) (pe_ix ix_list (pe_lst (pa_cons pe_int (pa_cons pe_int (pa_cons pe_int (pa_cons pe_int pa_nil))))) (pe_cf Fd hr1 gd pass0 (pa_cons (pv 0) (pa_cons pe_int pa_nil))) (fun _ _ => rfl)))
    (pss_cons (ps_set (i := 7) scSx.nd rfl (Or.inl rfl) (pe_cf (Fg 7) hr gg pass0 (pa_cons (pv 0) (pa_cons (pv 2) (pa_cons (pe_lst (pa_cons (pv 6) pa_nil)) (pa_cons pe_int pa_nil))))))
    (pss_cons (ps_set (i := 8) scSx.nd rfl (Or.inl rfl) (pv 4))
    (pss_cons (ps_if (pt_cmpR op_eq (pe_cf Fd hr1 gd pass0 (pa_cons (pv 0) (pa_cons pe_int pa_nil))) pe_int (nomark _)) (pss_one (ps_set (i := 8) scSx.nd rfl (Or.inl rfl) (pe_cf Fc hr2 gc pass0 (pa_cons (pv 0) (pa_cons (pv 2) (pa_cons (pv 4) pa_nil)))))) pss_nil)
    (pss_one (ps_ret (pe_lst (pa_cons (pv 3) (pa_cons (pv 4) (pa_cons (pe_cf Fm hr5 gm pass0 (pa_cons (pv 3) pa_nil)) (pa_cons (pe_tup (pa_cons (pv 5) (pa_cons (pe_ix ix_tup (pv 3) pe_int (fun _ _ => rfl)) pa_nil))) (pa_cons (pv 7) (pa_cons (pv 8) pa_nil)))))))))))))))))))), ?_⟩
  have sl := sizeLine_eq
  refine ⟨_, rfl, p, r, rfl, hp, fun z H1 hz p1 k1 f1 => ?_⟩
  refine name_go ?_
  dsimp only
  have zl : z.length ≤ 8 := name_small (t := .node z []) (fine_big hz (Nat.zero_le _) (by unfold T.fines; rfl))
  have b1 : z.length + ("0A" : Str).length ≤ sizeLine := by
    have : ("0A" : Str).length = 2 := by decide
    omega
  refine ⟨_, rfl, _, rfl, _, _, rfl, rfl, b1, _, rfl, _, rfl, by rw [add_len]; omega, _, rfl, _, rfl, _, rfl, by omega, by (show 3 ≤ sizeLine; omega), fun nl nnl => ?_⟩
  refine name_go ?_
  dsimp only
  have c1 : cutS (z ++ "0A" : Str) none (some 8) = mkS ((z ++ "0A" : Str).cps.toList.take 8) := cut0 (e := 8)
  have c2 : cutS z none (some 1) = mkS (z.cps.toList.take 1) := cut0 (e := 1)
  rw [c1, c2]
  obtain ⟨big1, big2⟩ := big_cut (a := []) (b := []) hz
  have hnm : bigName (mkS ((z ++ "0A" : Str).cps.toList.take 8)).cps.toList = true := by
    rw [mkS_list, add_list]
    exact big1
  have hnm2 : bigName (mkS (z.cps.toList.take 1)).cps.toList = true := by
    rw [mkS_list]
    exact big2
  generalize mkS ((z ++ "0A" : Str).cps.toList.take 8) = n1 at hnm ⊢
  generalize mkS (z.cps.toList.take 1) = n2 at hnm2 ⊢
  have npr : nl ∉ [p, r] := fun h => by
    obtain ⟨_, rows, sd, c, e1, e2, _⟩ := p1
    simp at h
    rcases h with rfl | rfl
    · rw [e1] at nnl; cases nnl
    · rw [e2] at nnl; cases nnl
  have s2 := sameN (o := .lst [V.str z, .str n1, .str n2]) nnl
  have p2 := p1.same s2
  have k2 := k1.trans (.of s2)
  have f2 := f1.trans (.of s2)
  have e2 : (upd H1 nl (.lst [V.str z, .str n1, .str n2])) nl = some (.lst [V.str z, .str n1, .str n2]) := upd_same
  have nlH : H nl = none := by
    cases h : H nl with
    | none => rfl
    | some o => exact absurd (k1 _ _ h npr) (by rw [nnl]; simp)
  generalize upd H1 nl (.lst [V.str z, .str n1, .str n2]) = H2 at p2 k2 f2 e2 ⊢
  refine ⟨_, rfl, .inl ⟨rfl, _, SqL.of e2⟩, _, rfl, p, r, rfl, p2, fun z3 H3 hz3 p3 k3 f3 => ⟨nl, _, _, rfl, rfl, k3 _ _ e2 npr, by (show 3 < sizeLine; omega), ?_⟩⟩
  have ko : ∀ {o : HO} {H' : Hp}, KeptBut [nl] H' (upd H' nl o) := fun {o H'} => KeptBut.upd (by simp)
  have pne : p ∉ [nl] := fun h => npr (by simp at h; simp [h])
  have rne : r ∉ [nl] := fun h => npr (by simp at h; simp [h])
  have p4 : PoolAt (upd H3 nl (.lst ([V.str z, .str n1, .str n2] ++ [.str z3]))) p r := p3.kept ko pne rne
  have k4 : KeptBut [p, r] H (upd H3 nl (.lst ([V.str z, .str n1, .str n2] ++ [.str z3]))) := (k2.trans k3).updNew nlH
  have f4 : Firm H (upd H3 nl (.lst ([V.str z, .str n1, .str n2] ++ [.str z3]))) := (f2.trans f3).trans (Firm.list (k3 _ _ e2 npr))
  have e4 : (upd H3 nl (.lst ([V.str z, .str n1, .str n2] ++ [.str z3]))) nl = some (.lst [V.str z, .str n1, .str n2, .str z3]) := upd_same
  generalize (upd H3 nl (.lst ([V.str z, .str n1, .str n2] ++ [.str z3]))) = H4 at p4 k4 f4 e4 ⊢
  refine ⟨_, rfl, .inl ⟨rfl, _, SqL.of e4⟩, _, rfl, p, r, rfl, p4, fun z5 H5 hz5 p5 k5 f5 => ⟨nl, _, _, rfl, rfl, k5 _ _ e4 npr, by (show 4 < sizeLine; omega), ?_⟩⟩
  have S6 : SixSt H (upd H5 nl (.lst ([V.str z, .str n1, .str n2, .str z3] ++ [.str z5]))) p r nl :=
    ⟨p5.kept ko pne rne, ⟨[z, n1, n2, z3, z5], upd_same, by simp, by show 5 ≤ 5; decide, fun n hn => by simp at hn; rcases hn with rfl | rfl | rfl | rfl | rfl <;> assumption⟩, (k4.trans k5).updNew nlH, (f4.trans f5).trans (Firm.list (k5 _ _ e4 npr))⟩
  generalize (upd H5 nl (.lst ([V.str z, .str n1, .str n2, .str z3] ++ [.str z5]))) = H6 at S6 ⊢
  clear e2 e4 p1 p2 p3 p4 p5 k1 k2 k3 k4 k5 f1 f2 f3 f4 f5 nnl
  have one1 : 1 ≤ sizeLine := by omega
  -- one
  refine ⟨_, rfl, _, rfl, _, rfl, p, r, 12, rfl, S6.pool, by decide, by decide, fun d7 H7 hd7 p7 k7 f7 => ?_⟩
  have S7 := S6.drawn npr p7 k7 f7
  refine ⟨_, _, rfl, rfl, one1, fun ro7 nro7 => ?_⟩
  obtain ⟨u7, w7, x7⟩ := S7.fresh nro7
  have s7 := sameN (o := .lst [V.int (1 + (d7 : Int))]) nro7
  have S7' := S7.more s7
  refine ⟨p, r, nl, ro7, 4, rfl, Nat.le_refl _, S7'.pool, S7'.names, ⟨_, upd_same⟩, three npr w7, u7, fun v1 t1 H8 hv1 hf1 hl1 p8 _ k8 f8 => ?_⟩
  have S8 := S7'.grown (three npr w7) x7 p8 k8 f8
  refine name_go ?_
  dsimp only
  -- two
  refine ⟨_, rfl, _, rfl, _, rfl, p, r, 16, rfl, S8.pool, by decide, by decide, fun d9 H9 hd9 p9 k9 f9 => ?_⟩
  have S9 := S8.drawn npr p9 k9 f9
  refine ⟨_, _, rfl, rfl, one1, fun ro9 nro9 => ?_⟩
  obtain ⟨u9, w9, x9⟩ := S9.fresh nro9
  have s9 := sameN (o := .lst [V.int (1 + (d9 : Int))]) nro9
  have S9' := S9.more s9
  have e9 : (upd H9 ro9 (.lst [V.int (1 + (d9 : Int))])) ro9 = some (.lst [.int (1 + (d9 : Int))]) := upd_same
  refine ⟨_, rfl, p, r, 7, rfl, S9'.pool, by decide, by decide, fun dA HA hdA pA kA fA => ?_⟩
  have SA := S9'.drawn npr pA kA fA
  refine ⟨p, r, nl, ro9, dA, rfl, by omega, SA.pool, SA.names, ⟨_, kA _ _ e9 u9⟩, three npr w9, u9, fun v2 t2 HB hv2 hf2 hl2 pB _ kB fB => ?_⟩
  have SB := SA.grown (three npr w9) x9 pB kB fB
  refine name_go ?_
  dsimp only
  have hv1B := hv1.firm (f9.trans ((Firm.of s9).trans (fA.trans fB)))
  obtain ⟨a1, c1, ws1, rfl, g1, g2, g3⟩ := hv1B.ex
  -- top
  refine ⟨_, rfl, a1, _, _, .str t1.name, rfl, rfl, SqT.of g1, rfl, ?_⟩
  refine name_go ?_
  dsimp only
  clear f7 k7 p7 s7 S7' S7 S8 f8 k8 p8 f9 k9 p9 S9 S9' s9 e9 fA kA pA SA kB fB pB S6 hv1
  refine seq_join (fun σ H' => ∃ top : Str, σ = [some (.ref p), some (.str z), some (.ref nl), some (.ref a1), some v2, some (.str top), none, none, none] ∧ SixSt H H' p r nl ∧ Firm HB H' ∧ (T.node top t1.parts).fine = true) (fun nx hnx => ?_) ?_
  · have ht1 : (T.node t1.name t1.parts).fine = true := by cases t1; exact hf1
    refine ⟨_, rfl, _, _, rfl, rfl, _, rfl, ?_⟩
    refine ite2 (fun _ => ?_) (fun _ => hnx _ _ ⟨t1.name, rfl, SB, Firm.refl _, ht1⟩)
    refine rd_nm rfl rfl SB.pool SB.names npr fun n H' hb p' k' f' => ?_
    exact hnx _ _ ⟨n, rfl, SB.drawn npr p' k' f', f', fine_big hb (fine_parts hf1).1 (fines_of (fine_parts hf1).2)⟩
  rintro σ HC ⟨top, rfl, SC, fC, htop⟩
  -- room
  refine ⟨by (show 4 ≤ sizeLine; omega), fun li nli => ?_⟩
  have sC := sameN (o := .lst [V.int 4, .int 4, .int 4, .int 40]) nli
  have SC' := SC.more sC
  have uC := (SC.fresh nli).1
  refine ⟨_, rfl, p, r, 4, rfl, SC'.pool, by decide, by decide, fun dD HD hdD pD kD fD => ?_⟩
  have SD := SC'.drawn npr pD kD fD
  have eD := kD _ _ (upd_same (H := HC) (a := li) (o := .lst [V.int 4, .int 4, .int 4, .int 40])) uC
  obtain ⟨rm, hrm⟩ : ∃ rm : Int, atI [V.int 4, .int 4, .int 4, .int 40] (dD : Int) = some (.int rm) := by
    match dD, hdD with
    | 0, _ => exact ⟨4, rfl⟩
    | 1, _ => exact ⟨4, rfl⟩
    | 2, _ => exact ⟨4, rfl⟩
    | 3, _ => exact ⟨40, rfl⟩
    | d + 4, h => exact absurd h (by omega)
  refine ⟨li, _, _, .int rm, rfl, rfl, SqL.of eD, hrm, ?_⟩
  refine name_go ?_
  dsimp only
  -- large
  refine ⟨_, rfl, _, rfl, _, rfl, one1, fun roE nroE => ?_⟩
  obtain ⟨uE, wE, xE⟩ := SD.fresh nroE
  have sE := sameN (o := .lst [V.int rm]) nroE
  have SE := SD.more sE
  refine ⟨p, r, nl, roE, 7, rfl, Nat.le_refl _, SE.pool, SE.names, ⟨_, upd_same⟩, three npr wE, uE, fun v3 t3 HF hv3 hf3 hl3 pF _ kF fF => ?_⟩
  have SF := SE.grown (three npr wE) xE pF kF fF
  have fBF : Firm HB HF := fC.trans ((Firm.of sC).trans (fD.trans ((Firm.of sE).trans fF)))
  refine name_go ?_
  dsimp only
  refine ⟨_, rfl, ?_⟩
  refine name_go ?_
  dsimp only
  have z2 : t2.size ≤ 1093 := by
    have h1 := size_pow hf2
    have h2 : 3 ^ t2.levels ≤ 3 ^ 7 := Nat.pow_le_pow_right (by decide) (by omega)
    have h3 : 3 ^ 7 = 2187 := by decide
    omega
  refine seq_join (fun σ H' => ∃ (v4 : V) (t4 : T), σ = [some (.ref p), some (.str z), some (.ref nl), some (.ref a1), some v2, some (.str top), some (.int rm), some v3, some v4] ∧ SixSt H H' p r nl ∧ Firm HF H' ∧ TupAt H' v4 t4 ∧ Ok t4) (fun nx hnx => ?_) ?_
  · refine ⟨_, rfl, p, r, 4, rfl, SF.pool, by decide, by decide, fun dG HG hdG pG kG fG => ⟨rfl, _, rfl, ?_⟩⟩
    have SG := SF.drawn npr pG kG fG
    refine ite2 (fun _ => ?_) (fun _ => hnx _ _ ⟨v2, t2, rfl, SG, fG, hv2.firm (fBF.trans fG), hf2, by omega, by omega⟩)
    refine ⟨_, rfl, _, rfl, _, rfl, p, r, nl, v2, t2, rfl, SG.pool, SG.names, npr, hv2.firm (fBF.trans fG), hf2, by omega, z2, fun v4 t4 HH hv4 hf4 hl4 hz4 pH kH fH => ?_⟩
    exact hnx _ _ ⟨v4, t4, rfl, SG.drawn npr pH kH fH, fG.trans fH, hv4, hf4, by omega, by omega⟩
  rintro σ HI ⟨v4, t4, rfl, SI, fI, hv4, ok4⟩
  have fBI := fBF.trans fI
  have hv1I := hv1B.firm fBI
  have g1I := fBI.1 _ _ g1
  have g2I := fBI.1 _ _ g2
  refine ⟨_, rfl, _, rfl, _, rfl, .ref a1, t1, rfl, hv1I, hf1, by omega, fun v5 t5 HJ sJ hv5 hf5 hl5 => ?_⟩
  refine ⟨_, rfl, _, rfl, a1, _, _, .ref c1, rfl, rfl, SqT.of (sJ _ _ g1I), rfl, by (show 2 ≤ sizeLine; omega), fun b nb => ?_⟩
  have sK := sameN (o := .tup [V.str top, .ref c1]) nb
  refine ⟨_, rfl, _, rfl, by (show 6 ≤ sizeLine; omega), fun l nl' => ?_⟩
  have sL := sameN (o := .lst [.ref a1, v2, v5, .ref b, v3, v4]) nl'
  have sKL := sK.trans sL
  have sJL := sJ.trans sKL
  have SL := SI.more sJL
  have hl' : H l = none := (SI.more (sJ.trans sK)).fresh nl' |>.2.2
  have hB : TupAt (upd HJ b (.tup [V.str top, .ref c1])) (.ref b) (.node top t1.parts) := .mk upd_same (sK _ _ (sJ _ _ g2I)) ((g3.firm fBI).mono (sJ.trans sK))
  have lB : (T.node top t1.parts).levels = t1.levels := by
    cases t1
    rw [levels_node, levels_node]
    rfl
  refine q l _ [t1, t2, t5, .node top t1.parts, t3, t4] _ upd_same hl' (.cons (hv1I.mono sJL) (.cons (hv2.firm (fBI.trans (.of sJL))) (.cons (hv5.mono sKL) (.cons (hB.mono sL) (.cons ((hv3.firm fI).mono sJL) (.cons (hv4.mono sJL) .nil)))))) rfl (fun t ht => ?_) SL.pool SL.kept SL.firm
  simp at ht
  rcases ht with rfl | rfl | rfl | rfl | rfl | rfl
  · exact .of hf1 (by omega)
  · exact .of hf2 (by omega)
  · exact .of hf5 (by omega)
  · exact .of htop (by omega)
  · exact .of hf3 (by omega)
  · exact ok4
end
end Tw
set_option maxHeartbeats 4000000
/-! The signs of terms. -/
namespace Tw
open PySem PySem.Spec PyProof.Rows L2
theorem join_mem {x : Nat} (h1 : x ≠ 44) (h2 : x ≠ 32) : ∀ ys : List Str, (x ∈ (Txt.join ", " ys).cps.toList ↔ ∃ y ∈ ys, x ∈ y.cps.toList)
  | [] => by
    rw [TL.join_eq]
    show x ∈ Str.empty.cps.toList ↔ _
    have : Str.empty.cps.toList = [] := rfl
    rw [this]
    simp
  | [y] => by
    rw [TL.join_eq]
    show x ∈ y.cps.toList ↔ _
    simp
  | y :: z :: r => by
    have ih := join_mem h1 h2 (z :: r)
    have e : Txt.join ", " (y :: z :: r) = y ++ ", " ++ Txt.join ", " (z :: r) := by rw [TL.join_eq, TL.join_eq] <;> rfl
    have e2 : (", " : Str).cps.toList = [44, 32] := by decide +kernel
    rw [e, add_list, add_list, List.mem_append, List.mem_append, e2, ih]
    constructor
    · rintro ((h | h) | ⟨w, hw, hx⟩)
      · exact ⟨y, List.mem_cons_self, h⟩
      · simp at h; omega
      · exact ⟨w, List.mem_cons_of_mem _ hw, hx⟩
    · rintro ⟨w, hw, hx⟩
      rcases List.mem_cons.mp hw with rfl | hw
      · exact .inl (.inl hx)
      · exact .inr ⟨w, hw, hx⟩
theorem term_mem {x : Nat} (h : x ∉ spec) (n : Str) (ps : List T) : x ∈ (T.term (.node n ps)).cps.toList ↔ x ∈ n.cps.toList ∨ ∃ p ∈ ps, x ∈ p.term.cps.toList := by
  have h1 : x ≠ 44 := fun e => h (by rw [e]; decide)
  have h2 : x ≠ 32 := fun e => h (by rw [e]; decide)
  have h3 : x ≠ 40 := fun e => h (by rw [e]; decide)
  have h4 : x ≠ 41 := fun e => h (by rw [e]; decide)
  cases ps with
  | nil =>
    unfold T.term
    simp
  | cons p r =>
    have e1 : ("(" : Str).cps.toList = [40] := by decide +kernel
    have e2 : (")" : Str).cps.toList = [41] := by decide +kernel
    rw [term_cons n (by simp), add_list, add_list, add_list, e1, e2, List.mem_append, List.mem_append, List.mem_append, join_mem h1 h2, terms_map]
    simp only [List.mem_singleton, List.mem_map]
    constructor
    · rintro (((h | h) | ⟨y, ⟨a, ha, rfl⟩, hx⟩) | h)
      · exact .inl h
      · exact absurd h h3
      · exact .inr ⟨a, ha, hx⟩
      · exact absurd h h4
    · rintro (h | ⟨a, ha, hx⟩)
      · exact .inl (.inl (.inl h))
      · exact .inl (.inr ⟨_, ⟨a, ha, rfl⟩, hx⟩)
/-- a name's signs: letters and digits, or the hole's -/
theorem big_signs {n : Str} (h : bigName n.cps.toList = true) : ∀ c ∈ n.cps.toList, isWord c = true := by
  intro c hc
  cases e : n.cps.toList with
  | nil => rw [e] at hc; cases hc
  | cons a r =>
    rw [e] at h hc
    have h' : (isCap a && (a :: r).all isWord && decide (r.length < 8)) = true := h
    rw [Bool.and_eq_true, Bool.and_eq_true] at h'
    exact List.all_eq_true.mp h'.1.2 c hc
theorem word_small {c : Nat} (h : isWord c = true) : c < 123 ∧ c ≠ 95 := by
  unfold isWord isCap isSmall isDig at h
  simp at h
  omega
theorem leaf_signs {n : Str} (h : leafName n = true) : (n.cps.toList = [95]) ∨ (∃ c, n.cps.toList = [c] ∧ isDig c = true) := by
  unfold leafName at h
  rw [Bool.or_eq_true] at h
  rcases h with h | h
  · exact .inl (of_decide_eq_true h)
  · match e : n.cps.toList with
    | [] => rw [e] at h; cases h
    | [c] => rw [e] at h; exact .inr ⟨c, rfl, h⟩
    | a :: b :: r => rw [e] at h; cases h
theorem dig_small {c : Nat} (h : isDig c = true) : c < 123 ∧ c ≠ 95 := by
  unfold isDig at h
  simp at h
  omega
theorem name_signs {t : T} (h : t.fine = true) : ∀ c ∈ t.name.cps.toList, c < 123 := by
  cases t with
  | node n ps =>
    intro c hc
    have hc : c ∈ n.cps.toList := hc
    rcases fine_ex h with ⟨hl, _⟩ | ⟨hb, _⟩
    · rcases leaf_signs hl with e | ⟨d, e, hd⟩
      · rw [e] at hc
        simp at hc
        omega
      · rw [e] at hc
        have : c = d := by simpa using hc
        subst this
        exact (dig_small hd).1
    · exact (word_small (big_signs hb c hc)).1
mutual
theorem term_signs : ∀ {t : T}, t.fine = true → ∀ c ∈ t.term.cps.toList, c < 123
  | .node n ps, h, c, hc => by
    by_cases hs : c ∈ spec
    · unfold spec at hs
      simp at hs
      omega
    · rcases (term_mem hs n ps).mp hc with hc | ⟨p, hp, hc⟩
      · exact name_signs h c hc
      · exact terms_signs (fine_parts h).2 p hp c hc
theorem terms_signs : ∀ {ps : List T}, (∀ u ∈ ps, u.fine = true) → ∀ p ∈ ps, ∀ c ∈ p.term.cps.toList, c < 123
  | a :: r, h, p, hp, c, hc => by
    rcases List.mem_cons.mp hp with e | hp
    · rw [e] at hc
      exact term_signs (h a List.mem_cons_self) c hc
    · exact terms_signs (fun u hu => h u (List.mem_cons_of_mem _ hu)) p hp c hc
end
mutual
theorem gaps_term : ∀ {t : T}, t.fine = true → (0 < t.gaps ↔ 95 ∈ t.term.cps.toList)
  | .node n ps, h => by
    have hs : (95 : Nat) ∉ spec := by decide
    rw [term_mem hs n ps]
    have e95 : ("_" : Str).cps.toList = [95] := by decide +kernel
    unfold T.gaps
    by_cases hn : n = "_" ∧ ps = []
    · rw [if_pos hn]
      refine ⟨fun _ => .inl ?_, fun _ => by decide⟩
      rw [hn.1, e95]
      simp
    · rw [if_neg hn, gapsL_term (ps := ps) (fine_parts h).2]
      constructor
      · exact .inr
      · rintro (hc | hc)
        · exfalso
          rcases fine_ex h with ⟨hl, e0⟩ | ⟨hb, _⟩
          · rcases leaf_signs hl with e | ⟨d, e, hd⟩
            · exact hn ⟨str_ext (by rw [e, e95]), e0⟩
            · rw [e] at hc
              have : 95 = d := by simpa using hc
              exact (dig_small hd).2 this.symm
          · exact (word_small (big_signs hb 95 hc)).2 rfl
        · exact hc
theorem gapsL_term : ∀ {ps : List T}, (∀ u ∈ ps, u.fine = true) → (0 < T.gapsL ps ↔ ∃ p ∈ ps, 95 ∈ p.term.cps.toList)
  | [], _ => by
    unfold T.gapsL
    simp
  | a :: r, h => by
    have h1 := gaps_term (h a List.mem_cons_self)
    have h2 := gapsL_term (ps := r) fun u hu => h u (List.mem_cons_of_mem _ hu)
    unfold T.gapsL
    rw [show (0 < a.gaps + T.gapsL r) ↔ (0 < a.gaps ∨ 0 < T.gapsL r) by omega, h1, h2]
    simp
end
theorem whole_term {t : T} (h : t.fine = true) : decide (t.gaps = 0) = !decide (95 ∈ t.term.cps.toList) := by
  have := gaps_term h
  by_cases e : t.gaps = 0
  · rw [decide_eq_true e, decide_eq_false (fun z => by have := this.mpr z; omega)]
    rfl
  · rw [decide_eq_false e, decide_eq_true (this.mp (by omega))]
    rfl
theorem term_ok {t : T} (h : t.fine = true) : PyData.strOk t.term = true := by
  unfold PyData.strOk
  rw [Array.all_eq_true']
  intro c hc
  have := term_signs h c (by simpa using hc)
  exact decide_eq_true (by omega)
end Tw
set_option maxHeartbeats 4000000
/-! _law_is. -/
namespace Tw
open PySem PySem.Spec PyProof.Rows L2
abbrev sIs : Stmt := top 30
theorem kit_ib (K : PySem.W.Frag) : PySem.W.kitOne K (.type "int") (.type "bool") = some false := by
  unfold PySem.W.kitOne PySem.W.kitCls
  rw [if_neg (by decide)]
  dsimp only
  rw [if_pos (by decide +kernel)]
  unfold PySem.W.subIn
  show (PySem.fastBuiltinMro "int").map (fun x => x.contains (Value.type "bool")) = some false
  decide +kernel
def spIs : Sp := fun vs H Q _ => ∃ i : Int, vs = [.int i, .int i] ∧ Q (.bl true) H
section
variable {P : Program} {w : World} {K : PySem.W.Frag} {mg : Str → Option Value} {base : Heap}
theorem scIs : FnScope ["actual", "due"] ["actual", "due"] (defScope sIs) := ⟨rfl, rfl, rfl, by decide +kernel, rfl, by decide +kernel, by decide +kernel⟩
theorem ok_is (mI : mg "isinstance" = none) (mi : mg "int" = none) (mb : mg "bool" = none) {f : Addr} {fd : FuncData} (F : Fun K "_law_is" "_law_is" sIs f fd) : FnR P w K mg base CX0 1 f spIs := by
  refine okR F scIs (fun vs H Q E h => ?_) (fun _ _ _ _ _ _ us hl => match us, hl with | [_, _], _ => rfl) (fun cdv A outer s H vs Q E hr h => ?_)
  · obtain ⟨i, rfl, _⟩ := h
    rfl
  obtain ⟨i, rfl, q⟩ := h
  refine ⟨_, pss_cons (ps_if (PW.pt (pw_or (pt_not (pt_val (pe_callB call_isi (by rfl) mI (by decide +kernel) (pa_cons (pv 0) (pa_cons (pe_bltn (v := .ty "int") (by rfl) mi (by decide +kernel) rfl) pa_nil))))) (pw_or1 (pt_val (pe_callB call_isi (by rfl) mI (by decide +kernel) (pa_cons (pv 0) (pa_cons (pe_bltn (v := .ty "bool") (by rfl) mb (by decide +kernel) rfl) pa_nil))))))) (pss_one (ps_ret pe_bl)) pss_nil)
    (pss_one (ps_ret (pe_cmpR op_eq (pv 0) (pv 1) (nomark _)))), ?_⟩
  refine ⟨_, rfl, _, .ty "int", _, _, true, rfl, .ty "int", .base (.int i), kit_self K _ rfl, _, rfl, ?_⟩
  refine iteF ?_
  refine ⟨_, rfl, _, .ty "bool", _, _, false, rfl, .ty "bool", .base (.int i), kit_ib K, _, rfl, ?_⟩
  refine iteF ?_
  refine ⟨_, rfl, _, rfl, rfl, ?_⟩
  rw [decide_eq_true rfl]
  exact q
end
end Tw
set_option maxHeartbeats 4000000
/-! _law_good. -/
namespace Tw
open PySem PySem.Spec PyProof.Rows L2
abbrev sGood : Stmt := top 31
def txtL (l : List Str) : PyData := .list (l.map PyData.str)
theorem dp_strs {K : PySem.W.Frag} {H : Hp} {a : Addr} {l : List Str} (h : H a = some (.lst (l.map V.str))) : Dp K H (.ref a) (txtL l) := by
  have h1 : ∀ l : List Str, DpAll K H (l.map V.str) (l.map PyData.str) := fun l => by
    induction l with
    | nil => exact .nil
    | cons x r ih => exact .cons (.str x) ih
  exact .lst (SqL.of h) (h1 l)
theorem eqv_strs (l : List Str) : PyData.eqv (txtL l) (txtL l) = true := by
  have h1 : ∀ l : List Str, PyData.eqvAll (l.map PyData.str) (l.map PyData.str) = true := fun l => by
    induction l with
    | nil => unfold PyData.eqvAll; rfl
    | cons x r ih =>
      rw [List.map_cons]
      unfold PyData.eqvAll
      rw [ih]
      unfold PyData.eqv
      simp
  unfold txtL PyData.eqv
  exact h1 l
theorem shaped_strs {l : List Str} (h : ∀ x ∈ l, PyData.strOk x = true) : SeqAt.shaped (txtL l) = true := by
  have h1 : ∀ l : List Str, (∀ x ∈ l, PyData.strOk x = true) → PyData.canLayAll0 (l.map PyData.str) = true := fun l => by
    induction l with
    | nil => exact fun _ => rfl
    | cons x r ih =>
      intro h
      rw [List.map_cons]
      unfold PyData.canLayAll0
      rw [ih fun y hy => h y (List.mem_cons_of_mem _ hy)]
      unfold PyData.canLay0
      rw [h x List.mem_cons_self]
      rfl
  have h2 : ∀ l : List Str, PyData.depthAll (l.map PyData.str) = 0 := fun l => by
    induction l with
    | nil => rfl
    | cons x r ih => rw [List.map_cons]; unfold PyData.depthAll; rw [ih]; rfl
  unfold SeqAt.shaped txtL
  refine Bool.and_eq_true_iff.mpr ⟨?_, decide_eq_true ?_⟩
  · unfold PyData.canLay0; exact h1 l h
  · unfold PyData.depth; rw [h2]; decide
def spGood (C : Addr) (D : Nat) : Sp := fun vs H Q _ => ∃ (v d : V) (t : T) (X : List Addr), vs = [v, d] ∧ TreeAt C H v t ∧ DueAt X H d t ∧ t.fine = true ∧ t.levels ≤ D + 1 ∧ ∀ H', Same H H' → Q (.bl true) H'
/-- the property whole -/
structure Wh (K : PySem.W.Frag) (C pW gW : Addr) (fdW : FuncData) : Prop where
  prop : PropOf K C "whole" pW gW
  binds : Binds K fdW ["self"] []
section
variable {P : Program} {w : World} {K : PySem.W.Frag} {mg : Str → Option Value} {base : Heap} {C : Addr}
theorem scGo : FnScope ["actual", "due", "one", "k"] ["actual", "due"] (defScope sGood) := ⟨rfl, rfl, rfl, by decide +kernel, rfl, by decide +kernel, by decide +kernel⟩
theorem good_step {fIt fi pW gW : Addr} {fdIt fdW : FuncData} (T1 : Tt K C) (T2 : Ti K C) (gT : mg "Tree" = some (.ref C)) (Fit : Fun K "__iter__" "Tree.__iter__" sIter fIt fdIt) (hs : PySem.W.findIn K (.ref C) "__iter__" = some (some (.ref fIt))) (hfn : PySem.W.isFn K (.ref fIt) = true)
    (Wp : Wh K C pW gW fdW) (Fw : FnOk P w K mg base CX0 1 gW fdW ["self"] (spWhole C)) (gi : Gf K mg "_law_is" fi) (Fi : FnR P w K mg base CX0 1 fi spIs) (mI : mg "isinstance" = none) (mt : mg "tuple" = none) (mb : mg "bool" = none) (ml : mg "len" = none) (mr : mg "range" = none) (mit : mg "iter" = none)
    {f : Addr} {fd : FuncData} (F : Fun K "_law_good" "_law_good" sGood f fd) (gm : Gf K mg "_law_good" f) {k D : Nat} {sp : Sp} (FM : FnR P w K mg base CX0 (k + 2) f sp) (hD : ∀ vs H Q E, D ≠ 0 → spGood C (D - 1) vs H Q E → sp vs H Q E) : FnR P w K mg base CX0 (k + 3) f (spGood C D) := by
  refine okR F scGo (fun vs H Q E h => ?_) (fun _ _ _ _ _ _ us hl => match us, hl with | [_, _], _ => rfl) (fun cdv A outer s H vs Q E hr h => ?_)
  · obtain ⟨v, d, t, X, rfl, _⟩ := h
    rfl
  obtain ⟨v, d, t, X, rfl, ht, hd, hf, hl, q⟩ := h
  have hr1 : Room 1 _ := hr.mono (by omega)
  have hr2 : Room 2 _ := hr.mono (by omega)
  refine ⟨_, pss_cons (ps_if (PW.pt (pw_or (pt_not (pt_val (pe_callB call_isi (by rfl) mI (by decide +kernel) (pa_cons (pv 0) (pa_cons (pe_gr gT) pa_nil))))) (pw_or1 (pt_not (pt_val (pe_callB call_isi (by rfl) mI (by decide +kernel) (pa_cons (pe_fld (pv 0) rfl) (pa_cons (pe_bltn (v := .ty "tuple") (by rfl) mt (by decide +kernel) rfl) pa_nil)))))))) (pss_one (ps_ret pe_bl)) pss_nil)
    (pss_cons (ps_if (PW.pt (pw_or (pt_cmpR op_ne (pe_fld (pv 0) rfl) (pe_ix ix_tup (pv 1) pe_int (fun _ _ => rfl)) (nomark _)) (pw_or1 (pt_cmpR op_ne (pe_fld (pv 0) rfl) (pe_ix ix_tup (pv 1) pe_int (fun _ _ => rfl)) (nomark _))))) (pss_one (ps_ret pe_bl)) pss_nil)
    (pss_cons (ps_if (PW.pt (pw_or (pt_not (pt_val (pe_cf Fi hr1 gi pass0 (pa_cons (pe_fld (pv 0) rfl) (pa_cons (pe_ix ix_tup (pv 1) pe_int (fun _ _ => rfl)) pa_nil))))) (pw_or1 (pt_not (pt_val (pe_cf Fi hr1 gi pass0 (pa_cons (pe_fld (pv 0) rfl) (pa_cons (pe_ix ix_tup (pv 1) pe_int (fun _ _ => rfl)) pa_nil)))))))) (pss_one (ps_ret pe_bl)) pss_nil)
    (pss_cons (ps_if (PW.pt (pw_or (pt_not (pt_val (pe_callB call_isi (by rfl) mI (by decide +kernel) (pa_cons (pe_prop (E := E0) (pv 0) T1.cl Wp.prop Fw hr2 Wp.binds .nil pass0 (by rfl)) (pa_cons (pe_bltn (v := .ty "bool") (by rfl) mb (by decide +kernel) rfl) pa_nil))))) (pw_or1 (pt_cmpR op_ne (pe_prop (E := E0) (pv 0) T1.cl Wp.prop Fw hr2 Wp.binds .nil pass0 (by rfl)) (pe_cmpR op_notIn_sign pe_str (pe_ix ix_tup (pv 1) pe_int (fun _ _ => rfl)) (by rfl)) (nomark _))))) (pss_one (ps_ret pe_bl)) pss_nil)
    (pss_cons (ps_if (pt_cmpR (op_neD hr.units)
        (pe_lc (own := [("one", 2)]) (g := gName 2) (tt := tYes) (te := tFld K (tVar 2) "term") rfl scGo.nd (pi_own T1 Fit mit hs hfn hr1 (pv 0)) (blkOk_by (own := [("one", 2)]) (N := ["actual", "due", "one", "k"]) (sc := defScope sGood) (by decide +kernel)) (fun _ _ _ _ _ => by exact pg_name (i := 2) scGo.nd rfl (Or.inl rfl)) (fun _ _ _ _ _ => by exact pts_nil) (fun _ _ _ _ _ => by exact pe_fld (pv 2) rfl))
        (pe_lc (own := [("one", 2)]) (g := gName 2) (tt := tYes) (te := tOp (rIxT K) (tVar 2) (tC (.int 2))) rfl scGo.nd (pi_list (pe_ix ix_tup (pv 1) pe_int (fun _ _ => rfl))) (blkOk_by (own := [("one", 2)]) (N := ["actual", "due", "one", "k"]) (sc := defScope sGood) (by decide +kernel)) (fun _ _ _ _ _ => by exact pg_name (i := 2) scGo.nd rfl (Or.inl rfl)) (fun _ _ _ _ _ => by exact pts_nil) (fun _ _ _ _ _ => by exact pe_ix ix_tup (pv 2) pe_int (fun _ _ => rfl))) (nomark _)) (pss_one (ps_ret pe_bl)) pss_nil)
    (pss_cons (ps_if (pt_cmpR op_ne (pe_callB call_len_seq (by rfl) ml PySem.boot_len (pa_cons (pe_fld (pv 0) rfl) pa_nil)) (pe_callB call_len_seq (by rfl) ml PySem.boot_len (pa_cons (pe_ix ix_tup (pv 1) pe_int (fun _ _ => rfl)) pa_nil)) (nomark _)) (pss_one (ps_ret pe_bl)) pss_nil)
    (pss_cons (ps_for PassesOwn.never rfl (pi_range1 (by rfl) mr (pa_cons (pe_callB call_len_seq (by rfl) ml PySem.boot_len (pa_cons (pe_ix ix_tup (pv 1) pe_int (fun _ _ => rfl)) pa_nil)) pa_nil)) (pg_name (i := 3) scGo.nd rfl (Or.inl rfl))
      (pss_one (ps_if (pt_not (pt_val (pe_cf FM hr gm pass0 (pa_cons (pe_ix ix_tup (pe_fld (pv 0) rfl) (pv 3) (fun _ _ => rfl)) (pa_cons (pe_ix ix_list (pe_ix ix_tup (pv 1) pe_int (fun _ _ => rfl)) (pv 3) (fun _ _ => rfl)) pa_nil))))) (pss_one (ps_ret pe_bl)) pss_nil)))
    (pss_one (ps_ret pe_bl)))))))), ?_⟩
  have sl := sizeLine_eq
  obtain ⟨a, dx, pp, ws, rfl, h1, h2, h3⟩ := ht.ex
  obtain ⟨da, dl, dvs, rfl, g1, g2, g3, g4⟩ := hd.ex
  obtain ⟨hp3, hpf⟩ := fine_parts hf
  have hwl := h3.len
  have hdl := g4.len
  refine ⟨_, rfl, _, .ref C, _, _, true, rfl, .own C, .base (.ins h1 T1.cl T2.ca T2.cn T2.ct T2.cm), kit_ref K C, _, rfl, iteF ?_⟩
  refine ⟨_, rfl, a, C, dx, _, _, rfl, h1, T1.cl, T1.nParts, fT_parts, _, .ty "tuple", _, _, true, rfl, .ty "tuple", .base (.tup h2), kit_self K _ rfl, _, rfl, iteF ?_⟩
  refine ⟨_, rfl, a, C, dx, _, _, rfl, h1, T1.cl, T1.nName, fT_name, _, rfl, da, _, _, .str t.name, rfl, rfl, SqT.of g1, rfl, rfl, _, rfl, ite2 (fun c => absurd c (by simp)) (fun _ => ?_)⟩
  refine ⟨_, rfl, a, C, dx, _, _, rfl, h1, T1.cl, T1.nTerm, fT_term, _, rfl, da, _, _, .str t.term, rfl, rfl, SqT.of g1, rfl, rfl, _, rfl, ite2 (fun c => absurd c (by simp)) (fun _ => ?_)⟩
  refine ⟨_, rfl, a, C, dx, _, _, rfl, h1, T1.cl, T1.nSize, fT_size, _, rfl, da, _, _, .int t.size, rfl, rfl, SqT.of g1, rfl, t.size, rfl, _, rfl, iteF ?_⟩
  refine ⟨_, rfl, a, C, dx, _, _, rfl, h1, T1.cl, T1.nLevels, fT_levels, _, rfl, da, _, _, .int t.levels, rfl, rfl, SqT.of g1, rfl, t.levels, rfl, _, rfl, iteF ?_⟩
  refine ⟨_, rfl, a, dx, _, rfl, h1, _, t, rfl, ht, _, .ty "bool", _, _, true, rfl, .ty "bool", .base (.bl _), kit_self K _ rfl, _, rfl, iteF ?_⟩
  refine ⟨_, rfl, a, dx, _, rfl, h1, _, t, rfl, ht, _, rfl, da, _, _, .str t.term, rfl, rfl, SqT.of g1, rfl, 95, t.term, rfl, rfl, rfl, _, rfl, ite2 (fun c => ?_) (fun _ => ?_)⟩
  · exfalso
    rw [whole_term hf] at c
    simp at c
  -- the parts' terms
  refine ⟨_, rfl, a, dx, t, pp, ws, rfl, h1, h2, fun H1 s1 D1 hD1 => lc_map (ys := (T.terms t.parts).map V.str) walk_tup hD1 (fun H' s => SqT.of (s _ _ (s1 _ _ h2))) (by rw [terms_map]; simp [hwl]) (by omega) (fun i x y H' R hx hy sm hR => ?_) ?_⟩
  · obtain ⟨u, e, hu⟩ := h3.get hx
    obtain ⟨ua, ux, up, uvs, rfl, u1, u2, u3⟩ := hu.ex
    rw [terms_map, List.map_map] at hy
    have ey := get_map (f := V.str ∘ T.term) e hy
    subst ey
    exact ⟨rfl, _, rfl, ua, C, ux, _, _, rfl, sm _ _ (s1 _ _ u1), T1.cl, T1.nTerm, fT_term, hR⟩
  have s2 := s1.trans (sameN (o := .lst ((T.terms t.parts).map V.str)) hD1)
  have e1 : (upd H1 D1 (.lst ((T.terms t.parts).map V.str))) D1 = some (.lst ((T.terms t.parts).map V.str)) := upd_same
  generalize upd H1 D1 (.lst ((T.terms t.parts).map V.str)) = H2 at s2 e1 ⊢
  refine ⟨_, rfl, da, _, _, .ref dl, rfl, rfl, SqT.of (s2 _ _ g1), rfl, dl, rfl, ⟨_, SqL.of (s2 _ _ g3)⟩, fun D2 hD2 => lc_map (ys := (T.terms t.parts).map V.str) walk_list hD2 (fun H' s => SqL.of (s _ _ (s2 _ _ g3))) (by rw [terms_map]; simp [hdl]) (by omega) (fun i x y H' R hx hy sm hR => ?_) ?_⟩
  · obtain ⟨u, e, hu⟩ := g4.get hx
    obtain ⟨ua, ul, uvs, rfl, u1, u2, u3, u4⟩ := hu.ex
    rw [terms_map, List.map_map] at hy
    have ey := get_map (f := V.str ∘ T.term) e hy
    subst ey
    exact ⟨rfl, _, rfl, ua, _, _, .str u.term, rfl, rfl, SqT.of (sm _ _ (s2 _ _ u1)), rfl, hR⟩
  have s3 := s2.trans (sameN (o := .lst ((T.terms t.parts).map V.str)) hD2)
  have e2 : (upd H2 D2 (.lst ((T.terms t.parts).map V.str))) D2 = some (.lst ((T.terms t.parts).map V.str)) := upd_same
  have e1' := sameN (o := .lst ((T.terms t.parts).map V.str)) hD2 _ _ e1
  generalize upd H2 D2 (.lst ((T.terms t.parts).map V.str)) = H3 at s3 e2 e1' ⊢
  have shp : SeqAt.shaped (txtL (T.terms t.parts)) = true := shaped_strs fun x hx => by
    rw [terms_map] at hx
    obtain ⟨u, hu, rfl⟩ := List.mem_map.mp hx
    exact term_ok (hpf u hu)
  refine ⟨_, _, dp_strs e1', dp_strs e2, shp, shp, ?_⟩
  rw [eqv_strs]
  refine ⟨_, rfl, iteF ?_⟩
  -- their number
  refine ⟨_, rfl, a, C, dx, _, _, rfl, s3 _ _ h1, T1.cl, T1.nParts, fT_parts, pp, ws, rfl, .inr (SqT.of (s3 _ _ h2)), _, rfl, da, _, _, .ref dl, rfl, rfl, SqT.of (s3 _ _ g1), rfl, dl, dvs, rfl, .inl (SqL.of (s3 _ _ g3)), rfl, _, rfl, ite2 (fun c => absurd c ?_) (fun _ => ?_)⟩
  · rw [hwl, hdl]
    simp
  -- each of them
  refine ⟨_, rfl, da, _, _, .ref dl, rfl, rfl, SqT.of (s3 _ _ g1), rfl, dl, dvs, rfl, .inl (SqL.of (s3 _ _ g3)), _, rfl, by omega, by omega, ?_⟩
  refine for_range (n := dvs.length) (fun i σ H' => Same H H' ∧ ∃ w3, σ = [some (.ref a), some (.ref da), none, w3]) ⟨s3, none, rfl⟩ ?_ ?_
  · rintro i σ H4 hi ⟨s4, w3, rfl⟩
    refine name_go ?_
    dsimp only
    rw [Int.zero_add]
    obtain ⟨x, hx⟩ : ∃ x, ws[i]? = some x := ⟨_, List.getElem?_eq_getElem (by omega)⟩
    obtain ⟨y, hy⟩ : ∃ y, dvs[i]? = some y := ⟨_, List.getElem?_eq_getElem hi⟩
    obtain ⟨u, hu, hux⟩ := h3.get hx
    obtain ⟨u', hu', huy⟩ := g4.get hy
    rw [hu] at hu'
    cases hu'
    have hum := List.mem_of_getElem? hu
    have hlv := levels_part hum
    have hu1 := levels_pos u
    refine ⟨_, rfl, a, C, dx, _, _, rfl, s4 _ _ h1, T1.cl, T1.nParts, fT_parts, _, rfl, pp, ws, _, x, rfl, rfl, SqT.of (s4 _ _ h2), atI_nat hx, _, rfl, da, _, _, .ref dl, rfl, rfl, SqT.of (s4 _ _ g1), rfl, _, rfl, dl, dvs, _, y, rfl, rfl, SqL.of (s4 _ _ g3), atI_nat hy, ?_⟩
    refine hD _ _ _ _ (by omega) ⟨x, y, u, X, rfl, hux.mono s4, huy.mono s4, hpf u hum, by omega, fun H5 s5 => ⟨_, rfl, iteF ⟨s4.trans s5, _, rfl⟩⟩⟩
  · rintro σ H4 ⟨s4, w3, rfl⟩
    exact q H4 s4
theorem ok_good {fIt fi pW gW : Addr} {fdIt fdW : FuncData} (T1 : Tt K C) (T2 : Ti K C) (gT : mg "Tree" = some (.ref C)) (Fit : Fun K "__iter__" "Tree.__iter__" sIter fIt fdIt) (hs : PySem.W.findIn K (.ref C) "__iter__" = some (some (.ref fIt))) (hfn : PySem.W.isFn K (.ref fIt) = true)
    (Wp : Wh K C pW gW fdW) (Fw : FnOk P w K mg base CX0 1 gW fdW ["self"] (spWhole C)) (gi : Gf K mg "_law_is" fi) (Fi : FnR P w K mg base CX0 1 fi spIs) (mI : mg "isinstance" = none) (mt : mg "tuple" = none) (mb : mg "bool" = none) (ml : mg "len" = none) (mr : mg "range" = none) (mit : mg "iter" = none)
    {f : Addr} {fd : FuncData} (F : Fun K "_law_good" "_law_good" sGood f fd) (gm : Gf K mg "_law_good" f) : ∀ D : Nat, FnR P w K mg base CX0 (D + 3) f (spGood C D)
  | 0 => good_step T1 T2 gT Fit hs hfn Wp Fw gi Fi mI mt mb ml mr mit F gm (k := 0) (sp := fun _ _ _ _ => False) (fun _ _ _ _ _ _ _ _ _ _ _ hs => hs.elim) fun _ _ _ _ h => absurd rfl h
  | D + 1 => good_step T1 T2 gT Fit hs hfn Wp Fw gi Fi mI mt mb ml mr mit F gm (k := D + 1) (ok_good T1 T2 gT Fit hs hfn Wp Fw gi Fi mI mt mb ml mr mit F gm D) fun _ _ _ _ _ h => h
end
end Tw
set_option maxHeartbeats 4000000
/-! _law_walk. -/
namespace Tw
open PySem PySem.Spec PyProof.Rows L2
abbrev sWalk : Stmt := top 32
/-- a row of the walk: a path and what is due there -/
def RowAt (X : List Addr) (H : Hp) (v : V) (e : Path × T) : Prop := ∃ a q d, v = .ref a ∧ H a = some (.tup [.ref q, d]) ∧ H q = some (.tup (pV e.1)) ∧ DueAt X H d e.2
theorem RowAt.kept {X : List Addr} {H H' : Hp} (k : KeptBut X H H') (f : Firm H H') {v : V} {e : Path × T} (h : RowAt X H v e) : RowAt X H' v e := by
  obtain ⟨a, q, d, rfl, h1, h2, h3⟩ := h
  exact ⟨a, q, d, rfl, f.1 _ _ h1, f.1 _ _ h2, h3.kept k f fun _ h => h⟩
abbrev Rows (X : List Addr) (H : Hp) : List V → List (Path × T) → Prop := Paired (RowAt X H)
theorem Rows.kept {X : List Addr} {H H' : Hp} (k : KeptBut X H H') (f : Firm H H') {vs : List V} {es : List (Path × T)} (h : Rows X H vs es) : Rows X H' vs es := Paired.mapP h fun _ _ x => x.kept k f
theorem Rows.mono {X : List Addr} {H H' : Hp} (s : Same H H') {vs : List V} {es : List (Path × T)} (h : Rows X H vs es) : Rows X H' vs es := h.kept (.of s) (.of s)
theorem paired_append {α β : Type} {F : α → β → Prop} : ∀ {l₁ m₁ : List α} {l₂ m₂ : List β}, Paired F l₁ l₂ → Paired F m₁ m₂ → Paired F (l₁ ++ m₁) (l₂ ++ m₂)
  | _, _, _, _, .nil, h => h
  | _, _, _, _, .cons r t, h => .cons r (paired_append t h)
theorem walks_snoc (pa : Path) (t : T) : ∀ (l : List T) (j : Nat), T.walks pa j (l ++ [t]) = T.walks pa j l ++ t.walk (pa ++ [j + l.length])
  | [], j => by
    show T.walks pa j [t] = _
    unfold T.walks
    unfold T.walks
    simp
  | a :: l, j => by
    have ih := walks_snoc pa t l (j + 1)
    show T.walks pa j (a :: (l ++ [t])) = T.walks pa j (a :: l) ++ _
    unfold T.walks
    rw [ih, List.append_assoc, List.length_cons, show j + 1 + l.length = j + (l.length + 1) by omega]
theorem sizes_take : ∀ (l : List T) (i : Nat), T.sizes (l.take i) ≤ T.sizes l
  | [], i => by rw [List.take_nil]; exact Nat.le_refl _
  | a :: l, 0 => by rw [List.take_zero]; unfold T.sizes; omega
  | a :: l, i + 1 => by
    have := sizes_take l i
    rw [List.take_succ_cons]
    unfold T.sizes
    omega
theorem walks_le (pa : Path) (j : Nat) (l : List T) (i : Nat) : (T.walks pa j (l.take i)).length ≤ T.sizes l := by
  rw [walks_len]
  exact sizes_take l i
theorem sizes_le (t : T) : T.sizes t.parts + 1 = t.size := by
  cases t with
  | node n ps =>
    rw [size_node]
    show T.sizes ps + 1 = _
    omega
def spWalk (D : Nat) : Sp := fun vs H Q _ => ∃ (d : V) (q : Addr) (t : T) (pa : Path) (X : List Addr), vs = [d, .ref q] ∧ DueAt X H d t ∧ H q = some (.tup (pV pa)) ∧ t.levels ≤ D + 1 ∧ t.size ≤ 10000 ∧ pa.length + t.levels ≤ 1000 ∧
  ∀ l H' ws, Same H H' → H l = none → H' l = some (.lst ws) → Rows X H' ws (t.walk pa) → Q (.ref l) H'
section
variable {P : Program} {w : World} {K : PySem.W.Frag} {mg : Str → Option Value} {base : Heap}
theorem scWk : FnScope ["due", "path", "found", "k"] ["due", "path"] (defScope sWalk) := ⟨rfl, rfl, rfl, by decide +kernel, rfl, by decide +kernel, by decide +kernel⟩
theorem walk_step (ml : mg "len" = none) (mr : mg "range" = none) {f : Addr} {fd : FuncData} (F : Fun K "_law_walk" "_law_walk" sWalk f fd) (gm : Gf K mg "_law_walk" f) {k D : Nat} {sp : Sp}
    (FM : FnR P w K mg base CX0 k f sp) (hD : ∀ vs H Q E, D ≠ 0 → spWalk (D - 1) vs H Q E → sp vs H Q E) : FnR P w K mg base CX0 (k + 1) f (spWalk D) := by
  refine okR F scWk (fun vs H Q E h => ?_) (fun _ _ _ _ _ _ us hl => match us, hl with | [_, _], _ => rfl) (fun cdv A outer s H vs Q E hr h => ?_)
  · obtain ⟨d, q, t, pa, X, rfl, _⟩ := h
    rfl
  obtain ⟨d, q, t, pa, X, rfl, hd, hq, hl, hz, hpl, qq⟩ := h
  refine ⟨_, pss_cons (ps_set (i := 2) scWk.nd rfl (Or.inl rfl) (pe_lst (pa_cons (pe_tup (pa_cons (pv 1) (pa_cons (pv 0) pa_nil))) pa_nil)))
    (pss_cons (ps_for PassesOwn.never rfl (pi_range1 (by rfl) mr (pa_cons (pe_callB call_len_seq (by rfl) ml PySem.boot_len (pa_cons (pe_ix ix_tup (pv 0) pe_int (fun _ _ => rfl)) pa_nil)) pa_nil)) (pg_name (i := 3) scWk.nd rfl (Or.inl rfl))
      (pss_one (ps_set (i := 2) scWk.nd rfl (Or.inl rfl) (pe_op op_cat (pv 2) (pe_cf FM hr gm pass0 (pa_cons (pe_ix ix_list (pe_ix ix_tup (pv 0) pe_int (fun _ _ => rfl)) (pv 3) (fun _ _ => rfl)) (pa_cons (pe_op op_catA (pv 1) (pe_tup (pa_cons (pv 3) pa_nil))) pa_nil)))))))
    (pss_one (ps_ret (pv 2)))), ?_⟩
  have sl := sizeLine_eq
  obtain ⟨da, dl, dvs, rfl, g1, g2, g3, g4⟩ := hd.ex
  have hdl := g4.len
  have hpt := parts_le t
  refine ⟨_, rfl, _, rfl, by (show 2 ≤ sizeLine; omega), fun e ne => ⟨by (show 1 ≤ sizeLine; omega), fun l0 nl0 => ?_⟩⟩
  refine name_go ?_
  dsimp only
  have s1 := sameN (o := .tup [V.ref q, .ref da]) ne
  have s2 := sameN (o := .lst [V.ref e]) nl0
  have s12 := s1.trans s2
  have r0 : Rows X (upd (upd H e (.tup [V.ref q, .ref da])) l0 (.lst [V.ref e])) [.ref e] [(pa, t)] := .cons ⟨e, q, _, rfl, s2 _ _ upd_same, s12 _ _ hq, hd.mono s12⟩ .nil
  have e0 : (upd (upd H e (.tup [V.ref q, .ref da])) l0 (.lst [V.ref e])) l0 = some (.lst [V.ref e]) := upd_same
  have nl0' : H l0 = none := by
    cases h : H l0 with
    | none => rfl
    | some o => rw [s1 _ _ h] at nl0; cases nl0
  generalize (upd (upd H e (.tup [V.ref q, .ref da])) l0 (.lst [V.ref e])) = H1 at s12 r0 e0 ⊢
  refine ⟨_, rfl, da, _, _, .ref dl, rfl, rfl, SqT.of (s12 _ _ g1), rfl, dl, dvs, rfl, .inl (SqL.of (s12 _ _ g3)), _, rfl, by omega, by omega, ?_⟩
  refine for_range (n := dvs.length) (fun i σ H' => Same H H' ∧ ∃ (l : Addr) (ws : List V) (w3 : Option V), σ = [some (.ref da), some (.ref q), some (.ref l), w3] ∧ H l = none ∧ H' l = some (.lst ws) ∧ Rows X H' ws ((pa, t) :: T.walks pa 0 (t.parts.take i)))
    ⟨s12, l0, _, none, rfl, nl0', e0, by rw [List.take_zero]; unfold T.walks; exact r0⟩ ?_ ?_
  · rintro i σ H2 hi ⟨s3, l, ws, w3, rfl, nl, hlw, hrs⟩
    refine name_go ?_
    dsimp only
    rw [Int.zero_add]
    obtain ⟨y, hy⟩ : ∃ y, dvs[i]? = some y := ⟨_, List.getElem?_eq_getElem hi⟩
    obtain ⟨u, hu, huy⟩ := g4.get hy
    have hum := List.mem_of_getElem? hu
    have hlv := levels_part hum
    have hsv := size_part hum
    have hu1 := levels_pos u
    have pil : (pV pa).length = pa.length := pV_len pa
    refine ⟨_, rfl, _, rfl, da, _, _, .ref dl, rfl, rfl, SqT.of (s3 _ _ g1), rfl, _, rfl, dl, dvs, _, y, rfl, rfl, SqL.of (s3 _ _ g3), atI_nat hy, _, rfl, _, rfl, by (show 1 ≤ sizeLine; omega), fun b nb => ?_⟩
    have s4 := sameN (o := .tup [V.int (i : Int)]) nb
    refine ⟨q, b, pV pa, [.int (i : Int)], rfl, rfl, SqT.of (s4 _ _ (s3 _ _ hq)), SqT.of upd_same, by rw [pil]; (show pa.length + 1 ≤ sizeLine; omega), fun hp0 => ?_, fun _ h => absurd h (by simp), fun _ _ b2 nb2 => ?_⟩
    · have hb2 : (upd H2 b (.tup [V.int (i : Int)])) b = some (.tup (pV (pa ++ [i]))) := by rw [pV_snoc, hp0]; exact upd_same
      obtain ⟨b2, rfl⟩ : ∃ b2, b2 = b := ⟨b, rfl⟩
      generalize upd H2 b2 (.tup [V.int (i : Int)]) = H3 at s4 hb2 ⊢
      refine hD _ _ _ _ (by omega) ⟨y, b2, u, pa ++ [i], X, rfl, huy.mono (s3.trans s4), hb2, by omega, by omega, by rw [List.length_append, List.length_singleton]; omega, fun l5 H5 ws5 s5 n5 e5 r5 => ?_⟩
      have s45 := s4.trans s5
      have hlw5 := s45 _ _ hlw
      have hrs5 := hrs.mono s45
      have lw := paired_len hrs5
      have lw5 := paired_len r5
      have hw1 := walks_le pa 0 t.parts i
      have hw2 := sizes_le t
      rw [List.length_cons] at lw
      rw [walk_len] at lw5
      refine ⟨l, l5, ws, ws5, rfl, rfl, hlw5, e5, by omega, fun p np => ?_⟩
      have s6 := sameN (o := .lst (ws ++ ws5)) np
      have s36 := s3.trans (s45.trans s6)
      have npH : H p = none := by
        cases h : H p with
        | none => rfl
        | some o => rw [s3.trans s45 _ _ h] at np; cases np
      refine ⟨s36, p, ws ++ ws5, _, rfl, npH, upd_same, ?_⟩
      have ew : (pa, t) :: T.walks pa 0 (t.parts.take (i + 1)) = ((pa, t) :: T.walks pa 0 (t.parts.take i)) ++ u.walk (pa ++ [i]) := by
        rw [take_snoc hu, walks_snoc, List.length_take, Nat.min_eq_left (by omega), Nat.zero_add]
        rfl
      rw [ew]
      exact Rows.mono s6 (paired_append hrs5 r5)
    · have hb2 : (upd (upd H2 b (.tup [V.int (i : Int)])) b2 (.tup (pV pa ++ [.int (i : Int)]))) b2 = some (.tup (pV (pa ++ [i]))) := by rw [pV_snoc]; exact upd_same
      have s4 := s4.trans (sameN (o := .tup (pV pa ++ [V.int (i : Int)])) nb2)
      generalize upd (upd H2 b (.tup [V.int (i : Int)])) b2 (.tup (pV pa ++ [.int (i : Int)])) = H3 at s4 hb2 ⊢
      refine hD _ _ _ _ (by omega) ⟨y, b2, u, pa ++ [i], X, rfl, huy.mono (s3.trans s4), hb2, by omega, by omega, by rw [List.length_append, List.length_singleton]; omega, fun l5 H5 ws5 s5 n5 e5 r5 => ?_⟩
      have s45 := s4.trans s5
      have hlw5 := s45 _ _ hlw
      have hrs5 := hrs.mono s45
      have lw := paired_len hrs5
      have lw5 := paired_len r5
      have hw1 := walks_le pa 0 t.parts i
      have hw2 := sizes_le t
      rw [List.length_cons] at lw
      rw [walk_len] at lw5
      refine ⟨l, l5, ws, ws5, rfl, rfl, hlw5, e5, by omega, fun p np => ?_⟩
      have s6 := sameN (o := .lst (ws ++ ws5)) np
      have s36 := s3.trans (s45.trans s6)
      have npH : H p = none := by
        cases h : H p with
        | none => rfl
        | some o => rw [s3.trans s45 _ _ h] at np; cases np
      refine ⟨s36, p, ws ++ ws5, _, rfl, npH, upd_same, ?_⟩
      have ew : (pa, t) :: T.walks pa 0 (t.parts.take (i + 1)) = ((pa, t) :: T.walks pa 0 (t.parts.take i)) ++ u.walk (pa ++ [i]) := by
        rw [take_snoc hu, walks_snoc, List.length_take, Nat.min_eq_left (by omega), Nat.zero_add]
        rfl
      rw [ew]
      exact Rows.mono s6 (paired_append hrs5 r5)
  · rintro σ H2 ⟨s3, l, ws, w3, rfl, nl, hlw, hrs⟩
    refine ⟨_, rfl, qq l H2 ws s3 nl hlw ?_⟩
    rw [hdl, List.take_length] at hrs
    have ew : t.walk pa = (pa, t) :: T.walks pa 0 t.parts := by
      cases t
      conv => lhs; unfold T.walk
      rfl
    rw [ew]
    exact hrs
theorem ok_walk (ml : mg "len" = none) (mr : mg "range" = none) {f : Addr} {fd : FuncData} (F : Fun K "_law_walk" "_law_walk" sWalk f fd) (gm : Gf K mg "_law_walk" f) : ∀ D : Nat, FnR P w K mg base CX0 (D + 1) f (spWalk D)
  | 0 => walk_step ml mr F gm (k := 0) (sp := fun _ _ _ _ => False) (fun _ _ _ _ _ _ _ _ _ _ _ hs => hs.elim) fun _ _ _ _ h => absurd rfl h
  | D + 1 => walk_step ml mr F gm (k := D + 1) (ok_walk ml mr F gm D) fun _ _ _ _ _ h => h
end
end Tw
set_option maxHeartbeats 4000000
/-! _law_places. -/
namespace Tw
open PySem PySem.Spec PyProof.Rows L2
abbrev sLPlaces : Stmt := top 33
theorem passE {X : Cx} : Passes (L2.CX X.prog X.w) X E0 := fun _ _ _ _ _ _ _ h => by
  obtain ⟨a, B, H', cls, d, rfl, fl, _, _, _, _, _, hW⟩ := h
  exact hW.elim
def iP (p : Path) : List Int := p.map fun (k : Nat) => (k : Int)
theorem pV_iP (p : Path) : pV p = (iP p).map V.int := by
  unfold pV iP
  rw [List.map_map]
  rfl
def pD (p : Path) : PyData := .tuple (p.map fun (k : Nat) => .int (k : Int))
theorem dp_path {K : PySem.W.Frag} {H : Hp} {v : V} {p : Path} (h : PathAt H v p) : Dp K H v (pD p) := by
  obtain ⟨q, rfl, e⟩ := h
  have h1 : ∀ l : Path, DpAll K H (pV l) (l.map fun (k : Nat) => .int (k : Int)) := fun l => by
    induction l with
    | nil => exact .nil
    | cons x r ih => exact .cons (.int x) ih
  exact .tup (SqT.of e) (h1 p)
theorem dp_paths {K : PySem.W.Frag} {H : Hp} : ∀ {ys : List V} {ps : List Path}, Paired (PathAt H) ys ps → DpAll K H ys (ps.map pD)
  | _, _, .nil => .nil
  | _, _, .cons h t => .cons (dp_path h) (dp_paths t)
mutual
theorem eqv_self : ∀ d : PyData, d.canLay0 = true → PyData.eqv d d = true
  | .none, _ => by unfold PyData.eqv; rfl
  | .bool b, _ => by unfold PyData.eqv; simp
  | .int i, _ => by unfold PyData.eqv; simp
  | .str x, _ => by unfold PyData.eqv; simp
  | .list xs, h => by unfold PyData.eqv; unfold PyData.canLay0 at h; exact eqvAll_self xs h
  | .tuple xs, h => by unfold PyData.eqv; unfold PyData.canLay0 at h; exact eqvAll_self xs h
  | .dict _, h => by unfold PyData.canLay0 at h; cases h
theorem eqvAll_self : ∀ ds : List PyData, PyData.canLayAll0 ds = true → PyData.eqvAll ds ds = true
  | [], _ => by unfold PyData.eqvAll; rfl
  | d :: ds, h => by
    unfold PyData.canLayAll0 at h
    rw [Bool.and_eq_true] at h
    unfold PyData.eqvAll
    rw [eqv_self d h.1, eqvAll_self ds h.2]
    rfl
end
theorem path_shape (p : Path) : (pD p).canLay0 = true ∧ (pD p).depth = 1 := by
  have h1 : ∀ l : Path, PyData.canLayAll0 (l.map fun (k : Nat) => .int (k : Int)) = true ∧ PyData.depthAll (l.map fun (k : Nat) => .int (k : Int)) = 0 := fun l => by
    induction l with
    | nil => exact ⟨rfl, rfl⟩
    | cons x r ih =>
      rw [List.map_cons]
      unfold PyData.canLayAll0 PyData.depthAll
      rw [ih.1, ih.2]
      exact ⟨rfl, rfl⟩
  unfold pD PyData.canLay0 PyData.depth
  exact ⟨(h1 p).1, by rw [(h1 p).2]⟩
theorem shaped_paths (ps : List Path) : SeqAt.shaped (.list (ps.map pD)) = true := by
  have h1 : ∀ l : List Path, PyData.canLayAll0 (l.map pD) = true ∧ PyData.depthAll (l.map pD) ≤ 1 := fun l => by
    induction l with
    | nil => exact ⟨rfl, Nat.zero_le _⟩
    | cons x r ih =>
      rw [List.map_cons]
      unfold PyData.canLayAll0 PyData.depthAll
      rw [ih.1, (path_shape x).1, (path_shape x).2]
      exact ⟨rfl, by omega⟩
  unfold SeqAt.shaped
  refine Bool.and_eq_true_iff.mpr ⟨?_, decide_eq_true ?_⟩
  · unfold PyData.canLay0; exact (h1 ps).1
  · unfold PyData.depth; have := (h1 ps).2; omega
theorem rel_paired {α β : Type} {F : α → β → Prop} : ∀ {ys : List α} {es : List β}, ys.length = es.length → (∀ (j : Nat) (v : α), ys[j]? = some v → ∃ e, es[j]? = some e ∧ F v e) → Paired F ys es
  | [], [], _, _ => .nil
  | [], _ :: _, l, _ => by simp at l
  | _ :: _, [], l, _ => by simp at l
  | y :: ys, t :: ts, l, h => by
    obtain ⟨u, hu, h0⟩ := h 0 y rfl
    have e : t = u := by simpa using hu
    subst e
    exact .cons h0 (rel_paired (by simpa using l) fun j v e => h (j + 1) v (by simpa using e))
/-! where the walk's rows lead -/
mutual
theorem walk_at (pa : Path) : ∀ (t : T) (e : Path × T), e ∈ t.walk pa → ∃ r, e.1 = pa ++ r ∧ atP (iP r) t = some e.2
  | .node n ps, e, h => by
    unfold T.walk at h
    rcases List.mem_cons.mp h with rfl | h
    · exact ⟨[], by simp, rfl⟩
    · obtain ⟨j, u, r, hj, h1, h2⟩ := walks_at pa 0 ps e h
      refine ⟨j :: r, by rw [h1, Nat.zero_add], ?_⟩
      show atP ((j : Int) :: iP r) (.node n ps) = some e.2
      unfold atP
      have hlt := (List.getElem?_eq_some_iff.mp hj).1
      rw [if_pos ⟨by omega, by show (j : Int) < (ps.length : Int); omega⟩]
      show ((ps[((j : Nat) : Int).toNat]?).bind (atP (iP r))) = some e.2
      rw [Int.toNat_natCast, hj]
      exact h2
theorem walks_at (pa : Path) : ∀ (i : Nat) (ps : List T) (e : Path × T), e ∈ T.walks pa i ps → ∃ (j : Nat) (u : T) (r : Path), ps[j]? = some u ∧ e.1 = pa ++ (i + j) :: r ∧ atP (iP r) u = some e.2
  | _, [], e, h => by unfold T.walks at h; cases h
  | i, t :: ps, e, h => by
    unfold T.walks at h
    rcases List.mem_append.mp h with h | h
    · obtain ⟨r, h1, h2⟩ := walk_at (pa ++ [i]) t e h
      exact ⟨0, t, r, rfl, by rw [h1, List.append_assoc]; rfl, h2⟩
    · obtain ⟨j, u, r, hj, h1, h2⟩ := walks_at pa (i + 1) ps e h
      exact ⟨j + 1, u, r, by simpa using hj, by rw [h1, show i + 1 + j = i + (j + 1) by omega], h2⟩
end
theorem fT_paths {p : Addr} {t : T} : (fT p t).lookup ("paths" : Str) = none := by
  unfold fT
  rfl
def spLPlaces (C : Addr) : Sp := fun vs H Q _ => ∃ (v d : V) (t : T) (X : List Addr), vs = [v, d] ∧ TreeAt C H v t ∧ DueAt X H d t ∧ Ok t ∧ ∀ H', Same H H' → Q (.bl true) H'
section
variable {P : Program} {w : World} {K : PySem.W.Frag} {mg : Str → Option Value} {base : Heap} {C : Addr}
theorem scLp : FnScope ["actual", "due", "rows", "row"] ["actual", "due"] (defScope sLPlaces) := ⟨rfl, rfl, rfl, by decide +kernel, rfl, by decide +kernel, by decide +kernel⟩
theorem ok_lplaces {fw fP fC fG CN : Addr} {fdP : FuncData} (T1 : Tt K C) (gw : Gf K mg "_law_walk" fw) (Fw : FnR P w K mg base CX0 58 fw (spWalk 57)) (mP : Meth K C "paths" fP) (bP : Binds K fdP ["self"] []) (FP : GFn P w K mg base 2 fP fdP ["self"] (spPaths C)) (mL : mg "list" = none)
    (c1 : PySem.W.findIn K (.ref C) "__contains__" = some (some (.ref fC))) (c2 : PySem.W.isFn K (.ref fC) = true) (FC : FnR P w K mg base CX0 1 fC (spContains K C))
    (d1 : PySem.W.findIn K (.ref C) "__getitem__" = some (some (.ref fG))) (d2 : PySem.W.fnIn K fG = true) (d3 : PySem.W.isFn K (.ref fG) = true) (FG : FnR P w K mg base (L2.CX P w) 3 fG (spGetitem K C CN))
    {f : Addr} {fd : FuncData} (F : Fun K "_law_places" "_law_places" sLPlaces f fd) : FnR P w K mg base (L2.CX P w) 60 f (spLPlaces C) := by
  refine FnOk.toR (fd := fd) (ps := ["actual", "due"]) ?_ (F.binds fun _ _ _ _ _ _ us hl => match us, hl with | [_, _], _ => rfl)
  refine F.okX scLp (fun vs H Q E h => ?_) (fun cdv A outer s H vs Q E hr h => ?_)
  · obtain ⟨v, d, t, X, rfl, _⟩ := h
    rfl
  obtain ⟨v, d, t, X, rfl, ht, hd, hok, q⟩ := h
  have hr58 : Room 58 _ := hr.mono (by decide)
  have hr5 : Room 5 _ := hr.mono (by decide)
  have hr4 : Room 4 _ := hr.mono (by decide)
  have hr2 : Room 2 _ := hr.mono (by decide)
  have hr1 : Room 1 _ := hr.mono (by decide)
  refine ⟨_, pss_cons (ps_set (i := 2) scLp.nd rfl (Or.inl rfl) (pe_cf Fw hr58 gw pass0 (pa_cons (pv 1) (pa_cons (pe_tup pa_nil) pa_nil))))
    (pss_cons (ps_if (pt_cmpR (op_neD hr.units) (pe_listG (E := E0) (pgen_meth0 (pv 0) T1.cl mP FP hr2 bP .nil (by rfl)) passE (fun _ _ _ h => h.elim) hr5 (by rfl) mL (by decide +kernel))
        (pe_lc (own := [("row", 3)]) (g := gName 3) (tt := tYes) (te := tOp (rIxT K) (tVar 3) (tC (.int 0))) rfl scLp.nd (pi_list (pv 2)) (blkOk_by (own := [("row", 3)]) (N := ["actual", "due", "rows", "row"]) (sc := defScope sLPlaces) (by decide +kernel)) (fun _ _ _ _ _ => by exact pg_name (i := 3) scLp.nd rfl (Or.inl rfl)) (fun _ _ _ _ _ => by exact pts_nil) (fun _ _ _ _ _ => by exact pe_ix ix_tup (pv 3) pe_int (fun _ _ => rfl))) (nomark _)) (pss_one (ps_ret pe_bl)) pss_nil)
    (pss_cons (ps_for (passes_of rfl) rfl (pi_list (pv 2)) (pg_name (i := 3) scLp.nd rfl (Or.inl rfl))
      (pss_cons (ps_if (pt_cmpR op_isnot_bl (pe_cmpR (op_inD (E := E0) c1 c2 FC hr1 pass0) (pe_ix ix_tup (pv 3) pe_int (fun _ _ => rfl)) (pv 0) (by rfl)) pe_bl (nomark _)) (pss_one (ps_ret pe_bl)) pss_nil)
      (pss_one (ps_if (pt_cmpR op_ne (pe_fld (pe_ixD (E := E0) d1 d2 d3 FG hr4 passE (pv 0) (pe_ix ix_tup (pv 3) pe_int (fun _ _ => rfl))) rfl) (pe_ix ix_tup (pe_ix ix_tup (pv 3) pe_int (fun _ _ => rfl)) pe_int (fun _ _ => rfl)) (nomark _)) (pss_one (ps_ret pe_bl)) pss_nil))))
    (pss_one (ps_ret pe_bl)))), ?_⟩
  have sl := sizeLine_eq
  obtain ⟨a, dx, pp, pws, rfl, h1, h2, h3⟩ := ht.ex
  have hsz := hok.size
  have hlv := hok.levels
  refine ⟨_, rfl, Nat.zero_le _, fun q0 nq0 => ?_⟩
  have s0 := sameN (o := .tup []) nq0
  refine ⟨d, q0, t, [], X, rfl, hd.mono s0, upd_same, by omega, by omega, by (show 0 + t.levels ≤ 1000; omega), fun l H1 ws s1 nl hlw hrs => ?_⟩
  have s01 := s0.trans s1
  have lws := paired_len hrs
  have wl := walk_len [] t
  refine name_go ?_
  dsimp only
  clear s0 s1 nq0
  refine ⟨_, rfl, a, dx, _, rfl, s01 _ _ h1, fT_paths, _, t, rfl, ht.mono s01, by omega, fun ys H2 s2 hys lp nlp => ?_⟩
  have s3 := sameN (o := .lst ys) nlp
  have hys3 : Paired (PathAt (upd H2 lp (.lst ys))) ys ((t.walk []).map (·.1)) := Paired.mapP hys fun _ _ h => h.firm (.of s3)
  have e3 : (upd H2 lp (.lst ys)) lp = some (.lst ys) := upd_same
  have s23 := s2.trans s3
  generalize upd H2 lp (.lst ys) = H3 at s23 hys3 e3 ⊢
  have hrs3 := hrs.mono s23
  have hlw3 := s23 _ _ hlw
  refine ⟨_, rfl, l, rfl, ⟨_, SqL.of hlw3⟩, fun D hD => lc_rel walk_list hD (fun H' s => SqL.of (s _ _ hlw3)) (by omega) (fun j v H' => ∃ p, ((t.walk []).map (·.1))[j]? = some p ∧ PathAt H' v p) ?_ ?_ ?_ ?_⟩
  · rintro j v Ha Hb _ s ⟨p, e, hp⟩
    exact ⟨p, e, hp.firm (.of s)⟩
  · rintro j v Ha l1 l2 _ e1 ⟨p, e, hp⟩
    exact ⟨p, e, hp.firm (Firm.list e1)⟩
  · intro i x Ha R hx sm _ hR
    obtain ⟨e, he, ra, rq, rd, rfl, k1, k2, k3⟩ := paired_get hrs3 hx
    exact ⟨rfl, _, rfl, ra, _, _, .ref rq, rfl, rfl, SqT.of (sm _ _ k1), rfl, hR _ _ (Same.refl _) ⟨e.1, by rw [List.getElem?_map, he]; rfl, rq, rfl, sm _ _ k2⟩⟩
  intro H4 ys2 s4 e4 hl4 hr4'
  have hys4 : Paired (PathAt H4) ys2 ((t.walk []).map (·.1)) := rel_paired (by rw [List.length_map]; omega) hr4'
  have hys4' : Paired (PathAt H4) ys ((t.walk []).map (·.1)) := Paired.mapP hys3 fun _ _ h => h.firm (.of s4)
  have shp := shaped_paths ((t.walk []).map (·.1))
  refine ⟨_, _, .lst (SqL.of (s4 _ _ e3)) (dp_paths hys4'), .lst (SqL.of e4) (dp_paths hys4), shp, shp, ?_⟩
  rw [eqv_self _ (Bool.and_eq_true_iff.mp shp).1]
  refine ⟨_, rfl, iteF ?_⟩
  have s14 := s23.trans s4
  have s04 := s01.trans s14
  have hrs4 := hrs.mono s14
  have hlw4 := s14 _ _ hlw
  refine ⟨_, rfl, l, rfl, ⟨_, SqL.of hlw4⟩, for_list (xs := ws) (fun i σ H' => Same H4 H' ∧ ∃ w3, σ = [some (.ref a), some d, some (.ref l), w3]) ⟨Same.refl _, none, rfl⟩ (fun i σ H' _ ⟨s, _⟩ => SqL.of (s _ _ hlw4)) ?_ ?_⟩
  · rintro i x σ H5 hx ⟨s5, w3, rfl⟩
    obtain ⟨e, he, ra, rq, rd, rfl, k1, k2, k3⟩ := paired_get (hrs4.mono s5) hx
    obtain ⟨r, hr1, hr2⟩ := walk_at [] t e (List.mem_of_getElem? he)
    have hr1' : e.1 = r := by rw [hr1]; rfl
    have hsq : SqT K H5 rq ((iP r).map V.int) := by
      rw [← pV_iP, ← hr1']
      exact SqT.of k2
    have ht5 := ht.mono (s04.trans s5)
    have h15 := s5 _ _ (s04 _ _ h1)
    refine name_go ?_
    dsimp only
    refine ⟨_, rfl, ra, _, _, .ref rq, rfl, rfl, SqT.of k1, rfl, _, rfl, a, dx, _, rfl, h15, _, t, rq, iP r, rfl, ht5, hsq, _, rfl, _, _, rfl, rfl, _, rfl, ?_⟩
    rw [hr2]
    refine iteF ?_
    obtain ⟨du, dl, dvs, rfl, m1, m2, m3, m4⟩ := k3.ex
    refine ⟨_, rfl, _, rfl, ra, _, _, .ref rq, rfl, rfl, SqT.of k1, rfl, a, dx, _, rfl, h15, _, t, rq, iP r, rfl, ht5, hsq, fun u hu w hw => ?_, fun hn => ?_⟩
    · rw [hr2] at hu
      cases hu
      obtain ⟨wa, wx, wp, wvs, rfl, n1, n2, n3⟩ := hw.ex
      refine ⟨wa, C, wx, _, _, rfl, n1, T1.cl, T1.nTerm, fT_term, _, rfl, ra, _, _, .ref du, rfl, rfl, SqT.of k1, rfl, du, _, _, .str e.2.term, rfl, rfl, SqT.of m1, rfl, rfl, _, rfl, ite2 (fun c => absurd c (by simp)) (fun _ => ⟨s5, _, rfl⟩)⟩
    · rw [hr2] at hn
      cases hn
  · rintro σ H5 ⟨s5, w3, rfl⟩
    exact q H5 (s04.trans s5)
end
end Tw
set_option maxHeartbeats 4000000
/-! _law_order. -/
namespace Tw
open PySem PySem.Spec PyProof.Rows L2
abbrev sOrder : Stmt := top 34
/-! the size of a tree, from its term -/
def cnt (l : List Nat) : Nat := l.countP fun c => c == 40 || c == 44
theorem cnt_append (a b : List Nat) : cnt (a ++ b) = cnt a + cnt b := List.countP_append ..
theorem cnt_name {t : T} (h : t.fine = true) : cnt t.name.cps.toList = 0 := by
  unfold cnt
  rw [List.countP_eq_zero]
  intro c hc
  cases t with
  | node n ps =>
    have hc : c ∈ n.cps.toList := hc
    have : c ≠ 40 ∧ c ≠ 44 := by
      rcases fine_ex h with ⟨hl, _⟩ | ⟨hb, _⟩
      · rcases leaf_signs hl with e | ⟨d, e, hd⟩
        · rw [e] at hc
          simp at hc
          omega
        · rw [e] at hc
          have : c = d := by simpa using hc
          subst this
          unfold isDig at hd
          simp at hd
          omega
      · have := big_signs hb c hc
        unfold isWord isCap isSmall isDig at this
        simp at this
        omega
    simp
    exact this
theorem cnt_join : ∀ ys : List Str, ys ≠ [] → cnt (Txt.join ", " ys).cps.toList + 1 = (ys.map fun y => cnt y.cps.toList + 1).sum
  | [], h => absurd rfl h
  | [y], _ => by
    rw [TL.join_eq]
    show cnt y.cps.toList + 1 = _
    simp
  | y :: z :: r, _ => by
    have ih := cnt_join (z :: r) (by simp)
    have e : Txt.join ", " (y :: z :: r) = y ++ ", " ++ Txt.join ", " (z :: r) := by rw [TL.join_eq, TL.join_eq] <;> rfl
    have e2 : cnt (", " : Str).cps.toList = 1 := by decide +kernel
    rw [e, add_list, add_list, cnt_append, cnt_append, e2, List.map_cons, List.sum_cons]
    omega
mutual
theorem cnt_term : ∀ {t : T}, t.fine = true → cnt t.term.cps.toList + 1 = t.size
  | .node n ps, h => by
    have h0 : cnt n.cps.toList = 0 := cnt_name h
    have h1 := cnt_terms (ps := ps) (fine_parts h).2
    rw [size_node]
    cases ps with
    | nil =>
      unfold T.term T.sizes
      omega
    | cons p r =>
      have e1 : cnt ("(" : Str).cps.toList = 1 := by decide +kernel
      have e2 : cnt (")" : Str).cps.toList = 0 := by decide +kernel
      have h2 := cnt_join (T.terms (p :: r)) (by rw [terms_map]; simp)
      rw [terms_map, List.map_map] at h2
      rw [term_cons n (by simp), add_list, add_list, add_list, cnt_append, cnt_append, cnt_append, e1, e2, terms_map]
      have h3 : ((p :: r).map ((fun y => cnt y.cps.toList + 1) ∘ T.term)).sum = T.sizes (p :: r) := h1
      omega
theorem cnt_terms : ∀ {ps : List T}, (∀ u ∈ ps, u.fine = true) → (ps.map ((fun y : Str => cnt y.cps.toList + 1) ∘ T.term)).sum = T.sizes ps
  | [], _ => by unfold T.sizes; rfl
  | p :: r, h => by
    have h1 := cnt_term (h p List.mem_cons_self)
    have h2 := cnt_terms (ps := r) fun u hu => h u (List.mem_cons_of_mem _ hu)
    unfold T.sizes
    rw [List.map_cons, List.sum_cons, h2]
    show cnt p.term.cps.toList + 1 + _ = _
    omega
end
theorem eq_terms {t u : T} (h1 : t.fine = true) (h2 : u.fine = true) : tEq t u = decide (V.str t.term = V.str u.term) := by
  unfold tEq pairEq
  by_cases e : t.term = u.term
  · have h3 := cnt_term h1
    have h4 := cnt_term h2
    rw [e] at h3
    have h5 : t.size = u.size := by omega
    rw [e, h5, decide_eq_true rfl]
    simp
  · rw [decide_eq_false (fun z => e (V.str.inj z))]
    simp [e]
def KeyAt (H : Hp) (v : V) (t : T) : Prop := ∃ a, v = .ref a ∧ H a = some (.tup [.int t.size, .str t.term])
def spOrder (C : Addr) : Sp := fun vs H Q _ => ∃ (m ds : Addr) (mvs dvs : List V) (ts : List T) (X : List Addr), vs = [.ref m, .ref ds] ∧ H m = some (.lst mvs) ∧ H ds = some (.lst dvs) ∧ TreesAt C H mvs ts ∧ DuesAt X H dvs ts ∧ ts.length ≤ 10 ∧ (∀ t ∈ ts, Ok t) ∧ ∀ H', Same H H' → Q (.bl true) H'
section
variable {P : Program} {w : World} {K : PySem.W.Frag} {mg : Str → Option Value} {base : Heap} {C : Addr}
theorem scOr : FnScope ["made", "dues", "keys", "due", "i", "j"] ["made", "dues"] (defScope sOrder) := ⟨rfl, rfl, rfl, by decide +kernel, rfl, by decide +kernel, by decide +kernel⟩
theorem ok_order {fL fE fQ : Addr} (ml : mg "len" = none) (mr : mg "range" = none) (hn : PySem.W.notFirst K C (.ref C) = true)
    (l1 : PySem.W.findIn K (.ref C) "__lt__" = some (some (.ref fL))) (l2 : PySem.W.isFn K (.ref fL) = true) (FL : FnR P w K mg base CX0 1 fL (spCmp C tLt))
    (e1 : PySem.W.findIn K (.ref C) "__le__" = some (some (.ref fE))) (e2 : PySem.W.isFn K (.ref fE) = true) (FE : FnR P w K mg base CX0 1 fE (spCmp C tLe))
    (q1 : PySem.W.findIn K (.ref C) "__eq__" = some (some (.ref fQ))) (q2 : PySem.W.isFn K (.ref fQ) = true) (FQ : FnR P w K mg base CX0 1 fQ (spCmp C tEq))
    {f : Addr} {fd : FuncData} (F : Fun K "_law_order" "_law_order" sOrder f fd) : FnR P w K mg base CX0 2 f (spOrder C) := by
  refine okR F scOr (fun vs H Q E h => ?_) (fun _ _ _ _ _ _ us hl => match us, hl with | [_, _], _ => rfl) (fun cdv A outer s H vs Q E hr h => ?_)
  · obtain ⟨m, ds, mvs, dvs, ts, X, rfl, _⟩ := h
    rfl
  obtain ⟨m, ds, mvs, dvs, ts, X, rfl, hm, hds, hts, hdu, hlen, hok, q⟩ := h
  refine ⟨_, pss_cons (ps_setLc (i := 2) (own := [("due", 3)]) (g := gName 3) (tt := tYes) (te := tTup (tCons (tOp (rIxT K) (tVar 3) (tC (.int 0))) (tCons (tOp (rIxT K) (tVar 3) (tC (.int 2))) tNil))) rfl scOr.nd rfl rfl (by rfl) (pi_list (pv 1)) (blkOk_by (own := [("due", 3)]) (N := ["made", "dues", "keys", "due", "i", "j"]) (sc := defScope sOrder) (by decide +kernel))
      (fun _ _ _ _ _ => by exact pg_name (i := 3) scOr.nd rfl (Or.inl rfl)) (fun _ _ _ _ _ => by exact pts_nil) (fun _ _ _ _ _ => by exact pe_tup (pa_cons (pe_ix ix_tup (pv 3) pe_int (fun _ _ => rfl)) (pa_cons (pe_ix ix_tup (pv 3) pe_int (fun _ _ => rfl)) pa_nil))))
    (pss_cons (ps_for PassesOwn.never rfl (pi_range1 (by rfl) mr (pa_cons (pe_callB call_len_seq (by rfl) ml PySem.boot_len (pa_cons (pv 0) pa_nil)) pa_nil)) (pg_name (i := 4) scOr.nd rfl (Or.inl rfl))
      (pss_one (ps_for PassesOwn.never rfl (pi_range1 (by rfl) mr (pa_cons (pe_callB call_len_seq (by rfl) ml PySem.boot_len (pa_cons (pv 0) pa_nil)) pa_nil)) (pg_name (i := 5) scOr.nd rfl (Or.inl rfl))
        (pss_cons (ps_if (pt_cmpR op_ne (pe_cmpR (op_ownD (E := E0) (op := .Lt) (fun _ _ => rfl) l1 l2 hn FL hr pass0) (pe_ix ix_list (pv 0) (pv 4) (fun _ _ => rfl)) (pe_ix ix_list (pv 0) (pv 5) (fun _ _ => rfl)) (nomark _)) (pe_cmpR (op_pairLt hr.units0) (pe_ix ix_list (pv 2) (pv 4) (fun _ _ => rfl)) (pe_ix ix_list (pv 2) (pv 5) (fun _ _ => rfl)) (nomark _)) (nomark _)) (pss_one (ps_ret pe_bl)) pss_nil)
        (pss_cons (ps_if (pt_cmpR op_ne (pe_cmpR (op_ownD (E := E0) (op := .LtE) (fun _ _ => rfl) e1 e2 hn FE hr pass0) (pe_ix ix_list (pv 0) (pv 4) (fun _ _ => rfl)) (pe_ix ix_list (pv 0) (pv 5) (fun _ _ => rfl)) (nomark _)) (pe_cmpR (op_pairLe hr.units0) (pe_ix ix_list (pv 2) (pv 4) (fun _ _ => rfl)) (pe_ix ix_list (pv 2) (pv 5) (fun _ _ => rfl)) (nomark _)) (nomark _)) (pss_one (ps_ret pe_bl)) pss_nil)
        (pss_one (ps_if (pt_cmpR op_ne (pe_cmpR (op_ownD (E := E0) (op := .Eq) (fun _ _ => rfl) q1 q2 hn FQ hr pass0) (pe_ix ix_list (pv 0) (pv 4) (fun _ _ => rfl)) (pe_ix ix_list (pv 0) (pv 5) (fun _ _ => rfl)) (nomark _)) (pe_cmpR op_eq (pe_ix ix_tup (pe_ix ix_list (pv 2) (pv 4) (fun _ _ => rfl)) pe_int (fun _ _ => rfl)) (pe_ix ix_tup (pe_ix ix_list (pv 2) (pv 5) (fun _ _ => rfl)) pe_int (fun _ _ => rfl)) (nomark _)) (nomark _)) (pss_one (ps_ret pe_bl)) pss_nil)))))))
    (pss_one (ps_ret pe_bl))), ?_⟩
  have sl := sizeLine_eq
  have hml := hts.len
  have hdl := hdu.len
  refine ⟨_, rfl, ds, rfl, ⟨_, SqL.of hds⟩, fun D hD => lc_rel walk_list hD (fun H' s => SqL.of (s _ _ hds)) (by omega) (fun j v H' => ∃ u, ts[j]? = some u ∧ KeyAt H' v u) ?_ ?_ ?_ ?_⟩
  · rintro j v Ha Hb _ s ⟨u, e, a, rfl, h⟩
    exact ⟨u, e, a, rfl, s _ _ h⟩
  · rintro j v Ha l1 l2 _ e1 ⟨u, e, a, rfl, h⟩
    exact ⟨u, e, a, rfl, (Firm.list e1).1 _ _ h⟩
  · intro i x Ha R hx sm _ hR
    obtain ⟨u, hu, hux⟩ := hdu.get hx
    obtain ⟨ua, ul, uvs, rfl, u1, u2, u3, u4⟩ := hux.ex
    refine ⟨rfl, _, rfl, ua, _, _, .int u.size, rfl, rfl, SqT.of (sm _ _ u1), rfl, _, rfl, ua, _, _, .str u.term, rfl, rfl, SqT.of (sm _ _ u1), rfl, by (show 2 ≤ sizeLine; omega), fun b nb => ?_⟩
    exact hR _ _ (sameN nb) ⟨u, hu, b, rfl, upd_same⟩
  intro H1 ks s1 hks hkl hkr
  have hkt : Paired (KeyAt H1) ks ts := rel_paired (by omega) hkr
  refine name_go ?_
  dsimp only
  have hm1 := s1 _ _ hm
  refine ⟨_, rfl, m, mvs, rfl, .inl (SqL.of hm1), _, rfl, by omega, by omega, ?_⟩
  refine for_range (n := mvs.length) (fun i σ H' => Same H1 H' ∧ ∃ w4 w5, σ = [some (.ref m), some (.ref ds), some (.ref D), none, w4, w5]) ⟨Same.refl _, none, none, rfl⟩ ?_ ?_
  · rintro i σ H2 hi ⟨s2, w4, w5, rfl⟩
    refine name_go ?_
    dsimp only
    rw [Int.zero_add]
    have hm2 := s2 _ _ hm1
    obtain ⟨x, hx⟩ : ∃ x, mvs[i]? = some x := ⟨_, List.getElem?_eq_getElem hi⟩
    obtain ⟨t, ht, htx⟩ := hts.get hx
    obtain ⟨kx, hkx⟩ : ∃ kx, ks[i]? = some kx := ⟨_, List.getElem?_eq_getElem (by omega)⟩
    obtain ⟨t', ht', ka, rfl, kh⟩ := paired_get hkt hkx
    rw [ht] at ht'
    cases ht'
    have okt := hok t (List.mem_of_getElem? ht)
    refine ⟨_, rfl, m, mvs, rfl, .inl (SqL.of hm2), _, rfl, by omega, by omega, ?_⟩
    refine for_range (n := mvs.length) (fun j σ H' => Same H2 H' ∧ ∃ w5, σ = [some (.ref m), some (.ref ds), some (.ref D), none, some (.int (i : Int)), w5]) ⟨Same.refl _, w5, rfl⟩ ?_ ?_
    · rintro j σ H3 hj ⟨s3, w5, rfl⟩
      refine name_go ?_
      dsimp only
      rw [Int.zero_add]
      obtain ⟨y, hy⟩ : ∃ y, mvs[j]? = some y := ⟨_, List.getElem?_eq_getElem hj⟩
      obtain ⟨u, hu, huy⟩ := hts.get hy
      obtain ⟨ky, hky⟩ : ∃ ky, ks[j]? = some ky := ⟨_, List.getElem?_eq_getElem (by omega)⟩
      obtain ⟨u', hu', kb, rfl, kg⟩ := paired_get hkt hky
      rw [hu] at hu'
      cases hu'
      have oku := hok u (List.mem_of_getElem? hu)
      have s13 := s1.trans (s2.trans s3)
      have s23 := s2.trans s3
      obtain ⟨ta, tx, tp, tvs, rfl, t1, t2, t3⟩ := (htx.mono s13).ex
      obtain ⟨ua, ux, up, uvs, rfl, u1, u2, u3⟩ := (huy.mono s13).ex
      have htx3 := htx.mono s13
      have huy3 := huy.mono s13
      have hm3 := s13 _ _ hm
      have hk3 := s23 _ _ hks
      -- <
      refine ⟨_, rfl, _, rfl, m, mvs, _, _, rfl, rfl, SqL.of hm3, atI_nat hx, _, rfl, _, rfl, m, mvs, _, _, rfl, rfl, SqL.of hm3, atI_nat hy, ta, tx, _, ua, ux, _, rfl, rfl, t1, u1, _, _, t, u, rfl, htx3, huy3, fun H4 s4 => ?_⟩
      refine ⟨_, rfl, _, rfl, D, ks, _, _, rfl, rfl, SqL.of (s4 _ _ hk3), atI_nat hkx, _, rfl, _, rfl, D, ks, _, _, rfl, rfl, SqL.of (s4 _ _ hk3), atI_nat hky, ka, kb, _, _, _, _, rfl, rfl, SqT.of (s4 _ _ (s23 _ _ kh)), SqT.of (s4 _ _ (s23 _ _ kg)), rfl, _, rfl, ite2 (fun c => absurd c (by simp [tLt])) (fun _ => ?_)⟩
      -- <=
      have s14 := s13.trans s4
      refine ⟨_, rfl, _, rfl, m, mvs, _, _, rfl, rfl, SqL.of (s14 _ _ hm), atI_nat hx, _, rfl, _, rfl, m, mvs, _, _, rfl, rfl, SqL.of (s14 _ _ hm), atI_nat hy, ta, tx, _, ua, ux, _, rfl, rfl, s4 _ _ t1, s4 _ _ u1, _, _, t, u, rfl, htx3.mono s4, huy3.mono s4, fun H5 s5 => ?_⟩
      have s45 := s4.trans s5
      refine ⟨_, rfl, _, rfl, D, ks, _, _, rfl, rfl, SqL.of (s45 _ _ hk3), atI_nat hkx, _, rfl, _, rfl, D, ks, _, _, rfl, rfl, SqL.of (s45 _ _ hk3), atI_nat hky, ka, kb, _, _, _, _, rfl, rfl, SqT.of (s45 _ _ (s23 _ _ kh)), SqT.of (s45 _ _ (s23 _ _ kg)), rfl, _, rfl, ite2 (fun c => absurd c (by simp [tLe])) (fun _ => ?_)⟩
      -- ==
      have s15 := s13.trans s45
      refine ⟨_, rfl, _, rfl, m, mvs, _, _, rfl, rfl, SqL.of (s15 _ _ hm), atI_nat hx, _, rfl, _, rfl, m, mvs, _, _, rfl, rfl, SqL.of (s15 _ _ hm), atI_nat hy, ta, tx, _, ua, ux, _, rfl, rfl, s45 _ _ t1, s45 _ _ u1, _, _, t, u, rfl, htx3.mono s45, huy3.mono s45, fun H6 s6 => ?_⟩
      have s46 := s45.trans s6
      refine ⟨_, rfl, _, rfl, D, ks, _, _, rfl, rfl, SqL.of (s46 _ _ hk3), atI_nat hkx, ka, _, _, .str t.term, rfl, rfl, SqT.of (s46 _ _ (s23 _ _ kh)), rfl, _, rfl, _, rfl, D, ks, _, _, rfl, rfl, SqL.of (s46 _ _ hk3), atI_nat hky, kb, _, _, .str u.term, rfl, rfl, SqT.of (s46 _ _ (s23 _ _ kg)), rfl, rfl, rfl, _, rfl, ite2 (fun c => absurd c ?_) (fun _ => ⟨s3.trans s46, _, rfl⟩)⟩
      rw [eq_terms okt.fine oku.fine]
      simp
    · rintro σ H3 ⟨s3, w5, rfl⟩
      exact ⟨s2.trans s3, _, _, rfl⟩
  · rintro σ H2 ⟨s2, w4, w5, rfl⟩
    exact q H2 (s1.trans s2)
end
end Tw
set_option maxHeartbeats 4000000
/-! _law_astray. -/
namespace Tw
open PySem PySem.Spec PyProof.Rows L2
abbrev sAstray : Stmt := top 35
theorem atP_cons (i : Int) (is : List Int) (t : T) : atP (i :: is) t = if 0 ≤ i ∧ i < (t.parts.length : Int) then (t.parts[i.toNat]?).bind (atP is) else none := rfl
theorem atP_append : ∀ (is js : List Int) (t u : T), atP is t = some u → atP (is ++ js) t = atP js u
  | [], js, t, u, h => by
    have : t = u := Option.some.inj h
    subst this
    rfl
  | i :: is, js, t, u, h => by
    rw [List.cons_append, atP_cons]
    rw [atP_cons] at h
    by_cases c : 0 ≤ i ∧ i < (t.parts.length : Int)
    · rw [if_pos c] at h ⊢
      cases e : t.parts[i.toNat]? with
      | none => rw [e] at h; cases h
      | some v =>
        rw [e] at h
        exact atP_append is js v u h
    · rw [if_neg c] at h
      cases h
theorem atP_out {i : Int} {is : List Int} {t : T} (h : ¬ (0 ≤ i ∧ i < (t.parts.length : Int))) : atP (i :: is) t = none := by
  rw [atP_cons, if_neg h]
def spAstray (K : PySem.W.Frag) : Sp := fun vs H Q _ => ∃ (p r : Addr) (d : V) (t : T), vs = [.ref p, d] ∧ PoolAt H p r ∧ DueAt [p, r] H d t ∧ Ok t ∧
  ∀ q is H', H' q = some (.tup (List.map V.int is)) → atP is t = none → PoolAt H' p r → KeptBut [p, r] H H' → Firm H H' → Q (.ref q) H'
section
variable {P : Program} {w : World} {K : PySem.W.Frag} {mg : Str → Option Value} {base : Heap} {C : Addr}
theorem scAs : FnScope ["pool", "due", "rows", "row", "width", "far", "step", "path"] ["pool", "due"] (defScope sAstray) := ⟨rfl, rfl, rfl, by decide +kernel, rfl, by decide +kernel, by decide +kernel⟩
theorem ok_astray {fw fd0 : Addr} (gw : Gf K mg "_law_walk" fw) (Fw : FnR P w K mg base CX0 58 fw (spWalk 57)) (gd : Gf K mg "_law_draw" fd0) (Fd : FnR P w K mg base CX0 1 fd0 spDraw) (ml : mg "len" = none) {f : Addr} {fd : FuncData} (F : Fun K "_law_astray" "_law_astray" sAstray f fd) : FnR P w K mg base CX0 59 f (spAstray K) := by
  refine okR F scAs (fun vs H Q E h => ?_) (fun _ _ _ _ _ _ us hl => match us, hl with | [_, _], _ => rfl) (fun cdv A outer s H vs Q E hr h => ?_)
  · obtain ⟨p, r, d, t, rfl, _⟩ := h
    rfl
  obtain ⟨p, r, d, t, rfl, hp, hd, hok, q⟩ := h
  have hr1 : Room 1 _ := hr.mono (by decide)
  refine ⟨_, pss_cons (ps_set (i := 2) scAs.nd rfl (Or.inl rfl) (pe_cf Fw hr gw pass0 (pa_cons (pv 1) (pa_cons (pe_tup pa_nil) pa_nil))))
    (pss_cons (ps_set (i := 3) scAs.nd rfl (Or.inl rfl) (pe_ix ix_list (pv 2) (pe_cf Fd hr1 gd pass0 (pa_cons (pv 0) (pa_cons (pe_callB (r := rLenQ _) call_len_seq (by rfl) ml PySem.boot_len (pa_cons (pv 2) pa_nil)) pa_nil))) (fun _ _ => rfl)))
    (pss_cons (ps_set (i := 4) scAs.nd rfl (Or.inl rfl) (pe_callB (r := rLenQ _) call_len_seq (by rfl) ml PySem.boot_len (pa_cons (pe_ix ix_tup (pe_ix ix_tup (pv 3) pe_int (fun _ _ => rfl)) pe_int (fun _ _ => rfl)) pa_nil)))
    (pss_cons (ps_set (i := 5) scAs.nd rfl (Or.inl rfl) (pe_op op_add (pe_op op_add (pv 4) pe_int) (pe_cf Fd hr1 gd pass0 (pa_cons (pv 0) (pa_cons pe_int pa_nil)))))
    (pss_cons (ps_set (i := 6) scAs.nd rfl (Or.inl rfl) (pe_ix ix_list (pe_lst (pa_cons (pv 4) (pa_cons (pe_un un_neg pe_int) (pa_cons (pv 5) (pa_cons (pe_op op_sub (pe_un un_neg pe_int) (pv 4)) pa_nil))))) (pe_cf Fd hr1 gd pass0 (pa_cons (pv 0) (pa_cons pe_int pa_nil))) (fun _ _ => rfl)))
    (pss_cons (ps_set (i := 7) scAs.nd rfl (Or.inl rfl) (pe_op op_catA (pe_ix ix_tup (pv 3) pe_int (fun _ _ => rfl)) (pe_tup (pa_cons (pv 6) pa_nil))))
    (pss_one (ps_ret (pe_op op_catA (pv 7) (pe_ix ix_list (pe_lst (pa_cons (pe_tup pa_nil) (pa_cons (pe_tup (pa_cons pe_int pa_nil)) (pa_cons (pe_tup (pa_cons (pe_un un_neg pe_int) (pa_cons pe_int pa_nil))) (pa_cons (pe_tup pa_nil) pa_nil))))) (pe_cf Fd hr1 gd pass0 (pa_cons (pv 0) (pa_cons pe_int pa_nil))) (fun _ _ => rfl))))))))))  , ?_⟩
  have sl := sizeLine_eq
  have hsz := hok.size
  have hlv := hok.levels
  refine ⟨_, rfl, Nat.zero_le _, fun q0 nq0 => ?_⟩
  have s0 := sameN (o := .tup []) nq0
  refine ⟨d, q0, t, [], [p, r], rfl, hd.mono s0, upd_same, by omega, by omega, by (show 0 + t.levels ≤ 1000; omega), fun l H1 ws s1 nl hlw hrs => ?_⟩
  have s01 := s0.trans s1
  have lws := paired_len hrs
  have wl := walk_len [] t
  have tpos := size_pos t
  refine name_go ?_
  dsimp only
  have p1 := hp.same s01
  have nlH : H l = none := by
    cases h : H l with
    | none => rfl
    | some o => rw [s0 _ _ h] at nl; cases nl
  have nlp : l ∉ [p, r] := fun h => by
    obtain ⟨_, rows, sd, c, e1, e2, _⟩ := hp
    simp at h
    rcases h with rfl | rfl
    · rw [e1] at nlH; cases nlH
    · rw [e2] at nlH; cases nlH
  refine ⟨_, rfl, _, rfl, _, rfl, l, ws, rfl, .inl (SqL.of hlw), p, r, ws.length, rfl, p1, by omega, by omega, fun n H2 hn p2 k2 f2 => ?_⟩
  obtain ⟨x, hx⟩ : ∃ x, ws[n]? = some x := ⟨_, List.getElem?_eq_getElem hn⟩
  obtain ⟨e, he, ra, rq, rd, rfl, g1, g2, g3⟩ := paired_get (hrs.kept k2 f2) hx
  refine ⟨l, ws, _, _, rfl, rfl, SqL.of (k2 _ _ hlw nlp), atI_nat hx, ?_⟩
  refine name_go ?_
  dsimp only
  obtain ⟨du, dl, dvs, rfl, m1, m2, m3, m4⟩ := g3.ex
  have hdl := m4.len
  refine ⟨_, rfl, ra, _, _, .ref du, rfl, rfl, SqT.of g1, rfl, du, _, _, .ref dl, rfl, rfl, SqT.of m1, rfl, dl, dvs, rfl, .inl (SqL.of m3), ?_⟩
  refine name_go ?_
  dsimp only
  have k02 : KeptBut [p, r] H H2 := (KeptBut.of s01).trans k2
  have f02 : Firm H H2 := (Firm.of s01).trans f2
  refine ⟨_, rfl, _, _, rfl, rfl, _, rfl, p, r, 1000000, rfl, p2, by decide, by decide, fun far H3 hfar p3 k3 f3 => ⟨_, _, rfl, rfl, ?_⟩⟩
  refine name_go ?_
  dsimp only
  have k03 := k02.trans k3
  have f03 := f02.trans f3
  obtain ⟨wd, hwd⟩ : ∃ wd : Int, (dvs.length : Int) = wd := ⟨_, rfl⟩
  rw [hwd]
  -- step
  refine ⟨_, rfl, _, rfl, _, rfl, _, rfl, _, rfl, _, _, rfl, rfl, by (show 4 ≤ sizeLine; omega), fun li nli => ?_⟩
  have s4 := sameN (o := .lst [V.int wd, .int (-1), .int (wd + 1 + (far : Int)), .int (-1 - wd)]) nli
  have p4 := p3.same s4
  have lip : li ∉ [p, r] := fun h => by
    obtain ⟨_, rows, sd, c, e1, e2, _⟩ := p3
    simp at h
    rcases h with rfl | rfl
    · rw [e1] at nli; cases nli
    · rw [e2] at nli; cases nli
  have e4 : (upd H3 li (.lst [V.int wd, .int (-1), .int (wd + 1 + (far : Int)), .int (-1 - wd)])) li = some (.lst [V.int wd, .int (-1), .int (wd + 1 + (far : Int)), .int (-1 - wd)]) := upd_same
  refine ⟨_, rfl, p, r, 4, rfl, p4, by decide, by decide, fun c H5 hc p5 k5 f5 => ?_⟩
  obtain ⟨st, hst, hso⟩ : ∃ st : Int, atI [V.int wd, .int (-1), .int (wd + 1 + (far : Int)), .int (-1 - wd)] (c : Int) = some (.int st) ∧ ¬ (0 ≤ st ∧ st < wd) := by
    match c, hc with
    | 0, _ => exact ⟨wd, rfl, by omega⟩
    | 1, _ => exact ⟨-1, rfl, by omega⟩
    | 2, _ => exact ⟨_, rfl, by omega⟩
    | 3, _ => exact ⟨_, rfl, by omega⟩
    | c + 4, h => exact absurd h (by omega)
  refine ⟨li, _, _, .int st, rfl, rfl, SqL.of (k5 _ _ e4 lip), hst, ?_⟩
  refine name_go ?_
  dsimp only
  have k05 : KeptBut [p, r] H H5 := k03.trans ((KeptBut.of s4).trans k5)
  have f05 : Firm H H5 := f03.trans ((Firm.of s4).trans f5)
  have f25 : Firm H2 H5 := f3.trans ((Firm.of s4).trans f5)
  have g15 := f25.1 _ _ g1
  have g25 := f25.1 _ _ g2
  have plen : (pV e.1).length ≤ 20000 := by
    rw [pV_len]
    have := walk_deep [] t e (List.mem_of_getElem? he)
    have := size_pos e.2
    simp at *
    omega
  refine seq_join (fun σ H' => ∃ b2, σ = [some (.ref p), some d, some (.ref l), some (.ref ra), some (.int wd), some (.int (wd + 1 + (far : Int))), some (.int st), some (.ref b2)] ∧ H' b2 = some (.tup (pV e.1 ++ [.int st])) ∧ PoolAt H' p r ∧ KeptBut [p, r] H H' ∧ Firm H H') (fun nx hnx => ?_) ?_
  · refine ⟨_, rfl, ra, _, _, .ref rq, rfl, rfl, SqT.of g15, rfl, _, rfl, by (show 1 ≤ sizeLine; omega), fun b nb => ?_⟩
    have s6 := sameN (o := .tup [V.int st]) nb
    refine ⟨rq, b, pV e.1, [.int st], rfl, rfl, SqT.of (s6 _ _ g25), SqT.of upd_same, by (show (pV e.1).length + 1 ≤ sizeLine; omega), fun h0 => ?_, fun _ h => absurd h (by simp), fun _ _ b2 nb2 => ?_⟩
    · exact hnx _ _ ⟨b, rfl, by rw [h0]; exact upd_same, p5.same s6, k05.trans (.of s6), f05.trans (.of s6)⟩
    · have s7 := s6.trans (sameN (o := .tup (pV e.1 ++ [V.int st])) nb2)
      exact hnx _ _ ⟨b2, rfl, upd_same, p5.same s7, k05.trans (.of s7), f05.trans (.of s7)⟩
  rintro σ H6 ⟨b2, rfl, e6, p6, k6, f6⟩
  -- the rest
  refine ⟨_, rfl, Nat.zero_le _, fun t1 n1 => ?_⟩
  have z1 := sameN (o := .tup []) n1
  refine ⟨by (show 1 ≤ sizeLine; omega), fun t2 n2 => ?_⟩
  have z2 := sameN (o := .tup [V.int 0]) n2
  refine ⟨_, rfl, by (show 2 ≤ sizeLine; omega), fun t3 n3 => ?_⟩
  have z3 := sameN (o := .tup [V.int (-1), .int 1]) n3
  refine ⟨Nat.zero_le _, fun t4 n4 => ?_⟩
  have z4 := sameN (o := .tup []) n4
  refine ⟨by (show 4 ≤ sizeLine; omega), fun tl ntl => ?_⟩
  have z5 := sameN (o := .lst [V.ref t1, .ref t2, .ref t3, .ref t4]) ntl
  have y1 := z5 _ _ (z4 _ _ (z3 _ _ (z2 _ _ (upd_same (H := H6) (a := t1) (o := .tup [])))))
  have y2 := z5 _ _ (z4 _ _ (z3 _ _ (upd_same (H := upd H6 t1 (.tup [])) (a := t2) (o := .tup [V.int 0]))))
  have y3 := z5 _ _ (z4 _ _ (upd_same (H := upd (upd H6 t1 (.tup [])) t2 (.tup [V.int 0])) (a := t3) (o := .tup [V.int (-1), .int 1])))
  have y4 := z5 _ _ (upd_same (H := upd (upd (upd H6 t1 (.tup [])) t2 (.tup [V.int 0])) t3 (.tup [V.int (-1), .int 1])) (a := t4) (o := .tup []))
  have y5 := upd_same (H := upd (upd (upd (upd H6 t1 (.tup [])) t2 (.tup [V.int 0])) t3 (.tup [V.int (-1), .int 1])) t4 (.tup [])) (a := tl) (o := .lst [V.ref t1, .ref t2, .ref t3, .ref t4])
  have z15 := z1.trans (z2.trans (z3.trans (z4.trans z5)))
  generalize (upd (upd (upd (upd (upd H6 t1 (.tup [])) t2 (.tup [V.int 0])) t3 (.tup [V.int (-1), .int 1])) t4 (.tup [])) tl (.lst [V.ref t1, .ref t2, .ref t3, .ref t4])) = H7 at y1 y2 y3 y4 y5 z15 ⊢
  have tlp : tl ∉ [p, r] := fun h => by
    obtain ⟨_, rows, sd, c, e1, e2, _⟩ := p6.same (z1.trans (z2.trans (z3.trans z4)))
    simp at h
    rcases h with rfl | rfl
    · rw [e1] at ntl; cases ntl
    · rw [e2] at ntl; cases ntl
  refine ⟨_, rfl, p, r, 4, rfl, p6.same z15, by decide, by decide, fun c2 H8 hc2 p8 k8 f8 => ?_⟩
  obtain ⟨tk, js, hat, hk, hjl⟩ : ∃ (tk : Addr) (js : List Int), atI [V.ref t1, .ref t2, .ref t3, .ref t4] (c2 : Int) = some (.ref tk) ∧ H8 tk = some (.tup (js.map V.int)) ∧ js.length ≤ 2 := by
    match c2, hc2 with
    | 0, _ => exact ⟨t1, [], rfl, f8.1 _ _ y1, by decide⟩
    | 1, _ => exact ⟨t2, [0], rfl, f8.1 _ _ y2, by decide⟩
    | 2, _ => exact ⟨t3, [-1, 1], rfl, f8.1 _ _ y3, by decide⟩
    | 3, _ => exact ⟨t4, [], rfl, f8.1 _ _ y4, by decide⟩
    | c + 4, h => exact absurd h (by omega)
  have k08 : KeptBut [p, r] H H8 := k6.trans ((KeptBut.of z15).trans k8)
  have f08 : Firm H H8 := f6.trans ((Firm.of z15).trans f8)
  have e8 := f8.1 _ _ (z15 _ _ e6)
  have out : atP (iP e.1 ++ st :: js) t = none := by
    obtain ⟨r', hr1, hr2⟩ := walk_at [] t e (List.mem_of_getElem? he)
    have hr1' : e.1 = r' := by rw [hr1]; rfl
    rw [hr1', atP_append _ _ _ _ hr2]
    exact atP_out (by rw [← hdl, hwd]; exact hso)
  have pe : pV e.1 ++ [V.int st] ++ js.map V.int = (iP e.1 ++ st :: js).map V.int := by
    rw [pV_iP, List.map_append, List.append_assoc]
    rfl
  refine ⟨tl, _, _, .ref tk, rfl, rfl, SqL.of (k8 _ _ y5 tlp), hat, b2, tk, _, _, rfl, rfl, SqT.of e8, SqT.of hk, by rw [List.length_append, List.length_map]; (show (pV e.1).length + 1 + js.length ≤ sizeLine; omega), fun h => absurd h (by simp), fun _ h => ?_, fun _ _ b3 nb3 => ?_⟩
  · refine q b2 (iP e.1 ++ st :: js) H8 ?_ out p8 k08 f08
    rw [← pe, h, List.append_nil]
    exact e8
  · have s9 := sameN (o := .tup (pV e.1 ++ [V.int st] ++ js.map V.int)) nb3
    refine q b3 (iP e.1 ++ st :: js) _ ?_ out (p8.same s9) (k08.trans (.of s9)) (f08.trans (.of s9))
    rw [upd_same, pe]
end
end Tw
set_option maxHeartbeats 4000000
/-! isinstance of a caught error that has attributes of its own. -/
namespace Tw
open PySem PySem.Spec PySem.Calls PyProof.Rows
section
variable {prog : Program} {w : World} {A : Around} {E : Value → Shared → Prop} {sh : Shared} {K : PySem.W.Frag} {err D : Addr} {oe : Obj} {own : Option Obj}
/-- the error's class, asked by its attribute; what it finds is a data descriptor's -/
theorem own_class (T : L2.ExcC K D) (kin : K.In sh.heap) (at_ : PySem.W.InstAt sh.heap err oe D own)
    (found : PySem.W.findObj K D own "__class__" = some (.bind (.builtin "getset_descriptor.__get__") (.builtin "object.__class__"))) {R : Option Value → Shared → Prop} (hR : R (some (.ref D)) { sh with toks := sh.toks + 1 }) :
    wpAny (model prog w) A (getAttr? (.ref err) "__class__") R E sh := by
  obtain ⟨hp, gs, dr, tk, os⟩ := sh
  have ty := at_.type (M := model prog w)
  have isE : PySem.W.Looks (model prog w) hp (isInstance (.ref err) (.type "BaseException")) true := ty.andThen (PySem.W.looks_subIn kin T.hs)
  have noHook : (onTheHeap (Value.ref D) && Value.builtin "BaseException.__getattribute__" == Value.builtin "object.__getattribute__") = false := by rw [Bool.and_eq_false_iff]; exact .inr (by decide +kernel)
  unfold getAttr? getAttrBy? getAttrBy
  refine wpAny_bind (wpAny_mkText (wpAny_bind (wpAny_attempt (wpAny_holding (wpAny_bind (ty.at (wpAny_bind ((PySem.W.looks_findIn (M := model prog w) kin T.hg).at ?_))))))))
  show wpAny _ _ (ite (_ = true) _ _) _ _ _
  rw [noHook, if_neg (by decide)]
  unfold getAttrByItsOwn hookBefore
  refine wpAny_bind ?_
  rw [if_pos (by rfl)]
  refine (PySem.W.looks_findIn (M := model prog w) kin T.hk).at ?_
  unfold callGetattribute
  refine wpAny_bind (wpAny_attempt (wpAny_holding ?_))
  rw [Bool.false_and, if_neg (by decide)]
  unfold boundAndCalled
  rw [PySem.F.excAttr_ValueError.ga.bind (.ref err)]
  refine wpAny_bind (wpAny_pure (wpAny_call (codeAny_call_builtin PySem.F.excAttr_ValueError.ga.plain PySem.F.entry_bexc_ga ?_)))
  refine @PySem.W.check_slot (model prog w) _ _ { heap := hp, gens := gs, drawn := dr, toks := tk + 1, os := os } "BaseException.__getattribute__" "BaseException" "__getattribute__" (.ref err) [.str "__class__" tk] [] _ (by decide +kernel) (by decide +kernel) isE (PySem.F.args_bexc_ga _ _) ?_
  unfold Builtin.«object.__getattribute__»
  refine wpAny_bind (wpAny_of_eq (a := (Value.ref err, [Value.str "__class__" tk])) (by first | rfl | (simp only [slotArgs]; rfl)) (wpAny_bind (wpAny_pure (wpAny_bind (ty.at (wpAny_bind ((PySem.W.looks_find (M := model prog w) kin at_ found).at ?_)))))))
  show wpAny _ _ (holding [Value.builtin "object.__class__"] (call (.builtin "getset_descriptor.__get__") [.builtin "object.__class__", .ref err, .ref D]) >>= ret) _ _ _
  refine wpAny_bind (wpAny_holding (wpAny_call (PySem.W.class_get (s := { heap := hp, gens := gs, drawn := dr, toks := tk + 1, os := os }) (ox := oe) (od := own) kin at_ T.hm (wpAny_pure ?_))))
  show wpAny _ _ (handedOut (.ref D)) _ _ _
  rw [PySem.W.handedOut_of (v := .ref D) rfl]
  first
    | exact wpAny_pure (wpAny_pure hR)
    | exact wpAny_pure hR
theorem own_kit {od : Obj} (T : L2.ExcC K D) (self : PySem.W.kitCls K (.ref D) (.ref D) = some true) : PySem.W.KitX K (.ref err) (.ref D) (fun h => PySem.W.InstAt h err oe D (some od)) where
  ty := fun _ _ _ I => I.type
  it := fun M h kin _ => (PySem.W.kit_cls (M := M) kin self).2.1
  ne := fun h tp dd its n sl kin e => (PySem.W.handS_kitx_exc (x := err) (ox := oe) T.hg T.hk T.hs T.hd T.ha T.hn T.ht T.hm).ne h tp dd its n sl kin e
  ca := fun kin at_ q => own_class T kin at_ (PySem.W.findObj_data (by obtain ⟨cd, hc, _⟩ := PySem.W.any_some T.hd; rw [hc]; rfl) T.ha T.hn T.ht) q
end
open L2
/-- isinstance(e, c), e the caught error with its own attributes -/
def rIsO (K : PySem.W.Frag) (a D : Addr) (cls : Value) (d : Option Addr) : List V → Hp → VK → Prop := fun xs H Q => ∃ (c : V) (cv : Value) (b : Bool) (dd : Addr) (fs : List (Str × V)), xs = [.ref a, c] ∧ cls = .ref D ∧ d = some dd ∧ ClsV c cv ∧ H dd = some (.xd fs) ∧ PySem.W.kitOne K (.ref D) cv = some b ∧ Q (.bl b) H
theorem call_isO {X : Cx} {a D : Addr} {cls : Value} {d : Option Addr} {oe : Obj} {pn : List (Addr × Obj)} (T : ExcC X.K D) (self : PySem.W.kitCls X.K (.ref D) (.ref D) = some true) (hz : Zc cls d oe) (hf : ∃ vs, oe.data = .fields vs) : CallR (X.suite a ((a, oe) :: pn)) (.builtin "isinstance") (rIsO X.K a D cls d) := by
  intro pins s σ H xs us Q I r h
  obtain ⟨c, cv, b, dd, fs, rfl, rfl, rfl, hc, hd, e, q⟩ := h
  obtain ⟨u1, u2, rfl, r1, r2⟩ := vals2 r
  have e2 := hc.eq r2
  subst e2
  obtain rfl : u1 = Value.ref a := r1
  obtain ⟨ha, _⟩ := I.pin (a, oe) (List.mem_append_left _ List.mem_cons_self)
  obtain ⟨vs, hv⟩ := hf
  have hx : ObjOk X.prog X.w H s.heap dd (.xd fs) := I.hok dd _ hd
  obtain ⟨mA, hns, _⟩ := hx
  obtain ⟨od, ho, _⟩ := lookIn_ns hns
  have J : PySem.W.InstAt s.heap a oe D (some od) := ⟨ha, hz.1, by unfold PySem.W.notCls; rw [hv] <;> rfl, by rw [hz.2]; exact ho⟩
  exact PySem.W.kia_one (own_kit T self) I.kIn J e (fun z => nomatch z) fun tk => ⟨.bl b, H, I.tok tk, rfl, q⟩
/-- what the top says of an error's class to those that catch it: CW the class above, CO the other one -/
structure Er (K : PySem.W.Frag) (mg : Str → Option Value) (x f : Str) (C CW CO : Addr) : Prop where
  gC : mg x = some (.ref C)
  xf : XfC K C
  ex : ExcC K C
  nf : PySem.W.findIn K (.ref C) f = some none
  te : PySem.W.exmOne K (.ref C) (.ref C) = some true
  self : PySem.W.kitCls K (.ref C) (.ref C) = some true
  kW : PySem.W.kitOne K (.ref C) (.ref CW) = some true
  kV : PySem.W.kitOne K (.ref C) (.type "ValueError") = some true
  kO : PySem.W.kitOne K (.ref C) (.ref CO) = some false
end Tw
set_option maxHeartbeats 4000000
/-! y[x] and C.m(..), what they raise wished for at the slots as they stand. -/
namespace Tw
open PySem PySem.Spec PyProof.Rows L2 ClX
section
variable {X : Cx} {CX : CXT} {n : Nat} {C g : Addr} {sp : Sp} {E : L2.St → XK}
theorem run_slots {A : Around} {pins : List (Addr × Obj)} {σ : L2.St} {H : Hp} {sh : Shared} {Q : VK} {us : List Value} {ws : List V} (F : FnR X.prog X.w X.K X.mg X.base CX n g sp) (hr : Room n A) (e0 : Env0 X.prog X.w X.K X.mg X.base A X.stack sh H) (hx : PassesAt CX X σ (E σ)) (I : Inv X pins σ H sh)
    (r : Vals ws us) (h : sp ws H Q (E σ)) : codeAny (model X.prog X.w) A (.call (.ref g) ⟨us, []⟩) (fun r s' => match r with | .ok (.ret v) => EP X pins σ Q v s' | .ok _ => False | .error e => X.xe e s') sh := by
  refine codeAny_mono (F A X.stack sh H us ws Q (E σ) hr e0 r h) fun r s' z => ?_
  rcases r with e | fl
  · exact hx pins H sh e s' I z
  · rcases fl with _ | _ | _ | u <;> first | exact I.after z | exact z.elim
def tIxS (C : Addr) (sp : Sp) (E : L2.St → XK) (ta tb : TE) : TE := fun σ H Q => ta σ H fun x H1 => tb σ H1 fun y H2 => ∃ a dx fs, x = .ref a ∧ H2 a = some (.ins C dx fs) ∧ sp [x, y] H2 Q (E σ)
theorem pe_ixS {a b : Expr} {ta tb : TE} {pos : Pos} (hs : PySem.W.findIn X.K (.ref C) "__getitem__" = some (some (.ref g))) (hf : PySem.W.fnIn X.K g = true) (hfn : PySem.W.isFn X.K (.ref g) = true) (F : FnR X.prog X.w X.K X.mg X.base CX n g sp) (hr : Room (n + 1) X.A) (hx : ∀ σ, PassesAt CX X σ (E σ)) (ha : PE X a ta) (hb : PE X b tb)
    (hsl : ∀ (x : Addr) (i : Value), subscripted b true (.ref x) i = runValue (.builtin "lifetime.subscript" ⟨[.ref x, i], []⟩) := by intro _ _; with_unfolding_all rfl) : PE X (.Subscript a b pos) (tIxS C sp E ta tb) := by
  refine ⟨fun pins sh σ H Q I h => Subscript_ ?_⟩
  refine binT (R := fun x y H2 => ∃ a dx fs, x = .ref a ∧ H2 a = some (.ins C dx fs) ∧ sp [x, y] H2 Q (E σ)) ha hb I h fun v u s2 x y H2 I2 rx ry q => ?_
  obtain ⟨p, dx, fs, rfl, hp, q⟩ := q
  cases (show v = Value.ref p from rx)
  obtain ⟨mA, O, _⟩ := ins_get I2.hok hp
  obtain ⟨od, J, _⟩ := O.look
  obtain ⟨m, hF⟩ := I2.fr
  exact PySem.W.sub_K hF I2.ok.mod.kin J hs hf hfn (wpAny_call (run_slots (us := [.ref p, u]) (ws := [.ref p, y]) F hr.in1 I2.env0.in1 (hx σ) I2 (.cons rfl (.cons ry .nil)) q)) (hsl _ _)
def tCmS (C : Addr) (sp : Sp) (E : L2.St → XK) (ta : TE) (t : TA) : TE := fun σ H Q => ta σ H fun x H1 => x = .ref C ∧ t σ H1 fun vs H2 => sp (.ref C :: vs) H2 Q (E σ)
theorem pe_cmS {mc : Value} {o e : Expr} {es : List Expr} {m : Str} {p : Addr} {pos apos : Pos} {ta : TE} {t : TA} {pl : Sem Bool} (he : PE X o ta) (rd : CRead X.K C mc) (c : CMet X.K C mc m p g) (F : FnR X.prog X.w X.K X.mg X.base CX n g sp) (hr : Room n X.A) (hx : ∀ σ, PassesAt CX X σ (E σ)) (ha : PA X (e :: es) t)
    (hst : starEach (e :: es) X.env = (false, eval e X.env) :: starEach es X.env := by rfl) (hpl : (backTo pos (starEach es X.env)).any (·.1) = false := by rfl)
    (ht : eval (.Call (.Attribute o m apos) (e :: es) [] pos) X.env = (do
      let v ← eval o X.env
      standAt apos.atName
      let (f, ahead) ← holding [v] (getMethod v m pl)
      callWith pos f ahead (backTo pos (starEach (e :: es) X.env)) (backToKw pos (keywordEach [] X.env))) := by rfl) : PE X (.Call (.Attribute o m apos) (e :: es) [] pos) (tCmS C sp E ta t) := by
  refine ⟨fun pins sh σ H Q I h => PySem.W.methodCall_KW (pl := pl) (thn (he.run pins sh σ H _ I h) fun u s1 z => ?_) ht⟩
  obtain ⟨x, H1, I1, rx, rfl, q⟩ := z
  cases (show u = Value.ref C from rx)
  refine getmethcm_ok I1 rd c fun s2 I2 => callwith_cm I2 (base_none I1 (Nat.le_refl _)) c.fi (thn (ha.run pos _ s2 σ H1 _ I2 q) fun us s3 z3 => ?_) hst hpl
  obtain ⟨vs, H2, I3, rv, q2⟩ := z3
  refine ⟨⟨pin_at I3, I3.kIn⟩, ?_⟩
  have run := run_slots (us := .ref C :: us) (ws := .ref C :: vs) F hr I3.env0 (hx σ) I3 (.cons rfl rv) q2
  exact thn (wpAny_call (PySem.W.method_call (pin_at I3) run)) fun _ _ y => unpinE y
end
end Tw
set_option maxHeartbeats 4000000
/-! _law_no_place. -/
namespace Tw
open PySem PySem.Spec PyProof.Rows L2
abbrev sNoP : Stmt := top 36
theorem shaped_tup (rows : List Int) : SeqAt.shaped (.tuple (rows.map PyData.int)) = true := by
  have h := shaped_ints rows
  unfold SeqAt.shaped PyData.canLay0 PyData.depth at h ⊢
  exact h
def spNoP (C : Addr) : Sp := fun vs H Q _ => ∃ (v : V) (q : Addr) (t : T) (is : List Int), vs = [v, .ref q] ∧ TreeAt C H v t ∧ H q = some (.tup (is.map V.int)) ∧ atP is t = none ∧ ∀ H', Same H H' → Q (.bl true) H'
section
variable {P : Program} {w : World} {K : PySem.W.Frag} {mg : Str → Option Value} {base : Heap} {C : Addr}
theorem scNo : FnScope ["actual", "path", "found", "e"] ["actual", "path"] (defScope sNoP) := ⟨rfl, rfl, rfl, by decide +kernel, rfl, by decide +kernel, by decide +kernel⟩
theorem ok_noP {fC fG CN CW CO : Addr} (B : Er K mg "NoPlace" "path" CN CW CO) (gW : mg "WorkError" = some (.ref CW)) (gO : mg "BadTerm" = some (.ref CO)) (mV : mg "ValueError" = none) (mI : mg "isinstance" = none)
    (c1 : PySem.W.findIn K (.ref C) "__contains__" = some (some (.ref fC))) (c2 : PySem.W.isFn K (.ref fC) = true) (FC : FnR P w K mg base CX0 1 fC (spContains K C))
    (d1 : PySem.W.findIn K (.ref C) "__getitem__" = some (some (.ref fG))) (d2 : PySem.W.fnIn K fG = true) (d3 : PySem.W.isFn K (.ref fG) = true) (FG : FnR P w K mg base (L2.CX P w) 3 fG (spGetitem K C CN))
    {f : Addr} {fd : FuncData} (F : Fun K "_law_no_place" "_law_no_place" sNoP f fd) : FnR P w K mg base (L2.CX P w) 5 f (spNoP C) := by
  refine FnOk.toR (fd := fd) (ps := ["actual", "path"]) ?_ (F.binds fun _ _ _ _ _ _ us hl => match us, hl with | [_, _], _ => rfl)
  refine F.okX scNo (fun vs H Q E h => ?_) (fun cdv A outer s H vs Q E hr h => ?_)
  · obtain ⟨v, q, t, is, rfl, _⟩ := h
    rfl
  obtain ⟨v, q, t, is, rfl, ht, hq, hn, qq⟩ := h
  have hr1 : Room 1 _ := hr.mono (by decide)
  refine ⟨_, pss_cons (ps_if (pt_cmpR op_isnot_bl (pe_cmpR (op_inD (E := E0) c1 c2 FC hr1 pass0) (pv 1) (pv 0) (by rfl)) pe_bl (nomark _)) (pss_one (ps_ret pe_bl)) pss_nil)
    (pss_cons (ps_try_as (i := 3) rfl rfl scNo.nd rfl rfl ⟨rfl, by decide, .inl B.gC⟩ (takes_of rfl rfl rfl rfl)
      (fun W pn xe tk _ => pss_one (ps_set (i := 2) scNo.nd rfl (Or.inl rfl) (pe_ixS (E := WE W) d1 d2 d3 FG hr (passAt tk) (pv 0) (pv 1))))
      (fun a oe cls d pn hz hf => pss_cons (ps_if (PW.pt (pw_or (pt_not (pt_val (pe_callB (call_isO B.ex B.self hz hf) (by rfl) mI (by decide +kernel) (pa_cons (pv 3) (pa_cons (pe_gr gW) pa_nil))))) (pw_or1 (pt_not (pt_val (pe_callB (call_isO B.ex B.self hz hf) (by rfl) mI (by decide +kernel) (pa_cons (pv 3) (pa_cons (pe_bltn (v := .ty "ValueError") (by rfl) mV (by decide +kernel) rfl) pa_nil)))))))) (pss_one (ps_ret pe_bl)) pss_nil)
        (pss_one (ps_ret (pe_and (pe_cmpR (r := rEqD K) (by exact op_eqD hr.units) (pe_xf B.xf B.nf hz hf (pv 3)) (pv 1) (nomark _)) (pe_one (pe_not (pe_callB (call_isO B.ex B.self hz hf) (by rfl) mI (by decide +kernel) (pa_cons (pv 3) (pa_cons (pe_gr gO) pa_nil))))))))))
    (pss_one (ps_ret pe_bl))), ?_⟩
  obtain ⟨a, dx, pp, ws, rfl, h1, h2, h3⟩ := ht.ex
  refine ⟨_, rfl, _, rfl, a, dx, _, rfl, h1, _, t, q, is, rfl, ht, SqT.of hq, _, rfl, _, _, rfl, rfl, _, rfl, ?_⟩
  rw [hn]
  refine iteF ?_
  refine ⟨_, rfl, _, rfl, a, dx, _, rfl, h1, _, t, q, is, rfl, ht, SqT.of hq, fun u hu => ?_, fun _ d nd => ?_⟩
  · rw [hn] at hu
    cases hu
  have s1 := sameN (o := .xd [("path", .ref q)]) nd
  refine ⟨true, B.te, fun _ e ne => ?_, fun h => Bool.noConfusion h⟩
  have ed : (upd H d (.xd [("path", .ref q)])) d = some (.xd [("path", .ref q)]) := upd_same
  refine ⟨_, rfl, .ref CW, _, true, d, _, rfl, rfl, rfl, .own CW, ed, B.kW, _, rfl, iteF ?_⟩
  refine ⟨_, rfl, .ty "ValueError", _, true, d, _, rfl, rfl, rfl, .ty "ValueError", ed, B.kV, _, rfl, iteF ?_⟩
  have hq1 := s1 _ _ hq
  have dp : Dp K (upd H d (.xd [("path", .ref q)])) (.ref q) (.tuple (is.map PyData.int)) := .tup (SqT.of hq1) (dpall_ints is)
  have shp := shaped_tup is
  refine ⟨_, rfl, rfl, rfl, d, _, .ref q, rfl, ed, rfl, _, rfl, _, _, dp, dp, shp, shp, ?_⟩
  rw [eqv_self _ (Bool.and_eq_true_iff.mp shp).1]
  refine ⟨_, rfl, iteT ?_⟩
  exact ⟨_, rfl, .ref CO, _, false, d, _, rfl, rfl, rfl, .own CO, ed, B.kO, _, rfl, qq _ s1⟩
end
end Tw
set_option maxHeartbeats 4000000
/-! _law_refused. -/
namespace Tw
open PySem PySem.Spec PyProof.Rows L2
abbrev sRef : Stmt := top 40
def spRefused : Sp := fun vs H Q _ => ∃ z : Str, vs = [.str z] ∧ z.length ≤ 1000000 ∧ readT z = none ∧ ∀ H', Same H H' → Q (.bl true) H'
section
variable {P : Program} {w : World} {K : PySem.W.Frag} {mg : Str → Option Value} {base : Heap} {C : Addr}
theorem scRf : FnScope ["text", "e"] ["text"] (defScope sRef) := ⟨rfl, rfl, rfl, by decide +kernel, rfl, by decide +kernel, by decide +kernel⟩
theorem ok_refused {CB CW CO pR gR : Addr} {mc : Value} (B : Er K mg "BadTerm" "term" CB CW CO) (gW : mg "WorkError" = some (.ref CW)) (gO : mg "NoPlace" = some (.ref CO)) (mV : mg "ValueError" = none) (mI : mg "isinstance" = none) (gT : mg "Tree" = some (.ref C))
    (rd : ClX.CRead K C mc) (cm : ClX.CMet K C mc "read" pR gR) (FR : FnR P w K mg base (L2.CX P w) 6 gR (spRead C CB))
    {f : Addr} {fd : FuncData} (F : Fun K "_law_refused" "_law_refused" sRef f fd) : FnR P w K mg base (L2.CX P w) 7 f spRefused := by
  refine FnOk.toR (fd := fd) (ps := ["text"]) ?_ (F.binds fun _ _ _ _ _ _ us hl => match us, hl with | [_], _ => rfl)
  refine F.okX scRf (fun vs H Q E h => ?_) (fun cdv A outer s H vs Q E hr h => ?_)
  · obtain ⟨z, rfl, _⟩ := h
    rfl
  obtain ⟨z, rfl, hz, hn, qq⟩ := h
  refine ⟨_, pss_cons (ps_try_as (i := 1) rfl rfl scRf.nd rfl rfl ⟨rfl, by decide, .inl B.gC⟩ (takes_of rfl rfl rfl rfl)
      (fun W pn xe tk _ => pss_one (ps_expr (pe_cmS (E := WE W) (pe_gr gT) rd cm FR hr (passAt tk) (pa_cons (pv 0) pa_nil))))
      (fun a oe cls d pn hz hf => pss_cons (ps_if (PW.pt (pw_or (pt_not (pt_val (pe_callB (call_isO B.ex B.self hz hf) (by rfl) mI (by decide +kernel) (pa_cons (pv 1) (pa_cons (pe_gr gW) pa_nil))))) (pw_or1 (pt_not (pt_val (pe_callB (call_isO B.ex B.self hz hf) (by rfl) mI (by decide +kernel) (pa_cons (pv 1) (pa_cons (pe_bltn (v := .ty "ValueError") (by rfl) mV (by decide +kernel) rfl) pa_nil)))))))) (pss_one (ps_ret pe_bl)) pss_nil)
        (pss_one (ps_ret (pe_and (pe_cmpR (r := rEq) (by exact op_eq) (pe_xf B.xf B.nf hz hf (pv 1)) (pv 0) (nomark _)) (pe_one (pe_not (pe_callB (call_isO B.ex B.self hz hf) (by rfl) mI (by decide +kernel) (pa_cons (pv 1) (pa_cons (pe_gr gO) pa_nil))))))))))
    (pss_one (ps_ret pe_bl)), ?_⟩
  refine ⟨rfl, _, rfl, z, rfl, hz, fun t ht => ?_, fun _ d H' nd s1 ed => ?_⟩
  · rw [hn] at ht
    cases ht
  refine ⟨true, B.te, fun _ e ne => ?_, fun h => Bool.noConfusion h⟩
  refine ⟨_, rfl, .ref CW, _, true, d, _, rfl, rfl, rfl, .own CW, ed, B.kW, _, rfl, iteF ?_⟩
  refine ⟨_, rfl, .ty "ValueError", _, true, d, _, rfl, rfl, rfl, .ty "ValueError", ed, B.kV, _, rfl, iteF ?_⟩
  refine ⟨_, rfl, rfl, rfl, d, _, .str z, rfl, ed, rfl, _, rfl, rfl, ?_⟩
  rw [decide_eq_true rfl]
  refine ⟨_, rfl, iteT ?_⟩
  exact ⟨_, rfl, .ref CO, _, false, d, _, rfl, rfl, rfl, .own CO, ed, B.kO, _, rfl, qq _ s1⟩
end
end Tw
set_option maxHeartbeats 4000000
/-! _law_spoilt. -/
namespace Tw
open PySem PySem.Spec PyProof.Rows L2
abbrev sSpoilt : Stmt := top 37
/-! what is open -/
def bal : List Nat → Int
  | [] => 0
  | c :: r => (if c = 40 then 1 else if c = 41 then -1 else 0) + bal r
theorem bal_append : ∀ a b : List Nat, bal (a ++ b) = bal a + bal b
  | [], b => by show bal b = 0 + bal b; omega
  | c :: r, b => by
    show _ + bal (r ++ b) = _ + bal r + bal b
    rw [bal_append r b]
    omega
theorem bal_le : ∀ a : List Nat, bal a ≤ a.length ∧ -(a.length : Int) ≤ bal a
  | [] => ⟨Int.le_refl 0, Int.le_refl 0⟩
  | c :: r => by
    have := bal_le r
    show (ite _ _ _ : Int) + bal r ≤ ((r.length + 1 : Nat) : Int) ∧ -(((r.length + 1 : Nat)) : Int) ≤ (ite _ _ _ : Int) + bal r
    split
    · omega
    · split <;> omega
def Deep (B : Int) (l : List Nat) : Prop := ∀ k, bal (l.take k) ≤ B
theorem Deep.short {B : Int} {l : List Nat} (h : (l.length : Int) ≤ B) : Deep B l := fun k => by
  have h1 := (bal_le (l.take k)).1
  have h2 : (l.take k).length ≤ l.length := by rw [List.length_take]; omega
  omega
theorem Deep.mono {B C : Int} {l : List Nat} (h : Deep B l) (le : B ≤ C) : Deep C l := fun k => by have := h k; omega
/-- a sign put in -/
theorem Deep.put {B : Int} {l m : List Nat} (h : Deep B l) (at_ j : Nat) (hm : m.length ≤ 1) (hj : j = at_ ∨ j = at_ + 1) (h0 : 0 ≤ B) : Deep (B + 2) (l.take at_ ++ m ++ l.drop j) := fun k => by
  rw [List.append_assoc, List.take_append]
  by_cases hk : k ≤ (l.take at_).length
  · rw [show k - (l.take at_).length = 0 by omega, List.take_zero, List.append_nil, List.take_take]
    have := h (min k at_)
    omega
  · rw [List.take_of_length_le (by omega), bal_append, List.take_append, bal_append]
    have hm1 := (bal_le (m.take (k - (l.take at_).length))).1
    have hm2 : (m.take (k - (l.take at_).length)).length ≤ 1 := by rw [List.length_take]; omega
    generalize k - (l.take at_).length - m.length = n
    have h1 := h (j + n)
    rw [List.take_add, bal_append] at h1
    rcases hj with rfl | rfl
    · omega
    · have h2 : bal (l.take at_) ≤ bal (l.take (at_ + 1)) + 1 := by
        rw [List.take_add, bal_append]
        have := (bal_le ((l.drop at_).take 1)).2
        have h3 : ((l.drop at_).take 1).length ≤ 1 := by rw [List.length_take]; omega
        omega
      omega
theorem op_str8 {X : Cx} : OpR X (binaryOp .Mult) (fun x y H Q => ∃ z : Str, x = .str z ∧ y = .int 8 ∧ z.length = 7 ∧ Q (.str ⟨(List.replicate 8 z.cps).foldl (· ++ ·) #[]⟩) H) := by
  intro pins s σ H x y v u Q I rx ry h
  obtain ⟨z, rfl, rfl, hz, q⟩ := h
  obtain ⟨t, rfl⟩ := rx
  obtain ⟨t', rfl⟩ := ry
  have e1 : ((8 : Int) == 1 || z.length == 0) = false := by rw [hz]; rfl
  refine PySem.P.mul_str (by decide) (fun _ _ => by rw [hz]; decide) (fun _ _ => by rw [hz]; decide +kernel) ?_
  rw [if_neg (by decide), if_neg (by rw [e1]; decide)]
  refine ⟨?_, .str _, H, I.tok _, ⟨_, rfl⟩, q⟩
  have e : ((List.replicate 8 z.cps).foldl (· ++ ·) #[]).size = 56 := by
    have hz' : z.cps.size = 7 := hz
    simp [List.replicate, hz']
  show ((List.replicate 8 z.cps).foldl (· ++ ·) #[]).size ≤ sizeLine
  rw [e, sizeLine_eq]
  decide
theorem cutE {z : Str} {e : Nat} (he : e ≤ z.length + 1) : cutS z (some (e : Int)) none = mkS (z.cps.toList.drop e) := by
  refine str_ext ?_
  rw [mkS_list]
  unfold cutS
  rw [HT.sIx_nat, HT.sIx_none]
  show ((z.cps.toList.drop (min e z.length)).take (z.length - min e z.length)).toArray.toList = _
  rw [List.toList_toArray, List.take_of_length_le (by rw [List.length_drop, len_list] <;> omega)]
  by_cases h : e ≤ z.length
  · rw [Nat.min_eq_left h]
  · rw [Nat.min_eq_right (by omega), List.drop_of_length_le (by rw [len_list] <;> omega), List.drop_of_length_le (by rw [len_list]; omega)]
def oddA : List Str := ["", " ", "()", "_()", "7()", "A()", "A(B,C)", "A( B)", "A(B, C, D, E)"]
def oddB : List Str := ["Abcdefghi", "Abcdefgh", "a", "A(B))", "(A)", "__", "12", "A(B)C"]
def oddC : List Str := ["A(B, )", "A(, B)", "A(B,  C)", "A_", "1A", "A(7(B))", "A(_(B))"]
theorem odd_small : ((oddA ++ oddB ++ oddC).all fun s => decide (s.length ≤ 15)) = true := by decide +kernel
def spSpoilt : Sp := fun vs H Q _ => ∃ (p r : Addr) (z : Str), vs = [.ref p, .str z] ∧ PoolAt H p r ∧ z.length ≤ 500000 ∧ Deep 57 z.cps.toList ∧
  ∀ z' H', z'.length ≤ 600000 → Deep 59 z'.cps.toList → cnt z'.cps.toList ≤ cnt z.cps.toList + 15 → PoolAt H' p r → KeptBut [p, r] H H' → Firm H H' → Q (.str z') H'
section
variable {P : Program} {w : World} {K : PySem.W.Frag} {mg : Str → Option Value} {base : Heap}
theorem scSp : FnScope ["pool", "term", "signs", "odd", "sign", "at", "way"] ["pool", "term"] (defScope sSpoilt) := ⟨rfl, rfl, rfl, by decide +kernel, rfl, by decide +kernel, by decide +kernel⟩
theorem ok_spoilt {fd0 : Addr} (gd : Gf K mg "_law_draw" fd0) (Fd : FnR P w K mg base CX0 1 fd0 spDraw) (ml : mg "len" = none) {f : Addr} {fd : FuncData} (F : Fun K "_law_spoilt" "_law_spoilt" sSpoilt f fd) : FnR P w K mg base CX0 2 f spSpoilt := by
  refine okR F scSp (fun vs H Q E h => ?_) (fun _ _ _ _ _ _ us hl => match us, hl with | [_, _], _ => rfl) (fun cdv A outer s H vs Q E hr h => ?_)
  · obtain ⟨p, r, z, rfl, _⟩ := h
    rfl
  obtain ⟨p, r, z, rfl, hp, hz, hdz, q⟩ := h
  refine ⟨_, pss_cons (ps_set (i := 2) scSp.nd rfl (Or.inl rfl) pe_str)
    (pss_cons (ps_set (i := 2) scSp.nd rfl (Or.inl rfl) (pe_op op_add_str (pe_op op_add_str (pv 2) pe_str) (pe_op op_str8 pe_str pe_int)))
    (pss_cons (ps_set (i := 3) scSp.nd rfl (Or.inl rfl) (pe_lst (pa_cons pe_str (pa_cons pe_str (pa_cons pe_str (pa_cons pe_str (pa_cons pe_str (pa_cons pe_str (pa_cons pe_str (pa_cons pe_str (pa_cons pe_str pa_nil)))))))))))
    (pss_cons (ps_set (i := 3) scSp.nd rfl (Or.inl rfl) (pe_op op_cat (pv 3) (pe_lst (pa_cons pe_str (pa_cons pe_str (pa_cons pe_str (pa_cons pe_str (pa_cons pe_str (pa_cons pe_str (pa_cons pe_str (pa_cons pe_str pa_nil)))))))))))
    (pss_cons (ps_set (i := 3) scSp.nd rfl (Or.inl rfl) (pe_op op_cat (pv 3) (pe_lst (pa_cons pe_str (pa_cons pe_str (pa_cons pe_str (pa_cons pe_str (pa_cons pe_str (pa_cons pe_str (pa_cons pe_str pa_nil))))))))))
    (pss_cons (ps_set (i := 4) scSp.nd rfl (Or.inl rfl) (pe_ix ix_str (pv 2) (pe_cf Fd hr gd pass0 (pa_cons (pv 0) (pa_cons (pe_callB call_len_str (by rfl) ml PySem.boot_len (pa_cons (pv 2) pa_nil)) pa_nil))) (fun _ _ => rfl)))
    (pss_cons (ps_set (i := 5) scSp.nd rfl (Or.inl rfl) (pe_cf Fd hr gd pass0 (pa_cons (pv 0) (pa_cons (pe_op op_add (pe_callB call_len_str (by rfl) ml PySem.boot_len (pa_cons (pv 1) pa_nil)) pe_int) pa_nil))))
    (pss_cons (ps_set (i := 6) scSp.nd rfl (Or.inl rfl) (pe_cf Fd hr gd pass0 (pa_cons (pv 0) (pa_cons pe_int pa_nil))))
    (pss_cons (ps_if (pt_cmpR op_eq (pv 6) pe_int (nomark _)) (pss_one (ps_ret (pe_op op_add_str (pe_op op_add_str (pe_slice sl_str (pv 1) po_none (po_some (pv 5))) (pv 4)) (pe_slice sl_str (pv 1) (po_some (pv 5)) po_none)))) pss_nil)
    (pss_cons (ps_if (pt_cmpR op_eq (pv 6) pe_int (nomark _)) (pss_one (ps_ret (pe_op op_add_str (pe_slice sl_str (pv 1) po_none (po_some (pv 5))) (pe_slice sl_str (pv 1) (po_some (pe_op op_add (pv 5) pe_int)) po_none)))) pss_nil)
    (pss_cons (ps_if (pt_cmpR op_eq (pv 6) pe_int (nomark _)) (pss_one (ps_ret (pe_op op_add_str (pe_op op_add_str (pe_slice sl_str (pv 1) po_none (po_some (pv 5))) (pv 4)) (pe_slice sl_str (pv 1) (po_some (pe_op op_add (pv 5) pe_int)) po_none)))) pss_nil)
    (pss_one (ps_ret (pe_ix ix_list (pv 3) (pe_cf Fd hr gd pass0 (pa_cons (pv 0) (pa_cons (pe_callB (r := rLenQ _) call_len_seq (by rfl) ml PySem.boot_len (pa_cons (pv 3) pa_nil)) pa_nil))) (fun _ _ => rfl)))))))))))))), ?_⟩
  have sl := sizeLine_eq
  have sgl : 0 < ((" !\"#$&'()*+,-./0123456789:;<=>?@ABCDEFGHIJKLMNOPQRSTUVWXYZ" : Str) ++ ("[\\]^_`abcdefghijklmnopqrstuvwxyz{|}~" : Str) ++ (⟨(List.replicate 8 (" (),_A7" : Str).cps).foldl (· ++ ·) #[]⟩ : Str)).length ∧ ((" !\"#$&'()*+,-./0123456789:;<=>?@ABCDEFGHIJKLMNOPQRSTUVWXYZ" : Str) ++ ("[\\]^_`abcdefghijklmnopqrstuvwxyz{|}~" : Str) ++ (⟨(List.replicate 8 (" (),_A7" : Str).cps).foldl (· ++ ·) #[]⟩ : Str)).length ≤ 1000 := by decide +kernel
  refine ⟨_, rfl, _, _, rfl, rfl, by rw [sl]; decide +kernel, _, rfl, rfl, by decide +kernel, _, _, rfl, rfl, by rw [sl]; decide +kernel, ?_⟩
  refine name_go ?_
  dsimp only
  generalize (" !\"#$&'()*+,-./0123456789:;<=>?@ABCDEFGHIJKLMNOPQRSTUVWXYZ" : Str) ++ ("[\\]^_`abcdefghijklmnopqrstuvwxyz{|}~" : Str) ++ (⟨(List.replicate 8 (" (),_A7" : Str).cps).foldl (· ++ ·) #[]⟩ : Str) = sg at sgl ⊢
  obtain ⟨sg0, sg1⟩ := sgl
  refine ⟨by (show 9 ≤ sizeLine; omega), fun o1 no1 => ?_⟩
  refine name_go ?_
  dsimp only
  have k1 := sameN (o := .lst (oddA.map V.str)) no1
  refine ⟨_, rfl, by (show 8 ≤ sizeLine; omega), fun o2 no2 => ?_⟩
  have k2 := sameN (o := .lst (oddB.map V.str)) no2
  refine ⟨o1, o2, oddA.map V.str, oddB.map V.str, rfl, rfl, k2 _ _ upd_same, upd_same, by (show 17 ≤ sizeLine; omega), fun o3 no3 => ?_⟩
  have k3 := sameN (o := .lst (oddA.map V.str ++ oddB.map V.str)) no3
  refine name_go ?_
  dsimp only
  refine ⟨_, rfl, by (show 7 ≤ sizeLine; omega), fun o4 no4 => ?_⟩
  have k4 := sameN (o := .lst (oddC.map V.str)) no4
  refine ⟨o3, o4, oddA.map V.str ++ oddB.map V.str, oddC.map V.str, rfl, rfl, k4 _ _ upd_same, upd_same, by (show 24 ≤ sizeLine; omega), fun o5 no5 => ?_⟩
  have k5 := sameN (o := .lst (oddA.map V.str ++ oddB.map V.str ++ oddC.map V.str)) no5
  refine name_go ?_
  dsimp only
  have k15 := k1.trans (k2.trans (k3.trans (k4.trans k5)))
  have p4 := hp.same (k1.trans (k2.trans (k3.trans k4)))
  have o5p : o5 ∉ [p, r] := fun h => by
    obtain ⟨_, rows, sd, c, e1, e2, _⟩ := p4
    simp at h
    rcases h with rfl | rfl
    · exact absurd (e1.symm.trans no5) (by simp)
    · exact absurd (e2.symm.trans no5) (by simp)
  have k15 : Same H (upd (upd (upd (upd (upd H o1 (.lst (oddA.map V.str))) o2 (.lst (oddB.map V.str))) o3 (.lst (oddA.map V.str ++ oddB.map V.str))) o4 (.lst (oddC.map V.str))) o5 (.lst (oddA.map V.str ++ oddB.map V.str ++ oddC.map V.str))) := k15
  have p5 : PoolAt (upd (upd (upd (upd (upd H o1 (.lst (oddA.map V.str))) o2 (.lst (oddB.map V.str))) o3 (.lst (oddA.map V.str ++ oddB.map V.str))) o4 (.lst (oddC.map V.str))) o5 (.lst (oddA.map V.str ++ oddB.map V.str ++ oddC.map V.str))) p r := hp.same k15
  have e5 := upd_same (H := upd (upd (upd (upd H o1 (.lst (oddA.map V.str))) o2 (.lst (oddB.map V.str))) o3 (.lst (oddA.map V.str ++ oddB.map V.str))) o4 (.lst (oddC.map V.str))) (a := o5) (o := .lst (oddA.map V.str ++ oddB.map V.str ++ oddC.map V.str))
  show tSeq _ _ _ _ (upd (upd (upd (upd (upd H o1 (.lst (oddA.map V.str))) o2 (.lst (oddB.map V.str))) o3 (.lst (oddA.map V.str ++ oddB.map V.str))) o4 (.lst (oddC.map V.str))) o5 (.lst (oddA.map V.str ++ oddB.map V.str ++ oddC.map V.str)))
  generalize upd (upd (upd (upd (upd H o1 (.lst (oddA.map V.str))) o2 (.lst (oddB.map V.str))) o3 (.lst (oddA.map V.str ++ oddB.map V.str))) o4 (.lst (oddC.map V.str))) o5 (.lst (oddA.map V.str ++ oddB.map V.str ++ oddC.map V.str)) = H5 at k15 p5 e5 ⊢
  have em : oddA.map V.str ++ oddB.map V.str ++ oddC.map V.str = (oddA ++ oddB ++ oddC).map V.str := by simp
  rw [em] at e5
  have osm := odd_small
  have ol : (oddA ++ oddB ++ oddC).length = 24 := rfl
  generalize oddA ++ oddB ++ oddC = odd at e5 osm ol
  clear no5 k5 no4 k4 no3 k3 no2 k2 no1 k1 p4 em
  -- sign
  refine ⟨_, rfl, _, rfl, _, rfl, sg, rfl, by omega, p, r, sg.length, rfl, p5, sg0, by omega, fun d1 H6 hd1 p6 k6 f6 => ?_⟩
  obtain ⟨c, hc⟩ : ∃ c, sg.cps.toList[d1]? = some c := ⟨_, List.getElem?_eq_getElem (by rw [len_list]; exact hd1)⟩
  refine ⟨sg, _, c, rfl, rfl, by omega, atI_nat hc, ?_⟩
  refine name_go ?_
  dsimp only
  -- at
  refine ⟨_, rfl, _, rfl, z, rfl, by omega, _, _, rfl, rfl, p, r, z.length + 1, rfl, p6, by omega, by omega, fun d2 H7 hd2 p7 k7 f7 => ?_⟩
  refine name_go ?_
  dsimp only
  -- way
  refine ⟨_, rfl, p, r, 4, rfl, p7, by decide, by decide, fun d3 H8 hd3 p8 k8 f8 => ?_⟩
  refine name_go ?_
  dsimp only
  have k58 := k6.trans (k7.trans k8)
  have k08 : KeptBut [p, r] H H8 := (KeptBut.of k15).trans k58
  have f08 : Firm H H8 := (Firm.of k15).trans (f6.trans (f7.trans f8))
  have e8 := k58 _ _ e5 o5p
  have ll := len_list z
  have cA : cutS z none (some (d2 : Int)) = mkS (z.cps.toList.take d2) := cut0
  have cB : cutS z (some (d2 : Int)) none = mkS (z.cps.toList.drop d2) := cutE (by omega)
  have cC : cutS z (some ((d2 : Int) + 1)) none = mkS (z.cps.toList.drop (d2 + 1)) := cutE (e := d2 + 1) (by omega)
  have lA : (mkS (z.cps.toList.take d2)).length = d2 := by rw [mkS_len, List.length_take]; omega
  have lB : (mkS (z.cps.toList.drop d2)).length = z.length - d2 := by rw [mkS_len, List.length_drop]; omega
  have lC : (mkS (z.cps.toList.drop (d2 + 1))).length = z.length - (d2 + 1) := by rw [mkS_len, List.length_drop]; omega
  have l1 : (⟨#[c]⟩ : Str).length = 1 := rfl
  -- the three ways
  have ct : cnt (z.cps.toList.take d2) + cnt (z.cps.toList.drop d2) = cnt z.cps.toList := by rw [← cnt_append, List.take_append_drop]
  have cd : cnt (z.cps.toList.drop (d2 + 1)) ≤ cnt (z.cps.toList.drop d2) := by
    have e : z.cps.toList.drop d2 = (z.cps.toList.drop d2).take 1 ++ z.cps.toList.drop (d2 + 1) := by rw [← List.drop_drop, List.take_append_drop]
    rw [e, cnt_append, ← List.drop_drop]
    exact Nat.le_add_left ..
  refine ⟨_, rfl, rfl, _, rfl, ite2 (fun _ => ?_) (fun _ => ?_)⟩
  · refine ⟨_, rfl, _, rfl, _, rfl, z, rfl, by omega, _, rfl, ?_⟩
    rw [cA]
    refine ⟨_, _, rfl, rfl, by rw [l1]; omega, _, rfl, _, rfl, _, rfl, z, rfl, by omega, ?_⟩
    rw [cB]
    refine ⟨_, _, rfl, rfl, by rw [add_len, l1]; omega, ?_⟩
    refine q _ H8 (by rw [add_len, add_len, l1]; omega) ?_ ?_ p8 k08 f08
    · rw [add_list, add_list, mkS_list, mkS_list]
      exact Deep.put hdz d2 d2 (m := [c]) (by simp) (.inl rfl) (by decide)
    · rw [add_list, add_list, mkS_list, mkS_list, cnt_append, cnt_append]
      have : cnt [c] ≤ 1 := List.countP_le_length ..
      show cnt (z.cps.toList.take d2) + cnt [c] + _ ≤ _
      omega
  refine ⟨_, rfl, rfl, _, rfl, ite2 (fun _ => ?_) (fun _ => ?_)⟩
  · refine ⟨_, rfl, _, rfl, _, rfl, z, rfl, by omega, _, rfl, _, rfl, _, _, rfl, rfl, _, rfl, z, rfl, by omega, ?_⟩
    rw [cA, cC]
    refine ⟨_, _, rfl, rfl, by omega, ?_⟩
    refine q _ H8 (by rw [add_len]; omega) ?_ ?_ p8 k08 f08
    · rw [add_list, mkS_list, mkS_list]
      have := Deep.put hdz d2 (d2 + 1) (m := []) (by simp) (.inr rfl) (by decide)
      rw [List.append_nil] at this
      exact this
    · rw [add_list, mkS_list, mkS_list, cnt_append]
      omega
  refine ⟨_, rfl, rfl, _, rfl, ite2 (fun _ => ?_) (fun _ => ?_)⟩
  · refine ⟨_, rfl, _, rfl, _, rfl, z, rfl, by omega, _, rfl, ?_⟩
    rw [cA]
    refine ⟨_, _, rfl, rfl, by rw [l1]; omega, _, rfl, _, rfl, _, _, rfl, rfl, _, rfl, z, rfl, by omega, ?_⟩
    rw [cC]
    refine ⟨_, _, rfl, rfl, by rw [add_len, l1]; omega, ?_⟩
    refine q _ H8 (by rw [add_len, add_len, l1]; omega) ?_ ?_ p8 k08 f08
    · rw [add_list, add_list, mkS_list, mkS_list]
      exact Deep.put hdz d2 (d2 + 1) (m := [c]) (by simp) (.inr rfl) (by decide)
    · rw [add_list, add_list, mkS_list, mkS_list, cnt_append, cnt_append]
      have : cnt [c] ≤ 1 := List.countP_le_length ..
      show cnt (z.cps.toList.take d2) + cnt [c] + _ ≤ _
      omega
  -- an odd one
  refine ⟨_, rfl, _, rfl, _, rfl, o5, _, rfl, .inl (SqL.of e8), p, r, odd.length, by rw [List.length_map], p8, by omega, by omega, fun d4 H9 hd4 p9 k9 f9 => ?_⟩
  obtain ⟨s, hs⟩ : ∃ s, odd[d4]? = some s := ⟨_, List.getElem?_eq_getElem hd4⟩
  have hs15 := of_decide_eq_true (List.all_eq_true.mp osm s (List.mem_of_getElem? hs))
  refine ⟨o5, _, _, .str s, rfl, rfl, SqL.of (k9 _ _ e8 o5p), atI_nat (by rw [List.getElem?_map, hs] <;> rfl), ?_⟩
  exact q s H9 (by omega) (.short (by rw [len_list]; omega)) (by have : cnt s.cps.toList ≤ s.cps.toList.length := List.countP_le_length ..; rw [len_list] at this; omega) p9 (k08.trans k9) (f08.trans f9)
end
end Tw
set_option maxHeartbeats 4000000
/-! What the law reads, and what the program reads. -/
namespace Tw
open PySem PySem.Spec PyProof.Rows L2
/-! terms as lists of signs -/
def tl : List T → List Nat
  | [] => []
  | [p] => p.term.cps.toList
  | p :: q :: r => p.term.cps.toList ++ [44, 32] ++ tl (q :: r)
theorem tl_join : ∀ ps : List T, (Txt.join ", " (T.terms ps)).cps.toList = tl ps
  | [] => by
    unfold T.terms
    rw [TL.join_eq]
    rfl
  | [p] => by
    unfold T.terms
    unfold T.terms
    rw [TL.join_eq]
    rfl
  | p :: q :: r => by
    have ih := tl_join (q :: r)
    have e : Txt.join ", " (T.terms (p :: q :: r)) = p.term ++ ", " ++ Txt.join ", " (T.terms (q :: r)) := by
      conv => lhs; unfold T.terms
      conv => lhs; unfold T.terms
      conv => rhs; unfold T.terms
      rw [TL.join_eq, TL.join_eq] <;> rfl
    have e2 : (", " : Str).cps.toList = [44, 32] := by decide +kernel
    rw [e, add_list, add_list, ih, e2]
    rfl
theorem term_list (n : Str) {ps : List T} (h : ps ≠ []) : (T.term (.node n ps)).cps.toList = n.cps.toList ++ [40] ++ tl ps ++ [41] := by
  have e1 : ("(" : Str).cps.toList = [40] := by decide +kernel
  have e2 : (")" : Str).cps.toList = [41] := by decide +kernel
  rw [term_cons n h, add_list, add_list, add_list, tl_join, e1, e2]
theorem term_leaf (n : Str) : (T.term (.node n [])).cps.toList = n.cps.toList := by unfold T.term; rfl
theorem tl_snoc : ∀ (ps : List T) (t : T), ps ≠ [] → tl (ps ++ [t]) = tl ps ++ [44, 32] ++ t.term.cps.toList
  | [], t, h => absurd rfl h
  | [p], t, _ => rfl
  | p :: q :: r, t, _ => by
    have ih := tl_snoc (q :: r) t (by simp)
    show p.term.cps.toList ++ [44, 32] ++ tl (q :: r ++ [t]) = p.term.cps.toList ++ [44, 32] ++ tl (q :: r) ++ _ ++ _
    rw [ih]
    simp
/-! names -/
def noSpec (l : List Nat) : Prop := ∀ c ∈ l, c ∉ spec
theorem fine_name {t : T} (h : t.fine = true) : noSpec t.name.cps.toList ∧ t.name.cps.toList ≠ [] := by
  cases t with
  | node n ps =>
    show noSpec n.cps.toList ∧ n.cps.toList ≠ []
    rcases fine_ex h with ⟨hl, _⟩ | ⟨hb, _⟩
    · rcases leaf_signs hl with e | ⟨d, e, hd⟩
      · rw [e]
        exact ⟨fun c hc => by rw [List.mem_singleton.mp hc]; decide, by simp⟩
      · rw [e]
        refine ⟨fun c hc => ?_, by simp⟩
        rw [List.mem_singleton.mp hc]
        unfold isDig at hd
        unfold spec
        simp at hd ⊢
        omega
    · refine ⟨fun c hc => ?_, fun e => by rw [e] at hb; cases hb⟩
      have := big_signs hb c hc
      unfold isWord isCap isSmall isDig at this
      unfold spec
      simp at this ⊢
      omega
/-- where a name can end -/
def Stops (r : List Nat) : Prop := r = [] ∨ ∃ c s, r = c :: s ∧ c ∈ spec
theorem nl_name : ∀ (l r : List Nat), noSpec l → Stops r → nl (l ++ r) = l.length
  | [], r, _, h => by
    rcases h with rfl | ⟨c, s, rfl, hc⟩
    · rfl
    · show nl (c :: s) = 0
      unfold nl
      rw [if_pos hc]
  | c :: l, r, hl, h => by
    show nl (c :: (l ++ r)) = l.length + 1
    unfold nl
    rw [if_neg (hl c List.mem_cons_self), nl_name l r (fun x hx => hl x (List.mem_cons_of_mem _ hx)) h]
theorem nl_spec : ∀ l : List Nat, Stops (l.drop (nl l)) ∧ noSpec (l.take (nl l))
  | [] => ⟨.inl rfl, fun c h => absurd h List.not_mem_nil⟩
  | c :: r => by
    unfold nl
    by_cases h : c ∈ spec
    · rw [if_pos h]
      exact ⟨.inr ⟨c, r, rfl, h⟩, fun x hx => absurd hx List.not_mem_nil⟩
    · rw [if_neg h]
      obtain ⟨h1, h2⟩ := nl_spec r
      refine ⟨h1, fun x hx => ?_⟩
      rw [List.take_succ_cons] at hx
      rcases List.mem_cons.mp hx with rfl | hx
      · exact h
      · exact h2 x hx
theorem bal_name {l : List Nat} (h : noSpec l) : bal l = 0 := by
  induction l with
  | nil => rfl
  | cons c r ih =>
    have hc := h c List.mem_cons_self
    have h1 : c ≠ 40 := fun e => hc (by rw [e]; decide)
    have h2 : c ≠ 41 := fun e => hc (by rw [e]; decide)
    show (ite _ _ _ : Int) + bal r = 0
    rw [if_neg h1, if_neg h2, ih fun x hx => h x (List.mem_cons_of_mem _ hx)]
    rfl
mutual
theorem bal_term : ∀ {t : T}, t.fine = true → bal t.term.cps.toList = 0
  | .node n ps, h => by
    have hn : bal n.cps.toList = 0 := bal_name (fine_name h).1
    cases ps with
    | nil => rw [term_leaf]; exact hn
    | cons p r =>
      have := bal_tl (ps := p :: r) (fine_parts h).2
      rw [term_list n (by simp), bal_append, bal_append, bal_append, hn, this]
      rfl
theorem bal_tl : ∀ {ps : List T}, (∀ u ∈ ps, u.fine = true) → bal (tl ps) = 0
  | [], _ => rfl
  | [p], h => bal_term (t := p) (h p List.mem_cons_self)
  | p :: q :: r, h => by
    have h1 := bal_term (h p List.mem_cons_self)
    have h2 := bal_tl (ps := q :: r) fun u hu => h u (List.mem_cons_of_mem _ hu)
    show bal (p.term.cps.toList ++ [44, 32] ++ tl (q :: r)) = 0
    rw [bal_append, bal_append, h1, h2]
    rfl
end
/-! how deep a term is -/
theorem Deep.name {l : List Nat} (h : noSpec l) : Deep 0 l := fun k => by
  rw [bal_name fun c hc => h c (List.mem_of_mem_take hc)]
  exact Int.le_refl 0
theorem Deep.append {B : Int} {a b : List Nat} (ha : Deep B a) (hb : Deep B b) (h0 : bal a = 0) : Deep B (a ++ b) := fun k => by
  rw [List.take_append]
  by_cases hk : k ≤ a.length
  · rw [show k - a.length = 0 by omega, List.take_zero, List.append_nil]
    exact ha k
  · rw [List.take_of_length_le (by omega), bal_append, h0]
    have := hb (k - a.length)
    omega
theorem Deep.wrap {B : Int} {a : List Nat} (ha : Deep B a) (h0 : bal a = 0) (hB : 0 ≤ B) : Deep (B + 1) ([40] ++ a ++ [41]) := fun k => by
  cases k with
  | zero => rw [List.take_zero]; show (0 : Int) ≤ _; omega
  | succ k =>
    show bal (40 :: (a ++ [41]).take k) ≤ B + 1
    show (1 : Int) + bal ((a ++ [41]).take k) ≤ B + 1
    rw [List.take_append, bal_append]
    by_cases hk : k ≤ a.length
    · rw [show k - a.length = 0 by omega, List.take_zero]
      have := ha k
      show (1 : Int) + (bal (a.take k) + 0) ≤ B + 1
      omega
    · rw [List.take_of_length_le (by omega), h0]
      have : bal ([41].take (k - a.length)) ≤ 0 := by
        cases e : k - a.length with
        | zero => omega
        | succ m =>
          rw [List.take_succ_cons, List.take_nil]
          show (-1 : Int) + 0 ≤ 0
          omega
      omega
mutual
theorem deep_term : ∀ {t : T}, t.fine = true → Deep ((t.levels : Int) - 1) t.term.cps.toList
  | .node n ps, h => by
    have hn := Deep.name (fine_name h).1
    have hl := levels_node n ps
    cases ps with
    | nil =>
      rw [term_leaf]
      exact hn.mono (by omega)
    | cons p r =>
      have hd := deep_tl (ps := p :: r) (k := T.mostFrom 0 (p :: r)) (fine_parts h).2 (fun u hu => mostFrom_mem hu) (by have := mostFrom_mem (m := 0) (l := p :: r) (t := p) List.mem_cons_self; have := levels_pos p; omega)
      have hb := bal_tl (ps := p :: r) (fine_parts h).2
      have hm := mostFrom_mem (m := 0) (l := p :: r) (t := p) List.mem_cons_self
      have hp := levels_pos p
      have hw := hd.wrap hb (by omega)
      have e : (T.term (.node n (p :: r))).cps.toList = n.cps.toList ++ ([40] ++ tl (p :: r) ++ [41]) := by
        rw [term_list n (by simp)]
        simp
      rw [e]
      refine (Deep.append (hn.mono (by omega)) (hw.mono ?_) (bal_name (fine_name h).1))
      rw [hl]
      omega
theorem deep_tl {k : Nat} : ∀ {ps : List T}, (∀ u ∈ ps, u.fine = true) → (∀ u ∈ ps, u.levels ≤ k) → 1 ≤ k → Deep ((k : Int) - 1) (tl ps)
  | [], _, _, hk => fun j => by
    show bal (([] : List Nat).take j) ≤ _
    rw [List.take_nil]
    show (0 : Int) ≤ _
    omega
  | [p], h, hl, hk => (deep_term (t := p) (h p List.mem_cons_self)).mono (by have := hl p List.mem_cons_self; omega)
  | p :: q :: r, h, hl, hk => by
    have h1 := (deep_term (h p List.mem_cons_self)).mono (C := (k : Int) - 1) (by have := hl p List.mem_cons_self; omega)
    have h2 := deep_tl (k := k) (ps := q :: r) (fun u hu => h u (List.mem_cons_of_mem _ hu)) (fun u hu => hl u (List.mem_cons_of_mem _ hu)) hk
    have hb := bal_term (h p List.mem_cons_self)
    have hc : Deep ((k : Int) - 1) [44, 32] := fun j => by
      have : bal ([44, 32].take j) = 0 := by
        match j with
        | 0 => rfl
        | 1 => rfl
        | j + 2 => simp; rfl
      omega
    exact Deep.append (Deep.append h1 hc hb) h2 (by rw [bal_append, hb]; rfl)
end
end Tw
set_option maxHeartbeats 4000000
/-! The law's reading, as a function: sound and complete. -/
namespace Tw
open PySem PySem.Spec PyProof.Rows L2
def lrs (rd : List Nat → Option (T × List Nat)) (n : Str) : Nat → List T → List Nat → Option (T × List Nat)
  | 0, _, _ => none
  | k + 1, ps, cs => match rd cs with
    | none => none
    | some (t, r) => if r.take 1 = [41] then some (.node n (ps ++ [t]), r.drop 1) else if r.take 2 = [44, 32] then lrs rd n k (ps ++ [t]) (r.drop 2) else none
def lr : Nat → List Nat → Option (T × List Nat)
  | D, cs =>
    if leafName (mkS (cs.take (nl cs))) = true then some (.node (mkS (cs.take (nl cs))) [], cs.drop (nl cs))
    else if bigName (cs.take (nl cs)) = false then none
    else if (cs.drop (nl cs)).take 1 ≠ [40] then some (.node (mkS (cs.take (nl cs))) [], cs.drop (nl cs))
    else match D with
      | 0 => none
      | D + 1 => lrs (lr D) (mkS (cs.take (nl cs))) 3 [] (cs.drop (nl cs + 1))
/-- what is read of a list of parts that are there already -/
def tlx (ps : List T) (l : List Nat) : List Nat := if ps = [] then l else tl ps ++ [44, 32] ++ l
theorem tlx_snoc (ps : List T) (t : T) (r : List Nat) : tlx (ps ++ [t]) r = tlx ps (t.term.cps.toList ++ [44, 32] ++ r) := by
  unfold tlx
  rw [if_neg (by simp)]
  by_cases h : ps = []
  · subst h
    rw [if_pos rfl]
    rfl
  · rw [if_neg h, tl_snoc ps t h]
    simp
theorem tlx_last (ps : List T) (t : T) : tlx ps t.term.cps.toList = tl (ps ++ [t]) := by
  unfold tlx
  by_cases h : ps = []
  · subst h
    rw [if_pos rfl]
    rfl
  · rw [if_neg h, tl_snoc ps t h]
theorem take1 {r : List Nat} {x : Nat} (h : r.take 1 = [x]) : r = x :: r.drop 1 := by
  cases r with
  | nil => cases h
  | cons a s =>
    have : a = x := by simpa using h
    subst this
    rfl
theorem take2 {r : List Nat} {x y : Nat} (h : r.take 2 = [x, y]) : r = x :: y :: r.drop 2 := by
  match r with
  | [] => cases h
  | [a] => simp at h
  | a :: b :: s =>
    have : a = x ∧ b = y := by simpa using h
    obtain ⟨rfl, rfl⟩ := this
    rfl
theorem lrs_sound {rd : List Nat → Option (T × List Nat)} {n : Str} (hn : bigName n.cps.toList = true) (hrd : ∀ cs t r, rd cs = some (t, r) → cs = t.term.cps.toList ++ r ∧ t.fine = true) :
    ∀ (k : Nat) (ps : List T) (cs : List Nat) (t : T) (r : List Nat), k + ps.length = 3 → T.fines ps = true → lrs rd n k ps cs = some (t, r) → n.cps.toList ++ [40] ++ tlx ps cs = t.term.cps.toList ++ r ∧ t.fine = true
  | 0, ps, cs, t, r, _, _, h => by
    unfold lrs at h
    cases h
  | k + 1, ps, cs, t, r, hk, hf, h => by
    unfold lrs at h
    cases e : rd cs with
    | none => rw [e] at h; cases h
    | some x =>
      obtain ⟨u, r1⟩ := x
      rw [e] at h
      obtain ⟨h1, h2⟩ := hrd cs u r1 e
      dsimp only at h
      by_cases c1 : r1.take 1 = [41]
      · rw [if_pos c1] at h
        have h' := Option.some.inj h
        have e1 : T.node n (ps ++ [u]) = t := congrArg Prod.fst h'
        have e2 : r1.drop 1 = r := congrArg Prod.snd h'
        subst e1 e2
        have er := take1 c1
        refine ⟨?_, fine_big hn (by rw [List.length_append, List.length_singleton]; omega) (fines_snoc h2 hf)⟩
        rw [term_list n (by simp), ← tlx_last, h1]
        conv => lhs; rw [er]
        unfold tlx
        split <;> simp
      · rw [if_neg c1] at h
        by_cases c2 : r1.take 2 = [44, 32]
        · rw [if_pos c2] at h
          have := lrs_sound hn hrd k (ps ++ [u]) (r1.drop 2) t r (by rw [List.length_append, List.length_singleton]; omega) (fines_snoc h2 hf) h
          rw [tlx_snoc] at this
          have er := take2 c2
          refine ⟨?_, this.2⟩
          rw [← this.1, h1]
          conv => lhs; rw [er]
          simp
        · rw [if_neg c2] at h
          cases h
theorem lr_eq (D : Nat) (cs : List Nat) : lr D cs = (if leafName (mkS (cs.take (nl cs))) = true then some (.node (mkS (cs.take (nl cs))) [], cs.drop (nl cs))
    else if bigName (cs.take (nl cs)) = false then none
    else if (cs.drop (nl cs)).take 1 ≠ [40] then some (.node (mkS (cs.take (nl cs))) [], cs.drop (nl cs))
    else match D with
      | 0 => none
      | D + 1 => lrs (lr D) (mkS (cs.take (nl cs))) 3 [] (cs.drop (nl cs + 1))) := by
  conv => lhs; unfold lr
theorem lr_sound : ∀ (D : Nat) (cs : List Nat) (t : T) (r : List Nat), lr D cs = some (t, r) → cs = t.term.cps.toList ++ r ∧ t.fine = true := by
  intro D
  induction D with
  | zero =>
    intro cs t r h
    rw [lr_eq] at h
    split at h
    · rename_i c
      have h' := Option.some.inj h
      have e1 := congrArg Prod.fst h'
      have e2 := congrArg Prod.snd h'
      dsimp only at e1 e2
      subst e1 e2
      rw [term_leaf, mkS_list, List.take_append_drop]
      exact ⟨rfl, fine_leaf c⟩
    · split at h
      · cases h
      · rename_i c
        split at h
        · have h' := Option.some.inj h
          have e1 := congrArg Prod.fst h'
          have e2 := congrArg Prod.snd h'
          dsimp only at e1 e2
          subst e1 e2
          rw [term_leaf, mkS_list, List.take_append_drop]
          exact ⟨rfl, fine_big (by rw [mkS_list]; simpa using c) (Nat.zero_le _) (by unfold T.fines; rfl)⟩
        · cases h
  | succ D ih =>
    intro cs t r h
    rw [lr_eq] at h
    split at h
    · rename_i c
      have h' := Option.some.inj h
      have e1 := congrArg Prod.fst h'
      have e2 := congrArg Prod.snd h'
      dsimp only at e1 e2
      subst e1 e2
      rw [term_leaf, mkS_list, List.take_append_drop]
      exact ⟨rfl, fine_leaf c⟩
    · split at h
      · cases h
      · rename_i c
        have hb : bigName (mkS (cs.take (nl cs))).cps.toList = true := by rw [mkS_list]; simpa using c
        split at h
        · have h' := Option.some.inj h
          have e1 := congrArg Prod.fst h'
          have e2 := congrArg Prod.snd h'
          dsimp only at e1 e2
          subst e1 e2
          rw [term_leaf, mkS_list, List.take_append_drop]
          exact ⟨rfl, fine_big hb (Nat.zero_le _) (by unfold T.fines; rfl)⟩
        · rename_i c2
          have c3 : (cs.drop (nl cs)).take 1 = [40] := by simpa using c2
          have h : lrs (lr D) (mkS (cs.take (nl cs))) 3 [] (cs.drop (nl cs + 1)) = some (t, r) := h
          have := lrs_sound hb ih 3 [] _ t r rfl (by unfold T.fines; rfl) h
          refine ⟨?_, this.2⟩
          rw [← this.1, mkS_list]
          unfold tlx
          rw [if_pos rfl]
          have er := take1 c3
          rw [List.drop_drop] at er
          conv => lhs; rw [← List.take_append_drop (nl cs) cs, er]
          simp
theorem big_not_leaf {n : Str} (h : bigName n.cps.toList = true) : leafName n = false := by
  refine Bool.eq_false_iff.mpr fun hl => ?_
  cases e : n.cps.toList with
  | nil => rw [e] at h; cases h
  | cons c r =>
    rw [e] at h
    have hc : (isCap c && (c :: r).all isWord && decide (r.length < 8)) = true := h
    rw [Bool.and_eq_true, Bool.and_eq_true] at hc
    have h1 := hc.1.1
    unfold isCap at h1
    simp at h1
    rcases leaf_signs hl with e2 | ⟨d, e2, hd⟩
    · rw [e] at e2
      have : c = 95 := by simpa using congrArg List.head? e2
      omega
    · rw [e] at e2
      have : c = d := by simpa using congrArg List.head? e2
      subst this
      unfold isDig at hd
      simp at hd
      omega
theorem Deep.tail {B : Int} {a b : List Nat} (h : Deep B (a ++ b)) : Deep (B - bal a) b := fun k => by
  have := h (a.length + k)
  rw [List.take_append, List.take_of_length_le (by omega), show a.length + k - a.length = k by omega, bal_append] at this
  omega
theorem tl_cons (p q : T) (r : List T) : tl (p :: q :: r) = p.term.cps.toList ++ [44, 32] ++ tl (q :: r) := rfl
mutual
theorem lr_complete : ∀ (t : T) (D : Nat) (r : List Nat), t.fine = true → Stops r → r.take 1 ≠ [40] → Deep (D : Int) (t.term.cps.toList ++ r) → lr D (t.term.cps.toList ++ r) = some (t, r)
  | .node n [], D, r, h, hs, hr, _ => by
    obtain ⟨h1, h2⟩ := fine_name h
    have h1 : noSpec n.cps.toList := h1
    have e := nl_name n.cps.toList r h1 hs
    rw [term_leaf, lr_eq, e, List.take_left, List.drop_left, mkS_of]
    split
    · rfl
    · rename_i c
      rcases fine_ex h with ⟨hl, _⟩ | ⟨hb, _⟩
      · exact absurd hl c
      · split
        · rename_i c2
          rw [hb] at c2
          cases c2
        · first
            | rfl
            | rw [if_pos hr]
  | .node n (p :: ps), D, r, h, hs, hr, hd => by
    obtain ⟨h1, h2⟩ := fine_name h
    have h1 : noSpec n.cps.toList := h1
    rcases fine_ex h with ⟨_, e⟩ | ⟨hb, hl, hf⟩
    · cases e
    have et : (T.term (.node n (p :: ps))).cps.toList ++ r = n.cps.toList ++ (40 :: (tl (p :: ps) ++ 41 :: r)) := by
      rw [term_list n (by simp)]
      simp
    rw [et] at hd ⊢
    have e := nl_name n.cps.toList (40 :: (tl (p :: ps) ++ 41 :: r)) h1 (.inr ⟨40, _, rfl, by decide⟩)
    have hd2 := Deep.tail hd
    rw [bal_name h1] at hd2
    rw [lr_eq, e, List.take_left, List.drop_left, mkS_of, big_not_leaf hb, if_neg (by decide), if_neg (by rw [hb]; decide), if_neg (by simp)]
    have e2 : (n.cps.toList ++ 40 :: (tl (p :: ps) ++ 41 :: r)).drop (n.cps.toList.length + 1) = tl (p :: ps) ++ 41 :: r := by
      rw [← List.drop_drop, List.drop_left]
      rfl
    rw [e2]
    cases D with
    | zero =>
      exfalso
      have := hd2 1
      rw [List.take_succ_cons, List.take_zero] at this
      have : (1 : Int) + 0 ≤ ((0 : Nat) : Int) - 0 := this
      omega
    | succ D =>
      have hd3 : Deep (D : Int) (tl (p :: ps) ++ 41 :: r) := by
        have := Deep.tail (a := [40]) hd2
        have e : bal [40] = 1 := rfl
        rw [e] at this
        exact this.mono (by omega)
      have := lrs_complete (p :: ps) D n [] 3 r (fine_mem hf) (by simp) hl hd3
      exact this
theorem lrs_complete : ∀ (qs : List T) (D : Nat) (n : Str) (ps : List T) (k : Nat) (r : List Nat), (∀ u ∈ qs, u.fine = true) → qs ≠ [] → qs.length ≤ k → Deep (D : Int) (tl qs ++ 41 :: r) → lrs (lr D) n k ps (tl qs ++ 41 :: r) = some (.node n (ps ++ qs), r)
  | [], _, _, _, _, _, _, h, _, _ => absurd rfl h
  | [q], D, n, ps, k, r, hf, _, hk, hd => by
    obtain ⟨k, rfl⟩ : ∃ j, k = j + 1 := ⟨k - 1, by simp at hk; omega⟩
    have ih := lr_complete q D (41 :: r) (hf q List.mem_cons_self) (.inr ⟨41, r, rfl, by decide⟩) (by simp) hd
    unfold lrs
    have e : tl [q] = q.term.cps.toList := rfl
    rw [e, ih]
    rfl
  | q :: q2 :: qs, D, n, ps, k, r, hf, _, hk, hd => by
    obtain ⟨k, rfl⟩ : ∃ j, k = j + 1 := ⟨k - 1, by simp at hk; omega⟩
    have e : tl (q :: q2 :: qs) ++ 41 :: r = q.term.cps.toList ++ (44 :: 32 :: (tl (q2 :: qs) ++ 41 :: r)) := by
      rw [tl_cons]
      simp
    rw [e] at hd ⊢
    have ih := lr_complete q D (44 :: 32 :: (tl (q2 :: qs) ++ 41 :: r)) (hf q List.mem_cons_self) (.inr ⟨44, _, rfl, by decide⟩) (by simp) hd
    have hd2 := Deep.tail hd
    rw [bal_term (hf q List.mem_cons_self)] at hd2
    have hd3 := Deep.tail (a := [44, 32]) hd2
    have ih2 := lrs_complete (q2 :: qs) D n (ps ++ [q]) k r (fun u hu => hf u (List.mem_cons_of_mem _ hu)) (by simp) (by simp at hk ⊢; omega) (hd3.mono (by show _ - 0 - 0 ≤ _; omega))
    unfold lrs
    rw [ih]
    show lrs (lr D) n k (ps ++ [q]) (tl (q2 :: qs) ++ 41 :: r) = _
    rw [ih2, List.append_assoc]
    rfl
end
end Tw
set_option maxHeartbeats 4000000
/-! What the program reads: sound and complete. -/
namespace Tw
open PySem PySem.Spec PyProof.Rows L2
def stkTx : Stack → List Nat → List Nat
  | [], l => l
  | (n, ps) :: rest, l => stkTx rest (n.cps.toList ++ [40] ++ tlx ps l)
theorem tlx_app (ps : List T) (a b : List Nat) : tlx ps (a ++ b) = tlx ps a ++ b := by
  unfold tlx
  split <;> simp
theorem closing_nil (t : T) (r : List Nat) : closing [] t r = (t, [], r) := by unfold closing; rfl
theorem closing_end (n : Str) (ps : List T) (rest : Stack) (t : T) : closing ((n, ps) :: rest) t [] = (t, (n, ps) :: rest, []) := by unfold closing; rfl
theorem closing_cons (n : Str) (ps : List T) (rest : Stack) (t : T) (c : Nat) (r : List Nat) : closing ((n, ps) :: rest) t (c :: r) = if c = 41 then closing rest (.node n (ps ++ [t])) r else (t, (n, ps) :: rest, c :: r) := by
  conv => lhs; unfold closing
theorem closing_sound : ∀ (stk : Stack) (t : T) (r : List Nat) (t' : T) (stk' : Stack) (r' : List Nat), closing stk t r = (t', stk', r') → stkTx stk (t.term.cps.toList ++ r) = stkTx stk' (t'.term.cps.toList ++ r')
  | [], t, r, t', stk', r', h => by
    rw [closing_nil] at h
    cases h
    rfl
  | (n, ps) :: rest, t, [], t', stk', r', h => by
    rw [closing_end] at h
    cases h
    rfl
  | (n, ps) :: rest, t, c :: r, t', stk', r', h => by
    rw [closing_cons] at h
    by_cases e : c = 41
    · rw [if_pos e] at h
      subst e
      rw [← closing_sound rest _ r t' stk' r' h]
      show stkTx rest (n.cps.toList ++ [40] ++ tlx ps (t.term.cps.toList ++ 41 :: r)) = _
      rw [term_list n (by simp), tlx_app, tlx_last]
      simp
    · rw [if_neg e] at h
      cases h
      rfl
theorem wt_eq (f : Nat) (stk : Stack) (cs : List Nat) : wtF (f + 1) stk cs = (if nl cs = 0 then none
    else if (cs.drop (nl cs)).take 1 = [40] then wtF f ((mkS (cs.take (nl cs)), []) :: stk) (cs.drop (nl cs + 1))
    else match closing stk (.node (mkS (cs.take (nl cs))) []) (cs.drop (nl cs)) with
      | (t, [], r) => if r = [] then some t else none
      | (t, (n, ps) :: rest, r) => if r.take 2 = [44, 32] then wtF f ((n, ps ++ [t]) :: rest) (r.drop 2) else none) := by
  conv => lhs; unfold wtF
  all_goals rfl
theorem wt_sound : ∀ (f : Nat) (stk : Stack) (cs : List Nat) (t : T), wtF f stk cs = some t → stkTx stk cs = t.term.cps.toList
  | 0, stk, cs, t, h => by unfold wtF at h; cases h
  | f + 1, stk, cs, t, h => by
    rw [wt_eq] at h
    by_cases c1 : nl cs = 0
    · rw [if_pos c1] at h
      cases h
    rw [if_neg c1] at h
    by_cases c2 : (cs.drop (nl cs)).take 1 = [40]
    · rw [if_pos c2] at h
      have := wt_sound f _ _ t h
      rw [← this]
      show _ = stkTx stk ((mkS (cs.take (nl cs))).cps.toList ++ [40] ++ tlx [] (cs.drop (nl cs + 1)))
      have er := take1 c2
      rw [List.drop_drop] at er
      unfold tlx
      rw [if_pos rfl, mkS_list]
      conv => lhs; rw [← List.take_append_drop (nl cs) cs, er]
      simp
    rw [if_neg c2] at h
    cases e : closing stk (.node (mkS (cs.take (nl cs))) []) (cs.drop (nl cs)) with
    | mk t' x =>
      obtain ⟨stk', r'⟩ := x
      have hs := closing_sound _ _ _ _ _ _ e
      rw [term_leaf, mkS_list, List.take_append_drop] at hs
      rw [e] at h
      rw [hs]
      cases stk' with
      | nil =>
        dsimp only at h
        by_cases c3 : r' = []
        · rw [if_pos c3] at h
          have := Option.some.inj h
          subst this c3
          show _ ++ [] = _
          rw [List.append_nil]
        · rw [if_neg c3] at h
          cases h
      | cons a rest =>
        obtain ⟨n, ps⟩ := a
        dsimp only at h
        by_cases c3 : r'.take 2 = [44, 32]
        · rw [if_pos c3] at h
          have := wt_sound f _ _ t h
          rw [← this]
          show stkTx rest (n.cps.toList ++ [40] ++ tlx ps (t'.term.cps.toList ++ r')) = stkTx rest (n.cps.toList ++ [40] ++ tlx (ps ++ [t']) (r'.drop 2))
          rw [tlx_snoc]
          have er := take2 c3
          conv => lhs; rw [er]
          simp
        · rw [if_neg c3] at h
          cases h
def aft (f : Nat) (stk : Stack) (t : T) (r : List Nat) : Option T := match closing stk t r with
  | (t, [], r) => if r = [] then some t else none
  | (t, (n, ps) :: rest, r) => if r.take 2 = [44, 32] then wtF f ((n, ps ++ [t]) :: rest) (r.drop 2) else none
mutual
theorem wt_complete : ∀ (t : T) (f : Nat) (stk : Stack) (r : List Nat), t.fine = true → Stops r → r.take 1 ≠ [40] → wtF (f + t.size) stk (t.term.cps.toList ++ r) = aft f stk t r
  | .node n [], f, stk, r, h, hs, hr => by
    obtain ⟨h1, h2⟩ := fine_name h
    have h1 : noSpec n.cps.toList := h1
    have h2 : n.cps.toList ≠ [] := h2
    have e := nl_name n.cps.toList r h1 hs
    have ez : (T.node n []).size = 1 := by rw [size_node]; unfold T.sizes; rfl
    have hl : n.cps.toList.length ≠ 0 := fun z => h2 (List.eq_nil_of_length_eq_zero z)
    rw [ez, wt_eq, term_leaf, e, if_neg hl, List.drop_left, if_neg hr, List.take_left, mkS_of]
    rfl
  | .node n (p :: ps), f, stk, r, h, hs, hr => by
    obtain ⟨h1, h2⟩ := fine_name h
    have h1 : noSpec n.cps.toList := h1
    have h2 : n.cps.toList ≠ [] := h2
    have hl : n.cps.toList.length ≠ 0 := fun z => h2 (List.eq_nil_of_length_eq_zero z)
    have et : (T.term (.node n (p :: ps))).cps.toList ++ r = n.cps.toList ++ (40 :: (tl (p :: ps) ++ 41 :: r)) := by
      rw [term_list n (by simp)]
      simp
    have e := nl_name n.cps.toList (40 :: (tl (p :: ps) ++ 41 :: r)) h1 (.inr ⟨40, _, rfl, by decide⟩)
    have e2 : (n.cps.toList ++ 40 :: (tl (p :: ps) ++ 41 :: r)).drop (n.cps.toList.length + 1) = tl (p :: ps) ++ 41 :: r := by
      rw [← List.drop_drop, List.drop_left]
      rfl
    rw [et, size_node, show f + (1 + T.sizes (p :: ps)) = (f + T.sizes (p :: ps)) + 1 by omega, wt_eq, e, if_neg hl, List.drop_left, if_pos (by rfl), List.take_left, mkS_of, e2]
    exact wts_complete (p :: ps) f n [] stk r (fine_parts h).2 (by simp)
theorem wts_complete : ∀ (qs : List T) (f : Nat) (n : Str) (ps : List T) (stk : Stack) (r : List Nat), (∀ u ∈ qs, u.fine = true) → qs ≠ [] → wtF (f + T.sizes qs) ((n, ps) :: stk) (tl qs ++ 41 :: r) = aft f stk (.node n (ps ++ qs)) r
  | [], _, _, _, _, _, _, h => absurd rfl h
  | [q], f, n, ps, stk, r, hf, _ => by
    have ih := wt_complete q f ((n, ps) :: stk) (41 :: r) (hf q List.mem_cons_self) (.inr ⟨41, r, rfl, by decide⟩) (by simp)
    have e : T.sizes [q] = q.size := by unfold T.sizes; unfold T.sizes; omega
    rw [e]
    show wtF (f + q.size) ((n, ps) :: stk) (q.term.cps.toList ++ 41 :: r) = _
    rw [ih]
    unfold aft
    rw [closing_cons, if_pos rfl]
  | q :: q2 :: qs, f, n, ps, stk, r, hf, _ => by
    have e : tl (q :: q2 :: qs) ++ 41 :: r = q.term.cps.toList ++ (44 :: 32 :: (tl (q2 :: qs) ++ 41 :: r)) := by
      rw [tl_cons]
      simp
    have es : T.sizes (q :: q2 :: qs) = q.size + T.sizes (q2 :: qs) := by
      conv => lhs; unfold T.sizes
    have ih := wt_complete q (f + T.sizes (q2 :: qs)) ((n, ps) :: stk) (44 :: 32 :: (tl (q2 :: qs) ++ 41 :: r)) (hf q List.mem_cons_self) (.inr ⟨44, _, rfl, by decide⟩) (by simp)
    have ih2 := wts_complete (q2 :: qs) f n (ps ++ [q]) stk r (fun u hu => hf u (List.mem_cons_of_mem _ hu)) (by simp)
    rw [e, es, show f + (q.size + T.sizes (q2 :: qs)) = (f + T.sizes (q2 :: qs)) + q.size by omega, ih]
    unfold aft
    rw [closing_cons, if_neg (by decide)]
    show wtF (f + T.sizes (q2 :: qs)) ((n, ps ++ [q]) :: stk) (tl (q2 :: qs) ++ 41 :: r) = _
    rw [ih2, List.append_assoc]
    rfl
end
/-! is_plain of all parts is being fine -/
theorem leaf_hole (n : Str) : leafName n = (holeName n || digName n.cps.toList) := by
  have e95 : ("_" : Str).cps.toList = [95] := by decide +kernel
  unfold leafName holeName
  congr 1
  refine decide_eq_decide.mpr ⟨fun h => str_ext (by rw [h, e95]), fun h => by rw [h, e95]⟩
mutual
theorem plain_fine (pa : Path) : ∀ (t : T), ((t.walk pa).all fun e => plainTop e.2) = t.fine
  | .node n ps => by
    have ih := plains_fine pa 0 ps
    unfold T.walk T.fine
    rw [List.all_cons, ih]
    unfold plainTop
    show ((if (holeName n || digName n.cps.toList) = true then ps.isEmpty else bigName n.cps.toList && decide (ps.length ≤ 3)) && T.fines ps) = _
    rw [← leaf_hole]
    cases hl : leafName n with
    | true =>
      rw [if_pos rfl]
      cases ps with
      | nil => unfold T.fines; simp
      | cons p r =>
        have hb : bigName n.cps.toList = false := by
          refine Bool.eq_false_iff.mpr fun hb => ?_
          rw [big_not_leaf hb] at hl
          cases hl
        rw [hb]
        simp
    | false =>
      rw [if_neg (by decide), Bool.false_and, Bool.false_or]
theorem plains_fine (pa : Path) : ∀ (i : Nat) (ps : List T), ((T.walks pa i ps).all fun e => plainTop e.2) = T.fines ps
  | _, [] => by unfold T.walks T.fines; rfl
  | i, t :: r => by
    have h1 := plain_fine (pa ++ [i]) t
    have h2 := plains_fine pa (i + 1) r
    unfold T.walks T.fines
    rw [List.all_append, h1, h2]
end
theorem readT_some {z : Str} {t : T} (h : readT z = some t) : z = t.term ∧ t.fine = true := by
  unfold readT at h
  cases e : wtF (z.length + 1) [] z.cps.toList with
  | none => rw [e] at h; cases h
  | some u =>
    rw [e] at h
    dsimp only at h
    by_cases hp : plainAll u = true
    · rw [if_pos hp] at h
      have := Option.some.inj h
      subst this
      refine ⟨str_ext (wt_sound _ _ _ _ e), ?_⟩
      rw [← plain_fine []]
      exact hp
    · rw [if_neg hp] at h
      cases h
theorem readT_term {t : T} (h : t.fine = true) : readT t.term = some t := by
  have hc := cnt_term h
  have hl : cnt t.term.cps.toList ≤ t.term.length := by
    rw [← len_list]
    exact List.countP_le_length ..
  have := wt_complete t (t.term.length + 1 - t.size) [] [] h (.inl rfl) (by simp)
  rw [List.append_nil, show t.term.length + 1 - t.size + t.size = t.term.length + 1 by omega] at this
  have ha : aft (t.term.length + 1 - t.size) [] t [] = some t := by
    unfold aft
    rw [closing_nil]
    rfl
  rw [ha] at this
  unfold readT
  rw [this]
  dsimp only
  rw [if_pos]
  have hp := plain_fine [] t
  rw [h] at hp
  exact hp
/-- the law's reading tells what the program's reading is -/
theorem read_none {D : Nat} {z : Str} (hd : Deep (D : Int) z.cps.toList) (h : ∀ t, lr D z.cps.toList ≠ some (t, [])) : readT z = none := by
  cases e : readT z with
  | none => rfl
  | some t =>
    obtain ⟨h1, h2⟩ := readT_some e
    subst h1
    have := lr_complete t D [] h2 (.inl rfl) (by simp) (by rw [List.append_nil]; exact hd)
    rw [List.append_nil] at this
    exact absurd this (h t)
theorem read_some {D : Nat} {z : Str} {t : T} (h : lr D z.cps.toList = some (t, [])) : readT z = some t ∧ z = t.term ∧ t.fine = true := by
  obtain ⟨h1, h2⟩ := lr_sound D _ t [] h
  rw [List.append_nil] at h1
  have e : z = t.term := str_ext h1
  exact ⟨by rw [e]; exact readT_term h2, e, h2⟩
end Tw
set_option maxHeartbeats 4000000
/-! _law_big. -/
namespace Tw
open PySem PySem.Spec PyProof.Rows L2
abbrev sLBig : Stmt := top 38
def capS : Str := "ABCDEFGHIJKLMNOPQRSTUVWXYZ"
def lowS : Str := "abcdefghijklmnopqrstuvwxyz0123456789"
theorem cap_mem (c : Nat) : decide (c ∈ capS.cps.toList) = isCap c := by
  have e : capS.cps.toList = (List.range 26).map (65 + ·) := by decide +kernel
  unfold isCap
  rw [e, ← Bool.decide_and]
  refine decide_eq_decide.mpr ?_
  rw [List.mem_map]
  constructor
  · rintro ⟨k, hk, rfl⟩
    have := List.mem_range.mp hk
    omega
  · rintro ⟨h1, h2⟩
    exact ⟨c - 65, List.mem_range.mpr (by omega), by omega⟩
theorem word_mem (c : Nat) : decide (c ∈ (capS ++ lowS).cps.toList) = isWord c := by
  have e : (capS ++ lowS).cps.toList = (List.range 26).map (65 + ·) ++ (List.range 26).map (97 + ·) ++ (List.range 10).map (48 + ·) := by decide +kernel
  have e2 : isWord c = decide ((65 ≤ c ∧ c ≤ 90) ∨ (97 ≤ c ∧ c ≤ 122) ∨ (48 ≤ c ∧ c ≤ 57)) := by
    unfold isWord isCap isSmall isDig
    simp [Bool.decide_or, Bool.decide_and, Bool.or_assoc]
  rw [e, e2]
  refine decide_eq_decide.mpr ?_
  simp only [List.mem_append, List.mem_map, List.mem_range]
  constructor
  · rintro ((⟨k, hk, rfl⟩ | ⟨k, hk, rfl⟩) | ⟨k, hk, rfl⟩) <;> omega
  · rintro (h | h | h)
    · exact .inl (.inl ⟨c - 65, by omega, by omega⟩)
    · exact .inl (.inr ⟨c - 97, by omega, by omega⟩)
    · exact .inr ⟨c - 48, by omega, by omega⟩
theorem for_signs {z : Str} {g : TG} {tb : TS} {D : Ends} {σ : L2.St} {H : Hp} (Pv : Nat → L2.St → Hp → Prop) (h0 : Pv 0 σ H)
    (hs : ∀ i c σ H, z.cps.toList[i]? = some c → Pv i σ H → g (.str ⟨#[c]⟩) σ H fun σ2 H2 => tb { D with nx := Pv (i + 1), ct := Pv (i + 1), bk := D.nx } σ2 H2) (hd : ∀ σ H, Pv z.cps.size σ H → D.nx σ H) :
    ∃ W : Nat → Nat → L2.St → Hp → Prop, (∃ m, W 0 m σ H) ∧ ∀ i m σ H, W i m σ H →
      ((Its z).stop i H ∧ D.nx σ H) ∨ ((Its z).go i H ∧ ∃ N : L2.St → Hp → Prop, (∀ σ' H', N σ' H' → ∃ m', m' < m ∧ W (i + 1) m' σ' H') ∧ ∀ x H', (Its z).yld i H x H' → g x σ H' fun σ2 H2 => tb { D with nx := N, ct := N, bk := D.nx } σ2 H2) := by
  refine ⟨fun i m σ H => m = z.cps.size - i ∧ i ≤ z.cps.size ∧ Pv i σ H, ⟨_, rfl, Nat.zero_le _, h0⟩, ?_⟩
  rintro i m σ H ⟨rfl, hi, p⟩
  by_cases hlt : i < z.cps.size
  · refine .inr ⟨hlt, Pv (i + 1), fun σ' H' p' => ⟨z.cps.size - (i + 1), by omega, rfl, hlt, p'⟩, fun x H' y => ?_⟩
    obtain ⟨rfl, c, hc, rfl⟩ := y
    exact hs i c σ _ (by rw [Array.getElem?_toList]; exact hc) p
  · have e : i = z.cps.size := by omega
    subst e
    exact .inl ⟨Nat.le_refl _, hd σ H p⟩
def spLBig : Sp := fun vs H Q _ => ∃ z : Str, vs = [.str z] ∧ z.length ≤ sizeLine ∧ Q (.bl (bigName z.cps.toList)) H
section
variable {P : Program} {w : World} {K : PySem.W.Frag} {mg : Str → Option Value} {base : Heap}
theorem scLB : FnScope ["name", "capitals", "sign"] ["name"] (defScope sLBig) := ⟨rfl, rfl, rfl, by decide +kernel, rfl, by decide +kernel, by decide +kernel⟩
theorem ok_lbig (ml : mg "len" = none) {f : Addr} {fd : FuncData} (F : Fun K "_law_big" "_law_big" sLBig f fd) : FnR P w K mg base CX0 1 f spLBig := by
  refine okR F scLB (fun vs H Q E h => ?_) (fun _ _ _ _ _ _ us hl => match us, hl with | [_], _ => rfl) (fun cdv A outer s H vs Q E hr h => ?_)
  · obtain ⟨z, rfl, _⟩ := h
    rfl
  obtain ⟨z, rfl, hz, q⟩ := h
  refine ⟨_, pss_cons (ps_set (i := 1) scLB.nd rfl (Or.inl rfl) pe_str)
    (pss_cons (ps_if (PW.pt (pw_or (pt_not (pt_chain op_le op_le pe_int (pe_callB call_len_str (by rfl) ml PySem.boot_len (pa_cons (pv 0) pa_nil)) pe_int)) (pw_or1 (pt_cmpR op_notIn_sign (pe_item_str (pv 0) pe_int (fun _ _ => rfl)) (pv 1) (by rfl))))) (pss_one (ps_ret pe_bl)) pss_nil)
    (pss_cons (ps_for PassesOwn.never rfl (pi_str (pv 0)) (pg_name (i := 2) scLB.nd rfl (Or.inl rfl))
      (pss_one (ps_if (pt_cmpR op_notIn_sign (pv 2) (pe_op op_add_str (pv 1) pe_str) (by rfl)) (pss_one (ps_ret pe_bl)) pss_nil)))
    (pss_one (ps_ret pe_bl)))), ?_⟩
  have sl := sizeLine_eq
  have ll := len_list z
  refine ⟨_, rfl, z, rfl, hz, _, _, rfl, rfl, _, rfl, ?_⟩
  have no : (∀ c r, z.cps.toList = c :: r → isCap c = true → r.length < 8 → (c :: r).all isWord = true → False) → Q (.bl false) H := fun h => by
    have e : bigName z.cps.toList = false := by
      cases ez : z.cps.toList with
      | nil => rfl
      | cons c r =>
        refine Bool.eq_false_iff.mpr fun hb => ?_
        rw [bigName_cons, Bool.and_eq_true, Bool.and_eq_true] at hb
        exact h c r ez hb.1.1 (of_decide_eq_true hb.2) hb.1.2
    rw [← e]
    exact q
  refine ite2 (fun h1 => ?_) (fun h1 => ?_)
  · refine ⟨_, _, rfl, rfl, _, rfl, ?_⟩
    have h1' := of_decide_eq_true h1
    cases ez : z.cps.toList with
    | nil => rw [ez] at ll; simp at ll; omega
    | cons c r =>
      rw [ez, List.length_cons] at ll
      by_cases h2 : (z.length : Int) ≤ 8
      · rw [decide_eq_true h2]
        refine iteF ⟨_, rfl, _, _, c, rfl, rfl, by decide, by decide, by omega, by rw [← Array.getElem?_toList, ez]; rfl, _, rfl, c, capS, rfl, rfl, _, rfl, ?_⟩
        rw [cap_mem]
        cases hc : isCap c with
        | false =>
          refine iteT ?_
          refine no fun c' r' e hc' _ _ => ?_
          rw [ez] at e
          cases e
          rw [hc] at hc'
          cases hc'
        | true =>
          refine iteF ?_
          refine ⟨_, rfl, z, rfl, ?_⟩
          refine for_signs (fun i σ H' => H' = H ∧ (∃ w2, σ = [some (.str z), some (.str capS), w2]) ∧ (z.cps.toList.take i).all isWord = true) ⟨rfl, ⟨none, rfl⟩, rfl⟩ ?_ ?_
          · rintro i x σ H' hx ⟨rfl, ⟨w2, rfl⟩, hw⟩
            refine name_go ?_
            dsimp only
            refine ⟨_, rfl, _, rfl, _, _, rfl, rfl, by rw [sl]; decide +kernel, x, capS ++ lowS, rfl, rfl, _, rfl, ?_⟩
            rw [word_mem]
            cases hxw : isWord x with
            | false =>
              refine iteT ?_
              refine no fun c' r' e _ _ hall => ?_
              rw [← e] at hall
              have := List.all_eq_true.mp hall x (List.mem_of_getElem? hx)
              rw [hxw] at this
              cases this
            | true =>
              refine iteF ⟨rfl, ⟨_, rfl⟩, ?_⟩
              rw [take_snoc hx, List.all_append, hw]
              simp [hxw]
          · rintro σ H' ⟨rfl, ⟨w2, rfl⟩, hw⟩
            have hw : z.cps.toList.all isWord = true := by
              rw [List.take_of_length_le (by rw [len_list]; exact Nat.le_refl _)] at hw
              exact hw
            have e : bigName z.cps.toList = true := by
              rw [ez] at hw ⊢
              rw [bigName_cons, hc, hw, decide_eq_true (by omega)]
              rfl
            rw [e] at q
            exact q
      · rw [decide_eq_false h2]
        refine iteT ?_
        refine no fun c' r' e _ hl _ => ?_
        rw [ez] at e
        cases e
        omega
  · have h1' := of_decide_eq_false (Bool.eq_false_iff.mpr h1)
    refine ⟨_, rfl, ?_⟩
    refine iteT ?_
    refine no fun c r e _ _ _ => ?_
    rw [e] at ll
    rw [List.length_cons] at ll
    omega
end
end Tw
set_option maxHeartbeats 4000000
/-! _law_read. -/
namespace Tw
open PySem PySem.Spec PyProof.Rows L2
abbrev sLRead : Stmt := top 39
/-- what comes back: none, or a pair of a tree and the place behind it -/
def Came (z : Str) (o : Option (T × List Nat)) (v : V) (H : Hp) : Prop := match o with
  | none => v = .non
  | some (t, r) => ∃ a w e, v = .ref a ∧ H a = some (.tup [w, .int ((e : Nat) : Int)]) ∧ TupAt H w t ∧ e ≤ z.length ∧ r = z.cps.toList.drop e
def spLRead (D : Nat) : Sp := fun vs H Q _ => ∃ (z : Str) (at_ : Nat), vs = [.str z, .int (at_ : Int)] ∧ z.length ≤ 1000000 ∧ at_ ≤ z.length ∧ Deep (D : Int) (z.cps.toList.drop at_) ∧ ∀ v H', Same H H' → Came z (lr D (z.cps.toList.drop at_)) v H' → Q v H'
theorem deep_next {D : Nat} {cs t r : List Nat} (h : Deep (D : Int) cs) (e : cs = t ++ r) (b : bal t = 0) (e2 : r.take 2 = [44, 32]) : Deep (D : Int) (r.drop 2) := by
  subst e
  have h2 := Deep.tail h
  rw [b] at h2
  have er := take2 e2
  rw [er] at h2
  have h3 := Deep.tail (a := [44, 32]) h2
  exact h3.mono (by show _ - 0 - 0 ≤ _; omega)
theorem spec_mem (c : Nat) : decide (c ∈ (" ()," : Str).cps.toList) = decide (c ∈ spec) := by
  have e : (" ()," : Str).cps.toList = [32, 40, 41, 44] := by decide +kernel
  rw [e]
  refine decide_eq_decide.mpr ?_
  unfold spec
  simp
  omega
theorem dig_mem (c : Nat) : decide (c ∈ digSigns.cps.toList) = isDig c := by
  have e : digSigns.cps.toList = (List.range 10).map (48 + ·) := by decide +kernel
  unfold isDig
  rw [e, ← Bool.decide_and]
  refine decide_eq_decide.mpr ?_
  rw [List.mem_map]
  constructor
  · rintro ⟨k, hk, rfl⟩
    have := List.mem_range.mp hk
    omega
  · rintro ⟨h1, h2⟩
    exact ⟨c - 48, List.mem_range.mpr (by omega), by omega⟩
section
variable {P : Program} {w : World} {K : PySem.W.Frag} {mg : Str → Option Value} {base : Heap}
theorem scLr : FnScope ["text", "at", "end", "name", "parts", "k", "found"] ["text", "at"] (defScope sLRead) := ⟨rfl, rfl, rfl, by decide +kernel, rfl, by decide +kernel, by decide +kernel⟩
theorem lread_step {fb : Addr} (gb : Gf K mg "_law_big" fb) (Fb : FnR P w K mg base CX0 1 fb spLBig) (ml : mg "len" = none) (mr : mg "range" = none) (mt : mg "tuple" = none) {f : Addr} {fd : FuncData} (F : Fun K "_law_read" "_law_read" sLRead f fd) (gm : Gf K mg "_law_read" f) {k D : Nat} {sp : Sp}
    (FM : FnR P w K mg base CX0 (k + 1) f sp) (hD : ∀ vs H Q E, D ≠ 0 → spLRead (D - 1) vs H Q E → sp vs H Q E) : FnR P w K mg base CX0 (k + 2) f (spLRead D) := by
  refine okR F scLr (fun vs H Q E h => ?_) (fun _ _ _ _ _ _ us hl => match us, hl with | [_, _], _ => rfl) (fun cdv A outer s H vs Q E hr h => ?_)
  · obtain ⟨z, at_, rfl, _⟩ := h
    rfl
  obtain ⟨z, at0, rfl, hz, hat, hdp, q⟩ := h
  have hr1 : Room 1 _ := hr.mono (by omega)
  refine ⟨_, pss_cons (ps_set (i := 2) scLr.nd rfl (Or.inl rfl) (pv 1))
    (pss_cons (ps_while PassesOwn.never (PW.pt (pw_and (pt_cmpR op_lt (pv 2) (pe_callB call_len_str (by rfl) ml PySem.boot_len (pa_cons (pv 0) pa_nil)) (nomark _)) (pw_and1 (pt_cmpR op_notIn_sign (pe_item_str (pv 0) (pv 2) (fun _ _ => rfl)) pe_str (by rfl)))))
      (pss_one (ps_set (i := 2) scLr.nd rfl (Or.inl rfl) (pe_op op_add (pv 2) pe_int))))
    (pss_cons (ps_set (i := 3) scLr.nd rfl (Or.inl rfl) (pe_slice sl_str (pv 0) (po_some (pv 1)) (po_some (pv 2))))
    (pss_cons (ps_if (PW.pt (pw_or (pt_cmpR op_eq (pv 3) pe_str (nomark _)) (pw_or1 (PW.pt (pw_and (pt_cmpR op_eq (pe_callB call_len_str (by rfl) ml PySem.boot_len (pa_cons (pv 3) pa_nil)) pe_int (nomark _)) (pw_and1 (pt_cmpR op_in_sign (pv 3) pe_str (by rfl)))))))) (pss_one (ps_ret (pe_tup (pa_cons (pe_tup (pa_cons (pv 3) (pa_cons (pe_tup pa_nil) pa_nil))) (pa_cons (pv 2) pa_nil))))) pss_nil)
    (pss_cons (ps_if (pt_not (pt_val (pe_cf Fb hr1 gb pass0 (pa_cons (pv 3) pa_nil)))) (pss_one (ps_ret pe_non)) pss_nil)
    (pss_cons (ps_if (pt_cmpR op_ne (pe_slice sl_str (pv 0) (po_some (pv 2)) (po_some (pe_op op_add (pv 2) pe_int))) pe_str (nomark _)) (pss_one (ps_ret (pe_tup (pa_cons (pe_tup (pa_cons (pv 3) (pa_cons (pe_tup pa_nil) pa_nil))) (pa_cons (pv 2) pa_nil))))) pss_nil)
    (pss_cons (ps_set (i := 4) scLr.nd rfl (Or.inl rfl) (pe_lst pa_nil))
    (pss_cons (ps_set (i := 1) scLr.nd rfl (Or.inl rfl) (pe_op op_add (pv 2) pe_int))
    (pss_cons (ps_for PassesOwn.never rfl (pi_range1 (by rfl) mr (pa_cons pe_int pa_nil)) (pg_name (i := 5) scLr.nd rfl (Or.inl rfl))
      (pss_cons (ps_set (i := 6) scLr.nd rfl (Or.inl rfl) (pe_cf FM hr gm pass0 (pa_cons (pv 0) (pa_cons (pv 1) pa_nil))))
      (pss_cons (ps_if (pt_cmp (pc_isN (pv 6))) (pss_one (ps_ret pe_non)) pss_nil)
      (pss_cons (ps_expr (pe_bm PySem.F.plainAttrs_list PySem.F.slot_list_append PySem.F.type_list_append mt_append (pv 4) (pa_cons (pe_ix ix_tup (pv 6) pe_int (fun _ _ => rfl)) pa_nil)))
      (pss_cons (ps_set (i := 1) scLr.nd rfl (Or.inl rfl) (pe_ix ix_tup (pv 6) pe_int (fun _ _ => rfl)))
      (pss_cons (ps_if (pt_cmpR op_eq (pe_slice sl_str (pv 0) (po_some (pv 1)) (po_some (pe_op op_add (pv 1) pe_int))) pe_str (nomark _)) (pss_one (ps_ret (pe_tup (pa_cons (pe_tup (pa_cons (pv 3) (pa_cons (pe_callTy call_tuple_of (by rfl) mt (by decide +kernel) (pa_cons (pv 4) pa_nil)) pa_nil))) (pa_cons (pe_op op_add (pv 1) pe_int) pa_nil))))) pss_nil)
      (pss_cons (ps_if (pt_cmpR op_ne (pe_slice sl_str (pv 0) (po_some (pv 1)) (po_some (pe_op op_add (pv 1) pe_int))) pe_str (nomark _)) (pss_one (ps_ret pe_non)) pss_nil)
      (pss_one (ps_set (i := 1) scLr.nd rfl (Or.inl rfl) (pe_op op_add (pv 1) pe_int))))))))))
    (pss_one (ps_ret pe_non)))))))))), ?_⟩
  have sl := sizeLine_eq
  have ll := len_list z
  refine ⟨_, rfl, ?_⟩
  refine name_go ?_
  dsimp only
  refine seq_go ?_
  refine while_m (fun m σ H' => ∃ s : Nat, σ = [some (.str z), some (.int (at0 : Int)), some (.int (s : Int)), none, none, none, none] ∧ H' = H ∧ s ≤ z.length ∧ s + nl (z.cps.toList.drop s) = at0 + nl (z.cps.toList.drop at0) ∧ m = z.length - s)
    ⟨_, at0, rfl, rfl, hat, rfl, rfl⟩ ?_
  rintro m σ H1 R ⟨s, rfl, rfl, hs1, he, rfl⟩ ht hf
  have stop : nl (z.cps.toList.drop s) = 0 → R false H1 := fun h0 => by
    refine hf _ ?_
    clear ht hf
    have hs : s = at0 + nl (z.cps.toList.drop at0) := by omega
    have nle := nl_le (z.cps.toList.drop at0)
    obtain ⟨cs, hcs⟩ : ∃ cs, z.cps.toList.drop at0 = cs := ⟨_, rfl⟩
    rw [hcs] at hdp q hs nle he
    have csl : cs.length = z.length - at0 := by rw [← hcs, List.length_drop, ll]
    subst hs
    have hr0 : z.cps.toList.drop (at0 + nl cs) = cs.drop (nl cs) := by rw [← hcs, List.drop_drop]
    refine ⟨_, rfl, _, rfl, _, rfl, _, rfl, _, rfl, z, rfl, by omega, ?_⟩
    have nm : cutS z (some (at0 : Int)) (some ((at0 + nl cs : Nat) : Int)) = mkS (cs.take (nl cs)) := by
      rw [cut_eq hat (by omega), hcs, show at0 + nl cs - at0 = nl cs by omega]
    rw [nm]
    refine name_go ?_
    dsimp only
    have hlr := lr_eq D cs
    have hnl : (mkS (cs.take (nl cs))).length = nl cs := by rw [mkS_len, List.length_take]; omega
    have hbn : bigName (mkS (cs.take (nl cs))).cps.toList = bigName (cs.take (nl cs)) := by rw [mkS_list]
    have hns := (nl_spec cs).2
    obtain ⟨n, hn⟩ : ∃ n, mkS (cs.take (nl cs)) = n := ⟨_, rfl⟩
    rw [hn] at hlr hnl hbn ⊢
    rw [← hbn] at hlr
    have ret : ∀ (c a b : Addr), H1 c = none → (upd H1 c (.tup [])) a = none → (upd (upd H1 c (.tup [])) a (.tup [.str n, .ref c])) b = none → lr D cs = some (.node n [], cs.drop (nl cs)) → Q (.ref b) (upd (upd (upd H1 c (.tup [])) a (.tup [.str n, .ref c])) b (.tup [.ref a, .int ((at0 + nl cs : Nat) : Int)])) := by
      intro c a b nc na nb hlr
      have k1 := sameN (o := .tup []) nc
      have k2 := sameN (o := .tup [V.str n, .ref c]) na
      have k3 := sameN (o := .tup [V.ref a, .int ((at0 + nl cs : Nat) : Int)]) nb
      refine q _ _ (k1.trans (k2.trans k3)) ?_
      rw [hlr]
      exact ⟨b, .ref a, at0 + nl cs, rfl, upd_same, .mk (k3 _ _ upd_same) (k3 _ _ (k2 _ _ upd_same)) .nil, by omega, hr0.symm⟩
    have i2 : 2 ≤ sizeLine := by omega
    have e95 : ("_" : Str).cps.toList = [95] := by decide +kernel
    have sl1 : ∀ e : Nat, e ≤ z.length → cutS z (some (e : Int)) (some ((e : Int) + 1)) = mkS ((z.cps.toList.drop e).take 1) := fun e le => by
      have := cut_eq (z := z) (s := e) (e := e + 1) le (by omega)
      rw [show e + 1 - e = 1 by omega] at this
      exact this
    have sl2 : ∀ e : Nat, e ≤ z.length → cutS z (some (e : Int)) (some ((e : Int) + 2)) = mkS ((z.cps.toList.drop e).take 2) := fun e le => by
      have := cut_eq (z := z) (s := e) (e := e + 2) le (by omega)
      rw [show e + 2 - e = 2 by omega] at this
      exact this
    refine seq_join (fun σ H' => σ = [some (.str z), some (.int (at0 : Int)), some (.int ((at0 + nl cs : Nat) : Int)), some (.str n), none, none, none] ∧ H' = H1 ∧ leafName n = false) (fun nx hnx => ?_) ?_
    · refine ⟨_, rfl, rfl, _, rfl, ?_⟩
      refine ite2 (fun c1 => ?_) (fun c1 => ?_)
      · have hl : leafName n = true := by
          have : n = "_" := V.str.inj (of_decide_eq_true c1)
          unfold leafName
          rw [this, e95]
          rfl
        refine iteT ?_
        exact ⟨_, rfl, Nat.zero_le _, fun c nc => ⟨i2, fun a na => ⟨_, rfl, i2, fun b nb => ret c a b nc na nb (by rw [hlr, if_pos hl])⟩⟩⟩
      · have hno : ¬ n.cps.toList = [95] := fun e => c1 (decide_eq_true (congrArg V.str (str_ext (by rw [e, e95]))))
        refine ⟨_, rfl, n, rfl, by omega, rfl, _, rfl, ?_⟩
        refine ite2 (fun c2 => ?_) (fun c2 => ?_)
        · obtain ⟨c, rfl⟩ := one_sign (of_decide_eq_true c2)
          refine ⟨_, rfl, c, digSigns, rfl, rfl, _, rfl, ?_⟩
          rw [dig_mem]
          cases hdg : isDig c with
          | true =>
            have hl : leafName ⟨#[c]⟩ = true := by
              unfold leafName
              show (_ || isDig c) = true
              rw [hdg]
              simp
            refine iteT ?_
            exact ⟨_, rfl, Nat.zero_le _, fun c' nc => ⟨i2, fun a na => ⟨_, rfl, i2, fun b nb => ret c' a b nc na nb (by rw [hlr, if_pos hl])⟩⟩⟩
          | false =>
            refine iteF ?_
            refine hnx _ _ ⟨rfl, rfl, ?_⟩
            unfold leafName
            show (_ || isDig c) = false
            rw [hdg, decide_eq_false hno]
            rfl
        · refine iteF ?_
          refine hnx _ _ ⟨rfl, rfl, ?_⟩
          unfold leafName
          rw [decide_eq_false hno, dig_long (of_decide_eq_false (Bool.eq_false_iff.mpr c2))]
          rfl
    rintro σ H2 ⟨rfl, rfl, hlf⟩
    rw [hlf, if_neg (by decide)] at hlr
    refine ⟨_, rfl, n, rfl, by omega, _, rfl, ?_⟩
    cases hbig : bigName n.cps.toList with
    | false =>
      refine iteT ?_
      refine q _ H2 (Same.refl _) ?_
      rw [hlr, if_pos hbig]
      exact rfl
    | true =>
      refine iteF ?_
      rw [hbig, if_neg (by decide)] at hlr
      refine ⟨_, rfl, _, rfl, _, rfl, _, rfl, _, _, rfl, rfl, _, rfl, z, rfl, by omega, rfl, _, rfl, ?_⟩
      rw [sl1 _ hs1, hr0, mkS_is [40] (by decide +kernel)]
      refine ite2 (fun c3 => ?_) (fun c3 => ?_)
      · have c3' : (cs.drop (nl cs)).take 1 ≠ [40] := by simpa using c3
        exact ⟨_, rfl, Nat.zero_le _, fun c nc => ⟨i2, fun a na => ⟨_, rfl, i2, fun b nb => ret c a b nc na nb (by rw [hlr, if_pos c3'])⟩⟩⟩
      · have c3' : (cs.drop (nl cs)).take 1 = [40] := by simpa using c3
        rw [if_neg (by rw [c3']; simp)] at hlr
        have er := take1 c3'
        rw [List.drop_drop] at er
        have hsplit : cs = cs.take (nl cs) ++ ([40] ++ cs.drop (nl cs + 1)) := by
          conv => lhs; rw [← List.take_append_drop (nl cs) cs, er]
          rfl
        have hd2 : Deep ((D : Int) - 1) (cs.drop (nl cs + 1)) := by
          have h1 := hdp
          rw [hsplit] at h1
          have h2 := Deep.tail h1
          rw [bal_name hns] at h2
          have h3 := Deep.tail h2
          exact h3.mono (by show _ - 0 - 1 ≤ _; omega)
        cases D with
        | zero =>
          exfalso
          have := hd2 0
          rw [List.take_zero] at this
          have : (0 : Int) ≤ ((0 : Nat) : Int) - 1 := this
          omega
        | succ D =>
          have hlr : lr (D + 1) cs = lrs (lr D) n 3 [] (cs.drop (nl cs + 1)) := hlr
          have hd3 : Deep (D : Int) (cs.drop (nl cs + 1)) := hd2.mono (by omega)
          have hlt : at0 + nl cs + 1 ≤ z.length := by
            have := congrArg List.length er
            rw [List.length_drop, List.length_cons] at this
            omega
          have hdr : z.cps.toList.drop (at0 + nl cs + 1) = cs.drop (nl cs + 1) := by rw [← hcs, List.drop_drop]; rfl
          refine ⟨Nat.zero_le _, fun pl npl => ?_⟩
          refine name_go ?_
          dsimp only
          have k1 := sameN (o := .lst []) npl
          refine ⟨_, rfl, _, _, rfl, rfl, ?_⟩
          refine name_go ?_
          dsimp only
          refine ⟨_, rfl, by decide, by decide, ?_⟩
          refine for_range (lo := 0) (n := 3) (fun i σ H' => Same H2 H' ∧ ∃ (at' : Nat) (w5 w6 : Option V) (pvs : List V) (ps : List T), σ = [some (.str z), some (.int (at' : Int)), some (.int ((at0 + nl cs : Nat) : Int)), some (.str n), some (.ref pl), w5, w6] ∧ H' pl = some (.lst pvs) ∧ TupsAt H' pvs ps ∧
            at' ≤ z.length ∧ Deep (D : Int) (z.cps.toList.drop at') ∧ ps.length = i ∧ lrs (lr D) n (3 - i) ps (z.cps.toList.drop at') = lr (D + 1) cs)
            ⟨k1, at0 + nl cs + 1, none, none, [], [], rfl, upd_same, .nil, hlt, by rw [hdr]; exact hd3, rfl, by rw [hdr, hlr]⟩ ?_ ?_
          · rintro i σ H3 hi ⟨s3, at', w5, w6, pvs, ps, rfl, hpl, hps, hat', hdp', hpsl, hlrs⟩
            have hpvl := hps.len
            refine name_go ?_
            dsimp only
            obtain ⟨j, hj⟩ : ∃ j, 3 - i = j + 1 := ⟨2 - i, by omega⟩
            have hj2 : 3 - (i + 1) = j := by omega
            rw [hj] at hlrs
            refine ⟨_, rfl, _, rfl, hD _ _ _ _ (by omega) ⟨z, at', rfl, hz, hat', hdp', fun v H4 s4 came => ?_⟩⟩
            refine name_go ?_
            dsimp only
            have s34 := s3.trans s4
            have came : Came z (lr D (z.cps.toList.drop at')) v H4 := came
            cases hv : lr D (z.cps.toList.drop at') with
            | none =>
              rw [hv] at came
              have came : v = .non := came
              subst came
              refine ⟨_, rfl, _, rfl, iteT ?_⟩
              refine q _ H4 s34 ?_
              rw [← hlrs]
              unfold lrs
              rw [hv]
              exact rfl
            | some x =>
              obtain ⟨u, r'⟩ := x
              have hsound := lr_sound D _ u r' hv
              rw [hv] at came
              obtain ⟨a', w, e', rfl, ha', hw, he', hr'⟩ := came
              refine ⟨_, rfl, _, rfl, iteF ?_⟩
              have hpl4 := s4 _ _ hpl
              refine ⟨_, rfl, .inl ⟨rfl, _, SqL.of hpl4⟩, _, rfl, a', _, _, w, rfl, rfl, SqT.of ha', rfl, pl, pvs, w, rfl, rfl, hpl4, by omega, ?_⟩
              have f5 := Firm.list (o := .lst (pvs ++ [w])) hpl4
              have e5 : (upd H4 pl (.lst (pvs ++ [w]))) pl = some (.lst (pvs ++ [w])) := upd_same
              have hps5 : TupsAt (upd H4 pl (.lst (pvs ++ [w]))) (pvs ++ [w]) (ps ++ [u]) := TupsAt.snoc (hw.firm f5) (hps.firm ((Firm.of s4).trans f5))
              have s5 : Same H2 (upd H4 pl (.lst (pvs ++ [w]))) := fun b o e => by rw [upd_ne (ne_of_none e npl)]; exact s34 b o e
              have ha5 := f5.1 _ _ ha'
              generalize upd H4 pl (.lst (pvs ++ [w])) = H5 at f5 e5 hps5 s5 ha5 ⊢
              refine ⟨_, rfl, a', _, _, .int (e' : Int), rfl, rfl, SqT.of ha5, rfl, ?_⟩
              refine name_go ?_
              dsimp only
              unfold lrs at hlrs
              rw [hv] at hlrs
              dsimp only at hlrs
              refine ⟨_, rfl, _, rfl, _, rfl, _, rfl, _, _, rfl, rfl, _, rfl, z, rfl, by omega, rfl, _, rfl, ?_⟩
              rw [sl1 _ he', ← hr', mkS_is [41] (by decide +kernel)]
              refine ite2 (fun c5 => ?_) (fun c5 => ?_)
              · have c5' : r'.take 1 = [41] := of_decide_eq_true c5
                rw [if_pos c5'] at hlrs
                have er' := take1 c5'
                have hlt' : e' + 1 ≤ z.length := by
                  have := congrArg List.length er'
                  rw [hr', List.length_drop, List.length_cons] at this
                  omega
                refine ⟨_, rfl, _, rfl, pl, _, rfl, .inl ⟨SqL.of e5, fun c nc => ?_⟩⟩
                have z1 := sameN (o := .tup (pvs ++ [w])) nc
                refine ⟨i2, fun a2 na2 => ?_⟩
                have z2 := sameN (o := .tup [V.str n, .ref c]) na2
                refine ⟨_, rfl, _, _, rfl, rfl, i2, fun b nb => ?_⟩
                have z3 := sameN (o := .tup [V.ref a2, .int ((e' : Int) + 1)]) nb
                refine q _ _ (s5.trans (z1.trans (z2.trans z3))) ?_
                rw [← hlrs]
                exact ⟨b, .ref a2, e' + 1, rfl, upd_same, .mk (z3 _ _ upd_same) (z3 _ _ (z2 _ _ upd_same)) (hps5.mono (z1.trans (z2.trans z3))), hlt', by rw [hr', List.drop_drop]⟩
              · have c5' : ¬ r'.take 1 = [41] := of_decide_eq_false (Bool.eq_false_iff.mpr c5)
                rw [if_neg c5'] at hlrs
                refine ⟨_, rfl, _, rfl, _, rfl, _, rfl, _, _, rfl, rfl, _, rfl, z, rfl, by omega, rfl, _, rfl, ?_⟩
                rw [sl2 _ he', ← hr', mkS_is [44, 32] (by decide +kernel)]
                refine ite2 (fun c6 => ?_) (fun c6 => ?_)
                · have c6' : ¬ r'.take 2 = [44, 32] := by simpa using c6
                  rw [if_neg c6'] at hlrs
                  refine q _ H5 s5 ?_
                  rw [← hlrs]
                  exact rfl
                · have c6' : r'.take 2 = [44, 32] := by simpa using c6
                  rw [if_pos c6'] at hlrs
                  have hlt' : e' + 2 ≤ z.length := by
                    have := congrArg List.length (take2 c6')
                    rw [hr', List.length_drop, List.length_cons, List.length_cons] at this
                    omega
                  have hdr' : z.cps.toList.drop (e' + 2) = r'.drop 2 := by rw [hr', List.drop_drop]
                  refine ⟨_, rfl, _, _, rfl, rfl, s5, e' + 2, _, _, pvs ++ [w], ps ++ [u], rfl, e5, hps5, hlt', ?_, by rw [List.length_append, hpsl] <;> rfl, by rw [hdr', hj2]; exact hlrs⟩
                  rw [hdr']
                  exact deep_next hdp' hsound.1 (bal_term hsound.2) c6'
          · rintro σ H3 ⟨s3, at', w5, w6, pvs, ps, rfl, hpl, hps, hat', hdp', hpsl, hlrs⟩
            refine q _ H3 s3 ?_
            rw [← hlrs]
            unfold lrs
            exact rfl
  -- the walk to the name's end
  refine ⟨_, rfl, _, rfl, z, rfl, by omega, _, _, rfl, rfl, _, rfl, ?_⟩
  refine ite2 (fun c => ?_) (fun c => ?_)
  · have c' : s < z.length := by
      have := of_decide_eq_true c
      omega
    obtain ⟨ch, hch⟩ : ∃ ch, z.cps.toList[s]? = some ch := ⟨_, List.getElem?_eq_getElem (by omega)⟩
    have nd := nl_drop hch
    refine ⟨_, rfl, _, rfl, _, _, ch, rfl, rfl, by omega, by omega, by omega, by rw [← Array.getElem?_toList]; exact hch, _, _, rfl, rfl, _, rfl, ?_⟩
    rw [spec_mem]
    by_cases hc : ch ∈ spec
    · rw [decide_eq_true hc]
      rw [if_pos hc] at nd
      exact stop nd
    · rw [decide_eq_false hc]
      rw [if_neg hc] at nd
      exact ht _ ⟨_, rfl, _, _, rfl, rfl, _, by omega, s + 1, rfl, rfl, by omega, by omega, rfl⟩
  · have c' : s = z.length := by
      have := of_decide_eq_false (Bool.eq_false_iff.mpr c)
      omega
    exact stop (by rw [List.drop_of_length_le (by omega)]; rfl)
theorem ok_lread {fb : Addr} (gb : Gf K mg "_law_big" fb) (Fb : FnR P w K mg base CX0 1 fb spLBig) (ml : mg "len" = none) (mr : mg "range" = none) (mt : mg "tuple" = none) {f : Addr} {fd : FuncData} (F : Fun K "_law_read" "_law_read" sLRead f fd) (gm : Gf K mg "_law_read" f) : ∀ D : Nat, FnR P w K mg base CX0 (D + 2) f (spLRead D)
  | 0 => lread_step gb Fb ml mr mt F gm (k := 0) (sp := fun _ _ _ _ => False) (fun _ _ _ _ _ _ _ _ _ _ _ hs => hs.elim) fun _ _ _ _ h => absurd rfl h
  | D + 1 => lread_step gb Fb ml mr mt F gm (k := D + 1) (ok_lread gb Fb ml mr mt F gm D) fun _ _ _ _ _ h => h
end
end Tw
set_option maxHeartbeats 4000000
/-! The law. -/
namespace Tw
open PySem PySem.Spec PyProof.Rows L2 ClX
abbrev sLaw : Stmt := top 41
mutual
theorem lr_levels : ∀ (D : Nat) (cs : List Nat) (t : T) (r : List Nat), lr D cs = some (t, r) → t.levels ≤ D + 1
  | 0, cs, t, r, h => by
    rw [lr_eq] at h
    have leaf : ∀ n : Str, (T.node n []).levels = 1 := fun n => by rw [levels_node]; unfold T.mostFrom; rfl
    split at h
    · have e1 := congrArg Prod.fst (Option.some.inj h)
      dsimp only at e1
      rw [← e1, leaf]
      omega
    · split at h
      · cases h
      · split at h
        · have e1 := congrArg Prod.fst (Option.some.inj h)
          dsimp only at e1
          rw [← e1, leaf]
          omega
        · cases h
  | D + 1, cs, t, r, h => by
    rw [lr_eq] at h
    have leaf : ∀ n : Str, (T.node n []).levels = 1 := fun n => by rw [levels_node]; unfold T.mostFrom; rfl
    split at h
    · have e1 := congrArg Prod.fst (Option.some.inj h)
      dsimp only at e1
      rw [← e1, leaf]
      omega
    · split at h
      · cases h
      · split at h
        · have e1 := congrArg Prod.fst (Option.some.inj h)
          dsimp only at e1
          rw [← e1, leaf]
          omega
        · exact lrs_levels D _ 3 [] _ t r (fun u hu => absurd hu List.not_mem_nil) h
theorem lrs_levels : ∀ (D : Nat) (n : Str) (k : Nat) (ps : List T) (cs : List Nat) (t : T) (r : List Nat), (∀ u ∈ ps, u.levels ≤ D + 1) → lrs (lr D) n k ps cs = some (t, r) → t.levels ≤ D + 2
  | D, n, 0, ps, cs, t, r, _, h => by
    unfold lrs at h
    cases h
  | D, n, k + 1, ps, cs, t, r, hp, h => by
    unfold lrs at h
    cases e : lr D cs with
    | none => rw [e] at h; cases h
    | some x =>
      obtain ⟨u, r1⟩ := x
      have hu := lr_levels D cs u r1 e
      rw [e] at h
      dsimp only at h
      have hp' : ∀ v ∈ ps ++ [u], v.levels ≤ D + 1 := fun v hv => by
        rcases List.mem_append.mp hv with hv | hv
        · exact hp v hv
        · rw [List.mem_singleton.mp hv]
          exact hu
      split at h
      · have e1 := congrArg Prod.fst (Option.some.inj h)
        dsimp only at e1
        rw [← e1]
        exact levels_of hp'
      · split at h
        · exact lrs_levels D n k (ps ++ [u]) _ t r hp' h
        · cases h
end
def spLaw (K : PySem.W.Frag) : Sp := fun vs H Q _ => ∃ (a : Addr) (ns : List Int), vs = [.ref a] ∧ SqL K H a (ns.map V.int) ∧ ns.length ≤ 63 ∧ ∀ H', Q (.bl true) H'
section
variable {P : Program} {w : World} {K : PySem.W.Frag} {mg : Str → Option Value} {base : Heap} {C CB CN : Addr} {mc : Value}
theorem scLaw : FnScope ["script", "pool", "trees", "dues", "made", "tree", "k", "at", "text", "found"] ["script"] (defScope sLaw) := ⟨rfl, rfl, rfl, by decide +kernel, rfl, by decide +kernel, by decide +kernel⟩
/-- what the law calls -/
structure Calls (P : Program) (w : World) (K : PySem.W.Frag) (mg : Str → Option Value) (base : Heap) (C CB CN : Addr) (mc : Value) (fPo fSi fTo fMa fGo fPl fOr fDr fNo fAs fSp fRe fRf pR gR : Addr) : Prop where
  gT : mg "Tree" = some (.ref C)
  len : mg "len" = none
  range : mg "range" = none
  rd : CRead K C mc
  cm : CMet K C mc "read" pR gR
  v1 : ∃ t, CVal K C mc "MOST_NAMES" (.int 2000) (.int 2000 t)
  v2 : ∃ t, CVal K C mc "MOST_LEVELS" (.int 60) (.int 60 t)
  FR : FnR P w K mg base (L2.CX P w) 6 gR (spRead C CB)
  gPo : Gf K mg "_law_pool_of" fPo
  FPo : FnR P w K mg base CX0 1 fPo (spPool K)
  gSi : Gf K mg "_law_six" fSi
  FSi : FnR P w K mg base CX0 10 fSi spSix
  gTo : Gf K mg "_law_told" fTo
  FTo : FnR P w K mg base CX0 60 fTo (spTold 59)
  gMa : Gf K mg "_law_make" fMa
  FMa : FnR P w K mg base CX0 62 fMa (spMakeL C 57)
  gGo : Gf K mg "_law_good" fGo
  FGo : FnR P w K mg base CX0 62 fGo (spGood C 59)
  gPl : Gf K mg "_law_places" fPl
  FPl : FnR P w K mg base (L2.CX P w) 60 fPl (spLPlaces C)
  gOr : Gf K mg "_law_order" fOr
  FOr : FnR P w K mg base CX0 2 fOr (spOrder C)
  gDr : Gf K mg "_law_draw" fDr
  FDr : FnR P w K mg base CX0 1 fDr spDraw
  gNo : Gf K mg "_law_no_place" fNo
  FNo : FnR P w K mg base (L2.CX P w) 5 fNo (spNoP C)
  gAs : Gf K mg "_law_astray" fAs
  FAs : FnR P w K mg base CX0 59 fAs (spAstray K)
  gSp : Gf K mg "_law_spoilt" fSp
  FSp : FnR P w K mg base CX0 2 fSp spSpoilt
  gRe : Gf K mg "_law_read" fRe
  FRe : FnR P w K mg base CX0 61 fRe (spLRead 59)
  gRf : Gf K mg "_law_refused" fRf
  FRf : FnR P w K mg base (L2.CX P w) 7 fRf spRefused
theorem ok_law {fPo fSi fTo fMa fGo fPl fOr fDr fNo fAs fSp fRe fRf pR gR : Addr} (L : Calls P w K mg base C CB CN mc fPo fSi fTo fMa fGo fPl fOr fDr fNo fAs fSp fRe fRf pR gR) {f : Addr} {fd : FuncData} (F : Fun K "law" "law" sLaw f fd) : FnOk P w K mg base CX0 65 f fd ["script"] (spLaw K) := by
  refine F.ok scLaw (fun vs H Q E h => ?_) (fun cdv A outer s H vs Q E hr h => ?_)
  · obtain ⟨a, ns, rfl, _⟩ := h
    rfl
  obtain ⟨a, ns, rfl, ha, hns, q⟩ := h
  have hr62 : Room 62 _ := hr.mono (by decide)
  have hr61 : Room 61 _ := hr.mono (by decide)
  have hr60 : Room 60 _ := hr.mono (by decide)
  have hr59 : Room 59 _ := hr.mono (by decide)
  have hr10 : Room 10 _ := hr.mono (by decide)
  have hr7 : Room 7 _ := hr.mono (by decide)
  have hr6 : Room 6 _ := hr.mono (by decide)
  have hr5 : Room 5 _ := hr.mono (by decide)
  have hr2 : Room 2 _ := hr.mono (by decide)
  have hr1 : Room 1 _ := hr.mono (by decide)
  refine ⟨_, pss_cons (ps_set (i := 1) scLaw.nd rfl (Or.inl rfl) (pe_cf L.FPo hr1 L.gPo pass0 (pa_cons (pv 0) pa_nil)))
    (pss_cons (ps_set (i := 2) scLaw.nd rfl (Or.inl rfl) (pe_cf L.FSi hr10 L.gSi pass0 (pa_cons (pv 1) pa_nil)))
    (pss_cons (ps_setLc (i := 3) (own := [("tree", 5)]) (g := gName 5) (tt := tYes) (te := tCf (spTold 59) E0 (tCons (tVar 5) tNil)) rfl scLaw.nd rfl rfl (by rfl) (pi_list (pv 2)) (blkOk_by (own := [("tree", 5)]) (N := ["script", "pool", "trees", "dues", "made", "tree", "k", "at", "text", "found"]) (sc := defScope sLaw) (by decide +kernel))
      (fun _ _ _ _ _ => by exact pg_name (i := 5) scLaw.nd rfl (Or.inl rfl)) (fun _ _ _ _ _ => by exact pts_nil) (fun _ _ _ _ _ => by exact pe_cf L.FTo hr60 L.gTo pass0 (pa_cons (pv 5) pa_nil)))
    (pss_cons (ps_setLc (i := 4) (own := [("tree", 5)]) (g := gName 5) (tt := tYes) (te := tCf (spMakeL C 57) E0 (tCons (tVar 5) tNil)) rfl scLaw.nd rfl rfl (by rfl) (pi_list (pv 2)) (blkOk_by (own := [("tree", 5)]) (N := ["script", "pool", "trees", "dues", "made", "tree", "k", "at", "text", "found"]) (sc := defScope sLaw) (by decide +kernel))
      (fun _ _ _ _ _ => by exact pg_name (i := 5) scLaw.nd rfl (Or.inl rfl)) (fun _ _ _ _ _ => by exact pts_nil) (fun _ _ _ _ _ => by exact pe_cf L.FMa hr62 L.gMa pass0 (pa_cons (pv 5) pa_nil)))
    (pss_cons (ps_for PassesOwn.never rfl (pi_range1 (by rfl) L.range (pa_cons (pe_callB call_len_seq (by rfl) L.len PySem.boot_len (pa_cons (pv 2) pa_nil)) pa_nil)) (pg_name (i := 6) scLaw.nd rfl (Or.inl rfl))
      (pss_cons (ps_if (pt_not (pt_val (pe_cf L.FGo hr62 L.gGo pass0 (pa_cons (pe_ix ix_list (pv 4) (pv 6) (fun _ _ => rfl)) (pa_cons (pe_ix ix_list (pv 3) (pv 6) (fun _ _ => rfl)) pa_nil))))) (pss_one (ps_ret pe_bl)) pss_nil)
      (pss_cons (ps_if (pt_not (pt_val (pe_cf L.FGo hr62 L.gGo pass0 (pa_cons (pe_cmeth (E := E0) (pe_gr L.gT) L.rd L.cm L.FR hr6 passE (pa_cons (pe_ix ix_tup (pe_ix ix_list (pv 3) (pv 6) (fun _ _ => rfl)) pe_int (fun _ _ => rfl)) pa_nil)) (pa_cons (pe_ix ix_list (pv 3) (pv 6) (fun _ _ => rfl)) pa_nil))))) (pss_one (ps_ret pe_bl)) pss_nil)
      (pss_one (ps_if (pt_not (pt_val (pe_cf L.FPl hr60 L.gPl passE (pa_cons (pe_ix ix_list (pv 4) (pv 6) (fun _ _ => rfl)) (pa_cons (pe_ix ix_list (pv 3) (pv 6) (fun _ _ => rfl)) pa_nil))))) (pss_one (ps_ret pe_bl)) pss_nil)))))
    (pss_cons (ps_if (PW.pt (pw_or (pt_cmpR op_ne (pe_cval (pe_gr L.gT)) pe_int (nomark _)) (pw_or1 (pt_cmpR op_ne (pe_cval (pe_gr L.gT)) pe_int (nomark _))))) (pss_one (ps_ret pe_bl)) pss_nil)
    (pss_cons (ps_if (pt_not (pt_val (pe_cf L.FOr hr2 L.gOr pass0 (pa_cons (pv 4) (pa_cons (pv 3) pa_nil))))) (pss_one (ps_ret pe_bl)) pss_nil)
    (pss_cons (ps_set (i := 7) scLaw.nd rfl (Or.inl rfl) (pe_cf L.FDr hr1 L.gDr pass0 (pa_cons (pv 1) (pa_cons (pe_callB call_len_seq (by rfl) L.len PySem.boot_len (pa_cons (pv 2) pa_nil)) pa_nil))))
    (pss_cons (ps_if (pt_not (pt_val (pe_cf L.FNo hr5 L.gNo passE (pa_cons (pe_ix ix_list (pv 4) (pv 7) (fun _ _ => rfl)) (pa_cons (pe_cf L.FAs hr59 L.gAs pass0 (pa_cons (pv 1) (pa_cons (pe_ix ix_list (pv 3) (pv 7) (fun _ _ => rfl)) pa_nil))) pa_nil))))) (pss_one (ps_ret pe_bl)) pss_nil)
    (pss_cons (ps_if (pt_not (pt_val (pe_cf L.FGo hr62 L.gGo pass0 (pa_cons (pe_ix ix_list (pv 4) (pv 7) (fun _ _ => rfl)) (pa_cons (pe_ix ix_list (pv 3) (pv 7) (fun _ _ => rfl)) pa_nil))))) (pss_one (ps_ret pe_bl)) pss_nil)
    (pss_cons (ps_set (i := 8) scLaw.nd rfl (Or.inl rfl) (pe_cf L.FSp hr2 L.gSp pass0 (pa_cons (pv 1) (pa_cons (pe_ix ix_tup (pe_ix ix_list (pv 3) (pe_cf L.FDr hr1 L.gDr pass0 (pa_cons (pv 1) (pa_cons (pe_callB call_len_seq (by rfl) L.len PySem.boot_len (pa_cons (pv 2) pa_nil)) pa_nil))) (fun _ _ => rfl)) pe_int (fun _ _ => rfl)) pa_nil))))
    (pss_cons (ps_set (i := 9) scLaw.nd rfl (Or.inl rfl) (pe_cf L.FRe hr61 L.gRe pass0 (pa_cons (pv 8) (pa_cons pe_int pa_nil))))
    (pss_cons (ps_if (PW.pt (pw_or (pt_cmp (pc_isN (pv 9))) (pw_or1 (pt_cmpR op_ne (pe_ix ix_tup (pv 9) pe_int (fun _ _ => rfl)) (pe_callB call_len_str (by rfl) L.len PySem.boot_len (pa_cons (pv 8) pa_nil)) (nomark _))))) (pss_one (ps_ret (pe_cf L.FRf hr7 L.gRf passE (pa_cons (pv 8) pa_nil)))) pss_nil)
    (pss_one (ps_ret (pe_cf L.FGo hr62 L.gGo pass0 (pa_cons (pe_cmeth (E := E0) (pe_gr L.gT) L.rd L.cm L.FR hr6 passE (pa_cons (pv 8) pa_nil)) (pa_cons (pe_cf L.FTo hr60 L.gTo pass0 (pa_cons (pe_ix ix_tup (pv 9) pe_int (fun _ _ => rfl)) pa_nil)) pa_nil))))))))))))))))), ?_⟩
  have sl := sizeLine_eq
  refine ⟨_, rfl, a, ns, rfl, ha, fun p r H1 s1 np nr hp1 => ?_⟩
  refine name_go ?_
  dsimp only
  refine ⟨_, rfl, p, r, rfl, hp1, fun l us ts H2 hl nl hts htl hok hp2 k2 f2 => ?_⟩
  refine name_go ?_
  dsimp only
  have inUse : ∀ H', PoolAt H' p r → ∀ x ∈ [p, r], H' x ≠ none := fun H' hp x hx => by
    obtain ⟨_, rows, sd, c, e1, e2, _⟩ := hp
    simp at hx
    rcases hx with rfl | rfl
    · rw [e1]; simp
    · rw [e2]; simp
  have nlp : l ∉ [p, r] := fun h => inUse H1 hp1 l h nl
  have hul := hts.len
  have hok' : ∀ (i : Nat) u, ts[i]? = some u → Ok u := fun i u hu => hok u (List.mem_of_getElem? hu)
  -- dues
  refine ⟨_, rfl, l, rfl, ⟨_, SqL.of hl⟩, fun D1 hD1 => ?_⟩
  refine lc_rel walk_list hD1 (fun H' s => SqL.of (s _ _ hl)) (by omega) (fun j v H' => ∃ u, ts[j]? = some u ∧ DueAt (D1 :: [p, r]) H' v u) ?_ ?_ ?_ ?_
  · rintro j v Ha Hb _ s ⟨u, e, hu⟩
    exact ⟨u, e, hu.mono s⟩
  · rintro j v Ha l1 l2 _ e1 ⟨u, e, hu⟩
    exact ⟨u, e, hu.kept (KeptBut.upd List.mem_cons_self) (Firm.list e1) fun _ h => h⟩
  · intro i x Ha R hx sm ⟨l1, hl1⟩ hR
    obtain ⟨u, hu, hux⟩ := hts.get hx
    have oku := hok' i u hu
    refine ⟨rfl, _, rfl, x, u, D1 :: [p, r], rfl, hux.mono sm, oku.fine, by have := oku.size; omega, by have := oku.levels; omega, fun b hb => ?_, fun v' H' k' hv' => hR v' H' k' ⟨u, hu, hv'⟩⟩
    rcases List.mem_cons.mp hb with rfl | hb
    · rw [hl1]; simp
    · exact inUse Ha (hp2.same sm) b hb
  intro H3 dvs s3 hdl hdvl hdr
  have hdu : DuesAt (D1 :: [p, r]) H3 dvs ts := rel_dues (by omega) hdr
  have hdu : DuesAt [p, r] H3 dvs ts := hdu.kept (KeptBut.refl _ _) (Firm.refl _) fun _ h => List.mem_cons_of_mem _ h
  have nDp : D1 ∉ [p, r] := fun h => inUse H2 hp2 D1 h hD1
  refine name_go ?_
  dsimp only
  -- made
  have hl3 := s3 _ _ hl
  refine ⟨_, rfl, l, rfl, ⟨_, SqL.of hl3⟩, fun D2 hD2 => ?_⟩
  refine lc_rel walk_list hD2 (fun H' s => SqL.of (s _ _ hl3)) (by omega) (fun j v H' => ∃ u, ts[j]? = some u ∧ TreeAt C H' v u) ?_ ?_ ?_ ?_
  · rintro j v Ha Hb _ s ⟨u, e, hu⟩
    exact ⟨u, e, hu.mono s⟩
  · rintro j v Ha l1 l2 _ e1 ⟨u, e, hu⟩
    exact ⟨u, e, hu.firm (Firm.list e1)⟩
  · intro i x Ha R hx sm _ hR
    obtain ⟨u, hu, hux⟩ := hts.get hx
    have oku := hok' i u hu
    exact ⟨rfl, _, rfl, x, u, rfl, hux.mono (s3.trans sm), oku.fine, by have := oku.size; omega, by have := oku.levels; omega, fun v' H' k' hv' => hR v' H' k' ⟨u, hu, hv'⟩⟩
  intro H4 mvs s4 hml hmvl hmr
  have hma : TreesAt C H4 mvs ts := rel_trees (by omega) hmr
  have hdu := hdu.kept (Y := [p, r]) (KeptBut.of s4) (.of s4) fun _ h => h
  have hdl := s4 _ _ hdl
  have hl4 := s4 _ _ hl3
  have hp4 := hp2.same (s3.trans s4)
  have nMp : D2 ∉ [p, r] := fun h => inUse H3 (hp2.same s3) D2 h hD2
  refine name_go ?_
  dsimp only
  have f42 := f2.trans ((Firm.of s3).trans (.of s4))
  -- each of them
  refine ⟨_, rfl, l, us, rfl, .inl (SqL.of hl4), _, rfl, by omega, by omega, ?_⟩
  have e6 : ((us.length : Nat) : Int).toNat = 6 := by omega
  rw [e6]
  refine for_range (lo := 0) (n := 6) (fun i σ H' => Same H4 H' ∧ ∃ w6, σ = [some (.ref a), some (.ref p), some (.ref l), some (.ref D1), some (.ref D2), none, w6, none, none, none]) ⟨Same.refl _, none, rfl⟩ ?_ ?_
  · rintro i σ H5 hi ⟨s5, w6, rfl⟩
    refine name_go ?_
    dsimp only
    rw [Int.zero_add]
    obtain ⟨x, hx⟩ : ∃ x, mvs[i]? = some x := ⟨_, List.getElem?_eq_getElem (by omega)⟩
    obtain ⟨y, hy⟩ : ∃ y, dvs[i]? = some y := ⟨_, List.getElem?_eq_getElem (by omega)⟩
    obtain ⟨u, hu, hux⟩ := hma.get hx
    obtain ⟨u', hu', huy⟩ := hdu.get hy
    rw [hu] at hu'
    cases hu'
    have oku := hok' i u hu
    have hlv := oku.levels
    have hsz := oku.size
    have htm := term_small oku.fine
    refine ⟨_, rfl, _, rfl, D2, mvs, _, x, rfl, rfl, SqL.of (s5 _ _ hml), atI_nat hx, _, rfl, _, rfl, D1, dvs, _, y, rfl, rfl, SqL.of (s5 _ _ hdl), atI_nat hy, x, y, u, [p, r], rfl, hux.mono s5, huy.mono s5, oku.fine, by omega, fun H6 s6 => ⟨_, rfl, iteF ?_⟩⟩
    have s56 := s5.trans s6
    obtain ⟨ya, yl, yvs, rfl, y1, y2, y3, y4⟩ := (huy.mono s56).ex
    refine ⟨rfl, _, rfl, _, rfl, D1, dvs, _, _, rfl, rfl, SqL.of (s56 _ _ hdl), atI_nat hy, ya, _, _, .str u.term, rfl, rfl, SqT.of y1, rfl, u.term, rfl, by omega, fun t' ht' v' H7 s7 hv' => ?_, fun hn => ?_⟩
    · rw [readT_term oku.fine] at ht'
      cases ht'
      have s57 := s56.trans s7
      refine ⟨_, rfl, _, rfl, D1, dvs, _, _, rfl, rfl, SqL.of (s57 _ _ hdl), atI_nat hy, v', _, u, [p, r], rfl, hv', huy.mono s57, oku.fine, by omega, fun H8 s8 => ⟨_, rfl, iteF ?_⟩⟩
      have s58 := s57.trans s8
      refine ⟨_, rfl, _, rfl, D2, mvs, _, x, rfl, rfl, SqL.of (s58 _ _ hml), atI_nat hx, _, rfl, _, rfl, D1, dvs, _, _, rfl, rfl, SqL.of (s58 _ _ hdl), atI_nat hy, x, _, u, [p, r], rfl, hux.mono s58, huy.mono s58, oku, fun H9 s9 => ⟨_, rfl, iteF ?_⟩⟩
      exact ⟨s58.trans s9, _, rfl⟩
    · rw [readT_term oku.fine] at hn
      cases hn
  rintro σ H5 ⟨s5, w6, rfl⟩
  -- the bounds
  obtain ⟨t1, v1⟩ := L.v1
  obtain ⟨t2, v2⟩ := L.v2
  refine ⟨C, mc, _, _, rfl, L.rd, v1, rfl, _, rfl, iteF ?_⟩
  refine ⟨C, mc, _, _, rfl, L.rd, v2, rfl, _, rfl, iteF ?_⟩
  -- the order
  refine ⟨_, rfl, _, rfl, D2, D1, mvs, dvs, ts, [p, r], rfl, s5 _ _ hml, s5 _ _ hdl, ?_, ?_, by omega, hok, fun H6 s6 => ⟨_, rfl, iteF ?_⟩⟩
  · exact TreesAt.mono s5 hma
  · exact hdu.kept (KeptBut.of s5) (.of s5) fun _ h => h
  have s46 := s5.trans s6
  have hma6 : TreesAt C H6 mvs ts := TreesAt.mono s46 hma
  have hdu6 := hdu.kept (Y := [p, r]) (KeptBut.of s46) (.of s46) fun _ h => h
  have hml6 := s46 _ _ hml
  have hdl6 := s46 _ _ hdl
  have hl6 := s46 _ _ hl4
  have hp6 := hp4.same s46
  clear hma hdu s5 s6 s46
  -- a place that is none
  refine ⟨_, rfl, _, rfl, l, us, rfl, .inl (SqL.of hl6), p, r, us.length, rfl, hp6, by omega, by omega, fun d H7 hd hp7 k7 f7 => ?_⟩
  refine name_go ?_
  dsimp only
  obtain ⟨x, hx⟩ : ∃ x, mvs[d]? = some x := ⟨_, List.getElem?_eq_getElem (by omega)⟩
  obtain ⟨y, hy⟩ : ∃ y, dvs[d]? = some y := ⟨_, List.getElem?_eq_getElem (by omega)⟩
  obtain ⟨u, hu, hux⟩ := hma6.get hx
  obtain ⟨u', hu', huy⟩ := hdu6.get hy
  rw [hu] at hu'
  cases hu'
  have oku := hok' d u hu
  have hlv := oku.levels
  have hml7 := k7 _ _ hml6 nMp
  have hdl7 := k7 _ _ hdl6 nDp
  have hl7 := k7 _ _ hl6 nlp
  refine ⟨_, rfl, _, rfl, D2, mvs, _, x, rfl, rfl, SqL.of hml7, atI_nat hx, _, rfl, _, rfl, _, rfl, D1, dvs, _, y, rfl, rfl, SqL.of hdl7, atI_nat hy, p, r, y, u, rfl, hp7, huy.kept k7 f7 fun _ h => h, oku, fun qa is H8 hqa hnone hp8 k8 f8 => ?_⟩
  refine ⟨x, qa, u, is, rfl, hux.firm (f7.trans f8), hqa, hnone, fun H9 s9 => ⟨_, rfl, iteF ?_⟩⟩
  have k69 : KeptBut [p, r] H6 H9 := k7.trans (k8.trans (.of s9))
  have f69 : Firm H6 H9 := f7.trans (f8.trans (.of s9))
  have hp9 := hp8.same s9
  have hml9 := k69 _ _ hml6 nMp
  have hdl9 := k69 _ _ hdl6 nDp
  have hl9 := k69 _ _ hl6 nlp
  -- the tree stands
  refine ⟨_, rfl, _, rfl, D2, mvs, _, x, rfl, rfl, SqL.of hml9, atI_nat hx, _, rfl, _, rfl, D1, dvs, _, y, rfl, rfl, SqL.of hdl9, atI_nat hy, x, y, u, [p, r], rfl, hux.firm f69, huy.kept k69 f69 fun _ h => h, oku.fine, by omega, fun H10 s10 => ⟨_, rfl, iteF ?_⟩⟩
  have k610 := k69.trans (.of s10)
  have f610 := f69.trans (.of s10)
  have hp10 := hp9.same s10
  have hdl10 := s10 _ _ hdl9
  have hl10 := s10 _ _ hl9
  -- a spoilt term
  refine ⟨_, rfl, _, rfl, _, rfl, _, rfl, l, us, rfl, .inl (SqL.of hl10), p, r, us.length, rfl, hp10, by omega, by omega, fun e H11 he hp11 k11 f11 => ?_⟩
  have hdl11 := k11 _ _ hdl10 nDp
  obtain ⟨y2, hy2⟩ : ∃ y, dvs[e]? = some y := ⟨_, List.getElem?_eq_getElem (by omega)⟩
  obtain ⟨v, hv, hvy⟩ := hdu6.get hy2
  have okv := hok' e v hv
  have k611 := k610.trans k11
  have f611 := f610.trans f11
  obtain ⟨ya, yl, yvs, rfl, y1, _, y3, y4⟩ := (hvy.kept (Y := [p, r]) k611 f611 fun _ h => h).ex
  have hvl := okv.levels
  have hvs := okv.size
  have htm := term_small okv.fine
  have hcn := cnt_term okv.fine
  refine ⟨D1, dvs, _, _, rfl, rfl, SqL.of hdl11, atI_nat hy2, ya, _, _, .str v.term, rfl, rfl, SqT.of y1, rfl, p, r, v.term, rfl, hp11, by omega, (deep_term okv.fine).mono (by omega), fun z H12 hz hdz hcz hp12 k12 f12 => ?_⟩
  refine name_go ?_
  dsimp only
  -- it is read
  refine ⟨_, rfl, z, 0, rfl, by omega, Nat.zero_le _, by rw [List.drop_zero]; exact hdz, fun w H13 s13 came => ?_⟩
  refine name_go ?_
  dsimp only
  rw [List.drop_zero] at came
  cases hv2 : lr 59 z.cps.toList with
  | none =>
    rw [hv2] at came
    have came : w = .non := came
    subst came
    refine ⟨_, rfl, _, rfl, iteT ?_⟩
    refine iteT ?_
    exact ⟨_, rfl, z, rfl, by omega, read_none (D := 59) hdz (fun t h => by rw [hv2] at h; cases h), fun H14 s14 => q H14⟩
  | some o =>
    obtain ⟨t, rest⟩ := o
    rw [hv2] at came
    obtain ⟨fa, fw, fe, rfl, hfa, hft, hfe, hfr⟩ := came
    refine ⟨_, rfl, _, rfl, iteF ?_⟩
    have zl := len_list z
    refine ⟨_, rfl, fa, _, _, .int (fe : Int), rfl, rfl, SqT.of hfa, rfl, _, rfl, z, rfl, by omega, rfl, _, rfl, ite2 (fun c => ?_) (fun c => ?_)⟩
    · have hne : ¬ fe = z.length := fun h => by
        rw [h] at c
        simp at c
      refine ⟨_, rfl, z, rfl, by omega, read_none (D := 59) hdz (fun t' h => ?_), fun H14 s14 => q H14⟩
      rw [hv2] at h
      have e2 : rest = [] := congrArg Prod.snd (Option.some.inj h)
      rw [e2] at hfr
      have := congrArg List.length hfr
      rw [List.length_drop, List.length_nil] at this
      omega
    · have heq : fe = z.length := by
        simp at c
        omega
      have hrest : rest = [] := by rw [hfr, List.drop_of_length_le (by omega)]
      subst hrest
      obtain ⟨hr1', hz2, htf⟩ := read_some hv2
      have htl := lr_levels 59 _ t [] hv2
      have hcn2 := cnt_term htf
      rw [← hz2] at hcn2
      refine ⟨rfl, _, rfl, z, rfl, by omega, fun t' ht' v' H14 s14 hv' => ?_, fun hn => ?_⟩
      · rw [hr1'] at ht'
        cases ht'
        refine ⟨_, rfl, fa, _, _, fw, rfl, rfl, SqT.of (s14 _ _ hfa), rfl, fw, t, [], rfl, hft.mono s14, htf, by omega, by omega, fun x hx => absurd hx List.not_mem_nil, fun d' H15 s15 hd' => ?_⟩
        exact ⟨v', d', t, [], rfl, hv'.mono s15, hd', htf, by omega, fun H16 s16 => q H16⟩
      · rw [hr1'] at hn
        cases hn
end
end Tw
set_option maxHeartbeats 4000000
/-! The facts of the top, collected. -/
namespace Tw
open PySem PySem.Spec PyProof.Rows L2 ClX
theorem kc_of {K : PySem.W.Frag} {t : Value} {S : Addr} {b : Bool} (h2 : PySem.W.isClsIn K S = true) (h3 : PySem.W.typeIn K (.ref S) = some (.type "type")) (h4 : PySem.W.subIn K t (.ref S) = some b) : PySem.W.kitCls K t (.ref S) = some b := by
  have e2 : ((PySem.W.clsIn K S).isSome && PySem.W.typeIn K (.ref S) == some (.type "type")) = true := by
    have h2' : (PySem.W.clsIn K S).isSome = true := h2
    rw [h2', h3] <;> rfl
  show (if ((PySem.W.clsIn K S).isSome && PySem.W.typeIn K (.ref S) == some (.type "type")) = true then PySem.W.subIn K t (.ref S) else none) = some b
  rw [if_pos e2]
  exact h4
theorem exm_of {K : PySem.W.Frag} {S : Addr} (h1 : PySem.W.subIn K (.ref S) (.type "BaseException") = some true) (h : PySem.W.kitCls K (.ref S) (.ref S) = some true) : PySem.W.exmOne K (.ref S) (.ref S) = some true := by
  unfold PySem.W.exmOne
  rw [if_pos (by rw [h1]; rfl)]
  exact h
theorem kc_ve {K : PySem.W.Frag} {t : Value} {b : Bool} (h4 : PySem.W.subIn K t (.type "ValueError") = some b) : PySem.W.kitCls K t (.type "ValueError") = some b := by
  have e : PySem.W.kitMeta "ValueError" = true := by decide +kernel
  show (if PySem.W.kitMeta "ValueError" = true then PySem.W.subIn K t (.type "ValueError") else none) = some b
  rw [if_pos e]
  exact h4
theorem ko_true {K : PySem.W.Frag} {t c : Value} (h : PySem.W.kitCls K t c = some true) : PySem.W.kitOne K t c = some true := by
  unfold PySem.W.kitOne
  split
  · rfl
  · exact h
theorem ko_false {K : PySem.W.Frag} {D S : Addr} (h : PySem.W.kitCls K (.ref D) (.ref S) = some false) (h1 : PySem.W.subIn K (.ref D) (.ref D) = some true) (h2 : PySem.W.subIn K (.ref D) (.ref S) = some false) : PySem.W.kitOne K (.ref D) (.ref S) = some false := by
  unfold PySem.W.kitOne
  split
  · rename_i e
    have e' : (Value.ref D) = .ref S := beq_iff_eq.mp e
    rw [← e', h1] at h2
    cases h2
  · exact h
/-- where a def stands -/
def FnAt (K : PySem.W.Frag) (x q : Str) (st : Stmt) (f : Addr) : Prop := ∃ (oc : Value) (od : Option Addr) (kV dc pm : Value) (an : Option Addr) (cd ct : Value) (sl : Array (Option Value)), K.lookup f = some ⟨oc, od, .func (PySem.W.fnOf x q (defArgs st) (defBody st) (defScope st) .none kV dc pm an cd ct), sl⟩ ∧ PySem.W.codeIn K cd q = true ∧ PySem.W.keepIn K (.ref f) = true
theorem FnAt.fn {K : PySem.W.Frag} {x q : Str} {st : Stmt} {f : Addr} (h : FnAt K x q st f) : ∃ fd, Fun K x q st f fd := by
  obtain ⟨oc, od, kV, dc, pm, an, cd, ct, sl, l, c, k⟩ := h
  exact ⟨_, fun_mk l c k⟩
theorem FnAt.gf {K : PySem.W.Frag} {mg : Str → Option Value} {h : Heap} {x q : Str} {st : Stmt} {f : Addr} (X : K.In h) (G : h.Ns mainGlobals mg) (e : PySem.W.nsIn K mainGlobals x = some (some (.ref f))) (a : FnAt K x q st f) : Gf K mg x f := by
  obtain ⟨oc, od, kV, dc, pm, an, cd, ct, sl, l, c, k⟩ := a
  exact ⟨PySem.W.mg_of X G e, k⟩
theorem all_mk {P : Program} {w : World} {K : PySem.W.Frag} {h : Heap} {mg : Str → Option Value} {fa C pW gW pR gR CB CN CW f_is_small_letter f_is_capital f_is_digit f_is_big_name f_is_plain f_most_levels f_places f_name_end f_written_tree f_law_pool_of f_law_draw f_law_name_of f_law_grow f_law_mirrored f_law_chained f_law_six f_law_make f_law_told f_law_is f_law_good f_law_walk f_law_places f_law_order f_law_astray f_law_no_place f_law_spoilt f_law_big f_law_read f_law_refused f_law f_t_init f_t_eq f_t_lt f_t_le f_t_contains f_t_getitem f_t_iter f_t_paths : Addr} {mc : Value} {rest1 rest2 : List Value} {tk1 tk2 tk3 tk4 tk5 : Tok} {oc_l_is_small_letter kV_l_is_small_letter dc_l_is_small_letter pm_l_is_small_letter cd_l_is_small_letter ct_l_is_small_letter : Value} {od_l_is_small_letter an_l_is_small_letter : Option Addr} {sl_l_is_small_letter : Array (Option Value)} {oc_l_is_capital kV_l_is_capital dc_l_is_capital pm_l_is_capital cd_l_is_capital ct_l_is_capital : Value} {od_l_is_capital an_l_is_capital : Option Addr} {sl_l_is_capital : Array (Option Value)} {oc_l_is_digit kV_l_is_digit dc_l_is_digit pm_l_is_digit cd_l_is_digit ct_l_is_digit : Value} {od_l_is_digit an_l_is_digit : Option Addr} {sl_l_is_digit : Array (Option Value)} {oc_l_is_big_name kV_l_is_big_name dc_l_is_big_name pm_l_is_big_name cd_l_is_big_name ct_l_is_big_name : Value} {od_l_is_big_name an_l_is_big_name : Option Addr} {sl_l_is_big_name : Array (Option Value)} {oc_l_is_plain kV_l_is_plain dc_l_is_plain pm_l_is_plain cd_l_is_plain ct_l_is_plain : Value} {od_l_is_plain an_l_is_plain : Option Addr} {sl_l_is_plain : Array (Option Value)} {oc_l_most_levels kV_l_most_levels dc_l_most_levels pm_l_most_levels cd_l_most_levels ct_l_most_levels : Value} {od_l_most_levels an_l_most_levels : Option Addr} {sl_l_most_levels : Array (Option Value)} {oc_l_places kV_l_places dc_l_places pm_l_places cd_l_places ct_l_places : Value} {od_l_places an_l_places : Option Addr} {sl_l_places : Array (Option Value)} {oc_l_name_end kV_l_name_end dc_l_name_end pm_l_name_end cd_l_name_end ct_l_name_end : Value} {od_l_name_end an_l_name_end : Option Addr} {sl_l_name_end : Array (Option Value)} {oc_l_written_tree kV_l_written_tree dc_l_written_tree pm_l_written_tree cd_l_written_tree ct_l_written_tree : Value} {od_l_written_tree an_l_written_tree : Option Addr} {sl_l_written_tree : Array (Option Value)} {oc_l_law_pool_of kV_l_law_pool_of dc_l_law_pool_of pm_l_law_pool_of cd_l_law_pool_of ct_l_law_pool_of : Value} {od_l_law_pool_of an_l_law_pool_of : Option Addr} {sl_l_law_pool_of : Array (Option Value)} {oc_l_law_draw kV_l_law_draw dc_l_law_draw pm_l_law_draw cd_l_law_draw ct_l_law_draw : Value} {od_l_law_draw an_l_law_draw : Option Addr} {sl_l_law_draw : Array (Option Value)} {oc_l_law_name_of kV_l_law_name_of dc_l_law_name_of pm_l_law_name_of cd_l_law_name_of ct_l_law_name_of : Value} {od_l_law_name_of an_l_law_name_of : Option Addr} {sl_l_law_name_of : Array (Option Value)} {oc_l_law_grow kV_l_law_grow dc_l_law_grow pm_l_law_grow cd_l_law_grow ct_l_law_grow : Value} {od_l_law_grow an_l_law_grow : Option Addr} {sl_l_law_grow : Array (Option Value)} {oc_l_law_mirrored kV_l_law_mirrored dc_l_law_mirrored pm_l_law_mirrored cd_l_law_mirrored ct_l_law_mirrored : Value} {od_l_law_mirrored an_l_law_mirrored : Option Addr} {sl_l_law_mirrored : Array (Option Value)} {oc_l_law_chained kV_l_law_chained dc_l_law_chained pm_l_law_chained cd_l_law_chained ct_l_law_chained : Value} {od_l_law_chained an_l_law_chained : Option Addr} {sl_l_law_chained : Array (Option Value)} {oc_l_law_six kV_l_law_six dc_l_law_six pm_l_law_six cd_l_law_six ct_l_law_six : Value} {od_l_law_six an_l_law_six : Option Addr} {sl_l_law_six : Array (Option Value)} {oc_l_law_make kV_l_law_make dc_l_law_make pm_l_law_make cd_l_law_make ct_l_law_make : Value} {od_l_law_make an_l_law_make : Option Addr} {sl_l_law_make : Array (Option Value)} {oc_l_law_told kV_l_law_told dc_l_law_told pm_l_law_told cd_l_law_told ct_l_law_told : Value} {od_l_law_told an_l_law_told : Option Addr} {sl_l_law_told : Array (Option Value)} {oc_l_law_is kV_l_law_is dc_l_law_is pm_l_law_is cd_l_law_is ct_l_law_is : Value} {od_l_law_is an_l_law_is : Option Addr} {sl_l_law_is : Array (Option Value)} {oc_l_law_good kV_l_law_good dc_l_law_good pm_l_law_good cd_l_law_good ct_l_law_good : Value} {od_l_law_good an_l_law_good : Option Addr} {sl_l_law_good : Array (Option Value)} {oc_l_law_walk kV_l_law_walk dc_l_law_walk pm_l_law_walk cd_l_law_walk ct_l_law_walk : Value} {od_l_law_walk an_l_law_walk : Option Addr} {sl_l_law_walk : Array (Option Value)} {oc_l_law_places kV_l_law_places dc_l_law_places pm_l_law_places cd_l_law_places ct_l_law_places : Value} {od_l_law_places an_l_law_places : Option Addr} {sl_l_law_places : Array (Option Value)} {oc_l_law_order kV_l_law_order dc_l_law_order pm_l_law_order cd_l_law_order ct_l_law_order : Value} {od_l_law_order an_l_law_order : Option Addr} {sl_l_law_order : Array (Option Value)} {oc_l_law_astray kV_l_law_astray dc_l_law_astray pm_l_law_astray cd_l_law_astray ct_l_law_astray : Value} {od_l_law_astray an_l_law_astray : Option Addr} {sl_l_law_astray : Array (Option Value)} {oc_l_law_no_place kV_l_law_no_place dc_l_law_no_place pm_l_law_no_place cd_l_law_no_place ct_l_law_no_place : Value} {od_l_law_no_place an_l_law_no_place : Option Addr} {sl_l_law_no_place : Array (Option Value)} {oc_l_law_spoilt kV_l_law_spoilt dc_l_law_spoilt pm_l_law_spoilt cd_l_law_spoilt ct_l_law_spoilt : Value} {od_l_law_spoilt an_l_law_spoilt : Option Addr} {sl_l_law_spoilt : Array (Option Value)} {oc_l_law_big kV_l_law_big dc_l_law_big pm_l_law_big cd_l_law_big ct_l_law_big : Value} {od_l_law_big an_l_law_big : Option Addr} {sl_l_law_big : Array (Option Value)} {oc_l_law_read kV_l_law_read dc_l_law_read pm_l_law_read cd_l_law_read ct_l_law_read : Value} {od_l_law_read an_l_law_read : Option Addr} {sl_l_law_read : Array (Option Value)} {oc_l_law_refused kV_l_law_refused dc_l_law_refused pm_l_law_refused cd_l_law_refused ct_l_law_refused : Value} {od_l_law_refused an_l_law_refused : Option Addr} {sl_l_law_refused : Array (Option Value)} {oc_l_law kV_l_law dc_l_law pm_l_law cd_l_law ct_l_law : Value} {od_l_law an_l_law : Option Addr} {sl_l_law : Array (Option Value)} {oc_l_t_init kV_l_t_init dc_l_t_init pm_l_t_init cd_l_t_init ct_l_t_init : Value} {od_l_t_init an_l_t_init : Option Addr} {sl_l_t_init : Array (Option Value)} {oc_l_t_eq kV_l_t_eq dc_l_t_eq pm_l_t_eq cd_l_t_eq ct_l_t_eq : Value} {od_l_t_eq an_l_t_eq : Option Addr} {sl_l_t_eq : Array (Option Value)} {oc_l_t_lt kV_l_t_lt dc_l_t_lt pm_l_t_lt cd_l_t_lt ct_l_t_lt : Value} {od_l_t_lt an_l_t_lt : Option Addr} {sl_l_t_lt : Array (Option Value)} {oc_l_t_le kV_l_t_le dc_l_t_le pm_l_t_le cd_l_t_le ct_l_t_le : Value} {od_l_t_le an_l_t_le : Option Addr} {sl_l_t_le : Array (Option Value)} {oc_l_t_contains kV_l_t_contains dc_l_t_contains pm_l_t_contains cd_l_t_contains ct_l_t_contains : Value} {od_l_t_contains an_l_t_contains : Option Addr} {sl_l_t_contains : Array (Option Value)} {oc_l_t_getitem kV_l_t_getitem dc_l_t_getitem pm_l_t_getitem cd_l_t_getitem ct_l_t_getitem : Value} {od_l_t_getitem an_l_t_getitem : Option Addr} {sl_l_t_getitem : Array (Option Value)} {oc_l_t_iter kV_l_t_iter dc_l_t_iter pm_l_t_iter cd_l_t_iter ct_l_t_iter : Value} {od_l_t_iter an_l_t_iter : Option Addr} {sl_l_t_iter : Array (Option Value)} {oc_l_t_paths kV_l_t_paths dc_l_t_paths pm_l_t_paths cd_l_t_paths ct_l_t_paths : Value} {od_l_t_paths an_l_t_paths : Option Addr} {sl_l_t_paths : Array (Option Value)} {oc_w5 kV_w5 dc_w5 pm_w5 cd_w5 ct_w5 : Value} {od_w5 an_w5 : Option Addr} {sl_w5 : Array (Option Value)} {oc_r6 kV_r6 dc_r6 pm_r6 cd_r6 ct_r6 : Value} {od_r6 an_r6 : Option Addr} {sl_r6 : Array (Option Value)} {oc_eBCB kV_eBCB dc_eBCB pm_eBCB cd_eBCB ct_eBCB : Value} {od_eBCB an_eBCB : Option Addr} {sl_eBCB : Array (Option Value)} {oc_eBCN kV_eBCN dc_eBCN pm_eBCN cd_eBCN ct_eBCN : Value} {od_eBCN an_eBCN : Option Addr} {sl_eBCN : Array (Option Value)} {nmCB qCB : Str} {NCB fICB : Addr} {bsCB bmCB : List Value} {snCB : List Str} {subCB : List Value} {abCB : Bool} {colCB : Option Bool} {ddCB : Option Addr} {m0CB m1CB m2CB m3CB m5CB : Option Value} {nmCN qCN : Str} {NCN fICN : Addr} {bsCN bmCN : List Value} {snCN : List Str} {subCN : List Value} {abCN : Bool} {colCN : Option Bool} {ddCN : Option Addr} {m0CN m1CN m2CN m3CN m5CN : Option Value}
    (X : K.In h) (G : h.Ns mainGlobals mg) (hfa : mg "law" = some (.ref fa))
    (a_is_small_letter : PySem.W.nsIn K mainGlobals "is_small_letter" = some (some (.ref f_is_small_letter)))
    (l_is_small_letter : K.lookup f_is_small_letter = some ⟨oc_l_is_small_letter, od_l_is_small_letter, .func (PySem.W.fnOf "is_small_letter" "is_small_letter" (defArgs (top 7)) (defBody (top 7)) (defScope (top 7)) .none kV_l_is_small_letter dc_l_is_small_letter pm_l_is_small_letter an_l_is_small_letter cd_l_is_small_letter ct_l_is_small_letter), sl_l_is_small_letter⟩) (l_is_small_letterc : PySem.W.codeIn K cd_l_is_small_letter "is_small_letter" = true) (l_is_small_letterk : PySem.W.keepIn K (.ref f_is_small_letter) = true)
    (a_is_capital : PySem.W.nsIn K mainGlobals "is_capital" = some (some (.ref f_is_capital)))
    (l_is_capital : K.lookup f_is_capital = some ⟨oc_l_is_capital, od_l_is_capital, .func (PySem.W.fnOf "is_capital" "is_capital" (defArgs (top 8)) (defBody (top 8)) (defScope (top 8)) .none kV_l_is_capital dc_l_is_capital pm_l_is_capital an_l_is_capital cd_l_is_capital ct_l_is_capital), sl_l_is_capital⟩) (l_is_capitalc : PySem.W.codeIn K cd_l_is_capital "is_capital" = true) (l_is_capitalk : PySem.W.keepIn K (.ref f_is_capital) = true)
    (a_is_digit : PySem.W.nsIn K mainGlobals "is_digit" = some (some (.ref f_is_digit)))
    (l_is_digit : K.lookup f_is_digit = some ⟨oc_l_is_digit, od_l_is_digit, .func (PySem.W.fnOf "is_digit" "is_digit" (defArgs (top 9)) (defBody (top 9)) (defScope (top 9)) .none kV_l_is_digit dc_l_is_digit pm_l_is_digit an_l_is_digit cd_l_is_digit ct_l_is_digit), sl_l_is_digit⟩) (l_is_digitc : PySem.W.codeIn K cd_l_is_digit "is_digit" = true) (l_is_digitk : PySem.W.keepIn K (.ref f_is_digit) = true)
    (a_is_big_name : PySem.W.nsIn K mainGlobals "is_big_name" = some (some (.ref f_is_big_name)))
    (l_is_big_name : K.lookup f_is_big_name = some ⟨oc_l_is_big_name, od_l_is_big_name, .func (PySem.W.fnOf "is_big_name" "is_big_name" (defArgs (top 10)) (defBody (top 10)) (defScope (top 10)) .none kV_l_is_big_name dc_l_is_big_name pm_l_is_big_name an_l_is_big_name cd_l_is_big_name ct_l_is_big_name), sl_l_is_big_name⟩) (l_is_big_namec : PySem.W.codeIn K cd_l_is_big_name "is_big_name" = true) (l_is_big_namek : PySem.W.keepIn K (.ref f_is_big_name) = true)
    (a_is_plain : PySem.W.nsIn K mainGlobals "is_plain" = some (some (.ref f_is_plain)))
    (l_is_plain : K.lookup f_is_plain = some ⟨oc_l_is_plain, od_l_is_plain, .func (PySem.W.fnOf "is_plain" "is_plain" (defArgs (top 15)) (defBody (top 15)) (defScope (top 15)) .none kV_l_is_plain dc_l_is_plain pm_l_is_plain an_l_is_plain cd_l_is_plain ct_l_is_plain), sl_l_is_plain⟩) (l_is_plainc : PySem.W.codeIn K cd_l_is_plain "is_plain" = true) (l_is_plaink : PySem.W.keepIn K (.ref f_is_plain) = true)
    (a_most_levels : PySem.W.nsIn K mainGlobals "most_levels" = some (some (.ref f_most_levels)))
    (l_most_levels : K.lookup f_most_levels = some ⟨oc_l_most_levels, od_l_most_levels, .func (PySem.W.fnOf "most_levels" "most_levels" (defArgs (top 16)) (defBody (top 16)) (defScope (top 16)) .none kV_l_most_levels dc_l_most_levels pm_l_most_levels an_l_most_levels cd_l_most_levels ct_l_most_levels), sl_l_most_levels⟩) (l_most_levelsc : PySem.W.codeIn K cd_l_most_levels "most_levels" = true) (l_most_levelsk : PySem.W.keepIn K (.ref f_most_levels) = true)
    (a_places : PySem.W.nsIn K mainGlobals "places" = some (some (.ref f_places)))
    (l_places : K.lookup f_places = some ⟨oc_l_places, od_l_places, .func (PySem.W.fnOf "places" "places" (defArgs (top 17)) (defBody (top 17)) (defScope (top 17)) .none kV_l_places dc_l_places pm_l_places an_l_places cd_l_places ct_l_places), sl_l_places⟩) (l_placesc : PySem.W.codeIn K cd_l_places "places" = true) (l_placesk : PySem.W.keepIn K (.ref f_places) = true)
    (a_name_end : PySem.W.nsIn K mainGlobals "name_end" = some (some (.ref f_name_end)))
    (l_name_end : K.lookup f_name_end = some ⟨oc_l_name_end, od_l_name_end, .func (PySem.W.fnOf "name_end" "name_end" (defArgs (top 18)) (defBody (top 18)) (defScope (top 18)) .none kV_l_name_end dc_l_name_end pm_l_name_end an_l_name_end cd_l_name_end ct_l_name_end), sl_l_name_end⟩) (l_name_endc : PySem.W.codeIn K cd_l_name_end "name_end" = true) (l_name_endk : PySem.W.keepIn K (.ref f_name_end) = true)
    (a_written_tree : PySem.W.nsIn K mainGlobals "written_tree" = some (some (.ref f_written_tree)))
    (l_written_tree : K.lookup f_written_tree = some ⟨oc_l_written_tree, od_l_written_tree, .func (PySem.W.fnOf "written_tree" "written_tree" (defArgs (top 19)) (defBody (top 19)) (defScope (top 19)) .none kV_l_written_tree dc_l_written_tree pm_l_written_tree an_l_written_tree cd_l_written_tree ct_l_written_tree), sl_l_written_tree⟩) (l_written_treec : PySem.W.codeIn K cd_l_written_tree "written_tree" = true) (l_written_treek : PySem.W.keepIn K (.ref f_written_tree) = true)
    (a_law_pool_of : PySem.W.nsIn K mainGlobals "_law_pool_of" = some (some (.ref f_law_pool_of)))
    (l_law_pool_of : K.lookup f_law_pool_of = some ⟨oc_l_law_pool_of, od_l_law_pool_of, .func (PySem.W.fnOf "_law_pool_of" "_law_pool_of" (defArgs (top 21)) (defBody (top 21)) (defScope (top 21)) .none kV_l_law_pool_of dc_l_law_pool_of pm_l_law_pool_of an_l_law_pool_of cd_l_law_pool_of ct_l_law_pool_of), sl_l_law_pool_of⟩) (l_law_pool_ofc : PySem.W.codeIn K cd_l_law_pool_of "_law_pool_of" = true) (l_law_pool_ofk : PySem.W.keepIn K (.ref f_law_pool_of) = true)
    (a_law_draw : PySem.W.nsIn K mainGlobals "_law_draw" = some (some (.ref f_law_draw)))
    (l_law_draw : K.lookup f_law_draw = some ⟨oc_l_law_draw, od_l_law_draw, .func (PySem.W.fnOf "_law_draw" "_law_draw" (defArgs (top 22)) (defBody (top 22)) (defScope (top 22)) .none kV_l_law_draw dc_l_law_draw pm_l_law_draw an_l_law_draw cd_l_law_draw ct_l_law_draw), sl_l_law_draw⟩) (l_law_drawc : PySem.W.codeIn K cd_l_law_draw "_law_draw" = true) (l_law_drawk : PySem.W.keepIn K (.ref f_law_draw) = true)
    (a_law_name_of : PySem.W.nsIn K mainGlobals "_law_name_of" = some (some (.ref f_law_name_of)))
    (l_law_name_of : K.lookup f_law_name_of = some ⟨oc_l_law_name_of, od_l_law_name_of, .func (PySem.W.fnOf "_law_name_of" "_law_name_of" (defArgs (top 23)) (defBody (top 23)) (defScope (top 23)) .none kV_l_law_name_of dc_l_law_name_of pm_l_law_name_of an_l_law_name_of cd_l_law_name_of ct_l_law_name_of), sl_l_law_name_of⟩) (l_law_name_ofc : PySem.W.codeIn K cd_l_law_name_of "_law_name_of" = true) (l_law_name_ofk : PySem.W.keepIn K (.ref f_law_name_of) = true)
    (a_law_grow : PySem.W.nsIn K mainGlobals "_law_grow" = some (some (.ref f_law_grow)))
    (l_law_grow : K.lookup f_law_grow = some ⟨oc_l_law_grow, od_l_law_grow, .func (PySem.W.fnOf "_law_grow" "_law_grow" (defArgs (top 24)) (defBody (top 24)) (defScope (top 24)) .none kV_l_law_grow dc_l_law_grow pm_l_law_grow an_l_law_grow cd_l_law_grow ct_l_law_grow), sl_l_law_grow⟩) (l_law_growc : PySem.W.codeIn K cd_l_law_grow "_law_grow" = true) (l_law_growk : PySem.W.keepIn K (.ref f_law_grow) = true)
    (a_law_mirrored : PySem.W.nsIn K mainGlobals "_law_mirrored" = some (some (.ref f_law_mirrored)))
    (l_law_mirrored : K.lookup f_law_mirrored = some ⟨oc_l_law_mirrored, od_l_law_mirrored, .func (PySem.W.fnOf "_law_mirrored" "_law_mirrored" (defArgs (top 25)) (defBody (top 25)) (defScope (top 25)) .none kV_l_law_mirrored dc_l_law_mirrored pm_l_law_mirrored an_l_law_mirrored cd_l_law_mirrored ct_l_law_mirrored), sl_l_law_mirrored⟩) (l_law_mirroredc : PySem.W.codeIn K cd_l_law_mirrored "_law_mirrored" = true) (l_law_mirroredk : PySem.W.keepIn K (.ref f_law_mirrored) = true)
    (a_law_chained : PySem.W.nsIn K mainGlobals "_law_chained" = some (some (.ref f_law_chained)))
    (l_law_chained : K.lookup f_law_chained = some ⟨oc_l_law_chained, od_l_law_chained, .func (PySem.W.fnOf "_law_chained" "_law_chained" (defArgs (top 26)) (defBody (top 26)) (defScope (top 26)) .none kV_l_law_chained dc_l_law_chained pm_l_law_chained an_l_law_chained cd_l_law_chained ct_l_law_chained), sl_l_law_chained⟩) (l_law_chainedc : PySem.W.codeIn K cd_l_law_chained "_law_chained" = true) (l_law_chainedk : PySem.W.keepIn K (.ref f_law_chained) = true)
    (a_law_six : PySem.W.nsIn K mainGlobals "_law_six" = some (some (.ref f_law_six)))
    (l_law_six : K.lookup f_law_six = some ⟨oc_l_law_six, od_l_law_six, .func (PySem.W.fnOf "_law_six" "_law_six" (defArgs (top 27)) (defBody (top 27)) (defScope (top 27)) .none kV_l_law_six dc_l_law_six pm_l_law_six an_l_law_six cd_l_law_six ct_l_law_six), sl_l_law_six⟩) (l_law_sixc : PySem.W.codeIn K cd_l_law_six "_law_six" = true) (l_law_sixk : PySem.W.keepIn K (.ref f_law_six) = true)
    (a_law_make : PySem.W.nsIn K mainGlobals "_law_make" = some (some (.ref f_law_make)))
    (l_law_make : K.lookup f_law_make = some ⟨oc_l_law_make, od_l_law_make, .func (PySem.W.fnOf "_law_make" "_law_make" (defArgs (top 28)) (defBody (top 28)) (defScope (top 28)) .none kV_l_law_make dc_l_law_make pm_l_law_make an_l_law_make cd_l_law_make ct_l_law_make), sl_l_law_make⟩) (l_law_makec : PySem.W.codeIn K cd_l_law_make "_law_make" = true) (l_law_makek : PySem.W.keepIn K (.ref f_law_make) = true)
    (a_law_told : PySem.W.nsIn K mainGlobals "_law_told" = some (some (.ref f_law_told)))
    (l_law_told : K.lookup f_law_told = some ⟨oc_l_law_told, od_l_law_told, .func (PySem.W.fnOf "_law_told" "_law_told" (defArgs (top 29)) (defBody (top 29)) (defScope (top 29)) .none kV_l_law_told dc_l_law_told pm_l_law_told an_l_law_told cd_l_law_told ct_l_law_told), sl_l_law_told⟩) (l_law_toldc : PySem.W.codeIn K cd_l_law_told "_law_told" = true) (l_law_toldk : PySem.W.keepIn K (.ref f_law_told) = true)
    (a_law_is : PySem.W.nsIn K mainGlobals "_law_is" = some (some (.ref f_law_is)))
    (l_law_is : K.lookup f_law_is = some ⟨oc_l_law_is, od_l_law_is, .func (PySem.W.fnOf "_law_is" "_law_is" (defArgs (top 30)) (defBody (top 30)) (defScope (top 30)) .none kV_l_law_is dc_l_law_is pm_l_law_is an_l_law_is cd_l_law_is ct_l_law_is), sl_l_law_is⟩) (l_law_isc : PySem.W.codeIn K cd_l_law_is "_law_is" = true) (l_law_isk : PySem.W.keepIn K (.ref f_law_is) = true)
    (a_law_good : PySem.W.nsIn K mainGlobals "_law_good" = some (some (.ref f_law_good)))
    (l_law_good : K.lookup f_law_good = some ⟨oc_l_law_good, od_l_law_good, .func (PySem.W.fnOf "_law_good" "_law_good" (defArgs (top 31)) (defBody (top 31)) (defScope (top 31)) .none kV_l_law_good dc_l_law_good pm_l_law_good an_l_law_good cd_l_law_good ct_l_law_good), sl_l_law_good⟩) (l_law_goodc : PySem.W.codeIn K cd_l_law_good "_law_good" = true) (l_law_goodk : PySem.W.keepIn K (.ref f_law_good) = true)
    (a_law_walk : PySem.W.nsIn K mainGlobals "_law_walk" = some (some (.ref f_law_walk)))
    (l_law_walk : K.lookup f_law_walk = some ⟨oc_l_law_walk, od_l_law_walk, .func (PySem.W.fnOf "_law_walk" "_law_walk" (defArgs (top 32)) (defBody (top 32)) (defScope (top 32)) .none kV_l_law_walk dc_l_law_walk pm_l_law_walk an_l_law_walk cd_l_law_walk ct_l_law_walk), sl_l_law_walk⟩) (l_law_walkc : PySem.W.codeIn K cd_l_law_walk "_law_walk" = true) (l_law_walkk : PySem.W.keepIn K (.ref f_law_walk) = true)
    (a_law_places : PySem.W.nsIn K mainGlobals "_law_places" = some (some (.ref f_law_places)))
    (l_law_places : K.lookup f_law_places = some ⟨oc_l_law_places, od_l_law_places, .func (PySem.W.fnOf "_law_places" "_law_places" (defArgs (top 33)) (defBody (top 33)) (defScope (top 33)) .none kV_l_law_places dc_l_law_places pm_l_law_places an_l_law_places cd_l_law_places ct_l_law_places), sl_l_law_places⟩) (l_law_placesc : PySem.W.codeIn K cd_l_law_places "_law_places" = true) (l_law_placesk : PySem.W.keepIn K (.ref f_law_places) = true)
    (a_law_order : PySem.W.nsIn K mainGlobals "_law_order" = some (some (.ref f_law_order)))
    (l_law_order : K.lookup f_law_order = some ⟨oc_l_law_order, od_l_law_order, .func (PySem.W.fnOf "_law_order" "_law_order" (defArgs (top 34)) (defBody (top 34)) (defScope (top 34)) .none kV_l_law_order dc_l_law_order pm_l_law_order an_l_law_order cd_l_law_order ct_l_law_order), sl_l_law_order⟩) (l_law_orderc : PySem.W.codeIn K cd_l_law_order "_law_order" = true) (l_law_orderk : PySem.W.keepIn K (.ref f_law_order) = true)
    (a_law_astray : PySem.W.nsIn K mainGlobals "_law_astray" = some (some (.ref f_law_astray)))
    (l_law_astray : K.lookup f_law_astray = some ⟨oc_l_law_astray, od_l_law_astray, .func (PySem.W.fnOf "_law_astray" "_law_astray" (defArgs (top 35)) (defBody (top 35)) (defScope (top 35)) .none kV_l_law_astray dc_l_law_astray pm_l_law_astray an_l_law_astray cd_l_law_astray ct_l_law_astray), sl_l_law_astray⟩) (l_law_astrayc : PySem.W.codeIn K cd_l_law_astray "_law_astray" = true) (l_law_astrayk : PySem.W.keepIn K (.ref f_law_astray) = true)
    (a_law_no_place : PySem.W.nsIn K mainGlobals "_law_no_place" = some (some (.ref f_law_no_place)))
    (l_law_no_place : K.lookup f_law_no_place = some ⟨oc_l_law_no_place, od_l_law_no_place, .func (PySem.W.fnOf "_law_no_place" "_law_no_place" (defArgs (top 36)) (defBody (top 36)) (defScope (top 36)) .none kV_l_law_no_place dc_l_law_no_place pm_l_law_no_place an_l_law_no_place cd_l_law_no_place ct_l_law_no_place), sl_l_law_no_place⟩) (l_law_no_placec : PySem.W.codeIn K cd_l_law_no_place "_law_no_place" = true) (l_law_no_placek : PySem.W.keepIn K (.ref f_law_no_place) = true)
    (a_law_spoilt : PySem.W.nsIn K mainGlobals "_law_spoilt" = some (some (.ref f_law_spoilt)))
    (l_law_spoilt : K.lookup f_law_spoilt = some ⟨oc_l_law_spoilt, od_l_law_spoilt, .func (PySem.W.fnOf "_law_spoilt" "_law_spoilt" (defArgs (top 37)) (defBody (top 37)) (defScope (top 37)) .none kV_l_law_spoilt dc_l_law_spoilt pm_l_law_spoilt an_l_law_spoilt cd_l_law_spoilt ct_l_law_spoilt), sl_l_law_spoilt⟩) (l_law_spoiltc : PySem.W.codeIn K cd_l_law_spoilt "_law_spoilt" = true) (l_law_spoiltk : PySem.W.keepIn K (.ref f_law_spoilt) = true)
    (a_law_big : PySem.W.nsIn K mainGlobals "_law_big" = some (some (.ref f_law_big)))
    (l_law_big : K.lookup f_law_big = some ⟨oc_l_law_big, od_l_law_big, .func (PySem.W.fnOf "_law_big" "_law_big" (defArgs (top 38)) (defBody (top 38)) (defScope (top 38)) .none kV_l_law_big dc_l_law_big pm_l_law_big an_l_law_big cd_l_law_big ct_l_law_big), sl_l_law_big⟩) (l_law_bigc : PySem.W.codeIn K cd_l_law_big "_law_big" = true) (l_law_bigk : PySem.W.keepIn K (.ref f_law_big) = true)
    (a_law_read : PySem.W.nsIn K mainGlobals "_law_read" = some (some (.ref f_law_read)))
    (l_law_read : K.lookup f_law_read = some ⟨oc_l_law_read, od_l_law_read, .func (PySem.W.fnOf "_law_read" "_law_read" (defArgs (top 39)) (defBody (top 39)) (defScope (top 39)) .none kV_l_law_read dc_l_law_read pm_l_law_read an_l_law_read cd_l_law_read ct_l_law_read), sl_l_law_read⟩) (l_law_readc : PySem.W.codeIn K cd_l_law_read "_law_read" = true) (l_law_readk : PySem.W.keepIn K (.ref f_law_read) = true)
    (a_law_refused : PySem.W.nsIn K mainGlobals "_law_refused" = some (some (.ref f_law_refused)))
    (l_law_refused : K.lookup f_law_refused = some ⟨oc_l_law_refused, od_l_law_refused, .func (PySem.W.fnOf "_law_refused" "_law_refused" (defArgs (top 40)) (defBody (top 40)) (defScope (top 40)) .none kV_l_law_refused dc_l_law_refused pm_l_law_refused an_l_law_refused cd_l_law_refused ct_l_law_refused), sl_l_law_refused⟩) (l_law_refusedc : PySem.W.codeIn K cd_l_law_refused "_law_refused" = true) (l_law_refusedk : PySem.W.keepIn K (.ref f_law_refused) = true)
    (a_law : PySem.W.nsIn K mainGlobals "law" = some (some (.ref f_law)))
    (l_law : K.lookup f_law = some ⟨oc_l_law, od_l_law, .func (PySem.W.fnOf "law" "law" (defArgs (top 41)) (defBody (top 41)) (defScope (top 41)) .none kV_l_law dc_l_law pm_l_law an_l_law cd_l_law ct_l_law), sl_l_law⟩) (l_lawc : PySem.W.codeIn K cd_l_law "law" = true) (l_lawk : PySem.W.keepIn K (.ref f_law) = true)
    (a_t_init : PySem.W.findIn K (.ref C) "__init__" = some (some (.ref f_t_init)))
    (l_t_init : K.lookup f_t_init = some ⟨oc_l_t_init, od_l_t_init, .func (PySem.W.fnOf "__init__" "Tree.__init__" (defArgs (sTree 2)) (defBody (sTree 2)) (defScope (sTree 2)) .none kV_l_t_init dc_l_t_init pm_l_t_init an_l_t_init cd_l_t_init ct_l_t_init), sl_l_t_init⟩) (l_t_initc : PySem.W.codeIn K cd_l_t_init "Tree.__init__" = true) (l_t_initk : PySem.W.keepIn K (.ref f_t_init) = true)
    (s_t_init : PySem.W.isFn K (.ref f_t_init) = true)
    (a_t_eq : PySem.W.findIn K (.ref C) "__eq__" = some (some (.ref f_t_eq)))
    (l_t_eq : K.lookup f_t_eq = some ⟨oc_l_t_eq, od_l_t_eq, .func (PySem.W.fnOf "__eq__" "Tree.__eq__" (defArgs (sTree 5)) (defBody (sTree 5)) (defScope (sTree 5)) .none kV_l_t_eq dc_l_t_eq pm_l_t_eq an_l_t_eq cd_l_t_eq ct_l_t_eq), sl_l_t_eq⟩) (l_t_eqc : PySem.W.codeIn K cd_l_t_eq "Tree.__eq__" = true) (l_t_eqk : PySem.W.keepIn K (.ref f_t_eq) = true)
    (s_t_eq : PySem.W.isFn K (.ref f_t_eq) = true)
    (a_t_lt : PySem.W.findIn K (.ref C) "__lt__" = some (some (.ref f_t_lt)))
    (l_t_lt : K.lookup f_t_lt = some ⟨oc_l_t_lt, od_l_t_lt, .func (PySem.W.fnOf "__lt__" "Tree.__lt__" (defArgs (sTree 6)) (defBody (sTree 6)) (defScope (sTree 6)) .none kV_l_t_lt dc_l_t_lt pm_l_t_lt an_l_t_lt cd_l_t_lt ct_l_t_lt), sl_l_t_lt⟩) (l_t_ltc : PySem.W.codeIn K cd_l_t_lt "Tree.__lt__" = true) (l_t_ltk : PySem.W.keepIn K (.ref f_t_lt) = true)
    (s_t_lt : PySem.W.isFn K (.ref f_t_lt) = true)
    (a_t_le : PySem.W.findIn K (.ref C) "__le__" = some (some (.ref f_t_le)))
    (l_t_le : K.lookup f_t_le = some ⟨oc_l_t_le, od_l_t_le, .func (PySem.W.fnOf "__le__" "Tree.__le__" (defArgs (sTree 7)) (defBody (sTree 7)) (defScope (sTree 7)) .none kV_l_t_le dc_l_t_le pm_l_t_le an_l_t_le cd_l_t_le ct_l_t_le), sl_l_t_le⟩) (l_t_lec : PySem.W.codeIn K cd_l_t_le "Tree.__le__" = true) (l_t_lek : PySem.W.keepIn K (.ref f_t_le) = true)
    (s_t_le : PySem.W.isFn K (.ref f_t_le) = true)
    (a_t_contains : PySem.W.findIn K (.ref C) "__contains__" = some (some (.ref f_t_contains)))
    (l_t_contains : K.lookup f_t_contains = some ⟨oc_l_t_contains, od_l_t_contains, .func (PySem.W.fnOf "__contains__" "Tree.__contains__" (defArgs (sTree 10)) (defBody (sTree 10)) (defScope (sTree 10)) .none kV_l_t_contains dc_l_t_contains pm_l_t_contains an_l_t_contains cd_l_t_contains ct_l_t_contains), sl_l_t_contains⟩) (l_t_containsc : PySem.W.codeIn K cd_l_t_contains "Tree.__contains__" = true) (l_t_containsk : PySem.W.keepIn K (.ref f_t_contains) = true)
    (s_t_contains : PySem.W.isFn K (.ref f_t_contains) = true)
    (a_t_getitem : PySem.W.findIn K (.ref C) "__getitem__" = some (some (.ref f_t_getitem)))
    (l_t_getitem : K.lookup f_t_getitem = some ⟨oc_l_t_getitem, od_l_t_getitem, .func (PySem.W.fnOf "__getitem__" "Tree.__getitem__" (defArgs (sTree 11)) (defBody (sTree 11)) (defScope (sTree 11)) .none kV_l_t_getitem dc_l_t_getitem pm_l_t_getitem an_l_t_getitem cd_l_t_getitem ct_l_t_getitem), sl_l_t_getitem⟩) (l_t_getitemc : PySem.W.codeIn K cd_l_t_getitem "Tree.__getitem__" = true) (l_t_getitemk : PySem.W.keepIn K (.ref f_t_getitem) = true)
    (s_t_getitem : PySem.W.isFn K (.ref f_t_getitem) = true)
    (a_t_iter : PySem.W.findIn K (.ref C) "__iter__" = some (some (.ref f_t_iter)))
    (l_t_iter : K.lookup f_t_iter = some ⟨oc_l_t_iter, od_l_t_iter, .func (PySem.W.fnOf "__iter__" "Tree.__iter__" (defArgs (sTree 12)) (defBody (sTree 12)) (defScope (sTree 12)) .none kV_l_t_iter dc_l_t_iter pm_l_t_iter an_l_t_iter cd_l_t_iter ct_l_t_iter), sl_l_t_iter⟩) (l_t_iterc : PySem.W.codeIn K cd_l_t_iter "Tree.__iter__" = true) (l_t_iterk : PySem.W.keepIn K (.ref f_t_iter) = true)
    (s_t_iter : PySem.W.isFn K (.ref f_t_iter) = true)
    (a_t_paths : PySem.W.findIn K (.ref C) "paths" = some (some (.ref f_t_paths)))
    (l_t_paths : K.lookup f_t_paths = some ⟨oc_l_t_paths, od_l_t_paths, .func (PySem.W.fnOf "paths" "Tree.paths" (defArgs (sTree 13)) (defBody (sTree 13)) (defScope (sTree 13)) .none kV_l_t_paths dc_l_t_paths pm_l_t_paths an_l_t_paths cd_l_t_paths ct_l_t_paths), sl_l_t_paths⟩) (l_t_pathsc : PySem.W.codeIn K cd_l_t_paths "Tree.paths" = true) (l_t_pathsk : PySem.W.keepIn K (.ref f_t_paths) = true)
    (s_t_paths : PySem.W.isFn K (.ref f_t_paths) = true)
    (b_len : PySem.W.nsIn K mainGlobals "len" = some none)
    (b_all : PySem.W.nsIn K mainGlobals "all" = some none)
    (b_sum : PySem.W.nsIn K mainGlobals "sum" = some none)
    (b_isinstance : PySem.W.nsIn K mainGlobals "isinstance" = some none)
    (b_reversed : PySem.W.nsIn K mainGlobals "reversed" = some none)
    (b_range : PySem.W.nsIn K mainGlobals "range" = some none)
    (b_int : PySem.W.nsIn K mainGlobals "int" = some none)
    (b_abs : PySem.W.nsIn K mainGlobals "abs" = some none)
    (b_tuple : PySem.W.nsIn K mainGlobals "tuple" = some none)
    (b_bool : PySem.W.nsIn K mainGlobals "bool" = some none)
    (b_list : PySem.W.nsIn K mainGlobals "list" = some none)
    (b_iter : PySem.W.nsIn K mainGlobals "iter" = some none)
    (b_ValueError : PySem.W.nsIn K mainGlobals "ValueError" = some none)
    (k_mc : PySem.W.nsIn K mainGlobals "MOST_CHARACTERS" = some (some (.int 8 tk1)))
    (k_ho : PySem.W.nsIn K mainGlobals "HOLE" = some (some (.str "_" tk2)))
    (k_mp : PySem.W.nsIn K mainGlobals "MOST_PARTS" = some (some (.int 3 tk3)))
    (aC : PySem.W.nsIn K mainGlobals "Tree" = some (some (.ref C)))
    (pg : PySem.W.plainGet K C Str.empty = true)
    (hd : PySem.W.hasDictIn K C = true)
    (po : PySem.W.plainOver K C = true)
    (sa : PySem.W.findIn K (.ref C) "__setattr__" = some (some (.builtin "object.__setattr__")))
    (mk : PySem.W.makesIn K C = true)
    (kc : PySem.W.keepIn K (.ref C) = true)
    (n_name : PySem.W.findIn K (.ref C) "name" = some none)
    (n_parts : PySem.W.findIn K (.ref C) "parts" = some none)
    (n_size : PySem.W.findIn K (.ref C) "size" = some none)
    (n_levels : PySem.W.findIn K (.ref C) "levels" = some none)
    (n_term : PySem.W.findIn K (.ref C) "term" = some none)
    (n_gaps : PySem.W.findIn K (.ref C) "_gaps" = some none)
    (w1 : PySem.W.findIn K (.ref C) "whole" = some (some (.ref pW)))
    (w2 : PySem.W.specialIn K (.ref pW) "__get__" = some (some (.builtin "property.__get__")))
    (w3 : PySem.W.takesIn K (.ref pW) = some true)
    (w4 : PySem.W.recIn K pW "property" = some (.ref gW :: rest1))
    (w5 : K.lookup gW = some ⟨oc_w5, od_w5, .func (PySem.W.fnOf "whole" "Tree.whole" (defArgs (sTree 4)) (defBody (sTree 4)) (defScope (sTree 4)) .none kV_w5 dc_w5 pm_w5 an_w5 cd_w5 ct_w5), sl_w5⟩) (w5c : PySem.W.codeIn K cd_w5 "Tree.whole" = true) (w5k : PySem.W.keepIn K (.ref gW) = true)
    (r1 : PySem.W.readsIn K C mc = true)
    (r2 : PySem.W.specialIn K (.ref C) "__getattribute__" = some (some (.builtin "type.__getattribute__")))
    (r3 : PySem.W.findCls K (.ref C) mc "read" = some (.get (.builtin "classmethod.__get__") (.ref pR) .none (.ref C)))
    (r4 : PySem.W.recIn K pR "classmethod" = some (.ref gR :: rest2))
    (r5 : PySem.W.fnIn K gR = true)
    (r6 : K.lookup gR = some ⟨oc_r6, od_r6, .func (PySem.W.fnOf "read" "Tree.read" (defArgs (sTree 3)) (defBody (sTree 3)) (defScope (sTree 3)) .none kV_r6 dc_r6 pm_r6 an_r6 cd_r6 ct_r6), sl_r6⟩) (r6c : PySem.W.codeIn K cd_r6 "Tree.read" = true) (r6k : PySem.W.keepIn K (.ref gR) = true)
    (v1 : PySem.W.findCls K (.ref C) mc "MOST_NAMES" = some (.val (.int 2000 tk4)))
    (v2 : PySem.W.findCls K (.ref C) mc "MOST_LEVELS" = some (.val (.int 60 tk5)))
    (nf : PySem.W.notFirst K C (.ref C) = true)
    (gi : PySem.W.fnIn K f_t_getitem = true)
    (i1 : PySem.W.findIn K (.ref C) "__class__" = some (some (.builtin "object.__class__")))
    (i2 : PySem.W.specialIn K (.builtin "object.__class__") "__get__" = some (some (.builtin "getset_descriptor.__get__")))
    (i3 : PySem.W.takesIn K (.builtin "object.__class__") = some true)
    (i4 : PySem.W.mroIn K C (.type "object") = some true)
    (eWc : PySem.W.isClsIn K CW = true)
    (eWt : PySem.W.typeIn K (.ref CW) = some (.type "type"))
    (eW : PySem.W.nsIn K mainGlobals "WorkError" = some (some (.ref CW)))
    (e1CB : PySem.W.nsIn K mainGlobals "BadTerm" = some (some (.ref CB)))
    (e2CB : K.lookup CB = some (excClassObj nmCB qCB CB NCB bsCB bmCB true snCB subCB abCB colCB ddCB m0CB m1CB m2CB m3CB m5CB "ValueError.__new__"))
    (e3CB : PySem.HandSPX.refsVE bmCB = true)
    (e4CB : PySem.W.findIn K (.ref CB) "__setattr__" = some (some (.builtin "object.__setattr__")))
    (e5CB : PySem.W.subIn K (.ref CB) (.type "BaseException") = some true)
    (e6CB : PySem.W.typeIn K (.ref CB) = some (.type "type"))
    (e7CB : PySem.W.keepIn K (.ref CB) = true)
    (e8CB : PySem.W.findIn K (.ref CB) "term" = some none)
    (e9CB : PySem.W.findIn K (.ref CB) "__init__" = some (some (.ref fICB)))
    (eACB : PySem.W.typeIn K (.ref fICB) = some (.type "function"))
    (eBCB : K.lookup fICB = some ⟨oc_eBCB, od_eBCB, .func (PySem.W.fnOf "__init__" "BadTerm.__init__" (defArgs (inClass (top 3) 0)) (defBody (inClass (top 3) 0)) (defScope (inClass (top 3) 0)) .none kV_eBCB dc_eBCB pm_eBCB an_eBCB cd_eBCB ct_eBCB), sl_eBCB⟩) (eBCBc : PySem.W.codeIn K cd_eBCB "BadTerm.__init__" = true) (eBCBk : PySem.W.keepIn K (.ref fICB) = true)
    (sACB : PySem.W.isClsIn K CB = true)
    (sBCB : PySem.W.subIn K (.ref CB) (.ref CB) = some true)
    (sCCB : PySem.W.subIn K (.ref CB) (.ref CW) = some true)
    (sDCB : PySem.W.subIn K (.ref CB) (.type "ValueError") = some true)
    (sECB : PySem.W.subIn K (.ref CB) (.ref CN) = some false)
    (eDCB : PySem.W.findIn K (.ref CB) "__getattribute__" = some (some (.builtin "BaseException.__getattribute__")))
    (eECB : PySem.W.findIn K (.ref CB) "__getattr__" = some none)
    (eFCB : PySem.W.hasDictIn K CB = true)
    (eGCB : PySem.W.findIn K (.ref CB) "__class__" = some (some (.builtin "object.__class__")))
    (eHCB : PySem.W.mroIn K CB (.type "object") = some true)
    (e1CN : PySem.W.nsIn K mainGlobals "NoPlace" = some (some (.ref CN)))
    (e2CN : K.lookup CN = some (excClassObj nmCN qCN CN NCN bsCN bmCN true snCN subCN abCN colCN ddCN m0CN m1CN m2CN m3CN m5CN "ValueError.__new__"))
    (e3CN : PySem.HandSPX.refsVE bmCN = true)
    (e4CN : PySem.W.findIn K (.ref CN) "__setattr__" = some (some (.builtin "object.__setattr__")))
    (e5CN : PySem.W.subIn K (.ref CN) (.type "BaseException") = some true)
    (e6CN : PySem.W.typeIn K (.ref CN) = some (.type "type"))
    (e7CN : PySem.W.keepIn K (.ref CN) = true)
    (e8CN : PySem.W.findIn K (.ref CN) "path" = some none)
    (e9CN : PySem.W.findIn K (.ref CN) "__init__" = some (some (.ref fICN)))
    (eACN : PySem.W.typeIn K (.ref fICN) = some (.type "function"))
    (eBCN : K.lookup fICN = some ⟨oc_eBCN, od_eBCN, .func (PySem.W.fnOf "__init__" "NoPlace.__init__" (defArgs (inClass (top 4) 0)) (defBody (inClass (top 4) 0)) (defScope (inClass (top 4) 0)) .none kV_eBCN dc_eBCN pm_eBCN an_eBCN cd_eBCN ct_eBCN), sl_eBCN⟩) (eBCNc : PySem.W.codeIn K cd_eBCN "NoPlace.__init__" = true) (eBCNk : PySem.W.keepIn K (.ref fICN) = true)
    (sACN : PySem.W.isClsIn K CN = true)
    (sBCN : PySem.W.subIn K (.ref CN) (.ref CN) = some true)
    (sCCN : PySem.W.subIn K (.ref CN) (.ref CW) = some true)
    (sDCN : PySem.W.subIn K (.ref CN) (.type "ValueError") = some true)
    (sECN : PySem.W.subIn K (.ref CN) (.ref CB) = some false)
    (eDCN : PySem.W.findIn K (.ref CN) "__getattribute__" = some (some (.builtin "BaseException.__getattribute__")))
    (eECN : PySem.W.findIn K (.ref CN) "__getattr__" = some none)
    (eFCN : PySem.W.hasDictIn K CN = true)
    (eGCN : PySem.W.findIn K (.ref CN) "__class__" = some (some (.builtin "object.__class__")))
    (eHCN : PySem.W.mroIn K CN (.type "object") = some true) :
    ∃ fd : FuncData, (∀ (s : Shared) (v : Value), BindsTo s fd ⟨[v], []⟩ [("script", v)]) ∧ ∀ base : Heap, K.In base → base.Ns mainGlobals mg → FnOk P w K mg base CX0 65 fa fd ["script"] (spLaw K) := by
  have l_is_small_letter : FnAt K "is_small_letter" "is_small_letter" (top 7) f_is_small_letter := ⟨_, _, _, _, _, _, _, _, _, l_is_small_letter, l_is_small_letterc, l_is_small_letterk⟩
  have l_is_capital : FnAt K "is_capital" "is_capital" (top 8) f_is_capital := ⟨_, _, _, _, _, _, _, _, _, l_is_capital, l_is_capitalc, l_is_capitalk⟩
  have l_is_digit : FnAt K "is_digit" "is_digit" (top 9) f_is_digit := ⟨_, _, _, _, _, _, _, _, _, l_is_digit, l_is_digitc, l_is_digitk⟩
  have l_is_big_name : FnAt K "is_big_name" "is_big_name" (top 10) f_is_big_name := ⟨_, _, _, _, _, _, _, _, _, l_is_big_name, l_is_big_namec, l_is_big_namek⟩
  have l_is_plain : FnAt K "is_plain" "is_plain" (top 15) f_is_plain := ⟨_, _, _, _, _, _, _, _, _, l_is_plain, l_is_plainc, l_is_plaink⟩
  have l_most_levels : FnAt K "most_levels" "most_levels" (top 16) f_most_levels := ⟨_, _, _, _, _, _, _, _, _, l_most_levels, l_most_levelsc, l_most_levelsk⟩
  have l_places : FnAt K "places" "places" (top 17) f_places := ⟨_, _, _, _, _, _, _, _, _, l_places, l_placesc, l_placesk⟩
  have l_name_end : FnAt K "name_end" "name_end" (top 18) f_name_end := ⟨_, _, _, _, _, _, _, _, _, l_name_end, l_name_endc, l_name_endk⟩
  have l_written_tree : FnAt K "written_tree" "written_tree" (top 19) f_written_tree := ⟨_, _, _, _, _, _, _, _, _, l_written_tree, l_written_treec, l_written_treek⟩
  have l_law_pool_of : FnAt K "_law_pool_of" "_law_pool_of" (top 21) f_law_pool_of := ⟨_, _, _, _, _, _, _, _, _, l_law_pool_of, l_law_pool_ofc, l_law_pool_ofk⟩
  have l_law_draw : FnAt K "_law_draw" "_law_draw" (top 22) f_law_draw := ⟨_, _, _, _, _, _, _, _, _, l_law_draw, l_law_drawc, l_law_drawk⟩
  have l_law_name_of : FnAt K "_law_name_of" "_law_name_of" (top 23) f_law_name_of := ⟨_, _, _, _, _, _, _, _, _, l_law_name_of, l_law_name_ofc, l_law_name_ofk⟩
  have l_law_grow : FnAt K "_law_grow" "_law_grow" (top 24) f_law_grow := ⟨_, _, _, _, _, _, _, _, _, l_law_grow, l_law_growc, l_law_growk⟩
  have l_law_mirrored : FnAt K "_law_mirrored" "_law_mirrored" (top 25) f_law_mirrored := ⟨_, _, _, _, _, _, _, _, _, l_law_mirrored, l_law_mirroredc, l_law_mirroredk⟩
  have l_law_chained : FnAt K "_law_chained" "_law_chained" (top 26) f_law_chained := ⟨_, _, _, _, _, _, _, _, _, l_law_chained, l_law_chainedc, l_law_chainedk⟩
  have l_law_six : FnAt K "_law_six" "_law_six" (top 27) f_law_six := ⟨_, _, _, _, _, _, _, _, _, l_law_six, l_law_sixc, l_law_sixk⟩
  have l_law_make : FnAt K "_law_make" "_law_make" (top 28) f_law_make := ⟨_, _, _, _, _, _, _, _, _, l_law_make, l_law_makec, l_law_makek⟩
  have l_law_told : FnAt K "_law_told" "_law_told" (top 29) f_law_told := ⟨_, _, _, _, _, _, _, _, _, l_law_told, l_law_toldc, l_law_toldk⟩
  have l_law_is : FnAt K "_law_is" "_law_is" (top 30) f_law_is := ⟨_, _, _, _, _, _, _, _, _, l_law_is, l_law_isc, l_law_isk⟩
  have l_law_good : FnAt K "_law_good" "_law_good" (top 31) f_law_good := ⟨_, _, _, _, _, _, _, _, _, l_law_good, l_law_goodc, l_law_goodk⟩
  have l_law_walk : FnAt K "_law_walk" "_law_walk" (top 32) f_law_walk := ⟨_, _, _, _, _, _, _, _, _, l_law_walk, l_law_walkc, l_law_walkk⟩
  have l_law_places : FnAt K "_law_places" "_law_places" (top 33) f_law_places := ⟨_, _, _, _, _, _, _, _, _, l_law_places, l_law_placesc, l_law_placesk⟩
  have l_law_order : FnAt K "_law_order" "_law_order" (top 34) f_law_order := ⟨_, _, _, _, _, _, _, _, _, l_law_order, l_law_orderc, l_law_orderk⟩
  have l_law_astray : FnAt K "_law_astray" "_law_astray" (top 35) f_law_astray := ⟨_, _, _, _, _, _, _, _, _, l_law_astray, l_law_astrayc, l_law_astrayk⟩
  have l_law_no_place : FnAt K "_law_no_place" "_law_no_place" (top 36) f_law_no_place := ⟨_, _, _, _, _, _, _, _, _, l_law_no_place, l_law_no_placec, l_law_no_placek⟩
  have l_law_spoilt : FnAt K "_law_spoilt" "_law_spoilt" (top 37) f_law_spoilt := ⟨_, _, _, _, _, _, _, _, _, l_law_spoilt, l_law_spoiltc, l_law_spoiltk⟩
  have l_law_big : FnAt K "_law_big" "_law_big" (top 38) f_law_big := ⟨_, _, _, _, _, _, _, _, _, l_law_big, l_law_bigc, l_law_bigk⟩
  have l_law_read : FnAt K "_law_read" "_law_read" (top 39) f_law_read := ⟨_, _, _, _, _, _, _, _, _, l_law_read, l_law_readc, l_law_readk⟩
  have l_law_refused : FnAt K "_law_refused" "_law_refused" (top 40) f_law_refused := ⟨_, _, _, _, _, _, _, _, _, l_law_refused, l_law_refusedc, l_law_refusedk⟩
  have l_law : FnAt K "law" "law" (top 41) f_law := ⟨_, _, _, _, _, _, _, _, _, l_law, l_lawc, l_lawk⟩
  have l_t_init : FnAt K "__init__" "Tree.__init__" (sTree 2) f_t_init := ⟨_, _, _, _, _, _, _, _, _, l_t_init, l_t_initc, l_t_initk⟩
  have l_t_eq : FnAt K "__eq__" "Tree.__eq__" (sTree 5) f_t_eq := ⟨_, _, _, _, _, _, _, _, _, l_t_eq, l_t_eqc, l_t_eqk⟩
  have l_t_lt : FnAt K "__lt__" "Tree.__lt__" (sTree 6) f_t_lt := ⟨_, _, _, _, _, _, _, _, _, l_t_lt, l_t_ltc, l_t_ltk⟩
  have l_t_le : FnAt K "__le__" "Tree.__le__" (sTree 7) f_t_le := ⟨_, _, _, _, _, _, _, _, _, l_t_le, l_t_lec, l_t_lek⟩
  have l_t_contains : FnAt K "__contains__" "Tree.__contains__" (sTree 10) f_t_contains := ⟨_, _, _, _, _, _, _, _, _, l_t_contains, l_t_containsc, l_t_containsk⟩
  have l_t_getitem : FnAt K "__getitem__" "Tree.__getitem__" (sTree 11) f_t_getitem := ⟨_, _, _, _, _, _, _, _, _, l_t_getitem, l_t_getitemc, l_t_getitemk⟩
  have l_t_iter : FnAt K "__iter__" "Tree.__iter__" (sTree 12) f_t_iter := ⟨_, _, _, _, _, _, _, _, _, l_t_iter, l_t_iterc, l_t_iterk⟩
  have l_t_paths : FnAt K "paths" "Tree.paths" (sTree 13) f_t_paths := ⟨_, _, _, _, _, _, _, _, _, l_t_paths, l_t_pathsc, l_t_pathsk⟩
  have w5 : FnAt K "whole" "Tree.whole" (sTree 4) gW := ⟨_, _, _, _, _, _, _, _, _, w5, w5c, w5k⟩
  have r6 : FnAt K "read" "Tree.read" (sTree 3) gR := ⟨_, _, _, _, _, _, _, _, _, r6, r6c, r6k⟩
  have eBCB : FnAt K "__init__" "BadTerm.__init__" (inClass (top 3) 0) fICB := ⟨_, _, _, _, _, _, _, _, _, eBCB, eBCBc, eBCBk⟩
  have eBCN : FnAt K "__init__" "NoPlace.__init__" (inClass (top 4) 0) fICN := ⟨_, _, _, _, _, _, _, _, _, eBCN, eBCNc, eBCNk⟩
  have eCCB := exm_of e5CB (kc_of sACB e6CB sBCB)
  have eICB := kc_of sACB e6CB sBCB
  have eJCB := ko_true (kc_of eWc eWt sCCB)
  have eKCB := ko_true (kc_ve sDCB)
  have eLCB := ko_false (kc_of sACN e6CN sECB) sBCB sECB
  have eCCN := exm_of e5CN (kc_of sACN e6CN sBCN)
  have eICN := kc_of sACN e6CN sBCN
  have eJCN := ko_true (kc_of eWc eWt sCCN)
  have eKCN := ko_true (kc_ve sDCN)
  have eLCN := ko_false (kc_of sACB e6CB sECN) sBCN sECN
  have e := hfa.symm.trans (PySem.W.mg_of X G a_law)
  cases e
  obtain ⟨d_is_small_letter, F_is_small_letter⟩ := l_is_small_letter.fn
  have g_is_small_letter : Gf K mg "is_small_letter" f_is_small_letter := FnAt.gf X G a_is_small_letter l_is_small_letter
  obtain ⟨d_is_capital, F_is_capital⟩ := l_is_capital.fn
  have g_is_capital : Gf K mg "is_capital" f_is_capital := FnAt.gf X G a_is_capital l_is_capital
  obtain ⟨d_is_digit, F_is_digit⟩ := l_is_digit.fn
  have g_is_digit : Gf K mg "is_digit" f_is_digit := FnAt.gf X G a_is_digit l_is_digit
  obtain ⟨d_is_big_name, F_is_big_name⟩ := l_is_big_name.fn
  have g_is_big_name : Gf K mg "is_big_name" f_is_big_name := FnAt.gf X G a_is_big_name l_is_big_name
  obtain ⟨d_is_plain, F_is_plain⟩ := l_is_plain.fn
  have g_is_plain : Gf K mg "is_plain" f_is_plain := FnAt.gf X G a_is_plain l_is_plain
  obtain ⟨d_most_levels, F_most_levels⟩ := l_most_levels.fn
  have g_most_levels : Gf K mg "most_levels" f_most_levels := FnAt.gf X G a_most_levels l_most_levels
  obtain ⟨d_places, F_places⟩ := l_places.fn
  have g_places : Gf K mg "places" f_places := FnAt.gf X G a_places l_places
  obtain ⟨d_name_end, F_name_end⟩ := l_name_end.fn
  have g_name_end : Gf K mg "name_end" f_name_end := FnAt.gf X G a_name_end l_name_end
  obtain ⟨d_written_tree, F_written_tree⟩ := l_written_tree.fn
  have g_written_tree : Gf K mg "written_tree" f_written_tree := FnAt.gf X G a_written_tree l_written_tree
  obtain ⟨d_law_pool_of, F_law_pool_of⟩ := l_law_pool_of.fn
  have g_law_pool_of : Gf K mg "_law_pool_of" f_law_pool_of := FnAt.gf X G a_law_pool_of l_law_pool_of
  obtain ⟨d_law_draw, F_law_draw⟩ := l_law_draw.fn
  have g_law_draw : Gf K mg "_law_draw" f_law_draw := FnAt.gf X G a_law_draw l_law_draw
  obtain ⟨d_law_name_of, F_law_name_of⟩ := l_law_name_of.fn
  have g_law_name_of : Gf K mg "_law_name_of" f_law_name_of := FnAt.gf X G a_law_name_of l_law_name_of
  obtain ⟨d_law_grow, F_law_grow⟩ := l_law_grow.fn
  have g_law_grow : Gf K mg "_law_grow" f_law_grow := FnAt.gf X G a_law_grow l_law_grow
  obtain ⟨d_law_mirrored, F_law_mirrored⟩ := l_law_mirrored.fn
  have g_law_mirrored : Gf K mg "_law_mirrored" f_law_mirrored := FnAt.gf X G a_law_mirrored l_law_mirrored
  obtain ⟨d_law_chained, F_law_chained⟩ := l_law_chained.fn
  have g_law_chained : Gf K mg "_law_chained" f_law_chained := FnAt.gf X G a_law_chained l_law_chained
  obtain ⟨d_law_six, F_law_six⟩ := l_law_six.fn
  have g_law_six : Gf K mg "_law_six" f_law_six := FnAt.gf X G a_law_six l_law_six
  obtain ⟨d_law_make, F_law_make⟩ := l_law_make.fn
  have g_law_make : Gf K mg "_law_make" f_law_make := FnAt.gf X G a_law_make l_law_make
  obtain ⟨d_law_told, F_law_told⟩ := l_law_told.fn
  have g_law_told : Gf K mg "_law_told" f_law_told := FnAt.gf X G a_law_told l_law_told
  obtain ⟨d_law_is, F_law_is⟩ := l_law_is.fn
  have g_law_is : Gf K mg "_law_is" f_law_is := FnAt.gf X G a_law_is l_law_is
  obtain ⟨d_law_good, F_law_good⟩ := l_law_good.fn
  have g_law_good : Gf K mg "_law_good" f_law_good := FnAt.gf X G a_law_good l_law_good
  obtain ⟨d_law_walk, F_law_walk⟩ := l_law_walk.fn
  have g_law_walk : Gf K mg "_law_walk" f_law_walk := FnAt.gf X G a_law_walk l_law_walk
  obtain ⟨d_law_places, F_law_places⟩ := l_law_places.fn
  have g_law_places : Gf K mg "_law_places" f_law_places := FnAt.gf X G a_law_places l_law_places
  obtain ⟨d_law_order, F_law_order⟩ := l_law_order.fn
  have g_law_order : Gf K mg "_law_order" f_law_order := FnAt.gf X G a_law_order l_law_order
  obtain ⟨d_law_astray, F_law_astray⟩ := l_law_astray.fn
  have g_law_astray : Gf K mg "_law_astray" f_law_astray := FnAt.gf X G a_law_astray l_law_astray
  obtain ⟨d_law_no_place, F_law_no_place⟩ := l_law_no_place.fn
  have g_law_no_place : Gf K mg "_law_no_place" f_law_no_place := FnAt.gf X G a_law_no_place l_law_no_place
  obtain ⟨d_law_spoilt, F_law_spoilt⟩ := l_law_spoilt.fn
  have g_law_spoilt : Gf K mg "_law_spoilt" f_law_spoilt := FnAt.gf X G a_law_spoilt l_law_spoilt
  obtain ⟨d_law_big, F_law_big⟩ := l_law_big.fn
  have g_law_big : Gf K mg "_law_big" f_law_big := FnAt.gf X G a_law_big l_law_big
  obtain ⟨d_law_read, F_law_read⟩ := l_law_read.fn
  have g_law_read : Gf K mg "_law_read" f_law_read := FnAt.gf X G a_law_read l_law_read
  obtain ⟨d_law_refused, F_law_refused⟩ := l_law_refused.fn
  have g_law_refused : Gf K mg "_law_refused" f_law_refused := FnAt.gf X G a_law_refused l_law_refused
  obtain ⟨d_t_init, F_t_init⟩ := l_t_init.fn
  obtain ⟨d_t_eq, F_t_eq⟩ := l_t_eq.fn
  obtain ⟨d_t_lt, F_t_lt⟩ := l_t_lt.fn
  obtain ⟨d_t_le, F_t_le⟩ := l_t_le.fn
  obtain ⟨d_t_contains, F_t_contains⟩ := l_t_contains.fn
  obtain ⟨d_t_getitem, F_t_getitem⟩ := l_t_getitem.fn
  obtain ⟨d_t_iter, F_t_iter⟩ := l_t_iter.fn
  obtain ⟨d_t_paths, F_t_paths⟩ := l_t_paths.fn
  obtain ⟨dW, FW⟩ := w5.fn
  obtain ⟨dR, FR⟩ := r6.fn
  obtain ⟨dIB, FIB⟩ := eBCB.fn
  obtain ⟨dIN, FIN⟩ := eBCN.fn
  have m_len := PySem.W.mg_none_of X G b_len
  have m_all := PySem.W.mg_none_of X G b_all
  have m_sum := PySem.W.mg_none_of X G b_sum
  have m_isinstance := PySem.W.mg_none_of X G b_isinstance
  have m_reversed := PySem.W.mg_none_of X G b_reversed
  have m_range := PySem.W.mg_none_of X G b_range
  have m_int := PySem.W.mg_none_of X G b_int
  have m_abs := PySem.W.mg_none_of X G b_abs
  have m_tuple := PySem.W.mg_none_of X G b_tuple
  have m_bool := PySem.W.mg_none_of X G b_bool
  have m_list := PySem.W.mg_none_of X G b_list
  have m_iter := PySem.W.mg_none_of X G b_iter
  have m_ValueError := PySem.W.mg_none_of X G b_ValueError
  have gT := PySem.W.mg_of X G aC
  have T1 : Tt K C := ⟨⟨pg, hd, po, sa⟩, n_name, n_parts, n_size, n_levels, n_term, n_gaps⟩
  have T2 : Ti K C := ⟨i1, i2, i3, i4⟩
  have M : Mk K C f_t_init := ⟨mk, a_t_init, s_t_init, kc⟩
  have hMC := PySem.W.mg_of X G k_mc
  have hHO := PySem.W.mg_of X G k_ho
  have hMP := PySem.W.mg_of X G k_mp
  have XB : Ext K mg "BadTerm" CB fICB "term" := ⟨⟨⟨_, _, _, _, _, _, _, _, _, _, _, _, _, _, _, e2CB, e3CB⟩, e4CB, e5CB, e6CB, e7CB⟩, e8CB, e9CB, eACB, PySem.W.mg_of X G e1CB, eCCB⟩
  have XN : Ext K mg "NoPlace" CN fICN "path" := ⟨⟨⟨_, _, _, _, _, _, _, _, _, _, _, _, _, _, _, e2CN, e3CN⟩, e4CN, e5CN, e6CN, e7CN⟩, e8CN, e9CN, eACN, PySem.W.mg_of X G e1CN, eCCN⟩
  have RCB : Er K mg "BadTerm" "term" CB CW CN := ⟨PySem.W.mg_of X G e1CB, ⟨eDCB, eECB, e5CB, eFCB⟩, ⟨eDCB, eECB, e5CB, eFCB, eGCB, i2, i3, eHCB⟩, e8CB, eCCB, eICB, eJCB, eKCB, eLCB⟩
  have RCN : Er K mg "NoPlace" "path" CN CW CB := ⟨PySem.W.mg_of X G e1CN, ⟨eDCN, eECN, e5CN, eFCN⟩, ⟨eDCN, eECN, e5CN, eFCN, eGCN, i2, i3, eHCN⟩, e8CN, eCCN, eICN, eJCN, eKCN, eLCN⟩
  have gWE := PySem.W.mg_of X G eW
  have Wp : Wh K C pW gW dW := ⟨⟨w1, w2, w3, ⟨_, w4⟩⟩, FW.binds fun _ _ _ _ _ _ us hl => match us, hl with | [_], _ => rfl⟩
  have mP : Meth K C "paths" f_t_paths := ⟨a_t_paths, s_t_paths, by obtain ⟨_, _, _, _, _, _, _, _, _, _, _, k⟩ := l_t_paths; exact k⟩
  have bP : Binds K d_t_paths ["self"] [] := F_t_paths.binds fun _ _ _ _ _ _ us hl => match us, hl with | [_], _ => rfl
  have cR : CRead K C mc := ⟨r1, r2⟩
  have cM : CMet K C mc "read" pR gR := ⟨r3, ⟨_, r4⟩, r5⟩
  obtain ⟨oc, od, kV, dc, pm, an, cd, ct, sl, ll, lc, lk⟩ := l_law
  have FL := fun_mk (st := top 41) ll lc lk
  refine ⟨PySem.W.fnOf "law" "law" (defArgs (top 41)) (defBody (top 41)) (defScope (top 41)) .none kV dc pm an cd ct, fun s v => .of_eq rfl, fun base _ _ => ?_⟩
  have q1 := okr_small (P := P) (w := w) (K := K) (mg := mg) (base := base) F_is_small_letter
  have q2 := okr_capital (P := P) (w := w) (K := K) (mg := mg) (base := base) F_is_capital
  have q3 := okr_digit (P := P) (w := w) (K := K) (mg := mg) (base := base) m_len F_is_digit
  have q4 := ok_big (P := P) (w := w) (K := K) (mg := mg) (base := base) m_len m_all hMC g_is_small_letter g_is_capital g_is_digit q1 q2 q3 F_is_big_name
  have q5 := ok_plain (P := P) (w := w) (K := K) (mg := mg) (base := base) T1 m_len hHO hMP g_is_big_name g_is_digit q4 q3 F_is_plain
  have q6 := ok_most (P := P) (w := w) (K := K) (mg := mg) (base := base) T1 F_most_levels
  have q7 : FnR P w K mg base CX0 3 f_t_init (spMk C) := ok_init T1 g_most_levels q6 hHO m_sum F_t_init
  have q8 := ok_places (P := P) (w := w) (K := K) (mg := mg) (base := base) T1 m_len m_reversed m_range F_places
  have q9 := ok_nameEnd (P := P) (w := w) (K := K) (mg := mg) (base := base) m_len F_name_end
  have q10 := ok_written (P := P) (w := w) (K := K) (mg := mg) (base := base) M q7 gT g_name_end q9 m_len F_written_tree
  have q11 := ok_read (P := P) (w := w) (K := K) (mg := mg) (base := base) g_written_tree q10 g_places q8 g_is_plain q5 m_all XB FIB FR
  have q12 := ok_whole (P := P) (w := w) (K := K) (mg := mg) (base := base) T1 FW
  have q13 := ok_lt (P := P) (w := w) (K := K) (mg := mg) (base := base) T1 T2 gT m_isinstance F_t_lt
  have q14 := ok_le (P := P) (w := w) (K := K) (mg := mg) (base := base) T1 T2 gT m_isinstance F_t_le
  have q15 := ok_eq (P := P) (w := w) (K := K) (mg := mg) (base := base) T1 T2 gT m_isinstance F_t_eq
  have q16 := ok_contains (P := P) (w := w) (K := K) (mg := mg) (base := base) T1 m_len F_t_contains
  have q17 := ok_getitem (P := P) (w := w) (K := K) (mg := mg) (base := base) T1 m_len XN FIN F_t_getitem
  have q18 := ok_paths (P := P) (w := w) (K := K) (mg := mg) (base := base) g_places q8 F_t_paths
  have p1 := ok_pool (P := P) (w := w) (K := K) (mg := mg) (base := base) m_int m_abs F_law_pool_of
  have p2 := ok_draw (P := P) (w := w) (K := K) (mg := mg) (base := base) m_int F_law_draw
  have p3 := ok_name (P := P) (w := w) (K := K) (mg := mg) (base := base) g_law_draw p2 m_range F_law_name_of
  have p4 := ok_grow (P := P) (w := w) (K := K) (mg := mg) (base := base) g_law_draw p2 m_range m_int m_len m_tuple F_law_grow g_law_grow
  have p5 := ok_mirror (P := P) (w := w) (K := K) (mg := mg) (base := base) m_tuple F_law_mirrored g_law_mirrored 4
  have p6 := ok_chained (P := P) (w := w) (K := K) (mg := mg) (base := base) (L := 7) (S := 1093) g_law_draw p2 m_range m_len F_law_chained
  have p7 := ok_six (P := P) (w := w) (K := K) (mg := mg) (base := base) g_law_draw p2 g_law_name_of p3 g_law_grow p4 g_law_mirrored p5 g_law_chained p6 m_len F_law_six
  have p8 := ok_make (P := P) (w := w) (K := K) (mg := mg) (base := base) M q7 gT m_len F_law_make g_law_make 57
  have p9 := ok_told (P := P) (w := w) (K := K) (mg := mg) (base := base) m_len m_sum F_law_told g_law_told 59
  have p10 := ok_is (P := P) (w := w) (K := K) (mg := mg) (base := base) m_isinstance m_int m_bool F_law_is
  have p11 := ok_good (P := P) (w := w) (K := K) (mg := mg) (base := base) T1 T2 gT F_t_iter a_t_iter s_t_iter Wp q12 g_law_is p10 m_isinstance m_tuple m_bool m_len m_range m_iter F_law_good g_law_good 59
  have p12 := ok_walk (P := P) (w := w) (K := K) (mg := mg) (base := base) m_len m_range F_law_walk g_law_walk 57
  have p13 := ok_lplaces (P := P) (w := w) (K := K) (mg := mg) (base := base) T1 g_law_walk p12 mP bP q18 m_list a_t_contains s_t_contains q16 a_t_getitem gi s_t_getitem q17 F_law_places
  have p14 := ok_order (P := P) (w := w) (K := K) (mg := mg) (base := base) m_len m_range nf a_t_lt s_t_lt q13 a_t_le s_t_le q14 a_t_eq s_t_eq q15 F_law_order
  have p15 := ok_astray (P := P) (w := w) (K := K) (mg := mg) (base := base) g_law_walk p12 g_law_draw p2 m_len F_law_astray
  have p16 := ok_noP (P := P) (w := w) (K := K) (mg := mg) (base := base) RCN gWE (PySem.W.mg_of X G e1CB) m_ValueError m_isinstance a_t_contains s_t_contains q16 a_t_getitem gi s_t_getitem q17 F_law_no_place
  have p17 := ok_spoilt (P := P) (w := w) (K := K) (mg := mg) (base := base) g_law_draw p2 m_len F_law_spoilt
  have p18 := ok_lbig (P := P) (w := w) (K := K) (mg := mg) (base := base) m_len F_law_big
  have p19 := ok_lread (P := P) (w := w) (K := K) (mg := mg) (base := base) g_law_big p18 m_len m_range m_tuple F_law_read g_law_read 59
  have p20 := ok_refused (P := P) (w := w) (K := K) (mg := mg) (base := base) RCB gWE (PySem.W.mg_of X G e1CN) m_ValueError m_isinstance gT cR cM q11 F_law_refused
  exact ok_law (CB := CB) (CN := CN) { gT := gT, len := m_len, range := m_range, rd := cR, cm := cM, v1 := ⟨_, v1, ⟨_, rfl⟩⟩, v2 := ⟨_, v2, ⟨_, rfl⟩⟩, FR := q11, gPo := g_law_pool_of, FPo := p1, gSi := g_law_six, FSi := p7, gTo := g_law_told, FTo := p9, gMa := g_law_make, FMa := p8, gGo := g_law_good, FGo := p11, gPl := g_law_places, FPl := p13, gOr := g_law_order, FOr := p14, gDr := g_law_draw, FDr := p2, gNo := g_law_no_place, FNo := p16, gAs := g_law_astray, FAs := p15, gSp := g_law_spoilt, FSp := p17, gRe := g_law_read, FRe := p19, gRf := g_law_refused, FRf := p20 } FL
end Tw
set_option maxHeartbeats 0
/-! k00, whole. -/
namespace Tw
open PySem PySem.Spec PyProof.Rows L2
theorem walk {l : PySem.W.OpenLaw} {q : Program} {loose : List Str} {XP : (Str → Option Value) → Heap → Prop} {YP : World → Heap → Prop} {d : DefRec} {K : Params → PySem.W.Frag} (hn : l.most = some 63) (hdf : d.params.defaults = [])
    (hY : ∀ (w : World) (h : Heap), YP w h → (K w.params).In h)
    (F : ∀ (w : World) (mg : Str → Option Value) (fa : Addr) (h : Heap), (K w.params).In h → h.Ns mainGlobals mg → mg d.name = some (.ref fa) →
      ∃ fd : FuncData, (∀ (s : Shared) (u : Value), BindsTo s fd ⟨[u], []⟩ [("script", u)]) ∧ ∀ base : Heap, (K w.params).In base → base.Ns mainGlobals mg → FnOk l.prog w (K w.params) mg base CX0 65 fa fd ["script"] (spLaw (K w.params))) :
    PySem.W.WalkO q loose XP YP l.row.toRowW d [] (fun f vs => PySem.call f vs) :=
  L2.walk_of (n := 63) (k := 65) (x := "script") (CX := fun _ => CX0) (sp := fun w => spLaw (K w.params)) hn (by decide) hdf ⟨rfl, by decide, by decide⟩ hY F (fun _ _ a ns hl _ hS => ⟨a, ns, rfl, hS, hl, fun _ => rfl⟩) fun _ _ _ _ _ z => z
end Tw

open PySem PySem.W PyProof.Rows
theorem PySem.Challenge.cw_treeworks_k00_terms_order_holds : PySem.Challenge.rw_treeworks_k00_terms_order.Holds := by
  w_on; o_law; k_head; (case hw => w_witness2)
  k_fill
  refine Tw.walk (l := PySem.Challenge.rw_treeworks_k00_terms_order) rfl rfl (fun w h Y => PySem.W.kIn_of Y) ?F
  case F =>
    intro w mg fa h KX G hmg
    refine' Tw.all_mk (mc := .type "type") KX G hmg ?a_is_small_letter ?l_is_small_letter ?l_is_small_letterc ?l_is_small_letterk ?a_is_capital ?l_is_capital ?l_is_capitalc ?l_is_capitalk ?a_is_digit ?l_is_digit ?l_is_digitc ?l_is_digitk ?a_is_big_name ?l_is_big_name ?l_is_big_namec ?l_is_big_namek ?a_is_plain ?l_is_plain ?l_is_plainc ?l_is_plaink ?a_most_levels ?l_most_levels ?l_most_levelsc ?l_most_levelsk ?a_places ?l_places ?l_placesc ?l_placesk ?a_name_end ?l_name_end ?l_name_endc ?l_name_endk ?a_written_tree ?l_written_tree ?l_written_treec ?l_written_treek ?a_law_pool_of ?l_law_pool_of ?l_law_pool_ofc ?l_law_pool_ofk ?a_law_draw ?l_law_draw ?l_law_drawc ?l_law_drawk ?a_law_name_of ?l_law_name_of ?l_law_name_ofc ?l_law_name_ofk ?a_law_grow ?l_law_grow ?l_law_growc ?l_law_growk ?a_law_mirrored ?l_law_mirrored ?l_law_mirroredc ?l_law_mirroredk ?a_law_chained ?l_law_chained ?l_law_chainedc ?l_law_chainedk ?a_law_six ?l_law_six ?l_law_sixc ?l_law_sixk ?a_law_make ?l_law_make ?l_law_makec ?l_law_makek ?a_law_told ?l_law_told ?l_law_toldc ?l_law_toldk ?a_law_is ?l_law_is ?l_law_isc ?l_law_isk ?a_law_good ?l_law_good ?l_law_goodc ?l_law_goodk ?a_law_walk ?l_law_walk ?l_law_walkc ?l_law_walkk ?a_law_places ?l_law_places ?l_law_placesc ?l_law_placesk ?a_law_order ?l_law_order ?l_law_orderc ?l_law_orderk ?a_law_astray ?l_law_astray ?l_law_astrayc ?l_law_astrayk ?a_law_no_place ?l_law_no_place ?l_law_no_placec ?l_law_no_placek ?a_law_spoilt ?l_law_spoilt ?l_law_spoiltc ?l_law_spoiltk ?a_law_big ?l_law_big ?l_law_bigc ?l_law_bigk ?a_law_read ?l_law_read ?l_law_readc ?l_law_readk ?a_law_refused ?l_law_refused ?l_law_refusedc ?l_law_refusedk ?a_law ?l_law ?l_lawc ?l_lawk ?a_t_init ?l_t_init ?l_t_initc ?l_t_initk ?s_t_init ?a_t_eq ?l_t_eq ?l_t_eqc ?l_t_eqk ?s_t_eq ?a_t_lt ?l_t_lt ?l_t_ltc ?l_t_ltk ?s_t_lt ?a_t_le ?l_t_le ?l_t_lec ?l_t_lek ?s_t_le ?a_t_contains ?l_t_contains ?l_t_containsc ?l_t_containsk ?s_t_contains ?a_t_getitem ?l_t_getitem ?l_t_getitemc ?l_t_getitemk ?s_t_getitem ?a_t_iter ?l_t_iter ?l_t_iterc ?l_t_iterk ?s_t_iter ?a_t_paths ?l_t_paths ?l_t_pathsc ?l_t_pathsk ?s_t_paths ?b_len ?b_all ?b_sum ?b_isinstance ?b_reversed ?b_range ?b_int ?b_abs ?b_tuple ?b_bool ?b_list ?b_iter ?b_ValueError ?k_mc ?k_ho ?k_mp ?aC ?pg ?hd ?po ?sa ?mk ?kc ?n_name ?n_parts ?n_size ?n_levels ?n_term ?n_gaps ?w1 ?w2 ?w3 ?w4 ?w5 ?w5c ?w5k ?r1 ?r2 ?r3 ?r4 ?r5 ?r6 ?r6c ?r6k ?v1 ?v2 ?nf ?gi ?i1 ?i2 ?i3 ?i4 ?eWc ?eWt ?eW ?e1CB ?e2CB ?e3CB ?e4CB ?e5CB ?e6CB ?e7CB ?e8CB ?e9CB ?eACB ?eBCB ?eBCBc ?eBCBk ?sACB ?sBCB ?sCCB ?sDCB ?sECB ?eDCB ?eECB ?eFCB ?eGCB ?eHCB ?e1CN ?e2CN ?e3CN ?e4CN ?e5CN ?e6CN ?e7CN ?e8CN ?e9CN ?eACN ?eBCN ?eBCNc ?eBCNk ?sACN ?sBCN ?sCCN ?sDCN ?sECN ?eDCN ?eECN ?eFCN ?eGCN ?eHCN
    (case k_mc => k_is)
    (case k_ho => k_is)
    (case k_mp => k_is)
    (case aC => k_is)
    (case eW => k_is)
    (case e1CB => k_is)
    (case e1CN => k_is)
    (case a_is_small_letter => k_is)
    (case l_is_small_letter => k_is)
    (case l_is_small_letterc => k_is)
    (case l_is_small_letterk => k_is)
    (case a_is_capital => k_is)
    (case l_is_capital => k_is)
    (case l_is_capitalc => k_is)
    (case l_is_capitalk => k_is)
    (case a_is_digit => k_is)
    (case l_is_digit => k_is)
    (case l_is_digitc => k_is)
    (case l_is_digitk => k_is)
    (case a_is_big_name => k_is)
    (case l_is_big_name => k_is)
    (case l_is_big_namec => k_is)
    (case l_is_big_namek => k_is)
    (case a_is_plain => k_is)
    (case l_is_plain => k_is)
    (case l_is_plainc => k_is)
    (case l_is_plaink => k_is)
    (case a_most_levels => k_is)
    (case l_most_levels => k_is)
    (case l_most_levelsc => k_is)
    (case l_most_levelsk => k_is)
    (case a_places => k_is)
    (case l_places => k_is)
    (case l_placesc => k_is)
    (case l_placesk => k_is)
    (case a_name_end => k_is)
    (case l_name_end => k_is)
    (case l_name_endc => k_is)
    (case l_name_endk => k_is)
    (case a_written_tree => k_is)
    (case l_written_tree => k_is)
    (case l_written_treec => k_is)
    (case l_written_treek => k_is)
    (case a_law_pool_of => k_is)
    (case l_law_pool_of => k_is)
    (case l_law_pool_ofc => k_is)
    (case l_law_pool_ofk => k_is)
    (case a_law_draw => k_is)
    (case l_law_draw => k_is)
    (case l_law_drawc => k_is)
    (case l_law_drawk => k_is)
    (case a_law_name_of => k_is)
    (case l_law_name_of => k_is)
    (case l_law_name_ofc => k_is)
    (case l_law_name_ofk => k_is)
    (case a_law_grow => k_is)
    (case l_law_grow => k_is)
    (case l_law_growc => k_is)
    (case l_law_growk => k_is)
    (case a_law_mirrored => k_is)
    (case l_law_mirrored => k_is)
    (case l_law_mirroredc => k_is)
    (case l_law_mirroredk => k_is)
    (case a_law_chained => k_is)
    (case l_law_chained => k_is)
    (case l_law_chainedc => k_is)
    (case l_law_chainedk => k_is)
    (case a_law_six => k_is)
    (case l_law_six => k_is)
    (case l_law_sixc => k_is)
    (case l_law_sixk => k_is)
    (case a_law_make => k_is)
    (case l_law_make => k_is)
    (case l_law_makec => k_is)
    (case l_law_makek => k_is)
    (case a_law_told => k_is)
    (case l_law_told => k_is)
    (case l_law_toldc => k_is)
    (case l_law_toldk => k_is)
    (case a_law_is => k_is)
    (case l_law_is => k_is)
    (case l_law_isc => k_is)
    (case l_law_isk => k_is)
    (case a_law_good => k_is)
    (case l_law_good => k_is)
    (case l_law_goodc => k_is)
    (case l_law_goodk => k_is)
    (case a_law_walk => k_is)
    (case l_law_walk => k_is)
    (case l_law_walkc => k_is)
    (case l_law_walkk => k_is)
    (case a_law_places => k_is)
    (case l_law_places => k_is)
    (case l_law_placesc => k_is)
    (case l_law_placesk => k_is)
    (case a_law_order => k_is)
    (case l_law_order => k_is)
    (case l_law_orderc => k_is)
    (case l_law_orderk => k_is)
    (case a_law_astray => k_is)
    (case l_law_astray => k_is)
    (case l_law_astrayc => k_is)
    (case l_law_astrayk => k_is)
    (case a_law_no_place => k_is)
    (case l_law_no_place => k_is)
    (case l_law_no_placec => k_is)
    (case l_law_no_placek => k_is)
    (case a_law_spoilt => k_is)
    (case l_law_spoilt => k_is)
    (case l_law_spoiltc => k_is)
    (case l_law_spoiltk => k_is)
    (case a_law_big => k_is)
    (case l_law_big => k_is)
    (case l_law_bigc => k_is)
    (case l_law_bigk => k_is)
    (case a_law_read => k_is)
    (case l_law_read => k_is)
    (case l_law_readc => k_is)
    (case l_law_readk => k_is)
    (case a_law_refused => k_is)
    (case l_law_refused => k_is)
    (case l_law_refusedc => k_is)
    (case l_law_refusedk => k_is)
    (case a_law => k_is)
    (case l_law => k_is)
    (case l_lawc => k_is)
    (case l_lawk => k_is)
    (case a_t_init => k_is)
    (case l_t_init => k_is)
    (case l_t_initc => k_is)
    (case l_t_initk => k_is)
    (case s_t_init => k_is)
    (case a_t_eq => k_is)
    (case l_t_eq => k_is)
    (case l_t_eqc => k_is)
    (case l_t_eqk => k_is)
    (case s_t_eq => k_is)
    (case a_t_lt => k_is)
    (case l_t_lt => k_is)
    (case l_t_ltc => k_is)
    (case l_t_ltk => k_is)
    (case s_t_lt => k_is)
    (case a_t_le => k_is)
    (case l_t_le => k_is)
    (case l_t_lec => k_is)
    (case l_t_lek => k_is)
    (case s_t_le => k_is)
    (case a_t_contains => k_is)
    (case l_t_contains => k_is)
    (case l_t_containsc => k_is)
    (case l_t_containsk => k_is)
    (case s_t_contains => k_is)
    (case a_t_getitem => k_is)
    (case l_t_getitem => k_is)
    (case l_t_getitemc => k_is)
    (case l_t_getitemk => k_is)
    (case s_t_getitem => k_is)
    (case a_t_iter => k_is)
    (case l_t_iter => k_is)
    (case l_t_iterc => k_is)
    (case l_t_iterk => k_is)
    (case s_t_iter => k_is)
    (case a_t_paths => k_is)
    (case l_t_paths => k_is)
    (case l_t_pathsc => k_is)
    (case l_t_pathsk => k_is)
    (case s_t_paths => k_is)
    (case b_len => k_is)
    (case b_all => k_is)
    (case b_sum => k_is)
    (case b_isinstance => k_is)
    (case b_reversed => k_is)
    (case b_range => k_is)
    (case b_int => k_is)
    (case b_abs => k_is)
    (case b_tuple => k_is)
    (case b_bool => k_is)
    (case b_list => k_is)
    (case b_iter => k_is)
    (case b_ValueError => k_is)
    (case pg => k_is)
    (case hd => k_is)
    (case po => k_is)
    (case sa => k_is)
    (case mk => k_is)
    (case kc => k_is)
    (case n_name => k_is)
    (case n_parts => k_is)
    (case n_size => k_is)
    (case n_levels => k_is)
    (case n_term => k_is)
    (case n_gaps => k_is)
    (case w1 => k_is)
    (case w2 => k_is)
    (case w3 => k_is)
    (case w4 => k_is)
    (case w5 => k_is)
    (case w5c => k_is)
    (case w5k => k_is)
    (case r1 => k_is)
    (case r2 => k_is)
    (case r3 => k_is)
    (case r4 => k_is)
    (case r5 => k_is)
    (case r6 => k_is)
    (case r6c => k_is)
    (case r6k => k_is)
    (case v1 => k_is)
    (case v2 => k_is)
    (case nf => k_is)
    (case gi => k_is)
    (case i3 => k_is)
    (case i4 => k_is)
    (case eWc => k_is)
    (case eWt => k_is)
    (case e2CB => k_is)
    (case e3CB => (first | rfl | decide +kernel))
    (case e4CB => k_is)
    (case e5CB => k_is)
    (case e6CB => k_is)
    (case e7CB => k_is)
    (case e8CB => k_is)
    (case e9CB => k_is)
    (case eACB => k_is)
    (case eBCB => k_is)
    (case eBCBc => k_is)
    (case eBCBk => k_is)
    (case sACB => k_is)
    (case sBCB => k_is)
    (case sCCB => k_is)
    (case sDCB => k_is)
    (case sECB => k_is)
    (case eDCB => k_is)
    (case eECB => k_is)
    (case eFCB => k_is)
    (case eGCB => k_is)
    (case eHCB => k_is)
    (case e2CN => k_is)
    (case e3CN => (first | rfl | decide +kernel))
    (case e4CN => k_is)
    (case e5CN => k_is)
    (case e6CN => k_is)
    (case e7CN => k_is)
    (case e8CN => k_is)
    (case e9CN => k_is)
    (case eACN => k_is)
    (case eBCN => k_is)
    (case eBCNc => k_is)
    (case eBCNk => k_is)
    (case sACN => k_is)
    (case sBCN => k_is)
    (case sCCN => k_is)
    (case sDCN => k_is)
    (case sECN => k_is)
    (case eDCN => k_is)
    (case eECN => k_is)
    (case eFCN => k_is)
    (case eGCN => k_is)
    (case eHCN => k_is)
    (case i1 => k_is)
    (case i2 => k_is)
