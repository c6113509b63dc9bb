import PyProof.Rows.All
import Wide.All
import OpenK.AllK
import Wide.FinOn
import HandS.ForMost
import HandS.Walk
import HandS.Exc
import HandS.TupAny
import HandS.Deep
import HandS.Wide
import HandS.StrMore
import HandS.IsInst
import HandS.Style
import HandS.FStr
import PyProof.ReprRoads
import HandS.Iter
import KE.GoesMore
import PyProof.WalksMore
import PyProof.SumWalkG
import HandS.Defaults
import HandS.Lambda
import HandS.WordsExc
import HandS.SetKeys
import KE.KExcInit
import HandS.ExcIs
import HandS.ExcField
import HandS.ExcValue
import HandS.TryMany
import KE.KExcIs
import PySem.Challenge.RW_staysdeep_k00_errors_and_what_they_keep
import PyProof.ReprLen
import PyProof.StrLawsRepr
import PyProof.Rows.ReprOcc
import HandS.EndBits
set_option Elab.async false
set_option linter.all false
set_option maxRecDepth 100000
set_option maxHeartbeats 4000000
namespace DL
open PySem PySem.Spec PyProof.Rows L2

/-! ### data, and how the abstract heap bears it; O: the lists that may change -/
/-- an own exception as a value: of the class cls, its dict d (if it has one) -/
def XO (cls : Value) (d : Option Addr) (a : Addr) : HO := .ext fun h => ∃ (oe : Obj) (vs : Array Value), h.get? a = some oe ∧ Zc cls d oe ∧ oe.data = .fields vs
inductive D where
  | non | bl (b : Bool) | int (i : Int) | str (x : Str) | lst (xs : List D) | tup (xs : List D) | obj (C : Addr) (fs : List (Str × D)) | raw (v : V) | exc (C : Addr) (fs : List (Str × D))
mutual
inductive Rl (O : List Addr) (H : Hp) : V → D → Prop
  | non : Rl O H .non .non
  | bl (b : Bool) : Rl O H (.bl b) (.bl b)
  | int (i : Int) : Rl O H (.int i) (.int i)
  | str (x : Str) : Rl O H (.str x) (.str x)
  | raw (v : V) : Rl O H v (.raw v)
  | lst {a : Addr} {xs : List V} {ds : List D} : a ∉ O → H a = some (.lst xs) → RlA O H xs ds → Rl O H (.ref a) (.lst ds)
  | tup {a : Addr} {xs : List V} {ds : List D} : a ∉ O → H a = some (.tup xs) → RlA O H xs ds → Rl O H (.ref a) (.tup ds)
  | obj {a C dx : Addr} {fs : List (Str × V)} {gs : List (Str × D)} : a ∉ O → H a = some (.ins C dx fs) → RlF O H fs gs → Rl O H (.ref a) (.obj C gs)
  | exc0 {a C : Addr} : a ∉ O → H a = some (XO (.ref C) none a) → Rl O H (.ref a) (.exc C [])
  | exc1 {a C d : Addr} {fs : List (Str × V)} {gs : List (Str × D)} : a ∉ O → d ∉ O → H a = some (XO (.ref C) (some d) a) → H d = some (.xd fs) → RlF O H fs gs → Rl O H (.ref a) (.exc C gs)
inductive RlA (O : List Addr) (H : Hp) : List V → List D → Prop
  | nil : RlA O H [] []
  | cons {v : V} {vs : List V} {d : D} {ds : List D} : Rl O H v d → RlA O H vs ds → RlA O H (v :: vs) (d :: ds)
inductive RlF (O : List Addr) (H : Hp) : List (Str × V) → List (Str × D) → Prop
  | nil : RlF O H [] []
  | cons {f : Str} {v : V} {vs : List (Str × V)} {d : D} {ds : List (Str × D)} : Rl O H v d → RlF O H vs ds → RlF O H ((f, v) :: vs) ((f, d) :: ds)
end
/-- from O, H to O', H': what stands outside O stays; what may change anew is new -/
structure Ext (O : List Addr) (H : Hp) (O' : List Addr) (H' : Hp) : Prop where
  keep : ∀ b o, b ∉ O → H b = some o → H' b = some o
  sub : ∀ p ∈ O', p ∈ O ∨ H p = none
theorem Ext.refl (O : List Addr) (H : Hp) : Ext O H O H := ⟨fun _ _ _ h => h, fun _ h => .inl h⟩
theorem Ext.trans {O O1 O2 : List Addr} {H H1 H2 : Hp} (a : Ext O H O1 H1) (b : Ext O1 H1 O2 H2) : Ext O H O2 H2 := by
  refine ⟨fun c o hc h => b.keep c o (fun z => ?_) (a.keep c o hc h), fun p hp => ?_⟩
  · rcases a.sub c z with y | y
    · exact hc y
    · rw [y] at h
      cases h
  · rcases b.sub p hp with y | y
    · exact a.sub p y
    · by_cases hO : p ∈ O
      · exact .inl hO
      · cases e : H p with
        | none => exact .inr rfl
        | some o =>
          rw [a.keep p o hO e] at y
          cases y
theorem Ext.rd {O O' : List Addr} {H H' : Hp} {a : Addr} {u : HO} (e : Ext O H O' H') (ha : a ∉ O) (h : Rd H a u) : Rd H' a u := by
  rcases h with h | ⟨o, h⟩
  · exact .inl (e.keep _ _ ha h)
  · exact .inr ⟨o, e.keep _ _ ha h⟩
theorem Ext.out {O O' : List Addr} {H H' : Hp} {a : Addr} (e : Ext O H O' H') (ha : a ∉ O) (h : H a ≠ none) : a ∉ O' := fun z => by
  rcases e.sub a z with y | y
  · exact ha y
  · exact h y
theorem rd_some {H : Hp} {a : Addr} {u : HO} (h : Rd H a u) : H a ≠ none := fun z => by
  rcases h with h | ⟨o, h⟩ <;> rw [z] at h <;> cases h
mutual
theorem Rl.ext {O O' : List Addr} {H H' : Hp} (e : Ext O H O' H') : ∀ {v : V} {d : D}, Rl O H v d → Rl O' H' v d
  | _, _, .non => .non
  | _, _, .bl b => .bl b
  | _, _, .int i => .int i
  | _, _, .str x => .str x
  | _, _, .raw v => .raw v
  | _, _, .lst ha hr hx => .lst (e.out ha (by rw [hr]; exact fun z => nomatch z)) (e.keep _ _ ha hr) (RlA.ext e hx)
  | _, _, .tup ha hr hx => .tup (e.out ha (by rw [hr]; exact fun z => nomatch z)) (e.keep _ _ ha hr) (RlA.ext e hx)
  | _, _, .obj ha hr hx => .obj (e.out ha (by rw [hr]; exact fun z => nomatch z)) (e.keep _ _ ha hr) (RlF.ext e hx)
  | _, _, .exc0 ha hr => .exc0 (e.out ha (by rw [hr]; exact fun z => nomatch z)) (e.keep _ _ ha hr)
  | _, _, .exc1 ha hd hr hq hx => .exc1 (e.out ha (by rw [hr]; exact fun z => nomatch z)) (e.out hd (by rw [hq]; exact fun z => nomatch z)) (e.keep _ _ ha hr) (e.keep _ _ hd hq) (RlF.ext e hx)
theorem RlA.ext {O O' : List Addr} {H H' : Hp} (e : Ext O H O' H') : ∀ {vs : List V} {ds : List D}, RlA O H vs ds → RlA O' H' vs ds
  | _, _, .nil => .nil
  | _, _, .cons h t => .cons (Rl.ext e h) (RlA.ext e t)
theorem RlF.ext {O O' : List Addr} {H H' : Hp} (e : Ext O H O' H') : ∀ {vs : List (Str × V)} {ds : List (Str × D)}, RlF O H vs ds → RlF O' H' vs ds
  | _, _, .nil => .nil
  | _, _, .cons h t => .cons (Rl.ext e h) (RlF.ext e t)
end
mutual
theorem Rl.sub {O O' : List Addr} {H : Hp} (e : ∀ p ∈ O', p ∈ O) : ∀ {v : V} {d : D}, Rl O H v d → Rl O' H v d
  | _, _, .non => .non
  | _, _, .bl b => .bl b
  | _, _, .int i => .int i
  | _, _, .str x => .str x
  | _, _, .raw v => .raw v
  | _, _, .lst ha hr hx => .lst (fun z => ha (e _ z)) hr (RlA.sub e hx)
  | _, _, .tup ha hr hx => .tup (fun z => ha (e _ z)) hr (RlA.sub e hx)
  | _, _, .obj ha hr hx => .obj (fun z => ha (e _ z)) hr (RlF.sub e hx)
  | _, _, .exc0 ha hr => .exc0 (fun z => ha (e _ z)) hr
  | _, _, .exc1 ha hd hr hq hx => .exc1 (fun z => ha (e _ z)) (fun z => hd (e _ z)) hr hq (RlF.sub e hx)
theorem RlA.sub {O O' : List Addr} {H : Hp} (e : ∀ p ∈ O', p ∈ O) : ∀ {vs : List V} {ds : List D}, RlA O H vs ds → RlA O' H vs ds
  | _, _, .nil => .nil
  | _, _, .cons h t => .cons (Rl.sub e h) (RlA.sub e t)
theorem RlF.sub {O O' : List Addr} {H : Hp} (e : ∀ p ∈ O', p ∈ O) : ∀ {vs : List (Str × V)} {ds : List (Str × D)}, RlF O H vs ds → RlF O' H vs ds
  | _, _, .nil => .nil
  | _, _, .cons h t => .cons (Rl.sub e h) (RlF.sub e t)
end
theorem RlA.len {O : List Addr} {H : Hp} : ∀ {vs : List V} {ds : List D}, RlA O H vs ds → vs.length = ds.length
  | _, _, .nil => rfl
  | _, _, .cons _ t => congrArg (· + 1) (RlA.len t)
theorem RlA.get {O : List Addr} {H : Hp} : ∀ {vs : List V} {ds : List D} {i : Nat} {d : D}, RlA O H vs ds → ds[i]? = some d → ∃ v, vs[i]? = some v ∧ Rl O H v d
  | _, _, _, _, .nil, e => by simp at e
  | _, _, 0, _, .cons h _, e => by
    have e' := Option.some.inj (by simpa using e)
    exact ⟨_, rfl, e' ▸ h⟩
  | _, _, i + 1, _, .cons _ t, e => by
    obtain ⟨v, h1, h2⟩ := RlA.get (i := i) t (by simpa using e)
    exact ⟨v, by simpa using h1, h2⟩
theorem RlA.app {O : List Addr} {H : Hp} : ∀ {vs ws : List V} {ds es : List D}, RlA O H vs ds → RlA O H ws es → RlA O H (vs ++ ws) (ds ++ es)
  | _, _, _, _, .nil, s => s
  | _, _, _, _, .cons h t, s => .cons h (RlA.app t s)
theorem RlA.drop {O : List Addr} {H : Hp} : ∀ {vs : List V} {ds : List D} (n : Nat), RlA O H vs ds → RlA O H (vs.drop n) (ds.drop n)
  | _, _, 0, h => h
  | _, _, _ + 1, .nil => .nil
  | _, _, n + 1, .cons _ t => RlA.drop n t
theorem RlA.take {O : List Addr} {H : Hp} : ∀ {vs : List V} {ds : List D} (n : Nat), RlA O H vs ds → RlA O H (vs.take n) (ds.take n)
  | _, _, 0, _ => .nil
  | _, _, _ + 1, .nil => .nil
  | _, _, n + 1, .cons h t => .cons h (RlA.take n t)
theorem RlA.set {O : List Addr} {H : Hp} {v : V} {d : D} (h : Rl O H v d) : ∀ {vs : List V} {ds : List D} (n : Nat), RlA O H vs ds → RlA O H (vs.set n v) (ds.set n d)
  | _, _, _, .nil => .nil
  | _, _, 0, .cons _ t => .cons h t
  | _, _, n + 1, .cons q t => .cons q (RlA.set h n t)
theorem RlA.eraseIdx {O : List Addr} {H : Hp} : ∀ {vs : List V} {ds : List D} (n : Nat), RlA O H vs ds → RlA O H (vs.eraseIdx n) (ds.eraseIdx n)
  | _, _, _, .nil => .nil
  | _, _, 0, .cons _ t => t
  | _, _, n + 1, .cons q t => .cons q (RlA.eraseIdx n t)
theorem RlA.rev {O : List Addr} {H : Hp} : ∀ {vs : List V} {ds : List D}, RlA O H vs ds → RlA O H vs.reverse ds.reverse
  | _, _, .nil => .nil
  | _, _, .cons h t => by
    rw [List.reverse_cons, List.reverse_cons]
    exact RlA.app (RlA.rev t) (.cons h .nil)
theorem RlA.ints {O : List Addr} {H : Hp} : ∀ {vs : List V} {ns : List Int}, RlA O H vs (ns.map D.int) → vs = ns.map V.int
  | _, [], .nil => rfl
  | _, n :: ns, .cons h t => by
    cases h
    rw [RlA.ints (ns := ns) t]
    rfl
theorem RlA.strs {O : List Addr} {H : Hp} : ∀ {vs : List V} {ns : List Str}, RlA O H vs (ns.map D.str) → vs = ns.map V.str
  | _, [], .nil => rfl
  | _, n :: ns, .cons h t => by
    cases h
    rw [RlA.strs (ns := ns) t]
    rfl
theorem RlA.bls {O : List Addr} {H : Hp} : ∀ {vs : List V} {ns : List Bool}, RlA O H vs (ns.map D.bl) → vs = ns.map V.bl
  | _, [], .nil => rfl
  | _, n :: ns, .cons h t => by
    cases h
    rw [RlA.bls (ns := ns) t]
    rfl
theorem RlA.ofInts {O : List Addr} {H : Hp} : ∀ (ns : List Int), RlA O H (ns.map V.int) (ns.map D.int)
  | [] => .nil
  | n :: ns => .cons (.int n) (RlA.ofInts ns)
theorem RlF.lookup {O : List Addr} {H : Hp} {f : Str} {d : D} : ∀ {fs : List (Str × V)} {gs : List (Str × D)}, RlF O H fs gs → gs.lookup f = some d → ∃ v, fs.lookup f = some v ∧ Rl O H v d
  | _, _, .nil, e => by cases e
  | _, _, @RlF.cons _ _ g v vs d' ds h t, e => by
    by_cases c : f = g
    · subst c
      simp [List.lookup] at e ⊢
      exact e ▸ h
    · have cb : (f == g) = false := by simpa using c
      simp [List.lookup, cb] at e ⊢
      exact RlF.lookup t e

/-! ### a def's state: F the deal's two lists (or none), H0 and O0 the entry's; Om the def's own lists, sl its slots -/
inductive E where
  | v (d : D) | o (k : Nat) | l
abbrev Om := List (Option (List D))
abbrev Sl := List (Option E)
def Big : Nat := 2 ^ 1048640
/-- the deal: [the great numbers, the stirred one] -/
def DealOk (F : List Addr) (H : Hp) : Prop := F = [] ∨ ∃ (h a : Addr) (st : Int) (ns : List Int), F = [h, a] ∧ h ≠ a ∧ H h = some (.lst [.ref a, .int st]) ∧ H a = some (.lst (ns.map V.int)) ∧ 0 ≤ st ∧ st < 2147483647 ∧ ns.length ≤ 63 ∧ ∀ n ∈ ns, 0 ≤ n ∧ n.toNat < 2 ^ 1048640
def RE (F O ps : List Addr) (H : Hp) (v : V) : E → Prop
  | .v d => Rl O H v d
  | .o k => ∃ p, v = .ref p ∧ ps[k]? = some p
  | .l => ∃ h a, F = [h, a] ∧ v = .ref h
structure St (F O0 : List Addr) (H0 : Hp) (H : Hp) (om : Om) (σ : L2.St) (sl : Sl) (O ps : List Addr) : Prop where
  en : ∀ b o, b ∉ F → H0 b = some o → H b = some o
  fo : ∀ a ∈ O, a ∈ O0 ∨ H0 a = none
  oo : ∀ a ∈ O0, a ∈ O
  ff : ∀ a ∈ F, a ∈ O0 ∧ H0 a ≠ none
  al : ∀ a ∈ O, ∃ xs, H a = some (.lst xs)
  len : ps.length = om.length
  own : ∀ (k : Nat) (ds : List D), om[k]? = some (some ds) → ∃ p vs, ps[k]? = some p ∧ (p ∈ O ∧ p ∉ O0) ∧ H0 p = none ∧ H p = some (.lst vs) ∧ RlA O H vs ds
  inj : ∀ (j k : Nat) (p : Addr), ps[j]? = some p → ps[k]? = some p → j = k
  pa : ∀ (k : Nat) (p : Addr), ps[k]? = some p → H p ≠ none
  dl : DealOk F H
  slots : ∀ (i : Nat) (e : E), sl[i]? = some (some e) → ∃ v, σ[i]? = some (some v) ∧ RE F O ps H v e
  ln : σ.length = sl.length
/-- what one step leaves: the pins of the own lists stay, new ones come behind -/
structure Go (O ps : List Addr) (H : Hp) (O' ps' : List Addr) (H' : Hp) : Prop where
  ex : Ext O H O' H'
  pre : ∀ (k : Nat) (p : Addr), ps[k]? = some p → ps'[k]? = some p
theorem Go.refl (O ps : List Addr) (H : Hp) : Go O ps H O ps H := ⟨Ext.refl O H, fun _ _ h => h⟩
theorem Go.trans {O ps O1 ps1 O2 ps2 : List Addr} {H H1 H2 : Hp} (a : Go O ps H O1 ps1 H1) (b : Go O1 ps1 H1 O2 ps2 H2) : Go O ps H O2 ps2 H2 :=
  ⟨a.ex.trans b.ex, fun k p h => b.pre k p (a.pre k p h)⟩
theorem RE.go {F O ps O' ps' : List Addr} {H H' : Hp} {v : V} : ∀ {e : E}, Go O ps H O' ps' H' → RE F O ps H v e → RE F O' ps' H' v e
  | .v _, g, h => Rl.ext g.ex h
  | .o k, g, ⟨p, e, h⟩ => ⟨p, e, g.pre k p h⟩
  | .l, _, h => h
section
variable {F O0 : List Addr} {H0 H : Hp} {om : Om} {σ : L2.St} {sl : Sl} {O ps : List Addr}
theorem St.nin (s : St F O0 H0 H om σ sl O ps) {p : Addr} (h : H p = none) : p ∉ O := fun z => by
  obtain ⟨xs, e⟩ := s.al p z
  rw [h] at e
  cases e
/-- a heap that holds all that the former held -/
theorem St.same (s : St F O0 H0 H om σ sl O ps) {H' : Hp} (k : ∀ b o, H b = some o → H' b = some o) : St F O0 H0 H' om σ sl O ps ∧ Go O ps H O ps H' := by
  have x : Ext O H O H' := ⟨fun b o _ h => k b o h, fun _ h => .inl h⟩
  have g : Go O ps H O ps H' := ⟨x, fun _ _ h => h⟩
  refine ⟨⟨fun b o hb h => k _ _ (s.en b o hb h), s.fo, s.oo, s.ff, fun a ha => ?_, s.len, fun i ds h => ?_, s.inj, fun i p h => ?_, ?_, fun i e h => ?_, s.ln⟩, g⟩
  · obtain ⟨xs, e⟩ := s.al a ha
    exact ⟨xs, k _ _ e⟩
  · obtain ⟨p, vs, h1, h2, h3, h4, h5⟩ := s.own i ds h
    exact ⟨p, vs, h1, h2, h3, k _ _ h4, h5.ext x⟩
  · intro z
    cases e : H p with
    | none => exact s.pa i p h e
    | some o =>
      rw [k _ _ e] at z
      cases z
  · rcases s.dl with h | ⟨h, a, st, ns, h1, h2, h3, h4, h5⟩
    · exact .inl h
    · exact .inr ⟨h, a, st, ns, h1, h2, k _ _ h3, k _ _ h4, h5⟩
  · obtain ⟨v, h1, h2⟩ := s.slots i e h
    exact ⟨v, h1, h2.go g⟩
/-- a new object -/
theorem St.new (s : St F O0 H0 H om σ sl O ps) {p : Addr} {o : HO} (h : H p = none) : St F O0 H0 (upd H p o) om σ sl O ps ∧ Go O ps H O ps (upd H p o) :=
  s.same fun b u e => by
    rw [upd_ne (ne_of_none e h)]
    exact e
/-- a slot is set -/
theorem St.set (s : St F O0 H0 H om σ sl O ps) {i : Nat} {v : V} {e : E} (hi : i < sl.length) (r : RE F O ps H v e) : St F O0 H0 H om (σ.set i (some v)) (sl.set i (some e)) O ps := by
  refine ⟨s.en, s.fo, s.oo, s.ff, s.al, s.len, s.own, s.inj, s.pa, s.dl, fun j f h => ?_, by simp [s.ln]⟩
  by_cases c : i = j
  · subst c
    rw [List.getElem?_set_self hi] at h
    cases h
    exact ⟨v, List.getElem?_set_self (by rw [s.ln]; exact hi), r⟩
  · rw [List.getElem?_set_ne c] at h
    obtain ⟨w, h1, h2⟩ := s.slots j f h
    exact ⟨w, by rw [List.getElem?_set_ne c]; exact h1, h2⟩
/-- a slot is forgotten -/
theorem St.forget (s : St F O0 H0 H om σ sl O ps) (i : Nat) (x : Option V) : St F O0 H0 H om (σ.set i x) (sl.set i none) O ps := by
  refine ⟨s.en, s.fo, s.oo, s.ff, s.al, s.len, s.own, s.inj, s.pa, s.dl, fun j f h => ?_, by simp [s.ln]⟩
  by_cases c : i = j
  · subst c
    by_cases hi : i < sl.length
    · rw [List.getElem?_set_self hi] at h
      cases h
    · rw [List.getElem?_eq_none (by simp; omega)] at h
      cases h
  · rw [List.getElem?_set_ne c] at h
    obtain ⟨w, h1, h2⟩ := s.slots j f h
    exact ⟨w, by rw [List.getElem?_set_ne c]; exact h1, h2⟩
/-- slots known less -/
theorem St.less (s : St F O0 H0 H om σ sl O ps) {sl' : Sl} (hl : sl'.length = sl.length) (h : ∀ (i : Nat) (e : E), sl'[i]? = some (some e) → sl[i]? = some (some e)) : St F O0 H0 H om σ sl' O ps :=
  ⟨s.en, s.fo, s.oo, s.ff, s.al, s.len, s.own, s.inj, s.pa, s.dl, fun i e q => s.slots i e (h i e q), by rw [hl]; exact s.ln⟩
/-- a new list of the def's own -/
theorem St.newOwn (s : St F O0 H0 H om σ sl O ps) {p : Addr} {vs : List V} {ds : List D} (h : H p = none) (r : RlA O H vs ds) :
    St F O0 H0 (upd H p (.lst vs)) (om ++ [some ds]) σ sl (p :: O) (ps ++ [p]) ∧ Go O ps H (p :: O) (ps ++ [p]) (upd H p (.lst vs)) ∧ RE F (p :: O) (ps ++ [p]) (upd H p (.lst vs)) (.ref p) (.o om.length) := by
  have k : ∀ b o, H b = some o → upd H p (.lst vs) b = some o := fun b u e => by
    rw [upd_ne (ne_of_none e h)]
    exact e
  have x : Ext O H (p :: O) (upd H p (.lst vs)) := ⟨fun b o _ e => k b o e, fun q hq => by
    rcases List.mem_cons.mp hq with z | z
    · rw [z]
      exact .inr h
    · exact .inl z⟩
  have hp0 : H0 p = none := by
    cases e : H0 p with
    | none => rfl
    | some o =>
      by_cases hF : p ∈ F
      · exact absurd (s.oo _ (s.ff _ hF).1) (s.nin h)
      · rw [s.en p o hF e] at h
        cases h
  have pn : ∀ k : Nat, ps[k]? ≠ some p := fun k e => s.pa k p e h
  have g : Go O ps H (p :: O) (ps ++ [p]) (upd H p (.lst vs)) := ⟨x, fun k q e => by
    have hk : k < ps.length := (List.getElem?_eq_some_iff.mp e).1
    rw [List.getElem?_append_left hk]
    exact e⟩
  have at_ : ∀ (k : Nat) (q : Addr), (ps ++ [p])[k]? = some q → ps[k]? = some q ∨ (k = ps.length ∧ q = p) := fun k q e => by
    by_cases hk : k < ps.length
    · rw [List.getElem?_append_left hk] at e
      exact .inl e
    · rw [List.getElem?_append_right (by omega)] at e
      have z : k - ps.length = 0 := by
        cases c : k - ps.length with
        | zero => rfl
        | succ j =>
          rw [c] at e
          simp at e
      rw [z] at e
      exact .inr ⟨by omega, (Option.some.inj (by simpa using e)).symm⟩
  refine ⟨⟨fun b o hb e => k _ _ (s.en b o hb e), fun a ha => ?_, fun a ha => List.mem_cons_of_mem _ (s.oo a ha), s.ff, fun a ha => ?_, by simp [s.len], fun i es e => ?_, fun i j q e1 e2 => ?_, fun i q e => ?_, ?_, fun i f e => ?_, s.ln⟩, g, p, rfl, ?_⟩
  · rcases List.mem_cons.mp ha with z | z
    · rw [z]
      exact .inr hp0
    · exact s.fo a z
  · rcases List.mem_cons.mp ha with z | z
    · rw [z]
      exact ⟨vs, upd_same⟩
    · obtain ⟨xs, e⟩ := s.al a z
      exact ⟨xs, k _ _ e⟩
  · by_cases hi : i < om.length
    · rw [List.getElem?_append_left hi] at e
      obtain ⟨q, ws, h1, h2, h3, h4, h5⟩ := s.own i es e
      exact ⟨q, ws, g.pre i q h1, ⟨List.mem_cons_of_mem _ h2.1, h2.2⟩, h3, k _ _ h4, h5.ext x⟩
    · rw [List.getElem?_append_right (by omega)] at e
      have z : i - om.length = 0 := by
        cases c : i - om.length with
        | zero => rfl
        | succ j =>
          rw [c] at e
          simp at e
      rw [z] at e
      have e' : ds = es := by simpa using e
      subst e'
      have ei : i = ps.length := by rw [s.len]; omega
      refine ⟨p, vs, by rw [ei]; simp, ⟨List.mem_cons_self .., fun z => s.nin h (s.oo _ z)⟩, hp0, upd_same, r.ext x⟩
  · rcases at_ i q e1 with z1 | ⟨z1, z2⟩ <;> rcases at_ j q e2 with y1 | ⟨y1, y2⟩
    · exact s.inj i j q z1 y1
    · exact absurd (y2 ▸ z1) (pn i)
    · exact absurd (z2 ▸ y1) (pn j)
    · omega
  · rcases at_ i q e with z | ⟨_, z⟩
    · intro y
      cases c : H q with
      | none => exact s.pa i q z c
      | some o =>
        rw [k _ _ c] at y
        cases y
    · rw [z, upd_same]
      exact fun y => nomatch y
  · rcases s.dl with e | ⟨h', a, st, ns, h1, h2, h3, h4, h5⟩
    · exact .inl e
    · exact .inr ⟨h', a, st, ns, h1, h2, k _ _ h3, k _ _ h4, h5⟩
  · obtain ⟨v, h1, h2⟩ := s.slots i f e
    exact ⟨v, h1, h2.go g⟩
  · rw [← s.len]
    simp
/-- the last own list becomes data -/
theorem St.freeze {ds : List D} (s : St F O0 H0 H (om ++ [some ds]) σ sl O ps) (hs : ∀ (i k : Nat), sl[i]? = some (some (.o k)) → k < om.length) {p : Addr} (hp : ps[om.length]? = some p) :
    St F O0 H0 H om σ sl (O.filter fun a => decide (a ≠ p)) (ps.take om.length) ∧ Ext O H (O.filter fun a => decide (a ≠ p)) H ∧ Rl (O.filter fun a => decide (a ≠ p)) H (.ref p) (.lst ds) := by
  have hf : ∀ {a : Addr}, a ∈ (O.filter fun a => decide (a ≠ p)) ↔ a ∈ O ∧ a ≠ p := fun {a} => by simp [List.mem_filter]
  have x : Ext O H (O.filter fun a => decide (a ≠ p)) H := ⟨fun _ _ _ h => h, fun a ha => .inl (hf.mp ha).1⟩
  obtain ⟨q, vs, e1, e2, e3, e4, e5⟩ := s.own om.length ds (by simp)
  have eq : q = p := Option.some.inj (e1.symm.trans hp)
  subst eq
  have tk : ∀ (k : Nat) (r : Addr), (ps.take om.length)[k]? = some r → k < om.length ∧ ps[k]? = some r := fun k r h => by
    by_cases hk : k < om.length
    · rw [List.getElem?_take_of_lt hk] at h
      exact ⟨hk, h⟩
    · rw [List.getElem?_eq_none (by rw [List.length_take]; omega)] at h
      cases h
  have kt : ∀ (k : Nat) (r : Addr), k < om.length → ps[k]? = some r → (ps.take om.length)[k]? = some r := fun k r hk h => by
    rw [List.getElem?_take_of_lt hk]
    exact h
  refine ⟨⟨s.en, fun a ha => s.fo a (hf.mp ha).1, fun a ha => hf.mpr ⟨s.oo a ha, fun z => e2.2 (z ▸ ha)⟩, s.ff, fun a ha => s.al a (hf.mp ha).1, ?_, fun k es h => ?_, fun j k r h1 h2 => s.inj j k r (tk j r h1).2 (tk k r h2).2, fun k r h => s.pa k r (tk k r h).2, s.dl, fun i e h => ?_, s.ln⟩, x, ?_⟩
  · rw [List.length_take, s.len]
    simp
  · have hk : k < om.length := (List.getElem?_eq_some_iff.mp h).1
    obtain ⟨r, ws, g1, g2, g3, g4, g5⟩ := s.own k es (by rw [List.getElem?_append_left hk]; exact h)
    refine ⟨r, ws, kt k r hk g1, ⟨hf.mpr ⟨g2.1, fun z => ?_⟩, g2.2⟩, g3, g4, g5.ext x⟩
    have := s.inj k om.length q (z ▸ g1) hp
    omega
  · obtain ⟨v, h1, h2⟩ := s.slots i e h
    refine ⟨v, h1, ?_⟩
    cases e with
    | v d => exact Rl.ext x h2
    | o k =>
      obtain ⟨r, e, h3⟩ := h2
      exact ⟨r, e, kt k r (hs i k h) h3⟩
    | l => exact h2
  · exact Rl.lst (fun z => (hf.mp z).2 rfl) e4 (e5.ext x)
/-- an own list is changed -/
theorem St.write (s : St F O0 H0 H om σ sl O ps) {k : Nat} {ds ds' : List D} {p : Addr} {vs' : List V} (ho : om[k]? = some (some ds)) (hp : ps[k]? = some p) (r : RlA O H vs' ds') :
    St F O0 H0 (upd H p (.lst vs')) (om.set k (some ds')) σ sl O ps ∧ Go O ps H O ps (upd H p (.lst vs')) := by
  obtain ⟨p', vs, h1, h2, h3, h4, h5⟩ := s.own k ds ho
  have ep : p' = p := Option.some.inj (h1.symm.trans hp)
  subst ep
  have x : Ext O H O (upd H p' (.lst vs')) := ⟨fun b o hb e => by
    rw [upd_ne (fun z => by
      rw [z] at hb
      exact hb h2.1)]
    exact e, fun _ h => .inl h⟩
  have g : Go O ps H O ps (upd H p' (.lst vs')) := ⟨x, fun _ _ e => e⟩
  have hk : k < om.length := (List.getElem?_eq_some_iff.mp ho).1
  have nF : p' ∉ F := fun z => (s.ff _ z).2 h3
  refine ⟨⟨fun b o hb e => ?_, s.fo, s.oo, s.ff, fun a ha => ?_, by simp [s.len], fun i es e => ?_, s.inj, fun i q e => ?_, ?_, fun i f e => ?_, s.ln⟩, g⟩
  · rw [upd_ne (fun z => by
      rw [z, h3] at e
      cases e)]
    exact s.en b o hb e
  · by_cases c : a = p'
    · rw [c]
      exact ⟨vs', upd_same⟩
    · obtain ⟨xs, e⟩ := s.al a ha
      exact ⟨xs, by rw [upd_ne c]; exact e⟩
  · by_cases c : k = i
    · subst c
      rw [List.getElem?_set_self hk] at e
      have e' : ds' = es := by simpa using e
      subst e'
      exact ⟨p', vs', hp, h2, h3, upd_same, r.ext x⟩
    · rw [List.getElem?_set_ne c] at e
      obtain ⟨q, ws, g1, g2, g3, g4, g5⟩ := s.own i es e
      have nq : q ≠ p' := fun z => c (s.inj k i p' hp (z ▸ g1))
      exact ⟨q, ws, g1, g2, g3, by rw [upd_ne nq]; exact g4, g5.ext x⟩
  · by_cases c : q = p'
    · rw [c, upd_same]
      exact fun y => nomatch y
    · rw [upd_ne c]
      exact s.pa i q e
  · rcases s.dl with e | ⟨h', a, st, ns, e1, e2, e3, e4, e5⟩
    · exact .inl e
    · refine .inr ⟨h', a, st, ns, e1, e2, ?_, ?_, e5⟩
      · rw [upd_ne (fun z => nF (by rw [e1, ← z]; simp))]
        exact e3
      · rw [upd_ne (fun z => nF (by rw [e1, ← z]; simp))]
        exact e4
  · obtain ⟨v, e1, e2⟩ := s.slots i f e
    exact ⟨v, e1, e2.go g⟩
end
end DL
set_option Elab.async false
set_option linter.all false
set_option maxRecDepth 100000
set_option maxHeartbeats 4000000
namespace DL
open PySem PySem.Spec PyProof.Rows L2
/-! ### what is asked of a piece: P holds of what it gives -/
structure Po where
  n : Om → Sl → Prop := fun _ _ => False
  r : E → Om → Prop := fun _ _ => False
  b : Om → Sl → Prop := fun _ _ => False
  c : Om → Sl → Prop := fun _ _ => False
  x : Addr → Str → D → Prop := fun _ _ _ => False
/-- the fixed part: the deal's lists, the lists of others, the entry's heap, the wish of exceptions -/
structure Cn where
  F : List Addr
  O0 : List Addr
  H0 : Hp
  K : PySem.W.Frag
abbrev RA (F O ps : List Addr) (H : Hp) : List V → List E → Prop := Paired (RE F O ps H)
def EV (c : Cn) (te : TE) (om : Om) (sl : Sl) (P : E → Om → Prop) : Prop := ∀ σ H O ps, St c.F c.O0 c.H0 H om σ sl O ps → ∀ Q : VK,
  (∀ v H' O' ps' e om', Go O ps H O' ps' H' → St c.F c.O0 c.H0 H' om' σ sl O' ps' → RE c.F O' ps' H' v e → P e om' → Q v H') → te σ H Q
def ET (c : Cn) (tt : TT) (om : Om) (sl : Sl) (P : Bool → Om → Prop) : Prop := ∀ σ H O ps, St c.F c.O0 c.H0 H om σ sl O ps → ∀ Q : Bool → Hp → Prop,
  (∀ b H' O' ps' om', Go O ps H O' ps' H' → St c.F c.O0 c.H0 H' om' σ sl O' ps' → P b om' → Q b H') → tt σ H Q
def EA (c : Cn) (ta : TA) (om : Om) (sl : Sl) (P : List E → Om → Prop) : Prop := ∀ σ H O ps, St c.F c.O0 c.H0 H om σ sl O ps → ∀ Q : List V → Hp → Prop,
  (∀ vs H' O' ps' es om', Go O ps H O' ps' H' → St c.F c.O0 c.H0 H' om' σ sl O' ps' → RA c.F O' ps' H' vs es → P es om' → Q vs H') → ta σ H Q
/-- by values: operators, calls -/
def OV (c : Cn) (r : R2) (om : Om) (sl : Sl) (x y : E) (P : E → Om → Prop) : Prop := ∀ σ H O ps, St c.F c.O0 c.H0 H om σ sl O ps → ∀ v w, RE c.F O ps H v x → RE c.F O ps H w y → ∀ Q : VK,
  (∀ v H' O' ps' e om', Go O ps H O' ps' H' → St c.F c.O0 c.H0 H' om' σ sl O' ps' → RE c.F O' ps' H' v e → P e om' → Q v H') → r v w H Q
def UV (c : Cn) (r : V → Hp → VK → Prop) (om : Om) (sl : Sl) (x : E) (P : E → Om → Prop) : Prop := ∀ σ H O ps, St c.F c.O0 c.H0 H om σ sl O ps → ∀ v, RE c.F O ps H v x → ∀ Q : VK,
  (∀ v H' O' ps' e om', Go O ps H O' ps' H' → St c.F c.O0 c.H0 H' om' σ sl O' ps' → RE c.F O' ps' H' v e → P e om' → Q v H') → r v H Q
def CV (c : Cn) (r : List V → Hp → VK → Prop) (om : Om) (sl : Sl) (xs : List E) (P : E → Om → Prop) : Prop := ∀ σ H O ps, St c.F c.O0 c.H0 H om σ sl O ps → ∀ vs, RA c.F O ps H vs xs → ∀ Q : VK,
  (∀ v H' O' ps' e om', Go O ps H O' ps' H' → St c.F c.O0 c.H0 H' om' σ sl O' ps' → RE c.F O' ps' H' v e → P e om' → Q v H') → r vs H Q
def MV (c : Cn) (r : V → List V → Hp → VK → Prop) (om : Om) (sl : Sl) (x : E) (xs : List E) (P : E → Om → Prop) : Prop := ∀ σ H O ps, St c.F c.O0 c.H0 H om σ sl O ps → ∀ v vs, RE c.F O ps H v x → RA c.F O ps H vs xs → ∀ Q : VK,
  (∀ v H' O' ps' e om', Go O ps H O' ps' H' → St c.F c.O0 c.H0 H' om' σ sl O' ps' → RE c.F O' ps' H' v e → P e om' → Q v H') → r v vs H Q
/-- a statement: the wish Ex of exceptions holds of what P.x says -/
def SV (c : Cn) (Ex : XK) (t : TS) (om : Om) (sl : Sl) (P : Po) : Prop := ∀ σ H O ps (Dn : Ends), St c.F c.O0 c.H0 H om σ sl O ps →
  (∀ σ' H' O' ps' om' sl', Go O ps H O' ps' H' → St c.F c.O0 c.H0 H' om' σ' sl' O' ps' → P.n om' sl' → Dn.nx σ' H') →
  (∀ v σ' sl' H' O' ps' e om', Go O ps H O' ps' H' → St c.F c.O0 c.H0 H' om' σ' sl' O' ps' → RE c.F O' ps' H' v e → P.r e om' → Dn.rt v H') →
  (∀ σ' H' O' ps' om' sl', Go O ps H O' ps' H' → St c.F c.O0 c.H0 H' om' σ' sl' O' ps' → P.b om' sl' → Dn.bk σ' H') →
  (∀ σ' H' O' ps' om' sl', Go O ps H O' ps' H' → St c.F c.O0 c.H0 H' om' σ' sl' O' ps' → P.c om' sl' → Dn.ct σ' H') →
  (∀ C f x d v H1 H2 O' ps', Go O ps H O' ps' H1 → ((∃ om' σ' sl', St c.F c.O0 c.H0 H1 om' σ' sl' O' ps') ∧ P.x C f x) → Rl O' H1 v x → H1 d = none → H2 = upd H1 d (.xd [(f, v)]) → Ex (.ref C) (some d) H2) → t Dn σ H
section
variable {c : Cn} {Ex : XK} {om : Om} {sl : Sl} {P : E → Om → Prop} {PB : Bool → Om → Prop} {PA : List E → Om → Prop} {ta tb te tc' : TE} {tt tu : TT} {tr : TA} {x y : E}

/-! ### expressions -/
theorem ev_var {i : Nat} {e : E} (h : sl[i]? = some (some e)) (p : P e om) : EV c (tVar i) om sl P := fun σ H O ps s Q k => by
  obtain ⟨v, h1, h2⟩ := s.slots i e h
  exact ⟨v, h1, k v H O ps e om (Go.refl ..) s h2 p⟩
theorem ev_int {i : Int} (p : P (.v (.int i)) om) : EV c (tC (.int i)) om sl P := fun σ H O ps s Q k => k _ H O ps (.v (.int i)) om (Go.refl ..) s (Rl.int i) p
theorem ev_str {i : Str} (p : P (.v (.str i)) om) : EV c (tC (.str i)) om sl P := fun σ H O ps s Q k => k _ H O ps (.v (.str i)) om (Go.refl ..) s (Rl.str i) p
theorem ev_bl {i : Bool} (p : P (.v (.bl i)) om) : EV c (tC (.bl i)) om sl P := fun σ H O ps s Q k => k _ H O ps (.v (.bl i)) om (Go.refl ..) s (Rl.bl i) p
theorem ev_non (p : P (.v .non) om) : EV c (tC .non) om sl P := fun σ H O ps s Q k => k _ H O ps (.v .non) om (Go.refl ..) s Rl.non p
theorem ev_op {r : R2} (h : EV c ta om sl fun x om1 => EV c tb om1 sl fun y om2 => OV c r om2 sl x y P) : EV c (tOp r ta tb) om sl P := fun σ H O ps s Q k =>
  h σ H O ps s _ fun v H1 O1 ps1 e om1 g1 s1 r1 h1 => h1 σ H1 O1 ps1 s1 _ fun w H2 O2 ps2 f om2 g2 s2 r2 h2 => h2 σ H2 O2 ps2 s2 v w (r1.go g2) r2 Q fun z H3 O3 ps3 e3 om3 g3 s3 r3 p => k z H3 O3 ps3 e3 om3 ((g1.trans g2).trans g3) s3 r3 p
theorem ev_un {r : V → Hp → VK → Prop} (h : EV c ta om sl fun x om1 => UV c r om1 sl x P) : EV c (tUn r ta) om sl P := fun σ H O ps s Q k =>
  h σ H O ps s _ fun v H1 O1 ps1 e om1 g1 s1 r1 h1 => h1 σ H1 O1 ps1 s1 v r1 Q fun z H3 O3 ps3 e3 om3 g3 s3 r3 p => k z H3 O3 ps3 e3 om3 (g1.trans g3) s3 r3 p
theorem ea_nil (p : PA [] om) : EA c tNil om sl PA := fun σ H O ps s Q k => k [] H O ps [] om (Go.refl ..) s .nil p
theorem ra_go {F O ps O' ps' : List Addr} {H H' : Hp} (g : Go O ps H O' ps' H') : ∀ {vs : List V} {es : List E}, RA F O ps H vs es → RA F O' ps' H' vs es
  | _, _, .nil => .nil
  | _, _, .cons h t => .cons (h.go g) (ra_go g t)
theorem ea_cons (h : EV c ta om sl fun x om1 => EA c tr om1 sl fun xs om2 => PA (x :: xs) om2) : EA c (tCons ta tr) om sl PA := fun σ H O ps s Q k =>
  h σ H O ps s _ fun v H1 O1 ps1 e om1 g1 s1 r1 h1 => h1 σ H1 O1 ps1 s1 _ fun vs H2 O2 ps2 es om2 g2 s2 r2 p => k (v :: vs) H2 O2 ps2 _ om2 (g1.trans g2) s2 (.cons (r1.go g2) r2) p
theorem ev_cb {r : List V → Hp → VK → Prop} (h : EA c tr om sl fun xs om1 => CV c r om1 sl xs P) : EV c (tCB r tr) om sl P := fun σ H O ps s Q k =>
  h σ H O ps s _ fun vs H1 O1 ps1 es om1 g1 s1 r1 h1 => h1 σ H1 O1 ps1 s1 vs r1 Q fun z H3 O3 ps3 e3 om3 g3 s3 r3 p => k z H3 O3 ps3 e3 om3 (g1.trans g3) s3 r3 p
theorem ev_call {sp : Sp} {Ew : XK} (h : EA c tr om sl fun xs om1 => CV c (fun vs H Q => sp vs H Q Ew) om1 sl xs P) : EV c (tCall sp [] Ew tr) om sl P := fun σ H O ps s Q k =>
  h σ H O ps s _ fun vs H1 O1 ps1 es om1 g1 s1 r1 h1 => by
    show sp (vs ++ []) H1 Q Ew
    rw [List.append_nil]
    exact h1 σ H1 O1 ps1 s1 vs r1 Q fun z H3 O3 ps3 e3 om3 g3 s3 r3 p => k z H3 O3 ps3 e3 om3 (g1.trans g3) s3 r3 p
theorem ev_if (h : ET c tt om sl fun b om1 => (b = true → EV c ta om1 sl P) ∧ (b = false → EV c tb om1 sl P)) : EV c (tIf tt ta tb) om sl P := fun σ H O ps s Q k =>
  h σ H O ps s _ fun b H1 O1 ps1 om1 g1 s1 h1 => by
    cases b with
    | true =>
      show ta σ H1 Q
      exact h1.1 rfl σ H1 O1 ps1 s1 Q fun z H3 O3 ps3 e3 om3 g3 s3 r3 p => k z H3 O3 ps3 e3 om3 (g1.trans g3) s3 r3 p
    | false =>
      show tb σ H1 Q
      exact h1.2 rfl σ H1 O1 ps1 s1 Q fun z H3 O3 ps3 e3 om3 g3 s3 r3 p => k z H3 O3 ps3 e3 om3 (g1.trans g3) s3 r3 p
theorem ev_mono {P' : E → Om → Prop} (h : EV c te om sl P) (i : ∀ e om', P e om' → P' e om') : EV c te om sl P' := fun σ H O ps s Q k => h σ H O ps s Q fun v H' O' ps' e om' g s' r p => k v H' O' ps' e om' g s' r (i e om' p)
/-! tests -/
theorem et_test (h : EV c te om sl fun e om1 => ∃ b, e = .v (.bl b) ∧ PB b om1) : ET c (tTest te) om sl PB := fun σ H O ps s Q k =>
  h σ H O ps s _ fun v H1 O1 ps1 e om1 g1 s1 r1 ⟨b, he, p⟩ => by
    subst he
    cases r1
    exact ⟨b, rfl, k b H1 O1 ps1 om1 g1 s1 p⟩
theorem et_B (h : EV c te om sl fun e om1 => ∃ b, e = .v (.bl b) ∧ PB b om1) : ET c (tB te) om sl PB := fun σ H O ps s Q k =>
  h σ H O ps s _ fun v H1 O1 ps1 e om1 g1 s1 r1 ⟨b, he, p⟩ => by
    subst he
    cases r1
    exact ⟨b, rfl, k b H1 O1 ps1 om1 g1 s1 p⟩
theorem et_and (h : ET c tt om sl fun b om1 => (b = true → ET c tu om1 sl PB) ∧ (b = false → PB false om1)) : ET c (tAnd tt tu) om sl PB := fun σ H O ps s Q k =>
  h σ H O ps s _ fun b H1 O1 ps1 om1 g1 s1 h1 => by
    cases b with
    | true =>
      show tu σ H1 Q
      exact h1.1 rfl σ H1 O1 ps1 s1 Q fun b H3 O3 ps3 om3 g3 s3 p => k b H3 O3 ps3 om3 (g1.trans g3) s3 p
    | false =>
      show Q false H1
      exact k false H1 O1 ps1 om1 g1 s1 (h1.2 rfl)
theorem et_or (h : ET c tt om sl fun b om1 => (b = false → ET c tu om1 sl PB) ∧ (b = true → PB true om1)) : ET c (tOr tt tu) om sl PB := fun σ H O ps s Q k =>
  h σ H O ps s _ fun b H1 O1 ps1 om1 g1 s1 h1 => by
    cases b with
    | false =>
      show tu σ H1 Q
      exact h1.1 rfl σ H1 O1 ps1 s1 Q fun b H3 O3 ps3 om3 g3 s3 p => k b H3 O3 ps3 om3 (g1.trans g3) s3 p
    | true =>
      show Q true H1
      exact k true H1 O1 ps1 om1 g1 s1 (h1.2 rfl)
theorem et_not (h : ET c tt om sl fun b om1 => PB (!b) om1) : ET c (tNot tt) om sl PB := fun σ H O ps s Q k =>
  h σ H O ps s _ fun b H1 O1 ps1 om1 g1 s1 p => k (!b) H1 O1 ps1 om1 g1 s1 p
/-! and, or, not as values of truth -/
theorem ev_andV (h : EV c ta om sl fun e om1 => ∃ b, e = .v (.bl b) ∧ (b = true → EV c tb om1 sl P) ∧ (b = false → P (.v (.bl false)) om1)) : EV c (tAndV ta tb) om sl P := fun σ H O ps s Q k =>
  h σ H O ps s _ fun v H1 O1 ps1 e om1 g1 s1 r1 ⟨b, he, h1, h2⟩ => by
    subst he
    cases r1
    refine ⟨b, rfl, ?_⟩
    cases b with
    | true =>
      show tb σ H1 Q
      exact h1 rfl σ H1 O1 ps1 s1 Q fun z H3 O3 ps3 e3 om3 g3 s3 r3 p => k z H3 O3 ps3 e3 om3 (g1.trans g3) s3 r3 p
    | false =>
      show Q (.bl false) H1
      exact k _ H1 O1 ps1 (.v (.bl false)) om1 g1 s1 (Rl.bl false) (h2 rfl)
theorem ev_orV (h : EV c ta om sl fun e om1 => ∃ b, e = .v (.bl b) ∧ (b = false → EV c tb om1 sl P) ∧ (b = true → P (.v (.bl true)) om1)) : EV c (tOrV ta tb) om sl P := fun σ H O ps s Q k =>
  h σ H O ps s _ fun v H1 O1 ps1 e om1 g1 s1 r1 ⟨b, he, h1, h2⟩ => by
    subst he
    cases r1
    refine ⟨b, rfl, ?_⟩
    cases b with
    | false =>
      show tb σ H1 Q
      exact h1 rfl σ H1 O1 ps1 s1 Q fun z H3 O3 ps3 e3 om3 g3 s3 r3 p => k z H3 O3 ps3 e3 om3 (g1.trans g3) s3 r3 p
    | true =>
      show Q (.bl true) H1
      exact k _ H1 O1 ps1 (.v (.bl true)) om1 g1 s1 (Rl.bl true) (h2 rfl)
theorem ev_notV (h : EV c ta om sl fun e om1 => ∃ b, e = .v (.bl b) ∧ P (.v (.bl (!b))) om1) : EV c (tNotV ta) om sl P := fun σ H O ps s Q k =>
  h σ H O ps s _ fun v H1 O1 ps1 e om1 g1 s1 r1 ⟨b, he, p⟩ => by
    subst he
    cases r1
    exact ⟨b, rfl, k _ H1 O1 ps1 (.v (.bl (!b))) om1 g1 s1 (Rl.bl _) p⟩
/-! displays -/
/-- all of them data -/
theorem ra_data {F O ps : List Addr} {H : Hp} : ∀ {vs : List V} {ds : List D}, RA F O ps H vs (ds.map E.v) → RlA O H vs ds
  | _, [], .nil => .nil
  | _, d :: ds, .cons h t => .cons h (ra_data (ds := ds) t)
def unv : List E → Option (List D)
  | [] => some []
  | .v d :: r => match unv r with
    | some ds => some (d :: ds)
    | none => none
  | _ :: _ => none
theorem unv_eq : ∀ {xs : List E} {ds : List D}, unv xs = some ds → xs = ds.map E.v
  | [], ds, h => by
    cases h
    rfl
  | .v d :: r, ds, h => by
    unfold unv at h
    split at h
    · rename_i es e
      cases h
      rw [unv_eq e]
      rfl
    · cases h
  | .o _ :: _, _, h => by cases h
  | .l :: _, _, h => by cases h
theorem ev_tup (h : EA c tr om sl fun xs om1 => ∃ ds, unv xs = some ds ∧ ds.length ≤ 1000 ∧ P (.v (.tup ds)) om1) : EV c (tTup tr) om sl P := fun σ H O ps s Q k =>
  h σ H O ps s _ fun vs H1 O1 ps1 es om1 g1 s1 r1 ⟨ds, he, hl, p⟩ => by
    have he := unv_eq he
    subst he
    have ra := ra_data r1
    refine ⟨by rw [ra.len]; exact Nat.le_of_lt (small1000 hl), fun q hq => ?_⟩
    obtain ⟨s2, g2⟩ := s1.new (o := .tup vs) hq
    exact k _ _ O1 ps1 (.v (.tup ds)) om1 (g1.trans g2) s2 (Rl.tup (s1.nin hq) upd_same (ra.ext g2.ex)) p
theorem ev_lst (h : EA c tr om sl fun xs om1 => ∃ ds, unv xs = some ds ∧ ds.length ≤ 1000 ∧ P (.v (.lst ds)) om1) : EV c (tLst tr) om sl P := fun σ H O ps s Q k =>
  h σ H O ps s _ fun vs H1 O1 ps1 es om1 g1 s1 r1 ⟨ds, he, hl, p⟩ => by
    have he := unv_eq he
    subst he
    have ra := ra_data r1
    refine ⟨by rw [ra.len]; exact Nat.le_of_lt (small1000 hl), fun q hq => ?_⟩
    obtain ⟨s2, g2⟩ := s1.new (o := .lst vs) hq
    exact k _ _ O1 ps1 (.v (.lst ds)) om1 (g1.trans g2) s2 (Rl.lst (s1.nin hq) upd_same (ra.ext g2.ex)) p
/-- a display that is the def's own from now on -/
theorem ev_lstO (h : EA c tr om sl fun xs om1 => ∃ ds, unv xs = some ds ∧ ds.length ≤ 1000 ∧ P (.o om1.length) (om1 ++ [some ds])) : EV c (tLst tr) om sl P := fun σ H O ps s Q k =>
  h σ H O ps s _ fun vs H1 O1 ps1 es om1 g1 s1 r1 ⟨ds, he, hl, p⟩ => by
    have he := unv_eq he
    subst he
    have ra := ra_data r1
    refine ⟨by rw [ra.len]; exact Nat.le_of_lt (small1000 hl), fun q hq => ?_⟩
    obtain ⟨s2, g2, r2⟩ := s1.newOwn hq ra
    exact k _ _ _ _ _ _ (g1.trans g2) s2 r2 p
/-- an attribute of an object -/
theorem ev_fld {f : Str} (h : EV c ta om sl fun e om1 => ∃ C fs d, e = .v (.obj C fs) ∧ Cls c.K C ∧ NoAttr c.K C f ∧ fs.lookup f = some d ∧ P (.v d) om1) : EV c (tFld c.K ta f) om sl P := fun σ H O ps s Q k =>
  h σ H O ps s _ fun v H1 O1 ps1 e om1 g1 s1 r1 ⟨C, fs, d, he, hc, hn, hl, p⟩ => by
    subst he
    cases r1 with
    | obj ha hr hx =>
      obtain ⟨w, h1, h2⟩ := RlF.lookup hx hl
      exact ⟨_, C, _, _, w, rfl, hr, hc, hn, h1, k w H1 O1 ps1 (.v d) om1 g1 s1 h2 p⟩

/-! ### statements -/
variable {Pq : Po} {t u : TS}
theorem sv_seq (h : SV c Ex t om sl { Pq with n := fun om1 sl1 => SV c Ex u om1 sl1 Pq }) : SV c Ex (tSeq t u) om sl Pq := fun σ H O ps Dn s kn kr kb kc kx =>
  h σ H O ps { Dn with nx := u Dn } s (fun σ1 H1 O1 ps1 om1 sl1 g1 s1 h1 => h1 σ1 H1 O1 ps1 Dn s1 (fun σ2 H2 O2 ps2 om2 sl2 g2 s2 p => kn σ2 H2 O2 ps2 om2 sl2 (g1.trans g2) s2 p)
    (fun v σ2 sl2 H2 O2 ps2 e om2 g2 s2 r p => kr v σ2 sl2 H2 O2 ps2 e om2 (g1.trans g2) s2 r p) (fun σ2 H2 O2 ps2 om2 sl2 g2 s2 p => kb σ2 H2 O2 ps2 om2 sl2 (g1.trans g2) s2 p)
    (fun σ2 H2 O2 ps2 om2 sl2 g2 s2 p => kc σ2 H2 O2 ps2 om2 sl2 (g1.trans g2) s2 p) fun C f x d v H2 H3 O2 ps2 g2 p r hd e => kx C f x d v H2 H3 O2 ps2 (g1.trans g2) p r hd e) kr kb kc kx
theorem sv_next (p : Pq.n om sl) : SV c Ex tNext om sl Pq := fun σ H O ps Dn s kn kr kb kc kx => kn σ H O ps om sl (Go.refl ..) s p
theorem sv_never (h : False) : SV c Ex t om sl Pq := h.elim
theorem sv_set {i : Nat} (h : EV c te om sl fun e om1 => i < sl.length ∧ Pq.n om1 (sl.set i (some e))) : SV c Ex (tAsg te (gName i)) om sl Pq := fun σ H O ps Dn s kn kr kb kc kx =>
  h σ H O ps s _ fun v H1 O1 ps1 e om1 g1 s1 r1 ⟨hi, p⟩ => kn _ H1 O1 ps1 om1 _ g1 (s1.set hi r1) p
theorem sv_drop (h : EV c te om sl fun _ om1 => Pq.n om1 sl) : SV c Ex (tDrop te) om sl Pq := fun σ H O ps Dn s kn kr kb kc kx =>
  h σ H O ps s _ fun v H1 O1 ps1 e om1 g1 s1 r1 p => kn _ H1 O1 ps1 om1 _ g1 s1 p
theorem sv_ret (h : EV c te om sl Pq.r) : SV c Ex (tRet te) om sl Pq := fun σ H O ps Dn s kn kr kb kc kx =>
  h σ H O ps s _ fun v H1 O1 ps1 e om1 g1 s1 r1 p => kr v σ sl H1 O1 ps1 e om1 g1 s1 r1 p
theorem sv_if (h : ET c tt om sl fun b om1 => (b = true → SV c Ex t om1 sl Pq) ∧ (b = false → SV c Ex u om1 sl Pq)) : SV c Ex (tIfS tt t u) om sl Pq := fun σ H O ps Dn s kn kr kb kc kx =>
  h σ H O ps s _ fun b H1 O1 ps1 om1 g1 s1 h1 => by
    have go : ∀ {w : TS}, SV c Ex w om1 sl Pq → w Dn σ H1 := fun {w} hw => hw σ H1 O1 ps1 Dn s1 (fun σ2 H2 O2 ps2 om2 sl2 g2 s2 p => kn σ2 H2 O2 ps2 om2 sl2 (g1.trans g2) s2 p)
      (fun v σ2 sl2 H2 O2 ps2 e om2 g2 s2 r p => kr v σ2 sl2 H2 O2 ps2 e om2 (g1.trans g2) s2 r p) (fun σ2 H2 O2 ps2 om2 sl2 g2 s2 p => kb σ2 H2 O2 ps2 om2 sl2 (g1.trans g2) s2 p)
      (fun σ2 H2 O2 ps2 om2 sl2 g2 s2 p => kc σ2 H2 O2 ps2 om2 sl2 (g1.trans g2) s2 p) fun C f x d v H2 H3 O2 ps2 g2 p r hd e => kx C f x d v H2 H3 O2 ps2 (g1.trans g2) p r hd e
    cases b with
    | true =>
      show t Dn σ H1
      exact go (h1.1 rfl)
    | false =>
      show u Dn σ H1
      exact go (h1.2 rfl)
theorem sv_mono {P' : Po} (h : SV c Ex t om sl Pq) (hn : ∀ om' sl', Pq.n om' sl' → P'.n om' sl') (hr : ∀ e om', Pq.r e om' → P'.r e om') (hb : ∀ om' sl', Pq.b om' sl' → P'.b om' sl') (hc : ∀ om' sl', Pq.c om' sl' → P'.c om' sl') (hx : ∀ C f x, Pq.x C f x → P'.x C f x) : SV c Ex t om sl P' :=
  fun σ H O ps Dn s kn kr kb kc kx => h σ H O ps Dn s (fun σ2 H2 O2 ps2 om2 sl2 g2 s2 p => kn σ2 H2 O2 ps2 om2 sl2 g2 s2 (hn _ _ p)) (fun v σ2 sl2 H2 O2 ps2 e om2 g2 s2 r p => kr v σ2 sl2 H2 O2 ps2 e om2 g2 s2 r (hr _ _ p))
    (fun σ2 H2 O2 ps2 om2 sl2 g2 s2 p => kb σ2 H2 O2 ps2 om2 sl2 g2 s2 (hb _ _ p)) (fun σ2 H2 O2 ps2 om2 sl2 g2 s2 p => kc σ2 H2 O2 ps2 om2 sl2 g2 s2 (hc _ _ p)) fun C f x d v H2 H3 O2 ps2 g2 p r hd e => kx C f x d v H2 H3 O2 ps2 g2 ⟨p.1, hx _ _ _ p.2⟩ r hd e
theorem sv_brk (p : Pq.b om sl) : SV c Ex tBreak om sl Pq := fun σ H O ps Dn s kn kr kb kc kx => kb σ H O ps om sl (Go.refl ..) s p
theorem sv_cont (p : Pq.c om sl) : SV c Ex tCont om sl Pq := fun σ H O ps Dn s kn kr kb kc kx => kc σ H O ps om sl (Go.refl ..) s p
/-- an if without else of which both ways come to one end -/
theorem sv_cut {M : Om → Sl → Prop} (h : SV c Ex t om sl { Pq with n := M }) (hm : ∀ om' sl', M om' sl' → Pq.n om' sl') : SV c Ex t om sl Pq := sv_mono h hm (fun _ _ p => p) (fun _ _ p => p) (fun _ _ p => p) fun _ _ _ p => p
end
end DL
set_option Elab.async false
set_option linter.all false
set_option maxRecDepth 100000
set_option maxHeartbeats 4000000
namespace DL
open PySem PySem.Spec PyProof.Rows L2
/-! ### data as the library's -/
mutual
def D.py : D → PyData
  | .non => .none
  | .bl b => .bool b
  | .int i => .int i
  | .str x => .str x
  | .lst xs => .list (D.pyA xs)
  | .tup xs => .tuple (D.pyA xs)
  | .obj _ _ => .none
  | .raw _ => .none
  | .exc _ _ => .none
def D.pyA : List D → List PyData
  | [] => []
  | d :: ds => d.py :: D.pyA ds
end
mutual
def D.ok : D → Bool
  | .non => true
  | .bl _ => true
  | .int _ => true
  | .str _ => true
  | .lst xs => D.okA xs
  | .tup xs => D.okA xs
  | .obj _ _ => false
  | .raw _ => false
  | .exc _ _ => false
def D.okA : List D → Bool
  | [] => true
  | d :: ds => d.ok && D.okA ds
end
mutual
theorem Rl.dp {K : PySem.W.Frag} {O : List Addr} {H : Hp} : ∀ {v : V} {d : D}, Rl O H v d → d.ok = true → Dp K H v d.py
  | _, _, .non, _ => by unfold D.py; exact .non
  | _, _, .bl b, _ => by unfold D.py; exact .bl b
  | _, _, .int i, _ => by unfold D.py; exact .int i
  | _, _, .str x, _ => by unfold D.py; exact .str x
  | _, _, .raw v, h => by unfold D.ok at h; cases h
  | _, _, .obj _ _ _, h => by unfold D.ok at h; cases h
  | _, _, .exc0 _ _, h => by unfold D.ok at h; cases h
  | _, _, .exc1 _ _ _ _ _, h => by unfold D.ok at h; cases h
  | _, _, .lst ha hr hx, h => by
    unfold D.ok at h
    unfold D.py
    exact .lst (.inl (.inl hr)) (RlA.dp hx h)
  | _, _, .tup ha hr hx, h => by
    unfold D.ok at h
    unfold D.py
    exact .tup (.inl (.inl hr)) (RlA.dp hx h)
theorem RlA.dp {K : PySem.W.Frag} {O : List Addr} {H : Hp} : ∀ {vs : List V} {ds : List D}, RlA O H vs ds → D.okA ds = true → DpAll K H vs (D.pyA ds)
  | _, _, .nil, _ => by unfold D.pyA; exact .nil
  | _, _, .cons h t, e => by
    unfold D.okA at e
    have e' := Bool.and_eq_true_iff.mp e
    unfold D.pyA
    exact .cons (Rl.dp h e'.1) (RlA.dp t e'.2)
end
/-- a thing as data -/
def olst : Option (Option (List D)) → Option D
  | some (some ds) => some (.lst ds)
  | _ => none
def dat (om : Om) : E → Option D
  | .v d => some d
  | .o k => olst om[k]?
  | .l => none
theorem olst_some {x : Option (Option (List D))} {d : D} (h : olst x = some d) : ∃ ds, d = .lst ds ∧ x = some (some ds) := by
  cases x with
  | none => cases h
  | some y =>
    cases y with
    | none => cases h
    | some ds => exact ⟨ds, (Option.some.inj h).symm, rfl⟩
section
variable {c : Cn} {om : Om} {sl : Sl} {P : E → Om → Prop} {σ : L2.St} {H : Hp} {O ps : List Addr}
theorem dat_o {k : Nat} {ds : List D} (h : dat om (.o k) = some (.lst ds)) : om[k]? = some (some ds) := by
  obtain ⟨es, e, h'⟩ := olst_some (show olst om[k]? = some (.lst ds) from h)
  injection e with e
  rw [h', e]
/-- read as a list: by its items -/
theorem as_l (s : St c.F c.O0 c.H0 H om σ sl O ps) {v : V} {e : E} {ds : List D} (r : RE c.F O ps H v e) (h : dat om e = some (.lst ds)) : ∃ p vs, v = .ref p ∧ H p = some (.lst vs) ∧ RlA O H vs ds := by
  cases e with
  | v d =>
    have h' : d = .lst ds := Option.some.inj h
    subst h'
    cases r with
    | lst ha hr hx => exact ⟨_, _, rfl, hr, hx⟩
  | o k =>
    obtain ⟨p, rfl, hp⟩ := r
    obtain ⟨q, vs, h1, h2, h3, h4, h5⟩ := s.own k ds (dat_o h)
    have ep : q = p := Option.some.inj (h1.symm.trans hp)
    subst ep
    exact ⟨q, vs, rfl, h4, h5⟩
  | l => cases h
theorem as_t {v : V} {ds : List D} (r : Rl O H v (.tup ds)) : ∃ p vs, v = .ref p ∧ p ∉ O ∧ H p = some (.tup vs) ∧ RlA O H vs ds := by
  cases r with
  | tup ha hr hx => exact ⟨_, _, rfl, ha, hr, hx⟩
theorem sqL {K : PySem.W.Frag} {p : Addr} {vs : List V} (h : H p = some (.lst vs)) : SqL K H p vs := .inl (.inl h)
theorem sqT {K : PySem.W.Frag} {p : Addr} {vs : List V} (h : H p = some (.tup vs)) : SqT K H p vs := .inl (.inl h)
theorem as_dp {K : PySem.W.Frag} (s : St c.F c.O0 c.H0 H om σ sl O ps) {v : V} {e : E} {d : D} (r : RE c.F O ps H v e) (h : dat om e = some d) (ok : d.ok = true) : Dp K H v d.py := by
  cases e with
  | v x =>
    have h' : x = d := Option.some.inj h
    subst h'
    exact r.dp ok
  | o k =>
    obtain ⟨ds, rfl, _⟩ := olst_some (show olst om[k]? = some d from h)
    obtain ⟨p, vs, rfl, h1, h2⟩ := as_l s (e := .o k) r h
    unfold D.ok at ok
    unfold D.py
    exact .lst (sqL h1) (h2.dp ok)
  | l => cases h

/-! ### operators by values -/
theorem ov_int {g : Int → Int → Int} {i j : Int} (p : P (.v (.int (g i j))) om) : OV c (rI0 fun i j => .int (g i j)) om sl (.v (.int i)) (.v (.int j)) P := fun σ H O ps s v w rv rw' Q k => by
  cases rv
  cases rw'
  exact ⟨i, j, rfl, rfl, k _ H O ps (.v (.int (g i j))) om (Go.refl ..) s (Rl.int _) p⟩
theorem ov_intC {C : Int → Int → Prop} {g : Int → Int → Int} {i j : Int} (h : C i j) (p : P (.v (.int (g i j))) om) : OV c (rI C fun i j => .int (g i j)) om sl (.v (.int i)) (.v (.int j)) P := fun σ H O ps s v w rv rw' Q k => by
  cases rv
  cases rw'
  exact ⟨i, j, rfl, rfl, h, k _ H O ps (.v (.int (g i j))) om (Go.refl ..) s (Rl.int _) p⟩
theorem ov_cmp {g : Int → Int → Bool} {i j : Int} (p : P (.v (.bl (g i j))) om) : OV c (rI0 fun i j => .bl (g i j)) om sl (.v (.int i)) (.v (.int j)) P := fun σ H O ps s v w rv rw' Q k => by
  cases rv
  cases rw'
  exact ⟨i, j, rfl, rfl, k _ H O ps (.v (.bl (g i j))) om (Go.refl ..) s (Rl.bl _) p⟩
theorem uv_int {g : Int → Int} {i : Int} (p : P (.v (.int (g i))) om) : UV c (rU fun i => .int (g i)) om sl (.v (.int i)) P := fun σ H O ps s v rv Q k => by
  cases rv
  exact ⟨i, rfl, k _ H O ps (.v (.int (g i))) om (Go.refl ..) s (Rl.int _) p⟩
def rAddS : R2 := fun x y H Q => ∃ i j, x = .str i ∧ y = .str j ∧ i.length + j.length ≤ sizeLine ∧ Q (.str (i ++ j)) H
/-- + of ints, texts, lists, tuples -/
def rAddU (K : PySem.W.Frag) : R2 := fun x y H Q => rI0 (fun i j => V.int (i + j)) x y H Q ∨ rAddS x y H Q ∨ rCat x y H Q ∨ rCatA K x y H Q
theorem op_addU {X : Cx} : OpR X (binaryOp .Add) (rAddU X.K) := OpR.or op_add (OpR.or op_add_str (OpR.or op_cat op_catA))
theorem ov_addI {i j : Int} (p : P (.v (.int (i + j))) om) : OV c (rAddU c.K) om sl (.v (.int i)) (.v (.int j)) P := fun σ H O ps s v w rv rw' Q k => .inl (ov_int (c := c) (g := fun i j => i + j) p σ H O ps s v w rv rw' Q k)
theorem ov_addS {i j : Str} (h : i.length + j.length ≤ 1000) (p : P (.v (.str (i ++ j))) om) : OV c (rAddU c.K) om sl (.v (.str i)) (.v (.str j)) P := fun σ H O ps s v w rv rw' Q k => by
  cases rv
  cases rw'
  exact .inr (.inl ⟨i, j, rfl, rfl, Nat.le_of_lt (small1000 h), k _ H O ps (.v (.str (i ++ j))) om (Go.refl ..) s (Rl.str _) p⟩)
theorem ov_addL {x y : E} {xs ys : List D} (hx : dat om x = some (.lst xs)) (hy : dat om y = some (.lst ys)) (h : xs.length + ys.length ≤ 100000) (p : P (.v (.lst (xs ++ ys))) om) : OV c (rAddU c.K) om sl x y P := fun σ H O ps s v w rv rw' Q k => by
  obtain ⟨a, vs, rfl, h1, h2⟩ := as_l s rv hx
  obtain ⟨b, ws, rfl, h3, h4⟩ := as_l s rw' hy
  refine .inr (.inr (.inl ⟨a, b, vs, ws, rfl, rfl, h1, h3, by rw [h2.len, h4.len]; exact Nat.le_trans h (by decide), fun q hq => ?_⟩))
  obtain ⟨s2, g2⟩ := s.new (o := .lst (vs ++ ws)) hq
  exact k _ _ O ps (.v (.lst (xs ++ ys))) om g2 s2 (Rl.lst (s.nin hq) upd_same ((h2.app h4).ext g2.ex)) p
theorem ov_addLO {x y : E} {xs ys : List D} (hx : dat om x = some (.lst xs)) (hy : dat om y = some (.lst ys)) (h : xs.length + ys.length ≤ 100000) (p : P (.o om.length) (om ++ [some (xs ++ ys)])) : OV c (rAddU c.K) om sl x y P := fun σ H O ps s v w rv rw' Q k => by
  obtain ⟨a, vs, rfl, h1, h2⟩ := as_l s rv hx
  obtain ⟨b, ws, rfl, h3, h4⟩ := as_l s rw' hy
  refine .inr (.inr (.inl ⟨a, b, vs, ws, rfl, rfl, h1, h3, by rw [h2.len, h4.len]; exact Nat.le_trans h (by decide), fun q hq => ?_⟩))
  obtain ⟨s2, g2, r2⟩ := s.newOwn hq (h2.app h4)
  exact k _ _ _ _ _ _ g2 s2 r2 p
theorem ov_addT {xs ys : List D} (h : xs.length + ys.length ≤ 100000) (p : P (.v (.tup (xs ++ ys))) om) : OV c (rAddU c.K) om sl (.v (.tup xs)) (.v (.tup ys)) P := fun σ H O ps s v w rv rw' Q k => by
  have rx : Rl O H v (.tup xs) := rv
  have ry : Rl O H w (.tup ys) := rw'
  obtain ⟨a, vs, rfl, na, h1, h2⟩ := as_t rx
  obtain ⟨b, ws, rfl, nb, h3, h4⟩ := as_t ry
  refine .inr (.inr (.inr ⟨a, b, vs, ws, rfl, rfl, sqT h1, sqT h3, by rw [h2.len, h4.len]; exact Nat.le_trans h (by decide), fun e => ?_, fun _ e => ?_, fun _ _ q hq => ?_⟩))
  · subst e
    cases h2
    exact k _ H O ps (.v (.tup ys)) om (Go.refl ..) s ry p
  · subst e
    cases h4
    rw [List.append_nil] at p
    exact k _ H O ps (.v (.tup xs)) om (Go.refl ..) s rx p
  · obtain ⟨s2, g2⟩ := s.new (o := .tup (vs ++ ws)) hq
    exact k _ _ O ps (.v (.tup (xs ++ ys))) om g2 s2 (Rl.tup (s.nin hq) upd_same ((h2.app h4).ext g2.ex)) p
/-- == of data -/
def rEqU (K : PySem.W.Frag) : R2 := fun x y H Q => rEq x y H Q ∨ rEqD K x y H Q
def rNeU (K : PySem.W.Frag) : R2 := fun x y H Q => rNe x y H Q ∨ rNeD K x y H Q
theorem op_eqU {X : Cx} (hu : X.A.units + 64 < cLine) : OpR X (compareOp .Eq) (rEqU X.K) := OpR.or op_eq (op_eqD hu)
theorem op_neU {X : Cx} (hu : X.A.units + 64 < cLine) : OpR X (compareOp .NotEq) (rNeU X.K) := OpR.or op_ne (op_neD hu)
theorem ov_eqD {x y : E} {d e : D} (hx : dat om x = some d) (hy : dat om y = some e) (h1 : d.ok = true) (h2 : e.ok = true) (h3 : SeqAt.shaped d.py = true) (h4 : SeqAt.shaped e.py = true) (p : P (.v (.bl (PyData.eqv d.py e.py))) om) : OV c (rEqU c.K) om sl x y P := fun σ H O ps s v w rv rw' Q k =>
  .inr ⟨d.py, e.py, as_dp s rv hx h1, as_dp s rw' hy h2, h3, h4, k _ H O ps (.v (.bl _)) om (Go.refl ..) s (Rl.bl _) p⟩
theorem ov_neD {x y : E} {d e : D} (hx : dat om x = some d) (hy : dat om y = some e) (h1 : d.ok = true) (h2 : e.ok = true) (h3 : SeqAt.shaped d.py = true) (h4 : SeqAt.shaped e.py = true) (p : P (.v (.bl (!PyData.eqv d.py e.py))) om) : OV c (rNeU c.K) om sl x y P := fun σ H O ps s v w rv rw' Q k =>
  .inr ⟨d.py, e.py, as_dp s rv hx h1, as_dp s rw' hy h2, h3, h4, k _ H O ps (.v (.bl _)) om (Go.refl ..) s (Rl.bl _) p⟩
/-- == of ints, of texts -/
theorem ov_eqI {i j : Int} (p : P (.v (.bl (decide (i = j)))) om) : OV c (rEqU c.K) om sl (.v (.int i)) (.v (.int j)) P := fun σ H O ps s v w rv rw' Q k => by
  cases rv
  cases rw'
  have e : decide (V.int i = V.int j) = decide (i = j) := by by_cases z : i = j <;> simp [z]
  refine .inl ⟨rfl, ?_⟩
  rw [e]
  exact k _ H O ps (.v (.bl _)) om (Go.refl ..) s (Rl.bl _) p
theorem ov_neI {i j : Int} (p : P (.v (.bl (!decide (i = j)))) om) : OV c (rNeU c.K) om sl (.v (.int i)) (.v (.int j)) P := fun σ H O ps s v w rv rw' Q k => by
  cases rv
  cases rw'
  have e : decide (V.int i = V.int j) = decide (i = j) := by by_cases z : i = j <;> simp [z]
  refine .inl ⟨rfl, ?_⟩
  rw [e]
  exact k _ H O ps (.v (.bl _)) om (Go.refl ..) s (Rl.bl _) p
theorem ov_eqS {i j : Str} (p : P (.v (.bl (decide (i = j)))) om) : OV c (rEqU c.K) om sl (.v (.str i)) (.v (.str j)) P := fun σ H O ps s v w rv rw' Q k => by
  cases rv
  cases rw'
  have e : decide (V.str i = V.str j) = decide (i = j) := by by_cases z : i = j <;> simp [z]
  refine .inl ⟨rfl, ?_⟩
  rw [e]
  exact k _ H O ps (.v (.bl _)) om (Go.refl ..) s (Rl.bl _) p
theorem ov_neS {i j : Str} (p : P (.v (.bl (!decide (i = j)))) om) : OV c (rNeU c.K) om sl (.v (.str i)) (.v (.str j)) P := fun σ H O ps s v w rv rw' Q k => by
  cases rv
  cases rw'
  have e : decide (V.str i = V.str j) = decide (i = j) := by by_cases z : i = j <;> simp [z]
  refine .inl ⟨rfl, ?_⟩
  rw [e]
  exact k _ H O ps (.v (.bl _)) om (Go.refl ..) s (Rl.bl _) p
/-- is None -/
theorem ov_isN {x : D} {b : Bool} (h : ∀ (O : List Addr) (H : Hp) (v : V), Rl O H v x → decide (v = .non) = b) (p : P (.v (.bl b)) om) : OV c (fun x y H Q => y = .non ∧ Q (.bl (decide (x = .non))) H) om sl (.v x) (.v .non) P := fun σ H O ps s v w rv rw' Q k => by
  cases rw'
  have e := h O H v rv
  refine ⟨rfl, ?_⟩
  rw [e]
  exact k _ H O ps (.v (.bl b)) om (Go.refl ..) s (Rl.bl _) p
/-- an item -/
theorem atI_len {α β : Type} {xs : List α} {ys : List β} (h : xs.length = ys.length) (i : Int) {y : β} (e : atI ys i = some y) : ∃ j : Nat, ixN xs.length i = some j ∧ ys[j]? = some y := by
  unfold atI at e
  cases c : ixN ys.length i with
  | none =>
    rw [c] at e
    cases e
  | some j =>
    rw [c] at e
    exact ⟨j, by rw [h]; exact c, e⟩
theorem atI_of {O : List Addr} {H : Hp} {vs : List V} {ds : List D} (r : RlA O H vs ds) {i : Int} {d : D} (e : atI ds i = some d) : ∃ v, atI vs i = some v ∧ Rl O H v d := by
  obtain ⟨j, h1, h2⟩ := atI_len r.len i e
  obtain ⟨v, h3, h4⟩ := r.get h2
  exact ⟨v, by unfold atI; rw [h1]; exact h3, h4⟩
theorem ov_ixL {x : E} {ds : List D} {i : Int} {d : D} (hx : dat om x = some (.lst ds)) (h : atI ds i = some d) (p : P (.v d) om) : OV c (rIx c.K) om sl x (.v (.int i)) P := fun σ H O ps s v w rv rw' Q k => by
  cases rw'
  obtain ⟨a, vs, rfl, h1, h2⟩ := as_l s rv hx
  obtain ⟨z, h3, h4⟩ := atI_of h2 h
  exact .inl ⟨a, vs, i, z, rfl, rfl, sqL h1, h3, k _ H O ps (.v d) om (Go.refl ..) s h4 p⟩
theorem ov_ixT {ds : List D} {i : Int} {d : D} (h : atI ds i = some d) (p : P (.v d) om) : OV c (rIx c.K) om sl (.v (.tup ds)) (.v (.int i)) P := fun σ H O ps s v w rv rw' Q k => by
  cases rw'
  obtain ⟨a, vs, rfl, na, h1, h2⟩ := as_t rv
  obtain ⟨z, h3, h4⟩ := atI_of h2 h
  exact .inr (.inl ⟨a, vs, i, z, rfl, rfl, sqT h1, h3, k _ H O ps (.v d) om (Go.refl ..) s h4 p⟩)
theorem ov_ixS {z : Str} {i : Int} {ch : Nat} (hz : z.length ≤ 1000) (h : atI z.cps.toList i = some ch) (p : P (.v (.str ⟨#[ch]⟩)) om) : OV c (rIx c.K) om sl (.v (.str z)) (.v (.int i)) P := fun σ H O ps s v w rv rw' Q k => by
  cases rw'
  cases rv
  exact .inr (.inr ⟨z, i, ch, rfl, rfl, Nat.le_of_lt (small1000 hz), h, k _ H O ps (.v (.str ⟨#[ch]⟩)) om (Go.refl ..) s (Rl.str _) p⟩)
theorem atI_n {α : Type} {xs : List α} {j : Nat} {x : α} (h : xs[j]? = some x) : atI xs (j : Int) = some x := atI_nat h
/-- in, not in: a list of data -/
theorem ov_inL {x y : E} {d : D} {ds : List D} (hx : dat om x = some d) (hy : dat om y = some (.lst ds)) (h1 : d.ok = true) (h2 : D.okA ds = true) (h3 : SeqAt.shaped d.py = true) (h4 : SeqAt.shaped (PyData.list (D.pyA ds)) = true) (p : P (.v (.bl ((D.pyA ds).any fun z => PyData.eqv z d.py))) om) : OV c (rInD c.K) om sl x y P := fun σ H O ps s v w rv rw' Q k => by
  have q : Dp c.K H w (D.lst ds).py := as_dp s rw' hy (by unfold D.ok; exact h2)
  unfold D.py at q
  exact ⟨d.py, _, as_dp s rv hx h1, q, h3, h4, k _ H O ps (.v (.bl _)) om (Go.refl ..) s (Rl.bl _) p⟩
theorem ov_niL {x y : E} {d : D} {ds : List D} (hx : dat om x = some d) (hy : dat om y = some (.lst ds)) (h1 : d.ok = true) (h2 : D.okA ds = true) (h3 : SeqAt.shaped d.py = true) (h4 : SeqAt.shaped (PyData.list (D.pyA ds)) = true) (p : P (.v (.bl (!(D.pyA ds).any fun z => PyData.eqv z d.py))) om) : OV c (rNotInD c.K) om sl x y P := fun σ H O ps s v w rv rw' Q k => by
  have q : Dp c.K H w (D.lst ds).py := as_dp s rw' hy (by unfold D.ok; exact h2)
  unfold D.py at q
  exact ⟨d.py, _, as_dp s rv hx h1, q, h3, h4, k _ H O ps (.v (.bl _)) om (Go.refl ..) s (Rl.bl _) p⟩

/-! ### slices -/
def cutD (xs : List D) (lo hi : Option Int) : List D := (xs.drop (HT.sIx xs.length 0 lo)).take (HT.sIx xs.length xs.length hi - HT.sIx xs.length 0 lo)
theorem RlA.cut {vs : List V} {ds : List D} (r : RlA O H vs ds) (lo hi : Option Int) : RlA O H (cutV vs lo hi) (cutD ds lo hi) := by
  unfold cutV cutD
  rw [r.len]
  exact (r.drop _).take _
def rSlU (K : PySem.W.Frag) : V → Option Int → Option Int → Hp → VK → Prop := fun x lo hi H Q => rSlL K x lo hi H Q ∨ rSlA K x lo hi H Q ∨ rSlS x lo hi H Q
theorem sl_U {X : Cx} : SlR X (rSlU X.K) := SlR.or sl_list (SlR.or sl_tupA sl_str)
def EO (c : Cn) (to : TO) (om : Om) (sl : Sl) (P : Option Int → Om → Prop) : Prop := ∀ σ H O ps, St c.F c.O0 c.H0 H om σ sl O ps → ∀ Q : Option Int → Hp → Prop,
  (∀ i H' O' ps' om', Go O ps H O' ps' H' → St c.F c.O0 c.H0 H' om' σ sl O' ps' → P i om' → Q i H') → to σ H Q
theorem eo_none {P : Option Int → Om → Prop} (p : P none om) : EO c tNoPart om sl P := fun σ H O ps s Q k => k none H O ps om (Go.refl ..) s p
theorem eo_some {te : TE} {P : Option Int → Om → Prop} (h : EV c te om sl fun e om1 => ∃ i, e = .v (.int i) ∧ P (some i) om1) : EO c (tPart te) om sl P := fun σ H O ps s Q k =>
  h σ H O ps s _ fun v H1 O1 ps1 e om1 g1 s1 r1 ⟨i, he, p⟩ => by
    subst he
    cases r1
    exact ⟨i, rfl, k (some i) H1 O1 ps1 om1 g1 s1 p⟩
def LV (c : Cn) (om : Om) (sl : Sl) (x : E) (lo hi : Option Int) (P : E → Om → Prop) : Prop := ∀ σ H O ps, St c.F c.O0 c.H0 H om σ sl O ps → ∀ v, RE c.F O ps H v x → ∀ Q : VK,
  (∀ v H' O' ps' e om', Go O ps H O' ps' H' → St c.F c.O0 c.H0 H' om' σ sl O' ps' → RE c.F O' ps' H' v e → P e om' → Q v H') → rSlU c.K v lo hi H Q
theorem ev_sl {te : TE} {tl th : TO} (h : EV c te om sl fun x om1 => EO c tl om1 sl fun lo om2 => EO c th om2 sl fun hi om3 => LV c om3 sl x lo hi P) : EV c (tSl (rSlU c.K) te tl th) om sl P := fun σ H O ps s Q k =>
  h σ H O ps s _ fun v H1 O1 ps1 e om1 g1 s1 r1 h1 => h1 σ H1 O1 ps1 s1 _ fun lo H2 O2 ps2 om2 g2 s2 h2 => h2 σ H2 O2 ps2 s2 _ fun hi H3 O3 ps3 om3 g3 s3 h3 =>
    h3 σ H3 O3 ps3 s3 v (r1.go (g2.trans g3)) Q fun z H4 O4 ps4 e4 om4 g4 s4 r4 p => k z H4 O4 ps4 e4 om4 (((g1.trans g2).trans g3).trans g4) s4 r4 p
theorem lv_l {x : E} {ds : List D} {lo hi : Option Int} (hx : dat om x = some (.lst ds)) (p : P (.v (.lst (cutD ds lo hi))) om) : LV c om sl x lo hi P := fun σ H O ps s v rv Q k => by
  obtain ⟨a, vs, rfl, h1, h2⟩ := as_l s rv hx
  refine .inl ⟨a, vs, rfl, sqL h1, fun q hq => ?_⟩
  obtain ⟨s2, g2⟩ := s.new (o := .lst (cutV vs lo hi)) hq
  exact k _ _ O ps (.v (.lst (cutD ds lo hi))) om g2 s2 (Rl.lst (s.nin hq) upd_same ((h2.cut lo hi).ext g2.ex)) p
theorem cutD_whole {ds : List D} {lo hi : Option Int} (h : HT.sIx ds.length 0 lo = 0 ∧ HT.sIx ds.length ds.length hi = ds.length) : cutD ds lo hi = ds := by
  unfold cutD
  rw [h.1, h.2]
  simp
theorem lv_t {ds : List D} {lo hi : Option Int} (p : P (.v (.tup (cutD ds lo hi))) om) : LV c om sl (.v (.tup ds)) lo hi P := fun σ H O ps s v rv Q k => by
  have rv' : Rl O H v (.tup ds) := rv
  obtain ⟨a, vs, rfl, na, h1, h2⟩ := as_t rv'
  refine .inr (.inl ⟨a, vs, rfl, sqT h1, fun e => ?_, fun _ q hq => ?_⟩)
  · rw [h2.len] at e
    rw [cutD_whole e] at p
    exact k _ H O ps (.v (.tup ds)) om (Go.refl ..) s rv' p
  · obtain ⟨s2, g2⟩ := s.new (o := .tup (cutV vs lo hi)) hq
    exact k _ _ O ps (.v (.tup (cutD ds lo hi))) om g2 s2 (Rl.tup (s.nin hq) upd_same ((h2.cut lo hi).ext g2.ex)) p
theorem lv_s {z : Str} {lo hi : Option Int} (hz : z.length ≤ 1000) (p : P (.v (.str (cutS z lo hi))) om) : LV c om sl (.v (.str z)) lo hi P := fun σ H O ps s v rv Q k => by
  cases rv
  exact .inr (.inr ⟨z, rfl, Nat.le_of_lt (small1000 hz), k _ H O ps (.v (.str (cutS z lo hi))) om (Go.refl ..) s (Rl.str _) p⟩)
end
end DL
set_option Elab.async false
set_option linter.all false
set_option maxRecDepth 100000
set_option maxHeartbeats 4000000
/-! rules at the machine: repr of data, sum of a tuple, enumerate of a tuple -/
namespace LR
open PySem PySem.Spec PyProof.Rows L2
open Sem (wp)
open AutoSeq1 (wpAny_loadPart')
/-- repr of data -/
def rRepr (K : PySem.W.Frag) : List V → Hp → VK → Prop := fun vs H Q => ∃ (v : V) (d : PyData), vs = [v] ∧ Dp K H v d ∧ d.showable = true ∧ d.hasDict = false ∧ d.depth ≤ 40 ∧ d.shown.length ≤ sizeLine ∧ Q (.str d.shown) H
theorem cr_repr {X : Cx} (hc : X.calm = true) (hg : X.A.guards = some []) (hu : X.A.units + 64 < cLine) : CallR X (.builtin "repr") (rRepr X.K) := by
  intro pins s σ H vs us Q I r h
  obtain ⟨v, d, rfl, hd, h1, h2, h3, h4, q⟩ := h
  obtain ⟨u, rfl, rv⟩ := vals1 r
  obtain ⟨as, rd⟩ := Dp.reads I d v u hd rv
  cases rd with
  | none => exact PySem.P.repr_of_none ⟨.str _, H, I.tok _, ⟨_, rfl⟩, by simpa only [PyData.shown] using q⟩
  | bool b => exact PySem.P.repr_of_bool ⟨.str _, H, I.tok _, ⟨_, rfl⟩, by simpa only [PyData.shown] using q⟩
  | int i t =>
    have z : i.natAbs.log2 < 1920 := by simpa [PyData.showable] using h1
    exact PySem.P.repr_of_int z ⟨.str _, H, I.tok _, ⟨_, rfl⟩, by simpa only [PyData.shown] using q⟩
  | str x t => exact PySem.P.repr_of_str (hsz := by simpa only [PyData.shown] using h4) ⟨.str _, H, I.tok _, ⟨_, rfl⟩, by simpa only [PyData.shown] using q⟩
  | list e1 e2 e3 e4 => exact repr_of_reads' (.list e1 e2 e3 e4) h1 (fun z => absurd (h2.symm.trans z) (by decide)) hg (by omega) (fun _ _ z => z) (fun h' u tk k => ⟨.str _, H, I.kept k, ⟨_, rfl⟩, q⟩) h4
  | tuple e1 e2 e3 e4 => exact repr_of_reads' (.tuple e1 e2 e3 e4) h1 (fun z => absurd (h2.symm.trans z) (by decide)) hg (by omega) (fun _ _ z => z) (fun h' u tk k => ⟨.str _, H, I.kept k, ⟨_, rfl⟩, q⟩) h4
  | dict e1 e2 e3 e4 e5 => simp only [PyData.hasDict] at h2; cases h2
section
variable {prog : Program} {w : World} {A : Around} {E : Value → Shared → Prop} {s : Shared}
/-- sum over a tuple of ints -/
theorem sum_tupG {a : Addr} {its : List Value} {ns : List Int} {Q : Value → Shared → Prop} (hh : A.handled = none) (ht : s.heap.IsTuple a its.toArray) (hi : IntsAre its ns)
    (h : ∀ h' tk t', (∀ b o, s.heap.get? b = some o → h'.get? b = some o) → Q (.int ns.sum t') { s with heap := h', toks := tk }) : wpAny (model prog w) A (call (.builtin "sum") [.ref a]) Q E s := by
  obtain ⟨xs, ex⟩ := hi.allInts.items
  have hn : numsOf (intItems xs).toList = ns := ex ▸ hi.numsOf
  rw [nums_intItems] at hn
  rw [ex] at ht
  refine call_sum_walkG (wpAny_pyIter_tuple ht ?_)
  have hlt : a < s.heap.objs.size := by obtain ⟨o, ho, _⟩ := ht; exact Heap.lt_size ho
  refine ⟨_, _, _, _, _, _, numAt xs, rfl, Walks.tuple (A := A.in1) hh s.heap.objs.size a (Nat.ne_of_lt hlt) (intItems xs), ⟨⟨_, Heap.get?_push_size _ rfl, rfl, rfl⟩, ht.push _⟩, fun b hb => ?_, (fun _ _ => intItems_at), fun h' tk t' hk => ?_⟩
  · rw [Heap.size_push]
    rcases List.mem_cons.mp hb with z | z
    · rw [z]; exact Nat.lt_succ_self _
    · rw [List.mem_singleton.mp z]; exact Nat.lt_succ_of_lt hlt
  · have q := h h' tk t' fun b o e => hk b o (fun z => by
      rw [List.mem_singleton.mp z] at e
      exact Nat.lt_irrefl _ (Heap.lt_size e)) (Heap.get?_push_of_some _ e)
    have e2 : preSum (numAt xs) (intItems xs).size = ns.sum := by
      rw [preSum_eq, List.take_of_length_le (by simp [intItems]), hn]
    rw [e2]
    exact q
end
end LR
set_option Elab.async false
set_option linter.all false
set_option maxRecDepth 100000
set_option maxHeartbeats 4000000
namespace DL
open PySem PySem.Spec PyProof.Rows L2
/-! ### targets -/
def GV (c : Cn) (g : TG) (d : D) (om : Om) (sl : Sl) (P : Om → Sl → Prop) : Prop := ∀ σ H O ps, St c.F c.O0 c.H0 H om σ sl O ps → ∀ v, Rl O H v d → ∀ Q : L2.St → Hp → Prop,
  (∀ σ' sl', St c.F c.O0 c.H0 H om σ' sl' O ps → P om sl' → Q σ' H) → g v σ H Q
def GsV (c : Cn) (g : TGs) (ds : List D) (om : Om) (sl : Sl) (P : Om → Sl → Prop) : Prop := ∀ σ H O ps, St c.F c.O0 c.H0 H om σ sl O ps → ∀ vs, RlA O H vs ds → ∀ Q : L2.St → Hp → Prop,
  (∀ σ' sl', St c.F c.O0 c.H0 H om σ' sl' O ps → P om sl' → Q σ' H) → g vs σ H Q
section
variable {c : Cn} {Ex : XK} {om : Om} {sl : Sl} {P : E → Om → Prop} {PB : Bool → Om → Prop} {PG : Om → Sl → Prop} {te ta tb : TE} {tt : TT} {tr : TA} {x y : E} {Pq : Po} {t u : TS}
theorem gv_name {i : Nat} {d : D} (p : i < sl.length ∧ PG om (sl.set i (some (.v d)))) : GV c (gName i) d om sl PG := fun σ H O ps s v r Q k => k _ _ (s.set p.1 (show RE c.F O ps H v (.v d) from r)) p.2
theorem gsv_nil (p : PG om sl) : GsV c gNil [] om sl PG := fun σ H O ps s vs r Q k => by
  cases r
  exact ⟨rfl, k σ sl s p⟩
theorem gsv_cons {g : TG} {gs : TGs} {d : D} {ds : List D} (h : GV c g d om sl fun om1 sl1 => GsV c gs ds om1 sl1 PG) : GsV c (gCons g gs) (d :: ds) om sl PG := fun σ H O ps s vs r Q k => by
  cases r with
  | @cons v vs' _ _ r1 r2 => exact ⟨v, vs', rfl, h σ H O ps s v r1 _ fun σ1 sl1 s1 h1 => h1 σ1 H O ps s1 vs' r2 Q k⟩
theorem gv_tup {n : Nat} {gs : TGs} {ds : List D} (hn : ds.length = n) (h : GsV c gs ds om sl PG) : GV c (gTup c.K n gs) (.tup ds) om sl PG := fun σ H O ps s v r Q k => by
  obtain ⟨a, vs, rfl, na, h1, h2⟩ := as_t r
  exact ⟨a, vs, rfl, sqT h1, by rw [h2.len]; exact hn, h σ H O ps s vs h2 Q k⟩
/-- x = e, e data, any target -/
theorem sv_asg {g : TG} (h : EV c te om sl fun e om1 => ∃ d, e = .v d ∧ GV c g d om1 sl Pq.n) : SV c Ex (tAsg te g) om sl Pq := fun σ H O ps Dn s kn kr kb kc kx =>
  h σ H O ps s _ fun v H1 O1 ps1 e om1 g1 s1 r1 ⟨d, he, hg⟩ => by
    subst he
    exact hg σ H1 O1 ps1 s1 v r1 _ fun σ' sl' s' p => kn σ' H1 O1 ps1 om1 sl' g1 s' p
/-! ### what is walked -/
def WV (c : Cn) (wi : TI) (om : Om) (sl : Sl) (P : List D → Prop) : Prop := ∀ σ H O ps, St c.F c.O0 c.H0 H om σ sl O ps → ∀ R : It → Hp → Prop,
  (∀ (J : It) (H1 : Hp) (O1 ps1 : List Addr) (G : Hp → Prop) (Y : Nat → Hp → V → Hp → Prop) (xs : List D), P xs → Go O ps H O1 ps1 H1 → St c.F c.O0 c.H0 H1 om σ sl O1 ps1 → Walk J xs.length G Y →
    (∀ H2 O2 ps2, Go O1 ps1 H1 O2 ps2 H2 → G H2) →
    (∀ i H2 O2 ps2 v H3, Go O1 ps1 H1 O2 ps2 H2 → (∀ p ∈ O2, ∃ l, H2 p = some (.lst l)) → i < xs.length → Y i H2 v H3 → ∃ d, xs[i]? = some d ∧ (∀ b o, H2 b = some o → H3 b = some o) ∧ Rl O2 H3 v d) → R J H1) → wi σ H R
theorem wv_list {ds : List D} {P : List D → Prop} (h : EV c te om sl fun e om1 => om1 = om ∧ ∃ ds, e = .v (.lst ds) ∧ P ds) : WV c (iList c.K te) om sl P := fun σ H O ps s R k =>
  h σ H O ps s _ fun v H1 O1 ps1 e om1 g1 s1 r1 ⟨ho, ds, he, p⟩ => by
    subst he ho
    cases r1 with
    | @lst a vs _ ha hr hx =>
      refine ⟨a, rfl, ⟨vs, sqL hr⟩, k (Itl c.K a) H1 O1 ps1 (fun H => SqL c.K H a vs) (YAt vs) ds p g1 s1 ?_ (fun H2 O2 ps2 g => sqL (g.ex.keep _ _ ha hr)) fun i H2 O2 ps2 v H3 g al hi hy => ?_⟩
      · rw [← hx.len]
        exact walk_list
      · obtain ⟨rfl, hv⟩ := hy
        have hi' : ds[i]? = some ds[i] := List.getElem?_eq_getElem hi
        obtain ⟨w, h1, h2⟩ := (hx.ext g.ex).get hi'
        have ew : w = v := Option.some.inj (h1.symm.trans hv)
        subst ew
        exact ⟨_, hi', fun _ _ z => z, h2⟩
theorem wv_tup {P : List D → Prop} (h : EV c te om sl fun e om1 => om1 = om ∧ ∃ ds, e = .v (.tup ds) ∧ P ds) : WV c (iTup c.K te) om sl P := fun σ H O ps s R k =>
  h σ H O ps s _ fun v H1 O1 ps1 e om1 g1 s1 r1 ⟨ho, ds, he, p⟩ => by
    subst he ho
    cases r1 with
    | @tup a vs _ ha hr hx =>
      refine ⟨a, rfl, ⟨vs, sqT hr⟩, k (Itt c.K a) H1 O1 ps1 (fun H => SqT c.K H a vs) (YAt vs) ds p g1 s1 ?_ (fun H2 O2 ps2 g => sqT (g.ex.keep _ _ ha hr)) fun i H2 O2 ps2 v H3 g al hi hy => ?_⟩
      · rw [← hx.len]
        exact walk_tup
      · obtain ⟨rfl, hv⟩ := hy
        have hi' : ds[i]? = some ds[i] := List.getElem?_eq_getElem hi
        obtain ⟨w, h1, h2⟩ := (hx.ext g.ex).get hi'
        have ew : w = v := Option.some.inj (h1.symm.trans hv)
        subst ew
        exact ⟨_, hi', fun _ _ z => z, h2⟩
/-- the items lo, lo + 1, .. -/
def rgD (lo : Int) (n : Nat) : List D := (List.range n).map fun (i : Nat) => D.int (lo + (i : Int))
theorem rgD_len (lo : Int) (n : Nat) : (rgD lo n).length = n := by simp [rgD]
theorem rgD_get {lo : Int} {n i : Nat} (h : i < n) : (rgD lo n)[i]? = some (.int (lo + (i : Int))) := by simp [rgD, h]
theorem wv_rangeC {lo : Int} {n : Nat} {σ : L2.St} {H : Hp} {O ps : List Addr} {P : List D → Prop} {R : It → Hp → Prop} {H1 : Hp} {O1 ps1 : List Addr} (p : P (rgD lo n)) (g1 : Go O ps H O1 ps1 H1) (s1 : St c.F c.O0 c.H0 H1 om σ sl O1 ps1)
    (k : (∀ (J : It) (H1 : Hp) (O1 ps1 : List Addr) (G : Hp → Prop) (Y : Nat → Hp → V → Hp → Prop) (xs : List D), P xs → Go O ps H O1 ps1 H1 → St c.F c.O0 c.H0 H1 om σ sl O1 ps1 → Walk J xs.length G Y →
    (∀ H2 O2 ps2, Go O1 ps1 H1 O2 ps2 H2 → G H2) →
    (∀ i H2 O2 ps2 v H3, Go O1 ps1 H1 O2 ps2 H2 → (∀ p ∈ O2, ∃ l, H2 p = some (.lst l)) → i < xs.length → Y i H2 v H3 → ∃ d, xs[i]? = some d ∧ (∀ b o, H2 b = some o → H3 b = some o) ∧ Rl O2 H3 v d) → R J H1)) : R (Itr lo n) H1 := by
  refine k (Itr lo n) H1 O1 ps1 (fun _ => True) (YFn fun i => .int (lo + i)) (rgD lo n) p g1 s1 ?_ (fun _ _ _ _ => trivial) fun i H2 O2 ps2 v H3 g al hi hy => ?_
  · rw [rgD_len]
    exact walk_range
  · rw [rgD_len] at hi
    obtain ⟨rfl, rfl⟩ := hy
    exact ⟨_, rgD_get hi, fun _ _ z => z, Rl.int _⟩
theorem wv_range1 {P : List D → Prop} (h : EA c tr om sl fun es om1 => om1 = om ∧ ∃ n : Int, es = [.v (.int n)] ∧ -(2 ^ 62) ≤ n ∧ n < 2 ^ 62 ∧ P (rgD 0 n.toNat)) : WV c (iRng1 tr) om sl P := fun σ H O ps s R k =>
  h σ H O ps s _ fun vs H1 O1 ps1 es om1 g1 s1 r1 ⟨ho, n, he, h1, h2, p⟩ => by
    subst he ho
    cases r1 with
    | cons rv rn =>
      cases rn
      cases rv
      exact ⟨n, rfl, h1, h2, wv_rangeC p g1 s1 k⟩
theorem wv_range2 {P : List D → Prop} (h : EA c tr om sl fun es om1 => om1 = om ∧ ∃ i n : Int, es = [.v (.int i), .v (.int n)] ∧ (-(2 ^ 62) ≤ i ∧ i < 2 ^ 62 ∧ -(2 ^ 62) ≤ n ∧ n < 2 ^ 62) ∧ P (rgD i (n - i).toNat)) : WV c (iRng2 tr) om sl P := fun σ H O ps s R k =>
  h σ H O ps s _ fun vs H1 O1 ps1 es om1 g1 s1 r1 ⟨ho, i, n, he, h1, p⟩ => by
    subst he ho
    cases r1 with
    | cons rv rn =>
      cases rn with
      | cons rw' rn =>
        cases rn
        cases rv
        cases rw'
        exact ⟨i, n, rfl, h1, wv_rangeC p g1 s1 k⟩
/-- enumerate(list) -/
def enD (ds : List D) : List D := ds.zipIdx.map fun p => D.tup [.int (p.2 : Int), p.1]
theorem enD_len (ds : List D) : (enD ds).length = ds.length := by simp [enD]
theorem enD_get {ds : List D} {i : Nat} {d : D} (h : ds[i]? = some d) : (enD ds)[i]? = some (.tup [.int (i : Int), d]) := by simp [enD, h]
theorem wv_enum {P : List D → Prop} (h : EA c tr om sl fun es om1 => om1 = om ∧ ∃ ds, es = [.v (.lst ds)] ∧ P (enD ds)) : WV c (iEnum c.K tr) om sl P := fun σ H O ps s R k =>
  h σ H O ps s _ fun vs H1 O1 ps1 es om1 g1 s1 r1 ⟨ho, ds, he, p⟩ => by
    subst he ho
    cases r1 with
    | cons rv rn =>
      cases rn
      cases rv with
      | @lst a vs _ ha hr hx =>
        refine ⟨a, vs, rfl, sqL hr, k (Ite c.K a) H1 O1 ps1 (fun H => SqL c.K H a vs) (YPair (fun i => some (.int (i : Nat))) (fun i => vs[i]?)) (enD ds) p g1 s1 ?_ (fun H2 O2 ps2 g => sqL (g.ex.keep _ _ ha hr)) fun i H2 O2 ps2 v H3 g al hi hy => ?_⟩
        · rw [enD_len, ← hx.len]
          exact walk_enum
        · rw [enD_len] at hi
          obtain ⟨T, w1, w2, rfl, nT, rfl, e1, e2⟩ := hy
          have hi' : ds[i]? = some ds[i] := List.getElem?_eq_getElem hi
          obtain ⟨w, h1, h2⟩ := (hx.ext g.ex).get hi'
          have ew : w = w2 := Option.some.inj (h1.symm.trans e2)
          subst ew
          have e1' := Option.some.inj e1
          subst e1'
          have kp : ∀ b o, H2 b = some o → upd H2 T (.tup [V.int (i : Nat), w]) b = some o := fun b o z => by
            rw [upd_ne (ne_of_none z nT)]
            exact z
          have x2 : Ext O2 H2 O2 (upd H2 T (.tup [V.int (i : Nat), w])) := ⟨fun b o _ z => kp b o z, fun _ z => .inl z⟩
          refine ⟨_, enD_get hi', kp, Rl.tup (fun z => ?_) upd_same (.cons (Rl.int _) (.cons (h2.ext x2) .nil))⟩
          obtain ⟨l, e⟩ := al T z
          rw [nT] at e
          cases e
/-! ### for -/
theorem sv_for {wi : TI} {g : TG} (h : WV c wi om sl fun xs => ∃ Iv : Nat → Om → Sl → Prop, Iv 0 om sl ∧
      (∀ i d om' sl', xs[i]? = some d → Iv i om' sl' → GV c g d om' sl' fun om2 sl2 => SV c Ex t om2 sl2 { Pq with n := Iv (i + 1), c := Iv (i + 1), b := Pq.n }) ∧
      ∀ om' sl', Iv xs.length om' sl' → Pq.n om' sl') : SV c Ex (tFor wi g t) om sl Pq := fun σ H O ps Dn s kn kr kb kc kx =>
  h σ H O ps s _ fun J H1 O1 ps1 G Y xs ⟨Iv, h0, hs, hd⟩ g1 s1 w hG hY => by
    refine for_it w (fun i σ' H' => ∃ O' ps' om' sl', Go O1 ps1 H1 O' ps' H' ∧ St c.F c.O0 c.H0 H' om' σ' sl' O' ps' ∧ Iv i om' sl') ⟨O1, ps1, om, sl, Go.refl .., s1, h0⟩ (fun i σ' H' _ ⟨O', ps', om', sl', g', _⟩ => hG H' O' ps' g') ?_ ?_
    · rintro i v σ' H2 H3 hi ⟨O2, ps2, om2, sl2, g2, s2, p⟩ hy
      obtain ⟨d, e1, k2, r⟩ := hY i H2 O2 ps2 v H3 g2 s2.al hi hy
      obtain ⟨s3, g3⟩ := s2.same k2
      have gg : Go O ps H O2 ps2 H3 := g1.trans (g2.trans g3)
      refine hs i d om2 sl2 e1 p σ' H3 O2 ps2 s3 v r _ fun σ4 sl4 s4 h4 => ?_
      exact h4 σ4 H3 O2 ps2 _ s4 (fun σ5 H5 O5 ps5 om5 sl5 g5 s5 p5 => ⟨O5, ps5, om5, sl5, g2.trans (g3.trans g5), s5, p5⟩)
        (fun v σ5 sl5 H5 O5 ps5 e om5 g5 s5 r5 p5 => kr v σ5 sl5 H5 O5 ps5 e om5 (gg.trans g5) s5 r5 p5) (fun σ5 H5 O5 ps5 om5 sl5 g5 s5 p5 => kn σ5 H5 O5 ps5 om5 sl5 (gg.trans g5) s5 p5)
        (fun σ5 H5 O5 ps5 om5 sl5 g5 s5 p5 => ⟨O5, ps5, om5, sl5, g2.trans (g3.trans g5), s5, p5⟩) fun C f x d v H5 H6 O5 ps5 g5 p5 r5 hd5 e5 => kx C f x d v H5 H6 O5 ps5 (gg.trans g5) p5 r5 hd5 e5
    · rintro σ' H' ⟨O', ps', om', sl', g', s', p⟩
      exact kn σ' H' O' ps' om' sl' (g1.trans g') s' (hd om' sl' p)
/-! ### while -/
theorem sv_while (Iv : Nat → Om → Sl → Prop) (m0 : Nat) (h0 : Iv m0 om sl)
    (hs : ∀ m om' sl', Iv m om' sl' → ET c tt om' sl' fun b om2 => (b = true → SV c Ex t om2 sl' { Pq with n := fun om3 sl3 => ∃ m', m' < m ∧ Iv m' om3 sl3, c := fun om3 sl3 => ∃ m', m' < m ∧ Iv m' om3 sl3, b := Pq.n }) ∧ (b = false → Pq.n om2 sl')) : SV c Ex (tWhile tt t) om sl Pq := fun σ H O ps Dn s kn kr kb kc kx => by
  refine ⟨fun m σ' H' => ∃ O' ps' om' sl', Go O ps H O' ps' H' ∧ St c.F c.O0 c.H0 H' om' σ' sl' O' ps' ∧ Iv m om' sl', ⟨m0, O, ps, om, sl, Go.refl .., s, h0⟩, ?_⟩
  rintro m σ' H' ⟨O1, ps1, om1, sl1, g1, s1, p1⟩
  refine hs m om1 sl1 p1 σ' H' O1 ps1 s1 _ fun b H2 O2 ps2 om2 g2 s2 ⟨ht, hf⟩ => ?_
  cases b with
  | true =>
    refine (if_pos rfl).mpr ⟨fun σ3 H3 => ∃ m', m' < m ∧ ∃ O' ps' om' sl', Go O ps H O' ps' H3 ∧ St c.F c.O0 c.H0 H3 om' σ3 sl' O' ps' ∧ Iv m' om' sl', fun σ3 H3 z => z, ?_⟩
    have gg := g1.trans g2
    exact ht rfl σ' H2 O2 ps2 _ s2 (fun σ5 H5 O5 ps5 om5 sl5 g5 s5 ⟨m', l, p5⟩ => ⟨m', l, O5, ps5, om5, sl5, gg.trans g5, s5, p5⟩)
        (fun v σ5 sl5 H5 O5 ps5 e om5 g5 s5 r5 p5 => kr v σ5 sl5 H5 O5 ps5 e om5 (gg.trans g5) s5 r5 p5) (fun σ5 H5 O5 ps5 om5 sl5 g5 s5 p5 => kn σ5 H5 O5 ps5 om5 sl5 (gg.trans g5) s5 p5)
        (fun σ5 H5 O5 ps5 om5 sl5 g5 s5 ⟨m', l, p5⟩ => ⟨m', l, O5, ps5, om5, sl5, gg.trans g5, s5, p5⟩) fun C f x d v H5 H6 O5 ps5 g5 p5 r5 hd5 e5 => kx C f x d v H5 H6 O5 ps5 (gg.trans g5) p5 r5 hd5 e5
  | false =>
    refine (if_neg Bool.false_ne_true).mpr ?_
    exact kn σ' H2 O2 ps2 om2 sl1 (g1.trans g2) s2 (hf rfl)
end
end DL
set_option Elab.async false
set_option linter.all false
set_option maxRecDepth 100000
set_option maxHeartbeats 4000000
namespace DL
open PySem PySem.Spec PyProof.Rows L2
section
variable {c : Cn} {Ex : XK} {om : Om} {sl : Sl} {σ : L2.St} {H : Hp} {O ps : List Addr} {P : E → Om → Prop} {PB : Bool → Om → Prop} {PG : Om → Sl → Prop} {te ta tb to : TE} {tt : TT} {tr : TA} {x y : E} {Pq : Po} {t u : TS}
/-! ### built-ins by values -/
def rLenU (K : PySem.W.Frag) : List V → Hp → VK → Prop := fun xs H Q => ∃ x n, xs = [x] ∧ LenV K x H n ∧ Q (.int n) H
theorem cr_len {X : Cx} : CallR X (.builtin "len") (rLenU X.K) := call_len
theorem ra1 {F O ps : List Addr} {H : Hp} {vs : List V} {x : E} (r : RA F O ps H vs [x]) : ∃ v, vs = [v] ∧ RE F O ps H v x := by
  cases r with
  | cons h t =>
    cases t
    exact ⟨_, rfl, h⟩
theorem ra2 {F O ps : List Addr} {H : Hp} {vs : List V} {x y : E} (r : RA F O ps H vs [x, y]) : ∃ v w, vs = [v, w] ∧ RE F O ps H v x ∧ RE F O ps H w y := by
  cases r with
  | cons h t =>
    obtain ⟨w, rfl, h2⟩ := ra1 t
    exact ⟨_, w, rfl, h, h2⟩
theorem cv_lenL {ds : List D} (hx : dat om x = some (.lst ds)) (p : P (.v (.int (ds.length : Int))) om) : CV c (rLenU c.K) om sl [x] P := fun σ H O ps s vs r Q k => by
  obtain ⟨v, rfl, rv⟩ := ra1 r
  obtain ⟨a, ws, rfl, h1, h2⟩ := as_l s rv hx
  exact ⟨_, ds.length, rfl, .inl ⟨ws, sqL h1, h2.len.symm⟩, k _ H O ps (.v (.int _)) om (Go.refl ..) s (Rl.int _) p⟩
theorem cv_lenT {ds : List D} (p : P (.v (.int (ds.length : Int))) om) : CV c (rLenU c.K) om sl [.v (.tup ds)] P := fun σ H O ps s vs r Q k => by
  obtain ⟨v, rfl, rv⟩ := ra1 r
  obtain ⟨a, ws, rfl, na, h1, h2⟩ := as_t rv
  exact ⟨_, ds.length, rfl, .inr ⟨ws, sqT h1, h2.len.symm⟩, k _ H O ps (.v (.int _)) om (Go.refl ..) s (Rl.int _) p⟩
theorem cv_lenS {z : Str} (h : z.length ≤ 1000) (p : P (.v (.int (z.length : Int))) om) : CV c (rLenU c.K) om sl [.v (.str z)] P := fun σ H O ps s vs r Q k => by
  obtain ⟨v, rfl, rv⟩ := ra1 r
  cases rv
  exact ⟨_, z.length, rfl, ⟨Nat.le_of_lt (small1000 h), rfl⟩, k _ H O ps (.v (.int _)) om (Go.refl ..) s (Rl.int _) p⟩
def rListU (K : PySem.W.Frag) : List V → Hp → VK → Prop := fun xs H Q => ∃ p ys, xs = [.ref p] ∧ (SqL K H p ys ∨ SqT K H p ys) ∧ ∀ l, H l = none → Q (.ref l) (upd H l (.lst ys))
theorem cr_list {X : Cx} : CallR X (.type "list") (rListU X.K) := call_list_of
theorem cv_listLO {ds : List D} (hx : dat om x = some (.lst ds)) (p : P (.o om.length) (om ++ [some ds])) : CV c (rListU c.K) om sl [x] P := fun σ H O ps s vs r Q k => by
  obtain ⟨v, rfl, rv⟩ := ra1 r
  obtain ⟨a, ws, rfl, h1, h2⟩ := as_l s rv hx
  refine ⟨a, ws, rfl, .inl (sqL h1), fun l hl => ?_⟩
  obtain ⟨s2, g2, r2⟩ := s.newOwn hl h2
  exact k _ _ _ _ _ _ g2 s2 r2 p
theorem cv_listTO {ds : List D} (p : P (.o om.length) (om ++ [some ds])) : CV c (rListU c.K) om sl [.v (.tup ds)] P := fun σ H O ps s vs r Q k => by
  obtain ⟨v, rfl, rv⟩ := ra1 r
  obtain ⟨a, ws, rfl, na, h1, h2⟩ := as_t rv
  refine ⟨a, ws, rfl, .inr (sqT h1), fun l hl => ?_⟩
  obtain ⟨s2, g2, r2⟩ := s.newOwn hl h2
  exact k _ _ _ _ _ _ g2 s2 r2 p
theorem cv_listL {ds : List D} (hx : dat om x = some (.lst ds)) (p : P (.v (.lst ds)) om) : CV c (rListU c.K) om sl [x] P := fun σ H O ps s vs r Q k => by
  obtain ⟨v, rfl, rv⟩ := ra1 r
  obtain ⟨a, ws, rfl, h1, h2⟩ := as_l s rv hx
  refine ⟨a, ws, rfl, .inl (sqL h1), fun l hl => ?_⟩
  obtain ⟨s2, g2⟩ := s.new (o := .lst ws) hl
  exact k _ _ O ps (.v (.lst ds)) om g2 s2 (Rl.lst (s.nin hl) upd_same (h2.ext g2.ex)) p
def rTupU (K : PySem.W.Frag) : List V → Hp → VK → Prop := fun xs H Q => ∃ p ys, xs = [.ref p] ∧ ((SqL K H p ys ∧ ∀ l, H l = none → Q (.ref l) (upd H l (.tup ys))) ∨ (SqT K H p ys ∧ Q (.ref p) H))
theorem cr_tup {X : Cx} : CallR X (.type "tuple") (rTupU X.K) := call_tuple_of
theorem cv_tupL {ds : List D} (hx : dat om x = some (.lst ds)) (p : P (.v (.tup ds)) om) : CV c (rTupU c.K) om sl [x] P := fun σ H O ps s vs r Q k => by
  obtain ⟨v, rfl, rv⟩ := ra1 r
  obtain ⟨a, ws, rfl, h1, h2⟩ := as_l s rv hx
  refine ⟨a, ws, rfl, .inl ⟨sqL h1, fun l hl => ?_⟩⟩
  obtain ⟨s2, g2⟩ := s.new (o := .tup ws) hl
  exact k _ _ O ps (.v (.tup ds)) om g2 s2 (Rl.tup (s.nin hl) upd_same (h2.ext g2.ex)) p
theorem cv_tupT {ds : List D} (p : P (.v (.tup ds)) om) : CV c (rTupU c.K) om sl [.v (.tup ds)] P := fun σ H O ps s vs r Q k => by
  obtain ⟨v, rfl, rv⟩ := ra1 r
  have rv' : Rl O H v (.tup ds) := rv
  obtain ⟨a, ws, rfl, na, h1, h2⟩ := as_t rv'
  exact ⟨a, ws, rfl, .inr ⟨sqT h1, k _ H O ps (.v (.tup ds)) om (Go.refl ..) s rv' p⟩⟩
def rSumT (K : PySem.W.Frag) : List V → Hp → VK → Prop := fun vs H Q => ∃ (a : Addr) (ns : List Int), vs = [V.ref a] ∧ SqT K H a (ns.map V.int) ∧ Q (.int ns.sum) H
theorem cr_sumT {X : Cx} (hc : X.calm = true) : CallR X (.builtin "sum") (rSumT X.K) := by
  intro pins s σ H vs us Q I r h
  obtain ⟨a, ns, rfl, hs, q⟩ := h
  obtain ⟨its, rv, ht, _⟩ := I.tuple hs
  rw [Vals.ref1 r]
  exact LR.sum_tupG (I.ok.hd hc) (by obtain ⟨o, h1, h2, n, h3⟩ := ht; exact ⟨o, h1, h2, n, h3⟩) rv.ints fun h' tk t' hk => ⟨.int _, H, I.kept hk, ⟨_, rfl⟩, q⟩
def rSumU (K : PySem.W.Frag) : List V → Hp → VK → Prop := fun vs H Q => rSum K vs H Q ∨ rSumT K vs H Q
theorem cr_sumU {X : Cx} (hc : X.calm = true) : CallR X (.builtin "sum") (rSumU X.K) := CallR.or (cr_sum hc) (cr_sumT hc)
theorem cv_sumL {ns : List Int} (hx : dat om x = some (.lst (ns.map .int))) (p : P (.v (.int ns.sum)) om) : CV c (rSumU c.K) om sl [x] P := fun σ H O ps s vs r Q k => by
  obtain ⟨v, rfl, rv⟩ := ra1 r
  obtain ⟨a, ws, rfl, h1, h2⟩ := as_l s rv hx
  rw [h2.ints] at h1
  exact .inl ⟨a, ns, rfl, sqL h1, k _ H O ps (.v (.int _)) om (Go.refl ..) s (Rl.int _) p⟩
theorem cv_sumT {ns : List Int} (p : P (.v (.int ns.sum)) om) : CV c (rSumU c.K) om sl [.v (.tup (ns.map .int))] P := fun σ H O ps s vs r Q k => by
  obtain ⟨v, rfl, rv⟩ := ra1 r
  obtain ⟨a, ws, rfl, na, h1, h2⟩ := as_t rv
  rw [h2.ints] at h1
  exact .inr ⟨a, ns, rfl, sqT h1, k _ H O ps (.v (.int _)) om (Go.refl ..) s (Rl.int _) p⟩
theorem cv_maxL {ns : List Int} (hx : dat om x = some (.lst (ns.map .int))) (h0 : 0 < ns.length) (p : ∀ m, m ∈ ns → (∀ y, y ∈ ns → y ≤ m) → P (.v (.int m)) om) : CV c (rMax c.K) om sl [x] P := fun σ H O ps s vs r Q k => by
  obtain ⟨v, rfl, rv⟩ := ra1 r
  obtain ⟨a, ws, rfl, h1, h2⟩ := as_l s rv hx
  rw [h2.ints] at h1
  exact ⟨a, ns, rfl, sqL h1, h0, fun m m1 m2 => k _ H O ps (.v (.int m)) om (Go.refl ..) s (Rl.int _) (p m m1 m2)⟩
def rMax2 : List V → Hp → VK → Prop := fun xs H Q => ∃ i j, xs = [.int i, .int j] ∧ Q (.int (if j > i then j else i)) H
theorem cr_max2 {X : Cx} (hc : X.calm = true) : CallR X (.builtin "max") rMax2 := call_max2 hc
def rMin2 : List V → Hp → VK → Prop := fun xs H Q => ∃ i j, xs = [.int i, .int j] ∧ Q (.int (if j < i then j else i)) H
theorem cr_min2 {X : Cx} (hc : X.calm = true) : CallR X (.builtin "min") rMin2 := call_min2 hc
theorem cv_max2 {i j : Int} (p : P (.v (.int (max i j))) om) : CV c rMax2 om sl [.v (.int i), .v (.int j)] P := fun σ H O ps s vs r Q k => by
  obtain ⟨v, w, rfl, rv, rw'⟩ := ra2 r
  cases rv
  cases rw'
  have e : (if j > i then j else i) = max i j := by split <;> omega
  refine ⟨i, j, rfl, ?_⟩
  rw [e]
  exact k _ H O ps (.v (.int _)) om (Go.refl ..) s (Rl.int _) p
theorem cv_min2 {i j : Int} (p : P (.v (.int (min i j))) om) : CV c rMin2 om sl [.v (.int i), .v (.int j)] P := fun σ H O ps s vs r Q k => by
  obtain ⟨v, w, rfl, rv, rw'⟩ := ra2 r
  cases rv
  cases rw'
  have e : (if j < i then j else i) = min i j := by split <;> omega
  refine ⟨i, j, rfl, ?_⟩
  rw [e]
  exact k _ H O ps (.v (.int _)) om (Go.refl ..) s (Rl.int _) p
theorem cv_all {bs : List Bool} (hx : dat om x = some (.lst (bs.map .bl))) (p : P (.v (.bl (bs.all id))) om) : CV c (rAll c.K) om sl [x] P := fun σ H O ps s vs r Q k => by
  obtain ⟨v, rfl, rv⟩ := ra1 r
  obtain ⟨a, ws, rfl, h1, h2⟩ := as_l s rv hx
  rw [h2.bls] at h1
  exact ⟨a, bs, rfl, sqL h1, k _ H O ps (.v (.bl _)) om (Go.refl ..) s (Rl.bl _) p⟩
def rAbs : List V → Hp → VK → Prop := fun xs H Q => ∃ i, xs = [.int i] ∧ Q (.int (if i < 0 then -i else i)) H
theorem cr_abs {X : Cx} : CallR X (.builtin "abs") rAbs := call_abs
theorem cv_abs {i : Int} (p : P (.v (.int (i.natAbs : Int))) om) : CV c rAbs om sl [.v (.int i)] P := fun σ H O ps s vs r Q k => by
  obtain ⟨v, rfl, rv⟩ := ra1 r
  cases rv
  have e : (if i < 0 then -i else i) = (i.natAbs : Int) := by split <;> omega
  refine ⟨i, rfl, ?_⟩
  rw [e]
  exact k _ H O ps (.v (.int _)) om (Go.refl ..) s (Rl.int _) p
def rInt1 : List V → Hp → VK → Prop := fun xs H Q => (∃ i, xs = [.int i] ∧ Q (.int i) H) ∨ ∃ k, xs = [.bl k] ∧ Q (.int (if k then 1 else 0)) H
theorem cr_int {X : Cx} : CallR X (.type "int") rInt1 := call_int1
theorem cv_int {i : Int} (p : P (.v (.int i)) om) : CV c rInt1 om sl [.v (.int i)] P := fun σ H O ps s vs r Q k => by
  obtain ⟨v, rfl, rv⟩ := ra1 r
  cases rv
  exact .inl ⟨i, rfl, k _ H O ps (.v (.int _)) om (Go.refl ..) s (Rl.int _) p⟩
/-- what may be shown -/
def D.fits (d : D) : Prop := d.ok = true ∧ d.py.showable = true ∧ d.py.hasDict = false ∧ d.py.depth ≤ 40 ∧ d.py.shown.length ≤ sizeLine
theorem cv_repr {d : D} (hx : dat om x = some d) (h : d.fits) (p : P (.v (.str d.py.shown)) om) : CV c (LR.rRepr c.K) om sl [x] P := fun σ H O ps s vs r Q k => by
  obtain ⟨v, rfl, rv⟩ := ra1 r
  exact ⟨v, d.py, rfl, as_dp s rv hx h.1, h.2.1, h.2.2.1, h.2.2.2.1, h.2.2.2.2, k _ H O ps (.v (.str _)) om (Go.refl ..) s (Rl.str _) p⟩
/-! ### methods -/
theorem ev_bm {r : V → List V → Hp → VK → Prop} (h : EV c to om sl fun x om1 => (∃ ds, dat om1 x = some (.lst ds)) ∧ EA c tr om1 sl fun xs om2 => MV c r om2 sl x xs P) : EV c (tBM c.K "list" r to tr) om sl P := fun σ H O ps s Q k =>
  h σ H O ps s _ fun v H1 O1 ps1 e om1 g1 s1 r1 ⟨⟨ds, hd⟩, h1⟩ => by
    obtain ⟨a, ws, rfl, h2, h3⟩ := as_l s1 r1 hd
    exact ⟨.inl ⟨rfl, ws, sqL h2⟩, h1 σ H1 O1 ps1 s1 _ fun vs H2 O2 ps2 es om2 g2 s2 r2 h4 => h4 σ H2 O2 ps2 s2 _ vs (r1.go g2) r2 Q fun z H3 O3 ps3 e3 om3 g3 s3 r3 p => k z H3 O3 ps3 e3 om3 ((g1.trans g2).trans g3) s3 r3 p⟩
theorem ev_bm0 {r : V → List V → Hp → VK → Prop} (h : EV c to om sl fun x om1 => (∃ ds, dat om1 x = some (.lst ds)) ∧ MV c r om1 sl x [] P) : EV c (tBM0 c.K "list" r to) om sl P := fun σ H O ps s Q k =>
  h σ H O ps s _ fun v H1 O1 ps1 e om1 g1 s1 r1 ⟨⟨ds, hd⟩, h1⟩ => by
    obtain ⟨a, ws, rfl, h2, h3⟩ := as_l s1 r1 hd
    exact ⟨.inl ⟨rfl, ws, sqL h2⟩, h1 σ H1 O1 ps1 s1 _ [] r1 .nil Q fun z H3 O3 ps3 e3 om3 g3 s3 r3 p => k z H3 O3 ps3 e3 om3 (g1.trans g3) s3 r3 p⟩
theorem own_at (s : St c.F c.O0 c.H0 H om σ sl O ps) {k : Nat} {ds : List D} {v : V} (ho : om[k]? = some (some ds)) (r : RE c.F O ps H v (.o k)) : ∃ p vs, v = .ref p ∧ ps[k]? = some p ∧ H p = some (.lst vs) ∧ RlA O H vs ds := by
  obtain ⟨p, rfl, hp⟩ := r
  obtain ⟨q, vs, h1, h2, h3, h4, h5⟩ := s.own k ds ho
  have e : q = p := Option.some.inj (h1.symm.trans hp)
  subst e
  exact ⟨q, vs, rfl, hp, h4, h5⟩
theorem mv_append {k : Nat} {ds : List D} {d : D} (ho : om[k]? = some (some ds)) (hl : ds.length < 100000) (p : P (.v .non) (om.set k (some (ds ++ [d])))) : MV c rAppend om sl (.o k) [.v d] P := fun σ H O ps s v vs r rs Q kk => by
  obtain ⟨w, rfl, rw'⟩ := ra1 rs
  obtain ⟨q, ws, rfl, hq, h1, h2⟩ := own_at s ho r
  obtain ⟨s2, g2⟩ := s.write ho hq (h2.app (.cons (show Rl O H w d from rw') .nil))
  exact ⟨q, ws, w, rfl, rfl, h1, by rw [h2.len]; exact Nat.lt_of_lt_of_le hl (by decide), kk _ _ O ps (.v .non) _ g2 s2 Rl.non p⟩
theorem RlA.dropLast {O : List Addr} {H : Hp} {vs : List V} {ds : List D} (h : RlA O H vs ds) : RlA O H vs.dropLast ds.dropLast := by
  rw [List.dropLast_eq_take, List.dropLast_eq_take, h.len]
  exact h.take _
theorem mv_pop {k : Nat} {ds : List D} {d : D} (ho : om[k]? = some (some ds)) (hd : ds[ds.length - 1]? = some d) (p : P (.v d) (om.set k (some ds.dropLast))) : MV c rPop om sl (.o k) [] P := fun σ H O ps s v vs r rs Q kk => by
  cases rs
  obtain ⟨q, ws, rfl, hq, h1, h2⟩ := own_at s ho r
  obtain ⟨z, e1, e2⟩ := h2.get hd
  obtain ⟨s2, g2⟩ := s.write ho hq h2.dropLast
  exact ⟨q, ws, z, rfl, rfl, h1, by rw [h2.len]; exact e1, kk _ _ O ps (.v d) _ g2 s2 (e2.ext g2.ex) p⟩
theorem mv_popAt {k : Nat} {ds : List D} {d : D} {j : Nat} (ho : om[k]? = some (some ds)) (hj : (j : Int) < 2 ^ 63) (hd : ds[j]? = some d) (p : P (.v d) (om.set k (some (ds.eraseIdx j)))) : MV c rPopAt om sl (.o k) [.v (.int (j : Int))] P := fun σ H O ps s v vs r rs Q kk => by
  obtain ⟨w, rfl, rw'⟩ := ra1 rs
  cases rw'
  obtain ⟨q, ws, rfl, hq, h1, h2⟩ := own_at s ho r
  obtain ⟨z, e1, e2⟩ := h2.get hd
  obtain ⟨s2, g2⟩ := s.write ho hq (h2.eraseIdx j)
  have hlt : j < ws.length := (List.getElem?_eq_some_iff.mp e1).1
  exact ⟨q, ws, j, j, z, rfl, rfl, h1, by omega, hj, by
    unfold seqIndex?
    simp
    omega, e1, kk _ _ O ps (.v d) _ g2 s2 (e2.ext g2.ex) p⟩
/-- texts' methods -/
theorem ev_m0 {r : V → List V → Hp → VK → Prop} (h : EV c to om sl fun x om1 => ∃ z, x = .v (.str z) ∧ MV c r om1 sl x [] P) : EV c (tM0 r to) om sl P := fun σ H O ps s Q k =>
  h σ H O ps s _ fun v H1 O1 ps1 e om1 g1 s1 r1 ⟨z, hz, h1⟩ => by
    subst hz
    have r2 := r1
    cases r1
    exact ⟨⟨z, rfl⟩, h1 σ H1 O1 ps1 s1 _ [] r2 .nil Q fun z H3 O3 ps3 e3 om3 g3 s3 r3 p => k z H3 O3 ps3 e3 om3 (g1.trans g3) s3 r3 p⟩
theorem ev_m1 {r : V → List V → Hp → VK → Prop} (h : EV c to om sl fun x om1 => ∃ z, x = .v (.str z) ∧ EV c te om1 sl fun y om2 => MV c r om2 sl x [y] P) : EV c (tM1 r to te) om sl P := fun σ H O ps s Q k =>
  h σ H O ps s _ fun v H1 O1 ps1 e om1 g1 s1 r1 ⟨z, hz, h1⟩ => by
    subst hz
    have r2 := r1
    cases r1
    exact ⟨⟨z, rfl⟩, h1 σ H1 O1 ps1 s1 _ fun w H2 O2 ps2 e2 om2 g2 s2 rw' h2 => h2 σ H2 O2 ps2 s2 _ [w] (r2.go g2) (.cons rw' .nil) Q fun z H3 O3 ps3 e3 om3 g3 s3 r3 p => k z H3 O3 ps3 e3 om3 ((g1.trans g2).trans g3) s3 r3 p⟩
def rS0 (C : Str → Prop) (g : Str → Bool) : V → List V → Hp → VK → Prop := fun x xs H Q => ∃ a, x = .str a ∧ xs = [] ∧ C a ∧ Q (.bl (g a)) H
theorem mv_s0 {C : Str → Prop} {g : Str → Bool} {z : Str} (h : C z) (p : P (.v (.bl (g z))) om) : MV c (fun x xs H Q => ∃ a, x = .str a ∧ xs = [] ∧ C a ∧ Q (.bl (g a)) H) om sl (.v (.str z)) [] P := fun σ H O ps s v vs r rs Q kk => by
  cases rs
  cases r
  exact ⟨z, rfl, rfl, h, kk _ H O ps (.v (.bl _)) om (Go.refl ..) s (Rl.bl _) p⟩
def rJoin (K : PySem.W.Frag) : V → List V → Hp → VK → Prop := fun x xs H Q => ∃ a p, ∃ ys : List Str, x = .str a ∧ xs = [.ref p] ∧ (SqL K H p (ys.map V.str) ∨ SqT K H p (ys.map V.str)) ∧ (ys.map (·.length)).sum + ys.length * a.length ≤ 16777216 ∧ Q (.str (Txt.join a ys)) H
theorem mt_joinU {X : Cx} : MtR X "str.join" (rJoin X.K) := mt_join
theorem mv_join {z : Str} {ys : List Str} (hx : dat om x = some (.lst (ys.map .str))) (h : (ys.map (·.length)).sum + ys.length * z.length ≤ 16777216) (p : P (.v (.str (Txt.join z ys))) om) : MV c (rJoin c.K) om sl (.v (.str z)) [x] P := fun σ H O ps s v vs r rs Q kk => by
  obtain ⟨w, rfl, rw'⟩ := ra1 rs
  cases r
  obtain ⟨a, ws, rfl, h1, h2⟩ := as_l s rw' hx
  rw [h2.strs] at h1
  exact ⟨z, a, ys, rfl, rfl, .inl (sqL h1), h, kk _ H O ps (.v (.str _)) om (Go.refl ..) s (Rl.str _) p⟩
/-! ### a slot's own list becomes data -/
theorem St.dead {F O0 : List Addr} {H0 H : Hp} {σ : L2.St} {O ps : List Addr} (s : St F O0 H0 H om σ sl O ps) {i k : Nat} {ds : List D} (ho : om[k]? = some (some ds)) (hi : sl[i]? = some (some (.o k))) :
    ∃ O', St F O0 H0 H (om.set k none) σ (sl.set i (some (.v (.lst ds)))) O' ps ∧ Go O ps H O' ps H := by
  obtain ⟨p, vs, e1, e2, e3, e4, e5⟩ := s.own k ds ho
  have hf : ∀ {a : Addr}, a ∈ (O.filter fun a => decide (a ≠ p)) ↔ a ∈ O ∧ a ≠ p := fun {a} => by simp [List.mem_filter]
  have x : Ext O H (O.filter fun a => decide (a ≠ p)) H := ⟨fun _ _ _ h => h, fun a ha => .inl (hf.mp ha).1⟩
  have g : Go O ps H (O.filter fun a => decide (a ≠ p)) ps H := ⟨x, fun _ _ h => h⟩
  have hk : k < om.length := (List.getElem?_eq_some_iff.mp ho).1
  have hil : i < sl.length := (List.getElem?_eq_some_iff.mp hi).1
  refine ⟨_, ⟨s.en, fun a ha => s.fo a (hf.mp ha).1, fun a ha => hf.mpr ⟨s.oo a ha, fun z => e2.2 (z ▸ ha)⟩, s.ff, fun a ha => s.al a (hf.mp ha).1, by simp [s.len], fun j es h => ?_, s.inj, s.pa, s.dl, fun j e h => ?_, by simp [s.ln]⟩, g⟩
  · by_cases cj : k = j
    · subst cj
      rw [List.getElem?_set_self hk] at h
      cases h
    · rw [List.getElem?_set_ne cj] at h
      obtain ⟨r, ws, g1, g2, g3, g4, g5⟩ := s.own j es h
      exact ⟨r, ws, g1, ⟨hf.mpr ⟨g2.1, fun z => cj (s.inj k j p e1 (z ▸ g1))⟩, g2.2⟩, g3, g4, g5.ext x⟩
  · by_cases cj : i = j
    · subst cj
      rw [List.getElem?_set_self hil] at h
      have h' := Option.some.inj (Option.some.inj h)
      subst h'
      obtain ⟨v, h1, h2⟩ := s.slots i _ hi
      obtain ⟨q, rfl, hq⟩ := h2
      have eq : p = q := Option.some.inj (e1.symm.trans hq)
      subst eq
      exact ⟨_, h1, Rl.lst (fun z => (hf.mp z).2 rfl) e4 (e5.ext x)⟩
    · rw [List.getElem?_set_ne cj] at h
      obtain ⟨v, h1, h2⟩ := s.slots j e h
      exact ⟨v, h1, h2.go g⟩
theorem sv_freeze (i k : Nat) {ds : List D} (ho : om[k]? = some (some ds)) (hi : sl[i]? = some (some (.o k))) (h : SV c Ex t (om.set k none) (sl.set i (some (.v (.lst ds)))) Pq) : SV c Ex t om sl Pq := fun σ H O ps Dn s kn kr kb kc kx => by
  obtain ⟨O', s1, g1⟩ := s.dead ho hi
  exact h σ H O' ps Dn s1 (fun σ2 H2 O2 ps2 om2 sl2 g2 s2 p => kn σ2 H2 O2 ps2 om2 sl2 (g1.trans g2) s2 p) (fun v σ2 sl2 H2 O2 ps2 e om2 g2 s2 r p => kr v σ2 sl2 H2 O2 ps2 e om2 (g1.trans g2) s2 r p)
    (fun σ2 H2 O2 ps2 om2 sl2 g2 s2 p => kb σ2 H2 O2 ps2 om2 sl2 (g1.trans g2) s2 p) (fun σ2 H2 O2 ps2 om2 sl2 g2 s2 p => kc σ2 H2 O2 ps2 om2 sl2 (g1.trans g2) s2 p) fun C f x d v H2 H3 O2 ps2 g2 p r hd e => kx C f x d v H2 H3 O2 ps2 (g1.trans g2) p r hd e
/-! ### list comprehensions -/
/-- the state without the block's names -/
theorem st_wipe {F O0 : List Addr} {H0 H : Hp} {σ : L2.St} {O ps : List Addr} (s : St F O0 H0 H om σ sl O ps) : ∀ vs : List Nat, St F O0 H0 H om (wipe σ vs) (vs.foldr (fun i l => l.set i none) sl) O ps
  | [] => s
  | i :: vs => (st_wipe s vs).forget i none
/-- g sets the block's names alone -/
def Sets (g : TG) (vs : List Nat) : Prop := ∀ v σ H Q, g v (wipe σ vs) H Q → g v (wipe σ vs) H fun σ2 H2 => wipe σ2 vs = wipe σ vs ∧ Q σ2 H2
theorem wipe_set {σ : L2.St} {i : Nat} {x : Option V} : (σ.set i x).set i none = σ.set i none := by
  rw [List.set_set]
theorem sets_name (i : Nat) : Sets (gName i) [i] := fun v σ H Q h => ⟨by
  show ((σ.set i none).set i (some v)).set i none = σ.set i none
  rw [List.set_set, List.set_set], h⟩
theorem sets_pair {K : PySem.W.Frag} {i j : Nat} (hij : i ≠ j) : Sets (gTup K 2 (gCons (gName i) (gCons (gName j) gNil))) [i, j] := fun v σ H Q h => by
  obtain ⟨a, xs, e1, e2, e3, v1, r1, e4, v2, r2, e5, e6, q⟩ := h
  refine ⟨a, xs, e1, e2, e3, v1, r1, e4, v2, r2, e5, e6, ?_, q⟩
  show ((((((σ.set j none).set i none).set i (some v1)).set j (some v2)).set j none).set i none) = (σ.set j none).set i none
  rw [List.set_set, List.set_set, List.set_comm _ _ (Ne.symm hij), List.set_set, List.set_comm _ _ hij, List.set_set]
theorem ev_lc {wi : TI} {g : TG} {vs : List Nat} (hg : Sets g vs) (h : WV c wi om sl fun xs => ∃ Iv : Nat → List D → Prop, Iv 0 [] ∧
      (∀ i d acc, xs[i]? = some d → Iv i acc → GV c g d (om ++ [some acc]) (vs.foldr (fun i l => l.set i none) sl) fun om2 sl2 => ET c tt om2 sl2 fun b om3 =>
        (b = true → EV c te om3 sl2 fun e om4 => om4 = om ++ [some acc] ∧ ∃ y, e = .v y ∧ Iv (i + 1) (acc ++ [y])) ∧ (b = false → om3 = om ++ [some acc] ∧ Iv (i + 1) acc)) ∧
      (∀ i acc, Iv i acc → acc.length < 100000) ∧ ∀ acc, Iv xs.length acc → P (.v (.lst acc)) om) : EV c (tLc wi g tt te vs) om sl P := fun σ H O ps s Q k =>
  h σ H O ps s _ fun J H1 O1 ps1 G Y xs ⟨Iv, h0, hs, hb, hd⟩ g1 s1 w hG hY Dl hD => by
    obtain ⟨s2, g2, r2⟩ := s1.newOwn (vs := []) (ds := []) hD .nil
    have lp : ps1.length = om.length := s1.len
    have osl : ∀ (i k : Nat), sl[i]? = some (some (.o k)) → k < om.length := fun i k e => by
      obtain ⟨v, _, p, _, e2⟩ := s1.slots i _ e
      rw [← lp]
      exact (List.getElem?_eq_some_iff.mp e2).1
    refine lc_it w (fun i H' => ∃ O' ps' acc, Go (Dl :: O1) (ps1 ++ [Dl]) (upd H1 Dl (.lst [])) O' ps' H' ∧ St c.F c.O0 c.H0 H' (om ++ [some acc]) σ sl O' ps' ∧ Iv i acc)
      ⟨Dl :: O1, ps1 ++ [Dl], [], Go.refl .., s2, h0⟩ (fun i H' _ ⟨O', ps', acc, g', _⟩ => hG H' O' ps' (g2.trans g')) ?_ ?_
    · rintro i v H2 H3 hi ⟨O2, ps2, acc, g3, s3, p⟩ hy
      obtain ⟨d, e1, k2, r⟩ := hY i H2 O2 ps2 v H3 (g2.trans g3) s3.al hi hy
      obtain ⟨s4, g4⟩ := s3.same k2
      refine hg v σ H3 _ (hs i d acc e1 p (wipe σ vs) H3 O2 ps2 (st_wipe s4 vs) v r _ fun σ5 sl5 s5 h5 => ?_)
      refine h5 σ5 H3 O2 ps2 s5 _ fun b H6 O6 ps6 om6 g6 s6 ⟨ht, hf⟩ => ?_
      -- the slots of σ stand as before
      have back : ∀ {H7 : Hp} {O7 ps7 : List Addr} {acc' : List D} {σ7 : L2.St} {sl7 : Sl}, Go O2 ps2 H2 O7 ps7 H7 → St c.F c.O0 c.H0 H7 (om ++ [some acc']) σ7 sl7 O7 ps7 → St c.F c.O0 c.H0 H7 (om ++ [some acc']) σ sl O7 ps7 := fun {H7 O7 ps7 acc' σ7 sl7} g7 s7 =>
        ⟨s7.en, s7.fo, s7.oo, s7.ff, s7.al, s7.len, s7.own, s7.inj, s7.pa, s7.dl, fun i e z => by
          obtain ⟨v, z1, z2⟩ := s3.slots i e z
          exact ⟨v, z1, z2.go g7⟩, s3.ln⟩
      cases b with
      | true =>
        refine (if_pos rfl).mpr (ht rfl σ5 H6 O6 ps6 s6 _ fun y H7 O7 ps7 e om7 g7 s7 r7 ⟨ho, z, he, hz⟩ => ?_)
        subst he ho
        obtain ⟨q, ws, e1, e2, e3, e4, e5⟩ := s7.own om.length acc (by simp)
        have gg : Go O2 ps2 H2 O7 ps7 H7 := g4.trans (g6.trans g7)
        have eD : (ps1 ++ [Dl])[om.length]? = some Dl := by
          rw [← lp]
          simp
        have eq : q = Dl := Option.some.inj (e1.symm.trans (gg.pre _ _ (g3.pre _ _ eD)))
        subst eq
        have hw := hb _ _ p
        obtain ⟨s8, g8⟩ := s7.write (ds' := acc ++ [z]) (vs' := ws ++ [y]) (by simp : (om ++ [some acc])[om.length]? = some (some acc)) e1 (e5.app (.cons (show Rl O7 H7 y z from r7) .nil))
        refine ⟨ws, e4, by rw [e5.len]; exact Nat.lt_of_lt_of_le hw (by decide), O7, ps7, acc ++ [z], g3.trans (gg.trans g8), ?_, hz⟩
        have es : (om ++ [some acc]).set om.length (some (acc ++ [z])) = om ++ [some (acc ++ [z])] := by simp [List.set_append]
        rw [es] at s8
        exact back (gg.trans g8) s8
      | false =>
        obtain ⟨ho, hz⟩ := hf rfl
        subst ho
        refine (if_neg Bool.false_ne_true).mpr ⟨O6, ps6, acc, g3.trans (g4.trans g6), back (g4.trans g6) s6, hz⟩
    · rintro H' ⟨O', ps', acc, g', s', p⟩
      have eD : ps'[om.length]? = some Dl := g'.pre _ _ (by
        rw [← lp]
        simp)
      obtain ⟨s9, x9, r9⟩ := s'.freeze osl eD
      have gf : Go O1 ps1 H1 (O'.filter fun a => decide (a ≠ Dl)) (ps'.take om.length) H' := ⟨(g2.trans g').ex.trans x9, fun k q e => by
        have hk : k < om.length := by
          rw [← lp]
          exact (List.getElem?_eq_some_iff.mp e).1
        rw [List.getElem?_take_of_lt hk]
        exact (g2.trans g').pre k q e⟩
      exact k _ H' _ _ (.v (.lst acc)) om (g1.trans gf) s9 r9 (hd acc p)
end
end DL
set_option Elab.async false
set_option linter.all false
set_option maxRecDepth 100000
set_option maxHeartbeats 4000000
namespace DL
open PySem PySem.Spec PyProof.Rows L2
/-! ### promises -/
def Al (O : List Addr) (H : Hp) : Prop := ∀ p ∈ O, ∃ l, H p = some (.lst l)
/-- a def that changes nothing: from data ds (what pre asks) some r with R ds r, or an error of which X ds tells -/
def spP (ar : Nat) (pre : List D → Prop) (R : List D → D → Prop) (X : List D → Addr → Str → D → Prop) : Sp := fun vs H Q E => ∃ O ds, vs.length = ar ∧ Al O H ∧ RlA O H vs ds ∧ pre ds ∧
  (∀ v H' r, Same H H' → Rl O H' v r → R ds r → Q v H') ∧ ∀ C f x d v H1, Same H H1 → X ds C f x → Rl O H1 v x → H1 d = none → E (.ref C) (some d) (upd H1 d (.xd [(f, v)]))
/-- a def that draws: its first thing is the deal -/
def spN (ar : Nat) (pre : List D → Prop) (R : List D → D → Prop) : Sp := fun vs H Q _ => ∃ h a ws O ds, vs = .ref h :: ws ∧ ws.length = ar ∧ Al O H ∧ h ∈ O ∧ a ∈ O ∧ DealOk [h, a] H ∧ RlA O H ws ds ∧ pre ds ∧
  ∀ v H' r, (∀ b o, b ∉ [h, a] → H b = some o → H' b = some o) → DealOk [h, a] H' → Rl O H' v r → R ds r → Q v H'
def nX : List D → Addr → Str → D → Prop := fun _ _ _ _ => False
section
variable {c : Cn} {Ex : XK} {om : Om} {sl : Sl} {P : E → Om → Prop} {t : TS}
theorem cv_P {ar : Nat} {pre : List D → Prop} {R : List D → D → Prop} {X : List D → Addr → Str → D → Prop} {Ew : XK} {xs : List E} (h : ∃ ds, unv xs = some ds ∧ ds.length = ar ∧ pre ds ∧ (∀ C f x, ¬ X ds C f x) ∧ ∀ r, R ds r → P (.v r) om) : CV c (fun vs H Q => spP ar pre R X vs H Q Ew) om sl xs P := fun σ H O ps s vs r Q k => by
  obtain ⟨ds, he, hl, hp, hx, hr⟩ := h
  have he := unv_eq he
  subst he
  have ra := ra_data r
  refine ⟨O, ds, by rw [ra.len]; exact hl, s.al, ra, hp, fun v H' r' hs hv hR => ?_, fun C f x _ _ _ _ h => (hx C f x h).elim⟩
  obtain ⟨s2, g2⟩ := s.same hs
  exact k v H' O ps (.v r') om g2 s2 hv (hr r' hR)
/-- a call that may raise: what is raised is wished for -/
theorem cv_PX {ar : Nat} {pre : List D → Prop} {R : List D → D → Prop} {X : List D → Addr → Str → D → Prop} {Ew : XK} {xs : List E} (h : ∃ ds, unv xs = some ds ∧ ds.length = ar ∧ pre ds ∧ ∀ r, R ds r → P (.v r) om) (hE : ∀ σ H O ps, St c.F c.O0 c.H0 H om σ sl O ps → ∀ ds, xs = ds.map E.v → ∀ C f x d v H1, Same H H1 → X ds C f x → Rl O H1 v x → H1 d = none → Ew (.ref C) (some d) (upd H1 d (.xd [(f, v)]))) :
    CV c (fun vs H Q => spP ar pre R X vs H Q Ew) om sl xs P := fun σ H O ps s vs r Q k => by
  obtain ⟨ds, he, hl, hp, hr⟩ := h
  have he := unv_eq he
  have hE' := hE σ H O ps s ds he
  subst he
  have ra := ra_data r
  refine ⟨O, ds, by rw [ra.len]; exact hl, s.al, ra, hp, fun v H' r' hs hv hR => ?_, hE'⟩
  obtain ⟨s2, g2⟩ := s.same hs
  exact k v H' O ps (.v r') om g2 s2 hv (hr r' hR)
theorem cv_N {ar : Nat} {pre : List D → Prop} {R : List D → D → Prop} {Ew : XK} {xs : List E} (h : ∃ ys ds, xs = .l :: ys ∧ unv ys = some ds ∧ ds.length = ar ∧ pre ds ∧ ∀ r, R ds r → P (.v r) om) : CV c (fun vs H Q => spN ar pre R vs H Q Ew) om sl xs P := fun σ H O ps s vs r Q k => by
  obtain ⟨ys, ds, he, hy, hl, hp, hr⟩ := h
  have hy := unv_eq hy
  subst hy
  subst he
  cases r with
  | cons r1 r2 =>
    obtain ⟨h, a, hF, rfl⟩ := r1
    have ra := ra_data r2
    have hD := s.dl
    have sF := s
    rw [hF] at hD
    have mh : h ∈ O := s.oo _ (s.ff _ (by rw [hF]; simp)).1
    have ma : a ∈ O := s.oo _ (s.ff _ (by rw [hF]; simp)).1
    refine ⟨h, a, _, O, ds, rfl, by rw [ra.len]; exact hl, s.al, mh, ma, hD, ra, hp, fun v H' r' hs hd hv hR => ?_⟩
    have al' : ∀ p ∈ O, ∃ l, H' p = some (.lst l) := fun p hp => by
      obtain ⟨l, e⟩ := s.al p hp
      by_cases q : p ∈ [h, a]
      · rcases hd with z | ⟨h', a', st, ns, z1, z2, z3, z4, z5⟩
        · cases z
        · injection z1 with z6 z7
          injection z7 with z7 _
          rcases List.mem_cons.mp q with y | y
          · rw [y, z6]
            exact ⟨_, z3⟩
          · rw [List.mem_singleton.mp y, z7]
            exact ⟨_, z4⟩
      · exact ⟨l, hs p _ q e⟩
    have nF : ∀ b, b ∉ O → b ∉ [h, a] := fun b hb z => by
      rcases List.mem_cons.mp z with y | y
      · exact hb (y ▸ mh)
      · exact hb (List.mem_singleton.mp y ▸ ma)
    have x : Ext O H O H' := ⟨fun b o hb e => hs b o (nF b hb) e, fun _ z => .inl z⟩
    have g : Go O ps H O ps H' := ⟨x, fun _ _ z => z⟩
    refine k v H' O ps (.v r') om g ⟨fun b o hb e => hs b o (by rw [← hF]; exact hb) (s.en b o hb e), s.fo, s.oo, s.ff, al', s.len, fun i es e => ?_, s.inj, fun i p e => ?_, by rw [hF]; exact hd, fun i e he => ?_, s.ln⟩ hv (hr r' hR)
    · obtain ⟨p, ws, e1, e2, e3, e4, e5⟩ := s.own i es e
      refine ⟨p, ws, e1, e2, e3, hs p _ (fun z => ?_) e4, e5.ext x⟩
      rw [← hF] at z
      exact (s.ff _ z).2 e3
    · intro z
      cases e3 : H p with
      | none => exact s.pa i p e e3
      | some o =>
        by_cases q : p ∈ [h, a]
        · obtain ⟨l, e4⟩ := al' p (by
            rcases List.mem_cons.mp q with y | y
            · rw [y]; exact mh
            · rw [List.mem_singleton.mp y]; exact ma)
          rw [z] at e4
          cases e4
        · rw [hs p _ q e3] at z
          cases z
    · obtain ⟨w, e1, e2⟩ := s.slots i e he
      exact ⟨w, e1, e2.go g⟩
/-! ### a def's entry -/
def sl0 (ds : List D) (n : Nat) : Sl := ds.map (fun d => some (.v d)) ++ List.replicate n none
theorem start_slots {O : List Addr} {H : Hp} {vs : List V} {ds : List D} {N : List Str} (r : RlA O H vs ds) (hn : vs.length ≤ N.length) : (L2.start N vs).length = (sl0 ds (N.length - ds.length)).length ∧
    ∀ (i : Nat) (e : E), (sl0 ds (N.length - ds.length))[i]? = some (some e) → ∃ v, (L2.start N vs)[i]? = some (some v) ∧ RE [] O [] H v e := by
  refine ⟨by simp [L2.start, sl0, r.len], fun i e he => ?_⟩
  unfold sl0 at he
  by_cases hi : i < ds.length
  · rw [List.getElem?_append_left (by simpa using hi), List.getElem?_map] at he
    have hd : ds[i]? = some ds[i] := List.getElem?_eq_getElem hi
    rw [hd] at he
    have he' := Option.some.inj (Option.some.inj he)
    obtain ⟨v, h1, h2⟩ := r.get hd
    refine ⟨v, ?_, by rw [← he']; exact h2⟩
    unfold L2.start
    rw [List.getElem?_append_left (by simpa [r.len] using hi), List.getElem?_map, h1]
    rfl
  · rw [List.getElem?_append_right (by simpa using hi), List.getElem?_replicate] at he
    split at he <;> cases he
theorem al_sub {O' : List Addr} {H : Hp} {v : V} {e : E} {d : D} {F O0 ps : List Addr} {H0 : Hp} {σ : L2.St} (s : St F O0 H0 H om σ sl O' ps) (r : RE F O' ps H v e) (h : dat om e = some d) : Rl O0 H v d := by
  cases e with
  | v x =>
    have h' : x = d := Option.some.inj h
    subst h'
    exact Rl.sub s.oo r
  | o k =>
    obtain ⟨ds, rfl, ho⟩ := olst_some (show olst om[k]? = some d from h)
    obtain ⟨p, rfl, hp⟩ := r
    obtain ⟨q, vs, e1, e2, e3, e4, e5⟩ := s.own k ds ho
    have eq : q = p := Option.some.inj (e1.symm.trans hp)
    subst eq
    exact Rl.lst e2.2 e4 (e5.sub s.oo)
  | l => cases h
/-- a def that changes nothing, by its body at data -/
theorem entryP {K : PySem.W.Frag} {N : List Str} {ar : Nat} {pre : List D → Prop} {R : List D → D → Prop} {X : List D → Addr → Str → D → Prop} {vs : List V} {H : Hp} {Q : VK} (hN : ar ≤ N.length) (h : spP ar pre R X vs H Q Ex)
    (b : ∀ (O : List Addr) (ds : List D), ds.length = ar → pre ds → SV ⟨[], O, H, K⟩ Ex t [] (sl0 ds (N.length - ar)) { n := fun _ _ => R ds .non, r := fun e om => ∃ d, dat om e = some d ∧ R ds d, x := X ds }) :
    t { nx := fun _ H' => Q .non H', rt := Q } (L2.start N vs) H := by
  obtain ⟨O, ds, hl, al, ra, hp, hQ, hE⟩ := h
  have hl2 : ds.length = ar := by rw [← ra.len]; exact hl
  obtain ⟨h1, h2⟩ := start_slots (N := N) ra (by rw [hl]; exact hN)
  rw [hl2] at h1 h2
  have s0 : St [] O H H [] (L2.start N vs) (sl0 ds (N.length - ar)) O [] := ⟨fun _ _ _ h => h, fun _ h => .inl h, fun _ h => h, (fun _ h => nomatch h), al, rfl, (fun k ds h => by simp at h), (fun j k p h => by simp at h), (fun k p h => by simp at h), .inl rfl, h2, h1⟩
  have sm : ∀ {H' : Hp} {om' : Om} {σ' : L2.St} {sl' : Sl} {O' ps' : List Addr}, St [] O H H' om' σ' sl' O' ps' → Same H H' := fun s b o e => s.en b o (by simp) e
  refine b O ds hl2 hp (L2.start N vs) H O [] _ s0 (fun σ' H' O' ps' om' sl' g s' p => hQ _ H' .non (sm s') Rl.non p) (fun v σ' sl' H' O' ps' e om' g s' r ⟨d, hd, p⟩ => hQ v H' d (sm s') (al_sub s' r hd) p) (fun _ _ _ _ _ _ _ _ z => z.elim) (fun _ _ _ _ _ _ _ _ z => z.elim) ?_
  rintro C f x d v H1 H2 O' ps' g ⟨⟨om', σ', sl', s'⟩, p⟩ r hd rfl
  exact hE C f x d v H1 (sm s') p (r.sub s'.oo) hd
/-- a def that draws -/
theorem entryN {K : PySem.W.Frag} {N : List Str} {ar : Nat} {pre : List D → Prop} {R : List D → D → Prop} {vs : List V} {H : Hp} {Q : VK} (hN : ar + 1 ≤ N.length) (h : spN ar pre R vs H Q Ex)
    (b : ∀ (F O : List Addr) (ds : List D), ds.length = ar → pre ds → SV ⟨F, O, H, K⟩ Ex t [] (some .l :: sl0 ds (N.length - (ar + 1))) { n := fun _ _ => R ds .non, r := fun e om => ∃ d, dat om e = some d ∧ R ds d }) :
    t { nx := fun _ H' => Q .non H', rt := Q } (L2.start N vs) H := by
  obtain ⟨h, a, ws, O, ds, rfl, hl, al, mh, ma, hD, ra, hp, hQ⟩ := h
  have hl2 : ds.length = ar := by rw [← ra.len]; exact hl
  cases N with
  | nil => simp at hN
  | cons nm N =>
    obtain ⟨h1, h2⟩ := start_slots (N := N) ra (by rw [hl]; simpa using hN)
    rw [hl2] at h1 h2
    have est : L2.start (nm :: N) (V.ref h :: ws) = some (V.ref h) :: L2.start N ws := by simp [L2.start]
    have esz : (nm :: N).length - (ar + 1) = N.length - ar := by simp
    rw [est]
    have lst : ∀ p ∈ [h, a], ∃ l, H p = some (.lst l) := fun p hp => al p (by
      rcases List.mem_cons.mp hp with y | y
      · rw [y]; exact mh
      · rw [List.mem_singleton.mp y]; exact ma)
    have s0 : St [h, a] O H H [] (some (V.ref h) :: L2.start N ws) (some .l :: sl0 ds (N.length - ar)) O [] := ⟨fun _ _ _ h => h, fun _ h => .inl h, fun _ h => h, fun p hp => ⟨by
        rcases List.mem_cons.mp hp with y | y
        · rw [y]; exact mh
        · rw [List.mem_singleton.mp y]; exact ma, by
        obtain ⟨l, e⟩ := lst p hp
        rw [e]
        exact fun z => nomatch z⟩, al, rfl, (fun k ds h => by simp at h), (fun j k p h => by simp at h), (fun k p h => by simp at h), hD, (fun i e he => by
        cases i with
        | zero =>
          have e' := Option.some.inj (Option.some.inj he)
          rw [← e']
          exact ⟨.ref h, rfl, h, a, rfl, rfl⟩
        | succ j =>
          obtain ⟨v, z1, z2⟩ := h2 j e (by simpa using he)
          refine ⟨v, by simpa using z1, ?_⟩
          cases e with
          | v d => exact z2
          | o k => exact z2
          | l =>
            obtain ⟨_, _, z, _⟩ := z2
            cases z), by simp [h1]⟩
    have q := b [h, a] O ds hl2 hp
    rw [esz] at q
    refine q _ H O [] _ s0 (fun σ' H' O' ps' om' sl' g s' p => hQ _ H' .non s'.en s'.dl Rl.non p) (fun v σ' sl' H' O' ps' e om' g s' r ⟨d, hd, p⟩ => hQ v H' d s'.en s'.dl (al_sub s' r hd) p) (fun _ _ _ _ _ _ _ _ z => z.elim) (fun _ _ _ _ _ _ _ _ z => z.elim) ?_
    rintro C f x d v H1 H2 O' ps' g ⟨_, p⟩
    exact p.elim
/-! ### raise -/
def tRaiseF (fld : Str) (C : Addr) (W : WX) (ta : TA) : TS := fun _ σ H => ta σ H fun vs H1 => ∃ v, vs = [v] ∧ ∀ d, H1 d = none → W (.ref C) (some d) σ (upd H1 d (.xd [(fld, v)]))
theorem sv_raise {fld : Str} {C : Addr} {ta : TA} {Pq : Po} (h : EA c ta om sl fun es _ => ∃ x, es = [.v x] ∧ Pq.x C fld x) : SV c Ex (tRaiseF fld C (fun cls d _ H => Ex cls d H) ta) om sl Pq := fun σ H O ps Dn s kn kr kb kc kx =>
  h σ H O ps s _ fun vs H1 O1 ps1 es om1 g1 s1 r1 ⟨x, he, p⟩ => by
    subst he
    obtain ⟨v, rfl, rv⟩ := ra1 r1
    exact ⟨v, rfl, fun d hd => kx C fld x d v H1 _ O1 ps1 g1 ⟨⟨om1, σ, sl, s1⟩, p⟩ rv hd rfl⟩
end
end DL
set_option Elab.async false
set_option linter.all false
set_option maxRecDepth 100000
set_option maxHeartbeats 4000000
/-! calls by name, positional or by keywords; defs that know that nothing is guarded around them -/
namespace HL
open PySem PySem.Spec PyProof.Rows L2
/-- FnOk where nothing is guarded around (repr of containers wants it) -/
structure FnG (P : Program) (w : World) (K : PySem.W.Frag) (mg : Str → Option Value) (base : Heap) (CX : CXT) (k : Nat) (f : Addr) (fd : FuncData) (ps : List Str) (sp : Sp) : Prop where
  len : ∀ vs H Q E, sp vs H Q E → vs.length = ps.length
  run : ∀ (A : Around) (outer : List Env) (s : Shared) (H : Hp) (args : Args) (us : List Value) (vs : List V) (Q : VK) (E : XK), Room k A → A.guards = some [] → Env0 P w K mg base A outer s H → BindsTo s fd args (ps.zip us) → Vals vs us → sp vs H Q E →
    codeAny (model P w) A (.call (.ref f) args) (CR CX outer P w H s Q E) s
theorem _root_.L2.FnOk.toG {P : Program} {w : World} {K : PySem.W.Frag} {mg : Str → Option Value} {base : Heap} {CX : CXT} {k : Nat} {f : Addr} {fd : FuncData} {ps : List Str} {sp : Sp} (F : FnOk P w K mg base CX k f fd ps sp) : FnG P w K mg base CX k f fd ps sp :=
  ⟨F.len, fun A outer s H args us vs Q E hr _ e0 hb r h => F.run A outer s H args us vs Q E hr e0 hb r h⟩
section
variable {P : Program} {w : World} {K : PySem.W.Frag} {mg : Str → Option Value} {base : Heap} {CX : CXT}
/-- a def's promise by its body, nothing guarded around -/
theorem okG {x qual : Str} {st : Stmt} {f : Addr} {fd : FuncData} {N ps : List Str} {k : Nat} {sp : Sp} (F : Fun K x qual st f fd) (S : FnScope N ps (defScope st)) (len : ∀ vs H Q E, sp vs H Q E → vs.length = ps.length)
    (hbody : ∀ (cdv : Value) (A : Around) (outer : List Env) (s : Shared) (H : Hp) (vs : List V) (Q : VK) (E : XK), Room k (A.deeper (envOfC qual (defScope st) s.heap.objs.size f cdv)) → A.guards = some [] → sp vs H Q E →
      ∃ t, PSs (cxOf CX P w K mg base N qual (defScope st) f cdv A outer s H E) (defBody st) t ∧ t { nx := fun _ H' => Q .non H', rt := Q } (L2.start N vs) H) : FnG P w K mg base CX (k + 1) f fd ps sp := by
  obtain ⟨oc, od, kV, doc, pm, an, cdv, ct, osl, rfl, lk, hcd⟩ := F.ex
  refine ⟨len, fun A outer s H args us vs Q E hr hg e0 hb r hsp => ?_⟩
  exact LamX.run_ofS lk hcd S hr e0 hb r (len _ _ _ _ hsp) fun hr' => hbody cdv A outer s H vs Q E hr' hg hsp
/-- a def that may be called by its name, positional or by keywords in the parameters' order -/
structure Ca (P : Program) (w : World) (K : PySem.W.Frag) (mg : Str → Option Value) (base : Heap) (CX : CXT) (k : Nat) (x : Str) (ps : List Str) (sp : Sp) : Prop where
  ex : ∃ (f : Addr) (fd : FuncData), FnOk P w K mg base CX k f fd ps sp ∧ mg x = some (.ref f) ∧ PySem.W.keepIn K (.ref f) = true ∧ Binds K fd ps [] ∧ KBn K fd ps 0 ps (fun _ ws => ws) (fun _ zs => zs)
structure CaG (P : Program) (w : World) (K : PySem.W.Frag) (mg : Str → Option Value) (base : Heap) (CX : CXT) (k : Nat) (x : Str) (ps : List Str) (sp : Sp) : Prop where
  ex : ∃ (f : Addr) (fd : FuncData), FnG P w K mg base CX k f fd ps sp ∧ mg x = some (.ref f) ∧ PySem.W.keepIn K (.ref f) = true ∧ Binds K fd ps []
/-- what binds it: a def of the text without defaults -/
structure DefB (K : PySem.W.Frag) (mg : Str → Option Value) (x : Str) (st : Stmt) (ps : List Str) (f : Addr) (fd : FuncData) : Prop where
  fn : Fun K x x st f fd
  gl : mg x = some (.ref f)
  b : Binds K fd ps []
  kb : KBn K fd ps 0 ps (fun _ ws => ws) (fun _ zs => zs)
theorem ca_of {x : Str} {st : Stmt} {ps N : List Str} {f : Addr} {fd : FuncData} {k : Nat} {sp : Sp} (B : DefB K mg x st ps f fd) (S : FnScope N ps (defScope st)) (len : ∀ vs H Q E, sp vs H Q E → vs.length = ps.length)
    (hbody : ∀ (cdv : Value) (A : Around) (outer : List Env) (s : Shared) (H : Hp) (vs : List V) (Q : VK) (E : XK), Room k (A.deeper (envOfC x (defScope st) s.heap.objs.size f cdv)) → sp vs H Q E →
      ∃ t, PSs (cxOf CX0 P w K mg base N x (defScope st) f cdv A outer s H E).nox (defBody st) t ∧ t { nx := fun _ H' => Q .non H', rt := Q } (L2.start N vs) H) : Ca P w K mg base CX0 (k + 1) x ps sp :=
  ⟨f, fd, B.fn.ok S len hbody, B.gl, B.fn.kp, B.b, B.kb⟩
theorem ca_ofX {x : Str} {st : Stmt} {ps N : List Str} {f : Addr} {fd : FuncData} {k : Nat} {sp : Sp} (B : DefB K mg x st ps f fd) (S : FnScope N ps (defScope st)) (len : ∀ vs H Q E, sp vs H Q E → vs.length = ps.length)
    (hbody : ∀ (cdv : Value) (A : Around) (outer : List Env) (s : Shared) (H : Hp) (vs : List V) (Q : VK) (E : XK), Room k (A.deeper (envOfC x (defScope st) s.heap.objs.size f cdv)) → sp vs H Q E →
      ∃ t, PSs (cxOf (L2.CX P w) P w K mg base N x (defScope st) f cdv A outer s H E) (defBody st) t ∧ t { nx := fun _ H' => Q .non H', rt := Q } (L2.start N vs) H) : Ca P w K mg base (L2.CX P w) (k + 1) x ps sp :=
  ⟨f, fd, B.fn.okX S len hbody, B.gl, B.fn.kp, B.b, B.kb⟩
theorem cag_of {x : Str} {st : Stmt} {ps N : List Str} {f : Addr} {fd : FuncData} {k : Nat} {sp : Sp} (B : DefB K mg x st ps f fd) (S : FnScope N ps (defScope st)) (len : ∀ vs H Q E, sp vs H Q E → vs.length = ps.length)
    (hbody : ∀ (cdv : Value) (A : Around) (outer : List Env) (s : Shared) (H : Hp) (vs : List V) (Q : VK) (E : XK), Room k (A.deeper (envOfC x (defScope st) s.heap.objs.size f cdv)) → A.guards = some [] → sp vs H Q E →
      ∃ t, PSs (cxOf CX0 P w K mg base N x (defScope st) f cdv A outer s H E).nox (defBody st) t ∧ t { nx := fun _ H' => Q .non H', rt := Q } (L2.start N vs) H) : CaG P w K mg base CX0 (k + 1) x ps sp :=
  ⟨f, fd, okG B.fn S len fun cdv A outer s H vs Q E hr hg h => let ⟨t, h1, h2⟩ := hbody cdv A outer s H vs Q E hr hg h; ⟨t, h1.nox, h2⟩, B.gl, B.fn.kp, B.b⟩
theorem CaG.at' {k : Nat} {x : Str} {ps : List Str} {sp : Sp} (c : CaG P w K mg base CX k x ps sp) : ∃ (f : Addr) (fd : FuncData), FnG P w K mg base CX k f fd ps sp ∧ mg x = some (.ref f) := let ⟨f, fd, h, m, _⟩ := c.ex; ⟨f, fd, h, m⟩
end
section
variable {X : Cx} {CX : CXT} {k j : Nat} {x : Str} {ps : List Str} {sp : Sp} {E : XK} {p pos : Pos} {e : Expr} {es : List Expr} {kws : List Keyword} {t : TA}
theorem pe_ca (c : Ca X.prog X.w X.K X.mg X.base CX k x ps sp) (hr : Room j X.A) (hk : k ≤ j) (hx : Passes CX X E) (ha : PA X (e :: es) t) (hg : Gl X x := by rfl)
    (hdb : (x == ("__debug__" : Str)) = false := by decide) (he : starEach (e :: es) X.env = (false, eval e X.env) :: starEach es X.env := by rfl) (hpl : (backTo pos (starEach es X.env)).any (·.1) = false := by rfl) :
    PE X (.Call (.Name x p) (e :: es) [] pos) (tCall sp [] E t) := by
  obtain ⟨f, fd, F, m, kp, b, _⟩ := c.ex
  exact pe_call F (hr.mono hk) hg m kp b .nil hx ha hdb he hpl
theorem pe_caK (c : Ca X.prog X.w X.K X.mg X.base CX k x ps sp) (hr : Room j X.A) (hk : k ≤ j) (hx : Passes CX X E) (hkw : PK X kws t) (hg : Gl X x := by rfl)
    (hall : (backToKw pos (keywordEach kws X.env)).all (·.1.isSome) = true := by rfl) (hks : (backToKw pos (keywordEach kws X.env)).filterMap (·.1) = ps := by rfl)
    (hdb : (x == ("__debug__" : Str)) = false := by decide)
    (hpl : ((backTo pos (starEach [] X.env)).any (·.1) || (backToKw pos (keywordEach kws X.env)).any (·.1.isNone)) = false := by rfl) :
    PE X (.Call (.Name x p) [] kws pos) (tCall sp [] E t) := by
  obtain ⟨f, fd, F, m, kp, _, b⟩ := c.ex
  refine ⟨fun pins s σ H Q I h => ?_⟩
  refine wpAny_Call_Name_kw (ld_glob I hg m ?_ hdb)
  refine PySem.W.callWith_KW0 (h₀ := X.base) I.ok.mod.kin kp hall (thn (hkw.run pos pins s σ H _ I h) fun ws s2 ⟨zs, H2, I2, rz, q2⟩ => ⟨I2.kIn, ?_⟩) hpl
  rw [hks]
  have q3 : sp (zs ++ []) H2 Q E := q2
  rw [List.append_nil] at q3
  exact run_fnN (vs := []) (us := []) F (hr.mono hk) b hx I2 .nil rz rfl (F.len _ _ _ _ q3) q3
theorem pe_caG (c : CaG X.prog X.w X.K X.mg X.base CX k x ps sp) (hr : Room j X.A) (hk : k ≤ j) (hgd : X.A.guards = some []) (hx : Passes CX X E) (ha : PA X (e :: es) t) (hg : Gl X x := by rfl)
    (hdb : (x == ("__debug__" : Str)) = false := by decide) (he : starEach (e :: es) X.env = (false, eval e X.env) :: starEach es X.env := by rfl) (hpl : (backTo pos (starEach es X.env)).any (·.1) = false := by rfl) :
    PE X (.Call (.Name x p) (e :: es) [] pos) (tCall sp [] E t) := by
  obtain ⟨f, fd, F, m, kp, b⟩ := c.ex
  refine ⟨fun pins s σ H Q I h => ?_⟩
  refine wpAny_Call_Name_kw (ld_glob I hg m ?_ hdb)
  refine PySem.W.callWith_K (h₀ := X.base) I.ok.mod.kin kp (thn (ha.run pos pins s σ H _ I h) fun us s1 ⟨vs, H1, I1, r, q⟩ => ⟨I1.kIn, ?_⟩) he hpl
  have q2 : sp (vs ++ []) H1 Q E := q
  rw [List.append_nil] at q2
  have hl : (us ++ []).length = ps.length := by rw [List.append_nil, ← r.length]; exact F.len _ _ _ _ q2
  have hb := b s1 us I1.kIn hl
  rw [List.append_nil] at hb
  refine wpAny_call (codeAny_mono (F.run X.A X.stack s1 H1 ⟨us, []⟩ us vs Q E (hr.mono hk) hgd I1.env0 hb r q2) fun z s' hq => ?_)
  rcases z with e | fl
  · exact hx pins σ H1 s1 e s' I1 hq
  · cases fl <;> first | exact I1.after hq | exact False.elim hq
end
end HL
set_option Elab.async false
set_option linter.all false
set_option maxRecDepth 100000
set_option maxHeartbeats 4000000
/-! own exceptions over any built-in ones: made by position or by keyword -/
namespace EX
open PySem PySem.W PySem.Calls PyProof.Rows PySem.HandSPX
open Builtin Builtin.ObjectAttr
theorem pass_E (self : Value) : refuseLoop self "__setattr__" [.type "Exception", .type "BaseException", .type "object"] = pure () := F.store_Exception.passes self
theorem pass_K (self : Value) : refuseLoop self "__setattr__" [.type "KeyError", .type "LookupError", .type "Exception", .type "BaseException", .type "object"] = pure () := by kernel_rfl
/-- the classes behind a class of ours: own ones, then built-in exceptions among which these things stand -/
structure Ch (B : String) (bm : List Value) : Prop where
  b : bm.contains (.type B) = true
  a : bm.contains (.type "AttributeError") = false
  n : bm.contains (.type "NameError") = false
  o : bm.contains (.type "object") = true
  p : ∀ self, refuseLoop self "__setattr__" bm = pure ()
theorem ch_Y (Y : Addr) : Ch "Exception" [.ref Y, .type "Exception", .type "BaseException", .type "object"] := ⟨rfl, rfl, rfl, rfl, fun self => (refuseLoop_ref ..).trans (pass_E self)⟩
theorem ch_K : Ch "LookupError" [.type "KeyError", .type "LookupError", .type "Exception", .type "BaseException", .type "object"] := ⟨rfl, rfl, rfl, rfl, pass_K⟩
theorem ch_E : Ch "Exception" [.type "Exception", .type "BaseException", .type "object"] := ⟨rfl, rfl, rfl, rfl, pass_E⟩
section
variable {prog : Program} {w : World} {A : Around} {E : Value → Shared → Prop} {R : Result → Shared → Prop} {hp : Heap} {g : Array GenState} {d : Drawn} {t : Nat} {os : OsState}
/-- self.f = v on such an exception without a dict -/
theorem osaG {K : W.Frag} {name : Str} {tk : Tok} {v : Value} {x C : Addr} {fv : Array Value} {cd : ClassData} {B : String} {bm : List Value} (ch : Ch B bm)
    (X : K.In hp) (hx : hp.get? x = some { cls := .ref C, data := .fields fv }) (hcd : W.clsIn K C = some cd) (hm : cd.mro = .ref C :: bm) (hh : cd.hasDict = true) (ha : W.findIn K (.ref C) name = some none)
    (hq : ∀ h' tk' dx, (∀ b o, b ≠ x → hp.get? b = some o → h'.get? b = some o) → hp.objs.size ≤ dx → dx ≠ x → h'.get? x = some { cls := .ref C, dict := some dx, data := .fields fv } →
      h'.Ns1 dx (fun y => if y = name then some v else none) → R (.ok (.ret .none)) ⟨h', g, d, tk', os⟩) :
    codeAny (model prog w) A (.call (.builtin "object.__setattr__") ⟨[.ref x, .str name tk, v], []⟩) R ⟨hp, g, d, t, os⟩ := by
  have I : W.InstAt hp x { cls := .ref C, data := .fields fv } C none := ⟨hx, rfl, rfl, trivial⟩
  have SF := F.store_object
  have ne : cd.mro.isEmpty = false := by rw [hm]; rfl
  have hob : cd.mro.contains (.type "object") = true := by rw [hm, List.contains_cons, ch.o, Bool.or_true]
  have hxs : x ≠ hp.objs.size := Nat.ne_of_lt (Heap.lt_size hx)
  have sub : W.Looks (model prog w) hp (isInstance (.ref x) (.type "object")) true := I.type.andThen (W.looks_mroIn X (by unfold W.mroIn; rw [hcd, Option.bind_some, if_neg (by rw [ne]; decide), hob]))
  refine codeAny_call_builtin SF.slot.plain SF.entry (@W.check_slot (model prog w) _ _ ⟨hp, g, d, t, os⟩ "object.__setattr__" "object" "__setattr__" (.ref x) [.str name tk, v] [] _ SF.kind SF.split sub (SF.args (.ref x) (.str name tk) v) ?_)
  have hmr : W.Looks (model prog w) hp (mroOf (.ref C)) cd.mro := (W.looks_clsIn X hcd).andThen .now
  have L3 : W.Looks (model prog w) hp (storeTaker? none) none := .now
  have hcls : W.Looks (model prog w) hp (classData C) cd := W.looks_clsIn X hcd
  rw [W.osa_eq, refuse_eq]
  refine wpAny_bind (wpAny_bind (I.type.at (wpAny_bind (hmr.at ?_))))
  rw [hm, refuseLoop_ref, ch.p]
  refine wpAny_pure (wpAny_bind (I.type.at (wpAny_bind ((W.looks_findIn X ha).at (wpAny_bind (L3.at ?_))))))
  show wpAny _ _ (storeInOwnDict (.ref x) (.ref C) (.str name tk) name v false) _ _ _
  obtain ⟨nm, bs, mro, ns, qn, hd, sn, sb, ab, col, del⟩ := cd
  dsimp only at hh
  subst hh
  unfold storeInOwnDict ownDictForStores
  repeat (first | with_reducible refine store_in_new ?_ ?_ | with_reducible refine wpAny_loadPart_at hx ?_ | with_reducible refine hcls.at ?_ | wp_step)
  · exact ⟨_, #[], _, (Heap.get?_update_ne _ _ _ _ hxs.symm).trans (Heap.get?_push_at rfl rfl), rfl, fun e he => absurd he (by simp), fun _ => rfl⟩
  · intro h' tk' hn' hs
    have hx₁ : (hp.push { cls := .type "dict", data := .dict #[] }).get? x = some { cls := .ref C, data := .fields fv } := Heap.get?_push_of_some _ hx
    refine hq h' tk' hp.objs.size (fun b o hb ho => ?_) (Nat.le_refl _) hxs.symm ?_ hn'
    · exact (hs.2 b (Nat.ne_of_lt (Heap.lt_size ho))).trans ((Heap.get?_update_ne _ _ _ _ hb).trans (Heap.get?_push_of_some _ ho))
    · exact (hs.2 x hxs).trans (Heap.get?_update_self _ hx₁ rfl)
end
/-! ### type.__call__: BaseException.__new__, then the own __init__; any arguments -/
section
variable {M : Model} {A : Around} {E : Value → Shared → Prop} {h : Heap} {g : Array GenState} {d : Drawn} {t : Nat} {os : OsState}
variable {nm q : Str} {C N : Addr} {bs bm bmB : List Value} {hdct : Bool} {sn : List Str} {sub : List Value} {ab : Bool} {col : Option Bool} {dd : Option Addr} {k0 k1 k2 k3 k5 : Option Value} {B newId initId : String}
theorem check_newK (F : ExcBaseFacts B newId initId bmB) (ch : Ch B bm) {rest : List Value} {n : Str} {v : Value} {kw : List (Str × Value)} (hkw : kw = [] ∨ kw = [(n, v)]) {Q : Unit → Shared → Prop}
    (hC : h.get? C = some (excClassObj nm q C N bs bm hdct sn sub ab col dd k0 k1 k2 k3 k5 newId)) (hq : Q () ⟨h, g, d, t, os⟩) : wpAny M A (checkBuiltinCall newId ⟨.ref C :: rest, kw⟩) Q E ⟨h, g, d, t, os⟩ := by
  have hcont : (Value.ref C :: bm).contains (.type B) = true := by rw [List.contains_cons, ch.b, Bool.or_true]
  have hstar := F.noStar
  rcases hkw with rfl | rfl
  · simp only [checkBuiltinCall, F.newKind, F.newSplit, F.newRow]
    repeat (first | refine wpAny_loadPart_at hC ?_ | (refine wpAny_isSubtype_exc hC ?_; rw [hcont]) | refine wpAny_staticBase_exc hC ?_ | refine wpAny_madeBy_exc hC ?_ | simp only [bne_self_eq_false, Bool.false_eq_true, if_false] | wp_step)
    exact hq
  · simp only [checkBuiltinCall, F.newKind, F.newSplit, F.newRow]
    repeat (first | refine wpAny_loadPart_at hC ?_ | (refine wpAny_isSubtype_exc hC ?_; rw [hcont]) | refine wpAny_staticBase_exc hC ?_ | refine wpAny_madeBy_exc hC ?_ | simp only [bne_self_eq_false, Bool.false_eq_true, if_false] | wp_step)
    exact hq
end
end EX
set_option Elab.async false
set_option linter.all false
set_option maxRecDepth 100000
set_option maxHeartbeats 4000000
namespace EX
open PySem PySem.W PySem.Calls PyProof.Rows PySem.HandSPX
open Builtin Builtin.ObjectAttr
section
variable {prog : Program} {w : World} {A : Around} {E : Value → Shared → Prop} {R : Result → Shared → Prop} {h : Heap} {g : Array GenState} {d : Drawn} {t : Nat} {os : OsState}
variable {nm q : Str} {C N : Addr} {bs bm bmB : List Value} {hdct : Bool} {sn : List Str} {sub : List Value} {ab : Bool} {col : Option Bool} {dd : Option Addr} {k0 k1 k2 k3 k5 : Option Value} {B newId initId : String}
theorem newK (F : ExcBaseFacts B newId initId bmB) (ch : Ch B bm) {rest : List Value} {n : Str} {v : Value} {kw : List (Str × Value)} (hkw : kw = [] ∨ kw = [(n, v)])
    (hC : h.get? C = some (excClassObj nm q C N bs bm hdct sn sub ab col dd k0 k1 k2 k3 k5 newId)) (hq : R (.ok (.ret (.ref (h.objs.size + 1)))) ⟨(h.push (W.kdv_tup rest)).push (excO C h.objs.size), g, d, t, os⟩) (hrest : rest.length ≤ sizeLine) :
    codeAny (model prog w) A (.builtin newId ⟨.ref C :: rest, kw⟩) R ⟨h, g, d, t, os⟩ := by
  have hends := F.ends
  have hcB : (Value.ref C :: bm).contains (.type B) = true := by rw [List.contains_cons, ch.b, Bool.or_true]
  have hcA : (Value.ref C :: bm).contains (.type "AttributeError") = false := by rw [List.contains_cons, ch.a]; rfl
  have hcN : (Value.ref C :: bm).contains (.type "NameError") = false := by rw [List.contains_cons, ch.n]; rfl
  refine codeAny_builtinAt F.entry ?_
  unfold Builtin.«BaseException.__new__»
  refine PySem.wpAt_bind ?_
  show PySem.wpAt _ _ _ (stack >>= _) _ _ _
  refine PySem.wpAt_bind (PySem.wpAt_stack fun p below => PySem.wpAt_of_wpAny ?_)
  wp_walk
  refine PySem.wpAt_of_wpAny ?_
  rw [F.owner]
  repeat (first | with_reducible refine wpAny_madeHere_exc F.canon hC ?_ | with_reducible refine wpAny_loadPart_at hC ?_ | (with_reducible refine wpAny_isSubtype_exc hC ?_; first | rw [hcB] | rw [hcA] | rw [hcN]) | wp_step)
  show R _ _
  rw [Heap.size_push]
  exact hq
theorem type_callK (F : ExcBaseFacts B newId initId bmB) (ch : Ch B bm) {rest : List Value} {n : Str} {v : Value} {kw : List (Str × Value)} (hkw : kw = [] ∨ kw = [(n, v)]) {fI : Addr} {Q : Fin → Shared → Prop}
    (hC : h.get? C = some (excClassObj nm q C N bs bm hdct sn sub ab col dd k0 k1 k2 k3 k5 newId))
    (hi : W.Looks (model prog w) h (typeLookup (.ref C) "__init__") (some (.ref fI))) (hb : ∀ self, W.Looks (model prog w) h (bindSpecial (.ref fI) self) (.ref fI, [self])) (hrest : rest.length ≤ sizeLine)
    (hq : codeAny (model prog w) A (.call (.ref fI) ⟨.ref (h.objs.size + 1) :: rest, kw⟩)
      (fun r s' => match r with | .ok (.ret v) => v = .none ∧ Q (.done (.ret (.ref (h.objs.size + 1)))) s' | .ok _ => False | .error e => E e s')
      ⟨(h.push (W.kdv_tup rest)).push (excO C h.objs.size), g, d, t, os⟩) :
    wpAny (model prog w) A (Builtin.«type.__call__» ⟨.ref C :: rest, kw⟩) Q E ⟨h, g, d, t, os⟩ := by
  repeat (first | with_reducible refine wpAny_loadPart_at hC ?_ | with_reducible refine wpAny_madeBy_exc hC ?_ | wp_step)
  refine codeAny_call_builtin_code (Code.quiet_builtin _ F.quiet) (check_newK F ch hkw hC ?_)
  refine newK F ch hkw hC ?_ hrest
  show wpAny _ _ _ _ _ _
  have k : ∀ b o, h.get? b = some o → ((h.push (W.kdv_tup rest)).push (excO C h.objs.size)).get? b = some o := fun b o e => Heap.get?_push_of_some _ (Heap.get?_push_of_some _ e)
  have hC₁ := k _ _ hC
  have hget : ((h.push (W.kdv_tup rest)).push (excO C h.objs.size)).get? (h.objs.size + 1) = some (excO C h.objs.size) := by heap_get
  have hcC : (Value.ref C :: bm).contains (.ref C) = true := by simp
  have i1 := hi.keeps k
  have b1 := (hb (.ref (h.objs.size + 1))).keeps k
  unfold isInstance
  repeat (first | with_reducible refine wpAny_loadPart_at hget ?_ | (with_reducible refine wpAny_isSubtype_exc hC₁ ?_; rw [hcC]) | wp_step)
  show wpAny _ _ (typeLookup (.ref C) _) _ _ _
  refine i1.at ?_
  refine wpAny_holding (wpAny_bind (b1.at ?_))
  refine wpAny_bind (wpAny_call (codeAny_mono hq fun r s' z => ?_))
  rcases r with e | (v | _ | _ | _) <;> first | exact z | exact z.elim | skip
  obtain ⟨rfl, z⟩ := z
  first
    | exact wpAny_pure (wpAny_pure z)
    | (wp_walk; exact z)
theorem check_type_callK {M : Model} {rest : List Value} {n : Str} {v : Value} {kw : List (Str × Value)} (hkw : kw = [] ∨ kw = [(n, v)]) {Q : Unit → Shared → Prop} (hC : h.get? C = some (excClassObj nm q C N bs bm hdct sn sub ab col dd k0 k1 k2 k3 k5 newId))
    (hq : Q () ⟨h, g, d, t, os⟩) : wpAny M A (checkBuiltinCall "type.__call__" ⟨.ref C :: rest, kw⟩) Q E ⟨h, g, d, t, os⟩ := by
  have f3 := tc_sub
  have hT : (⟨h, g, d, t, os⟩ : Shared).TypeIs (.ref C) "type" := ⟨_, hC, rfl⟩
  rcases hkw with rfl | rfl
  · exact wpAny_check_type_call_sub hC hq
  · simp only [checkBuiltinCall, tc_kind, tc_split]
    repeat (any_goals (first | assumption | with_reducible refine wpAny_loadPart_at hC ?_ | with_reducible refine wpAny_onRaise ?_ | with_reducible refine wpAny_map ?_ | wp_step))
theorem callK (F : ExcBaseFacts B newId initId bmB) (ch : Ch B bm) {rest : List Value} {n : Str} {v : Value} {kw : List (Str × Value)} (hkw : kw = [] ∨ kw = [(n, v)]) {fI : Addr}
    (hC : h.get? C = some (excClassObj nm q C N bs bm hdct sn sub ab col dd k0 k1 k2 k3 k5 newId))
    (hi : W.Looks (model prog w) h (typeLookup (.ref C) "__init__") (some (.ref fI))) (hb : ∀ self, W.Looks (model prog w) h (bindSpecial (.ref fI) self) (.ref fI, [self])) (hrest : rest.length ≤ sizeLine)
    (hq : codeAny (model prog w) (A.under (.builtin "type.__call__" ⟨.ref C :: rest, kw⟩)) (.call (.ref fI) ⟨.ref (h.objs.size + 1) :: rest, kw⟩) (W.InitBack (h.objs.size + 1) R)
      ⟨(h.push (W.kdv_tup rest)).push (excO C h.objs.size), g, d, t, os⟩) :
    codeAny (model prog w) A (.call (.ref C) ⟨rest, kw⟩) R ⟨h, g, d, t, os⟩ := by
  have f1 := tc_lookup
  have f2 := tc_bind (.ref C)
  have hTy : (⟨h, g, d, t, os⟩ : Shared).TypeIs (.ref C) "type" := ⟨_, hC, rfl⟩
  refine codeAny_of_tree ?_
  show wpAny _ _ (callAny (.ref C) _) _ _ _
  repeat (any_goals (first | assumption | with_reducible refine wpAny_loadPart_at hC ?_ | wp_step))
  refine ⟨rfl, ?_⟩
  refine codeAny_call_builtin_at (Code.quiet_builtin _ (by decide +kernel)) entry_typeCall (check_type_callK hkw hC (type_callK F ch hkw hC hi hb hrest ?_))
  refine codeAny_mono hq fun r s' z => ?_
  rcases r with e | (v | _ | _ | _) <;> exact z
end
end EX
set_option Elab.async false
set_option linter.all false
set_option maxRecDepth 100000
set_option maxHeartbeats 4000000
namespace EX
open PySem PySem.W PySem.Calls PyProof.Rows PySem.HandSPX
/-! ### the text of __init__(self, f): self.f = f -/
def inA (f : Str) (p1 p2 : Pos) : Arguments := { posonlyargs := [], args := [{ arg := "self", annotation := none, pos := p1 }, { arg := f, annotation := none, pos := p2 }], vararg := none, kwonlyargs := [], kw_defaults := [], kwarg := none, defaults := [] }
def inB (f : Str) (q1 q2 q3 q4 : Pos) : List Stmt := [.Assign [.Attribute (.Name "self" q1) f q2] (.Name f q3) q4]
def inS (f : Str) : Scope := { kind := .function, names := [(PySem.Str.ofString "self", .local), (f, .local)], isGenerator := false, isCoroutine := false, more := [] }
def F3 (f : Str) : Prop := f = PySem.Str.ofString "at" ∨ f = PySem.Str.ofString "word" ∨ f = PySem.Str.ofString "name"
/-- what the written part says of an own exception class nm at C whose __init__ at fI keeps its argument in f -/
structure XT (K : Frag) (mg : Str → Option Value) (nm f : Str) (C fI : Addr) : Prop where
  f3 : F3 f
  gC : mg nm = some (.ref C)
  ch : ∃ B newId initId bmB bm, ExcBaseFacts B newId initId bmB ∧ Ch B bm ∧ ∃ n q N bs sn sub ab col dd k0 k1 k2 k3 k5, K.lookup C = some (excClassObj n q C N bs bm true sn sub ab col dd k0 k1 k2 k3 k5 newId)
  sa : findIn K (.ref C) "__setattr__" = some (some (.builtin "object.__setattr__"))
  ga : findIn K (.ref C) "__getattribute__" = some (some (.builtin "BaseException.__getattribute__"))
  gg : findIn K (.ref C) "__getattr__" = some none
  noN : findIn K (.ref C) f = some none
  iC : findIn K (.ref C) "__init__" = some (some (.ref fI))
  tC : typeIn K (.ref fI) = some (.type "function")
  kC : keepIn K (.ref C) = true
  exC : subIn K (.ref C) (.type "BaseException") = some true
  tyC : typeIn K (.ref C) = some (.type "type")
  hdC : hasDictIn K C = true
  fn : ∃ (oc : Value) (od : Option Addr) (doc pm : Value) (an : Option Addr) (cdv ct : Value) (osl : Array (Option Value)) (p1 p2 q1 q2 q3 q4 : Pos) (qn : Str),
    K.lookup fI = some ⟨oc, od, .func (fnOf "__init__" qn (inA f p1 p2) (inB f q1 q2 q3 q4) (inS f) .none .none doc pm an cdv ct), osl⟩ ∧ codeIn K cdv qn = true
/-- what __init__ leaves of a fresh exception at x -/
structure IEnd (f : Str) (h h' : Heap) (x C dx t1 : Addr) (v : Value) : Prop where
  keep : ∀ b o, b ≠ x → h.get? b = some o → h'.get? b = some o
  obj : h'.get? x = some { cls := .ref C, dict := some dx, data := .fields #[.ref t1, .none, .none, .none, .bool false, .none] }
  dbig : h.objs.size ≤ dx
  dne : dx ≠ x
  ns : h'.Ns1 dx (fun y => if y = f then some v else none)
/-- a made one -/
structure Made (f : Str) (h h' : Heap) (e C d : Addr) (v : Value) : Prop where
  keep : ∀ b o, h.get? b = some o → h'.get? b = some o
  new : h.objs.size ≤ e
  obj : ∃ oe vs, h'.get? e = some oe ∧ oe.cls = .ref C ∧ oe.dict = some d ∧ oe.data = .fields vs ∧ vs[1]? = some .none
  dbig : h.objs.size ≤ d
  dne : d ≠ e
  ns : h'.Ns1 d (fun y => if y = f then some v else none)
theorem one_size (v : Value) : [v].length ≤ sizeLine := by
  rw [sizeLine_eq]
  exact (by decide : 1 ≤ 16777216)
theorem ldF {M : Model} {s : Shared} {name : Str} {scope : Scope} {L a : Addr} {cd : Value} {m : Str → Option Value} {x : Str} {pos : Pos} {v : Value} {Q : Value → Shared → Prop} {A : Around} {E : Value → Shared → Prop} (hn : s.heap.Ns L m) (hv : m x = some v) (h : Q v s)
    (hk : scope.kind = .function := by rfl) (hl : (envOfC name scope L a cd).kindOf x = some .local := by rfl) (hd : (x == ("__debug__" : Str)) = false := by decide) :
    wpAny M A (eval (.Name x pos) (envOfC name scope L a cd)) Q E s := wpAny_Name (wpAny_loadName_local hk hl hn hv h) hd
section
variable {prog : Program} {w : World} {A : Around} {E : Value → Shared → Prop} {R : Result → Shared → Prop} {s : Shared} {K : Frag} {mg : Str → Option Value} {C fI : Addr} {nm f : Str}
theorem initX (T : XT K mg nm f C fI) {x t0 : Addr} {v : Value} {as : List Value} {kw : List (Str × Value)} (hargs : (as = [v] ∧ kw = []) ∨ (as = [] ∧ kw = [(f, v)])) (X : K.In s.heap) (hlim : s.heap.NoLimit) (hx : s.heap.get? x = some (excO C t0)) (hroom : A.depth < recursionLimit)
    (hq : ∀ h' tk dx, IEnd f s.heap h' x C dx t0 v → R (.ok (.ret .none)) { s with heap := h', toks := tk }) :
    codeAny (model prog w) A (.call (.ref fI) ⟨.ref x :: as, kw⟩) R s := by
  have f3 := T.f3
  obtain ⟨oc, od, doc, pm, an, cdv, ct, osl, p1, p2, q1, q2, q3, q4, qn, ho, hcd⟩ := T.fn
  obtain ⟨B, newId, initId, bmB, bm, FB, ch, n, q, N, bs, sn, sub, ab, col, dd, k0, k1, k2, k3, k5, hC⟩ := T.ch
  have hcl : clsIn K C = some { name := n, bases := bs, mro := .ref C :: bm, ns := N, qualname := q, hasDict := true, slotNames := sn, subclasses := sub, abstract := ab, collection := col, hasDel := false } := by unfold clsIn; rw [hC] <;> rfl
  have bnd : BindsTo s (fnOf "__init__" qn (inA f p1 p2) (inB f q1 q2 q3 q4) (inS f) .none .none doc pm an cdv ct) ⟨.ref x :: as, kw⟩ [("self", .ref x), (f, v)] := by
    rcases hargs with ⟨rfl, rfl⟩ | ⟨rfl, rfl⟩ <;> rcases f3 with rfl | rfl | rfl <;> exact BindsTo.of_eq (by first | rfl | with_unfolding_all rfl)
  rcases f3 with rfl | rfl | rfl <;>
  · refine Att.call_fn (binds := [("self", .ref x), (_, v)]) X hlim ho hcd hroom bnd (by first | rfl | decide | with_unfolding_all rfl) (fun s₁ IC => ?_) rfl rfl rfl
    obtain ⟨h₁, tk₁, rfl⟩ := IC.toInCall.same
    have k : ∀ b o, s.heap.get? b = some o → h₁.get? b = some o := IC.toInCall.keep
    have hn := IC.toInCall.ns
    have X₁ : K.In h₁ := X.keeps k
    have hx₁ := k _ _ hx
    show wpAny _ _ (execs _ _) _ _ _
    refine wpAny_execs_cons (plainObj_wpAny_Assign_Attribute ?_)
    refine ldF (v := v) hn (by first | rfl | with_unfolding_all rfl | kernel_rfl) (ldF (v := .ref x) hn (by first | rfl | with_unfolding_all rfl | kernel_rfl) ?_)
    refine set_plain X₁ (ox := excO C t0) (od := none) ⟨hx₁, rfl, rfl, trivial⟩ T.sa ?_
    refine osaG ch X₁ hx₁ hcl rfl rfl T.noN (fun h₃ tk₃ dx k₃ dn dne hx₃ hn₃ => ?_)
    show wpAny _ _ (execs _ _) _ _ _
    have z : s.heap.objs.size < h₁.objs.size := hn.lt
    exact wpAny_execs_nil (hq h₃ tk₃ dx ⟨fun b o hb e => k₃ b o hb (k b o e), hx₃, Nat.le_of_lt (Nat.lt_of_lt_of_le z dn), dne, hn₃⟩)
theorem madeX (T : XT K mg nm f C fI) {v : Value} {as : List Value} {kw : List (Str × Value)} (hargs : (as = [v] ∧ kw = []) ∨ (as = [] ∧ kw = [(f, v)])) (X : K.In s.heap) (hlim : s.heap.NoLimit) (hroom : A.depth + 1 < recursionLimit)
    (hq : ∀ h' tk e d, Made f s.heap h' e C d v → R (.ok (.ret (.ref e))) { s with heap := h', toks := tk }) :
    codeAny (model prog w) A (.call (.ref C) ⟨as, kw⟩) R s := by
  obtain ⟨B, newId, initId, bmB, bm, FB, ch, n, q, N, bs, sn, sub, ab, col, dd, k0, k1, k2, k3, k5, hC⟩ := T.ch
  obtain ⟨hp, g, dr, tk, os⟩ := s
  have k : ∀ b o, hp.get? b = some o → ((hp.push (kdv_tup as)).push (excO C hp.objs.size)).get? b = some o := fun b o e => Heap.get?_push_of_some _ (Heap.get?_push_of_some _ e)
  have hget : ((hp.push (kdv_tup as)).push (excO C hp.objs.size)).get? (hp.objs.size + 1) = some (excO C hp.objs.size) := by heap_get
  have has : as.length ≤ sizeLine := by
    rcases hargs with ⟨rfl, _⟩ | ⟨rfl, _⟩
    · exact one_size v
    · exact Nat.zero_le _
  have hkw : kw = [] ∨ kw = [(f, v)] := by
    rcases hargs with ⟨_, h⟩ | ⟨_, h⟩
    · exact .inl h
    · exact .inr h
  refine callK FB ch hkw (X _ _ hC) (looks_findIn X T.iC) (fun self => bind_fn X self T.tC) has ?_
  refine initX (s := ⟨(hp.push (kdv_tup as)).push (excO C hp.objs.size), g, dr, tk, os⟩) T hargs (X.keeps k) (hlim.keeps k) hget ?_ fun h' tk' dx ⟨k', hx, dn, dne, hns⟩ => ?_
  · show A.depth + 1 < recursionLimit
    exact hroom
  · have old : ∀ b o, hp.get? b = some o → h'.get? b = some o := fun b o e => k' b o (Nat.ne_of_lt (Nat.lt_succ_of_lt (Heap.lt_size e))) (k b o e)
    have z : hp.objs.size + 1 + 1 ≤ dx := by
      first
        | (simpa only [Heap.size_push] using dn)
        | exact dn
        | (have q := dn; rw [Heap.size_push, Heap.size_push] at q; exact q)
    exact ⟨rfl, hq h' tk' (hp.objs.size + 1) dx ⟨old, Nat.le_succ _, ⟨_, _, hx, rfl, rfl, rfl, rfl⟩, Nat.le_trans (Nat.le_trans (Nat.le_succ _) (Nat.le_succ _)) z, dne, hns⟩⟩
end
end EX
set_option Elab.async false
set_option linter.all false
set_option maxRecDepth 100000
set_option maxHeartbeats 4000000
/-! the rules of own exceptions: made (by position, by name, without arguments), raised, asked for their class, read -/
namespace EX
open PySem PySem.Spec PyProof.Rows L2 DL
theorem relO_f {f0 : Str} {v : V} {v' : Value} (r : RelV v v') (f : Str) : RelO (List.lookup f [(f0, v)]) (if f = f0 then some v' else none) := by
  by_cases hw : f = f0
  · subst hw
    rw [if_pos rfl]
    have q : List.lookup f [(f, v)] = some v := by simp [List.lookup]
    rw [q]
    exact r
  · rw [if_neg hw]
    have qw : (f == f0) = false := by simpa using hw
    have q2 : List.lookup f [(f0, v)] = none := by simp [List.lookup, qw]
    rw [q2]
    trivial
theorem xo_ok {P : Program} {w : World} {H : Hp} {h : Heap} {a : Addr} {cls : Value} {d : Option Addr} {oe : Obj} {vs : Array Value} (e : h.get? a = some oe) (z : Zc cls d oe) (hd : oe.data = .fields vs) : ObjOk P w H h a (XO cls d a) :=
  ⟨⟨oe, vs, e, z, hd⟩, ⟨oe, e⟩, fun _ _ ⟨o, v, q, r⟩ k => ⟨o, v, k o q, r⟩⟩
section
variable {X : Cx} {pins : List (Addr × Obj)} {σ : L2.St} {H : Hp} {s : Shared} {C fI : Addr} {nm fld : Str}
/-- what the making leaves, tracked: the dict, the exception beside -/
theorem made_inv {hp h' : Heap} {g : Array GenState} {dr : Drawn} {tk tk' : Nat} {os : OsState} {e d : Addr} {v : V} {v' : Value} (M : Made fld hp h' e C d v') (I1 : Inv X pins σ H ⟨hp, g, dr, tk, os⟩) (rv : RelV v v') :
    ∃ G' : Heap, (∀ b o, G'.get? b = some o → h'.get? b = some o) ∧ G'.get? e = none ∧ Inv X pins σ (upd H d (.xd [(fld, v)])) ⟨G', g, dr, tk', os⟩ ∧ H d = none ∧ H e = none := by
  have hns := M.ns
  obtain ⟨G', g1, g2⟩ := restrict h' fun b => decide (b ≠ e)
  have gk : ∀ b, b ≠ e → G'.get? b = h'.get? b := fun b hb => g1 b (decide_eq_true hb)
  have ge : G'.get? e = none := g2 e (by simp)
  have old : ∀ b o, hp.get? b = some o → G'.get? b = some o := fun b o q => (gk b (Nat.ne_of_lt (Nat.lt_of_lt_of_le (Heap.lt_size q) M.new))).trans (M.keep b o q)
  have ob : ObjOk X.prog X.w (upd H d (.xd [(fld, v)])) G' d (.xd [(fld, v)]) := ⟨_, hns.at (fun o q => (gk d M.dne).trans q), fun f => relO_f rv f⟩
  have J : Inv X pins σ (upd H d (.xd [(fld, v)])) ⟨G', g, dr, tk', os⟩ := I1.laid (t' := tk') old M.dbig ob
  refine ⟨G', fun b o q => ?_, ge, J, I1.hok.fresh M.dbig, I1.hok.fresh M.new⟩
  by_cases hb : b = e
  · rw [hb, ge] at q
    cases q
  · exact (gk b hb).symm.trans q
/-- X(e), to be raised -/
def tMkX (C : Addr) (fld : Str) (ta : TA) : L2.St → Hp → XK → Prop := fun σ H Q => ta σ H fun vs H1 => ∃ v, vs = [v] ∧ ∀ d, H1 d = none → Q (.ref C) (some d) (upd H1 d (.xd [(fld, v)]))
/-- X(e), a value -/
def tNewX (C : Addr) (fld : Str) (ta : TA) : TE := fun σ H Q => ta σ H fun vs H1 => ∃ v, vs = [v] ∧ ∀ d a, H1 d = none → H1 a = none → a ≠ d → Q (.ref a) (upd (upd H1 d (.xd [(fld, v)])) a (XO (.ref C) (some d) a))
theorem made_end {ta : TA} {Q : VK} {v : V} {v' : Value} (T : XT X.K X.mg nm fld C fI) {k : Nat} (hr : Room k X.A) (hk : 1 ≤ k) (I1 : Inv X pins σ H s) (rv : RelV v v') {as : List Value} {kw : List (Str × Value)} (hargs : (as = [v'] ∧ kw = []) ∨ (as = [] ∧ kw = [(fld, v')]))
    (q : ∀ d a, H d = none → H a = none → a ≠ d → Q (.ref a) (upd (upd H d (.xd [(fld, v)])) a (XO (.ref C) (some d) a))) : wpAny (model X.prog X.w) X.A (call (.ref C) as kw) (EP X pins σ Q) X.xe s := by
  have hlim := I1.nolimit
  obtain ⟨hp, g, dr, tk, os⟩ := s
  refine wpAny_call (madeX T hargs I1.kIn hlim (by have := hr.dp; omega) fun h' tk' e d M => ?_)
  show EP X pins σ Q (.ref e) ⟨h', g, dr, tk', os⟩
  obtain ⟨oe, fv, hoe, hc, hd, hdat, h1⟩ := M.obj
  obtain ⟨G', k1, ge, J, nd, ne⟩ := made_inv (tk' := tk') M I1 rv
  have hn : upd H d (.xd [(fld, v)]) e = none := by
    rw [upd_ne (Ne.symm M.dne)]
    exact ne
  exact ⟨.ref e, _, J.laidN (h' := h') (t' := tk') k1 ge hn (xo_ok hoe ⟨hc, hd⟩ hdat), rfl, q d e nd ne (Ne.symm M.dne)⟩
theorem pe_newX {a : Expr} {ta : TA} {p pos : Pos} {k : Nat} (T : XT X.K X.mg nm fld C fI) (hr : Room k X.A) (hk : 1 ≤ k) (ha : PA X [a] ta) (hg : Gl X nm := by rfl) (hdb : (nm == ("__debug__" : Str)) = false := by decide)
    (he : starEach (a :: []) X.env = (false, eval a X.env) :: starEach [] X.env := by rfl) (hpl : (backTo pos (starEach [] X.env)).any (·.1) = false := by rfl) : PE X (.Call (.Name nm p) [a] [] pos) (tNewX C fld ta) := by
  refine ⟨fun pins s σ H Q I h => ?_⟩
  refine wpAny_Call_Name_kw (ld_glob I hg T.gC ?_ hdb)
  refine PySem.W.callWith_K (h₀ := X.base) I.ok.mod.kin T.kC (thn (ha.run pos pins s σ H _ I h) fun us s1 hh => ?_) he hpl
  obtain ⟨vs, H1, I1, r1, v, ev, q1⟩ := hh
  subst ev
  refine ⟨I1.kIn, ?_⟩
  cases r1 with
  | cons rv rn =>
    cases rn
    exact made_end (ta := ta) T hr hk I1 rv (.inl ⟨rfl, rfl⟩) q1
theorem pe_newXK {ta : TA} {p pos : Pos} {k : Nat} {kws : List Keyword} (T : XT X.K X.mg nm fld C fI) (hr : Room k X.A) (hk : 1 ≤ k) (hkw : PK X kws ta) (hg : Gl X nm := by rfl) (hdb : (nm == ("__debug__" : Str)) = false := by decide)
    (hall : (backToKw pos (keywordEach kws X.env)).all (·.1.isSome) = true := by rfl) (hks : (backToKw pos (keywordEach kws X.env)).filterMap (·.1) = [fld] := by rfl)
    (hpl : ((backTo pos (starEach [] X.env)).any (·.1) || (backToKw pos (keywordEach kws X.env)).any (·.1.isNone)) = false := by rfl) : PE X (.Call (.Name nm p) [] kws pos) (tNewX C fld ta) := by
  refine ⟨fun pins s σ H Q I h => ?_⟩
  refine wpAny_Call_Name_kw (ld_glob I hg T.gC ?_ hdb)
  refine PySem.W.callWith_KW0 (h₀ := X.base) I.ok.mod.kin T.kC hall (thn (hkw.run pos pins s σ H _ I h) fun us s1 hh => ?_) hpl
  obtain ⟨vs, H1, I1, r1, v, ev, q1⟩ := hh
  subst ev
  refine ⟨I1.kIn, ?_⟩
  rw [hks]
  cases r1 with
  | cons rv rn =>
    cases rn
    exact made_end (ta := ta) T hr hk I1 rv (.inr ⟨rfl, rfl⟩) q1
theorem pmk_X {a : Expr} {ta : TA} {p pos : Pos} {k : Nat} (T : XT X.K X.mg nm fld C fI) (hr : Room k X.A) (hk : 1 ≤ k) (ha : PA X [a] ta) (hg : Gl X nm := by rfl) (hdb : (nm == ("__debug__" : Str)) = false := by decide)
    (he : starEach (a :: []) X.env = (false, eval a X.env) :: starEach [] X.env := by rfl) (hpl : (backTo pos (starEach [] X.env)).any (·.1) = false := by rfl) : PMk X (.Call (.Name nm p) [a] [] pos) (tMkX C fld ta) := by
  intro pins s σ H Q I h
  refine wpAny_Call_Name_kw (ld_glob I hg T.gC ?_ hdb)
  refine PySem.W.callWith_K (h₀ := X.base) I.ok.mod.kin T.kC (thn (ha.run pos pins s σ H _ I h) fun us s1 hh => ?_) he hpl
  obtain ⟨vs, H1, I1, r1, v, ev, q1⟩ := hh
  subst ev
  refine ⟨I1.kIn, ?_⟩
  cases r1 with
  | cons rv rn =>
    rename_i v' us'
    cases rn
    show wpAny _ _ (call (.ref C) [v']) _ _ _
    have hlim := I1.nolimit
    obtain ⟨hp, g, dr, tk, os⟩ := s1
    refine wpAny_call (madeX T (.inl ⟨rfl, rfl⟩) I1.kIn hlim (by have := hr.dp; omega) fun h' tk' e d M => ?_)
    show MkP X pins σ Q (.ref e) ⟨h', g, dr, tk', os⟩
    obtain ⟨oe, fv, hoe, hc, hd, hdat, h1⟩ := M.obj
    obtain ⟨G', k1, ge, J, nd, ne⟩ := made_inv (tk' := tk') M I1 rv
    have hn : upd H1 d (.xd [(fld, v)]) e = none := by
      rw [upd_ne (Ne.symm M.dne)]
      exact ne
    exact ⟨e, oe, fv, ⟨G', g, dr, tk', os⟩, _, .ref C, some d, rfl, J, k1, ge, hoe, ⟨hc, hd⟩, hdat, h1, hn, rfl, I1.bare, raises_own T.exC T.tyC, q1 d nd⟩
/-- raise X(e) -/
theorem ps_raiseF {a : Expr} {ta : TA} {W : WX} {p pos pos2 : Pos} {k : Nat} (hc : X.calm = true) (T : XT X.K X.mg nm fld C fI) (hr : Room k X.A) (hk : 1 ≤ k) (tk : Takes X W) (ha : PA X [a] ta) (hg : Gl X nm := by rfl) (hdb : (nm == ("__debug__" : Str)) = false := by decide)
    (he : starEach (a :: []) X.env = (false, eval a X.env) :: starEach [] X.env := by rfl) (hpl : (backTo pos (starEach [] X.env)).any (·.1) = false := by rfl) :
    PS X (.Raise (some (.Call (.Name nm p) [a] [] pos)) none pos2) (tRaiseF fld C W ta) := ps_raise hc tk (pmk_X T hr hk ha hg hdb he hpl)
/-- an own class without own __init__, without arguments -/
structure X0 (K : PySem.W.Frag) (mg : Str → Option Value) (nm : Str) (C : Addr) : Prop where
  gC : mg nm = some (.ref C)
  kC : PySem.W.keepIn K (.ref C) = true
  q : PySem.W.excIn K C [.type "Exception", .type "BaseException", .type "object"] "Exception.__new__" = true
  exC : PySem.W.subIn K (.ref C) (.type "BaseException") = some true
  tyC : PySem.W.typeIn K (.ref C) = some (.type "type")
theorem pe_new0X {p pos : Pos} (T : X0 X.K X.mg nm C) (hg : Gl X nm := by rfl) (hdb : (nm == ("__debug__" : Str)) = false := by decide) : PE X (.Call (.Name nm p) [] [] pos) (fun _ H Q => ∀ a, H a = none → Q (.ref a) (upd H a (XO (.ref C) none a))) := by
  refine ⟨fun pins s σ H Q I h => ?_⟩
  refine wpAny_Call_Name_kw (ld_glob I hg T.gC ?_ hdb)
  refine PySem.W.callWith_K0 I.kIn T.kC ?_
  show wpAny _ _ (call (.ref C) []) _ _ _
  obtain ⟨bm, N, nm, qn, bs, hdct, sn, sub, ab, col, dd, k0, k1, k2, k3, k5, mN, hC, hN, hni, OT⟩ := exc_obj I.kIn T.q
  refine wpAny_call_exc_subT F.excBase_Exception OT hC hN hni (fun h' a hm => ?_) (by show 0 ≤ sizeLine; omega)
  have hn : H a = none := I.hok.gone hm.new
  obtain ⟨t, ht, _, _⟩ := hm.there
  exact ⟨.ref a, upd H a (XO (.ref C) none a), I.laidN hm.keeps hm.new hn (xo_ok ht ⟨rfl, rfl⟩ rfl), rfl, h a hn⟩
theorem pmk_0X {p pos : Pos} (T : X0 X.K X.mg nm C) (hg : Gl X nm := by rfl) (hdb : (nm == ("__debug__" : Str)) = false := by decide) : PMk X (.Call (.Name nm p) [] [] pos) (fun _ H Q => Q (.ref C) none H) := by
  intro pins s σ H Q I h
  refine wpAny_Call_Name_kw (ld_glob I hg T.gC ?_ hdb)
  refine PySem.W.callWith_K0 I.kIn T.kC ?_
  show wpAny _ _ (call (.ref C) []) _ _ _
  obtain ⟨bm, N, nm, qn, bs, hdct, sn, sub, ab, col, dd, k0, k1, k2, k3, k5, mN, hC, hN, hni, OT⟩ := exc_obj I.kIn T.q
  refine wpAny_call_exc_subT F.excBase_Exception OT hC hN hni (fun h' e hm => ?_) (by show 0 ≤ sizeLine; omega)
  exact mk_of I hm (raises_own T.exC T.tyC) h (I.hok.gone hm.new)
theorem ps_raise0 {W : WX} {p pos pos2 : Pos} (hc : X.calm = true) (T : X0 X.K X.mg nm C) (tk : Takes X W) (hg : Gl X nm := by rfl) (hdb : (nm == ("__debug__" : Str)) = false := by decide) :
    PS X (.Raise (some (.Call (.Name nm p) [] [] pos)) none pos2) (fun _ σ H => W (.ref C) none σ H) := ps_raise hc tk (pmk_0X T hg hdb)
/-- isinstance of an own exception -/
def rIsX (K : PySem.W.Frag) : List V → Hp → VK → Prop := fun xs H Q => ∃ (a D : Addr) (d : Option Addr) (c : V) (u : Value) (b : Bool), xs = [.ref a, c] ∧ ClsV c u ∧ ExcC K D ∧ H a = some (XO (.ref D) d a) ∧ (∀ dd, d = some dd → ∃ fs, H dd = some (.xd fs)) ∧ PySem.W.kitOne K (.ref D) u = some b ∧ Q (.bl b) H
theorem xo_at (I : Inv X pins σ H s) {a D : Addr} {d : Option Addr} (h : H a = some (XO (.ref D) d a)) (hd : ∀ dd, d = some dd → ∃ fs, H dd = some (.xd fs)) : ∃ oe od, PySem.W.InstAt s.heap a oe D od ∧ ∀ dd fs, d = some dd → H dd = some (.xd fs) → ∃ (o : Obj) (mA : Str → Option Value), od = some o ∧ (∀ f, PySem.W.lookIn f o = some (mA f)) ∧ ∀ f, RelO (fs.lookup f) (mA f) := by
  obtain ⟨⟨oe, vs, e, ⟨z1, z2⟩, hdat⟩, _, _⟩ := (show ObjOk X.prog X.w H s.heap a (XO (.ref D) d a) from I.hok a _ h)
  have nc : PySem.W.notCls oe = true := by unfold PySem.W.notCls; rw [hdat] <;> rfl
  cases d with
  | none => exact ⟨oe, none, ⟨e, z1, nc, by rw [z2] <;> trivial⟩, fun dd fs q => nomatch q⟩
  | some dd =>
    obtain ⟨fs, q⟩ := hd dd rfl
    obtain ⟨mA, hns, hr⟩ := (show ObjOk X.prog X.w H s.heap dd (.xd fs) from I.hok dd _ q)
    obtain ⟨od, ho, hl⟩ := lookIn_ns hns
    refine ⟨oe, some od, ⟨e, z1, nc, by rw [z2]; exact ho⟩, fun dd' fs' e1 e2 => ?_⟩
    cases e1
    rw [q] at e2
    cases e2
    exact ⟨od, mA, rfl, hl, hr⟩
theorem call_isX : CallR X (.builtin "isinstance") (rIsX X.K) := by
  intro pins s σ H xs us Q I r h
  obtain ⟨a, D, d, c, u, b, rfl, k, C, h1, h2, e, q⟩ := h
  obtain ⟨u1, u2, rfl, r1, r2⟩ := vals2 r
  have e2 := k.eq r2
  subst e2
  cases (show u1 = Value.ref a from r1)
  obtain ⟨oe, od, J, _⟩ := xo_at I h1 h2
  have hcl : (PySem.W.clsIn X.K D).isSome = true := by
    obtain ⟨cd, hc, _⟩ := PySem.W.any_some C.hd
    rw [hc]
    rfl
  exact PySem.W.kia_one (PySem.W.kitx_exc hcl C.hg C.hk C.hs C.ha C.hn C.ht C.hm) I.kIn J e (fun z => nomatch z) fun tk => ⟨.bl b, H, I.tok tk, rfl, q⟩
/-- e.f -/
def tXfX (K : PySem.W.Frag) (f : Str) (te : TE) : TE := fun σ H Q => te σ H fun x H1 => ∃ (a C dd : Addr) (fs : List (Str × V)) (v : V), x = .ref a ∧ XfC K C ∧ PySem.W.findIn K (.ref C) f = some none ∧ H1 a = some (XO (.ref C) (some dd) a) ∧ H1 dd = some (.xd fs) ∧ fs.lookup f = some v ∧ Q v H1
theorem pe_xfX {e : Expr} {te : TE} {pos : Pos} {n : Str} (he : PE X e te) (hb : attributeBase e n X.env (eval e X.env) = eval e X.env := by rfl) : PE X (.Attribute e n pos) (tXfX X.K n te) := by
  refine ⟨fun pins s σ H Q I h => ?_⟩
  refine attr_of hb (thn (he.run pins s σ H _ I h) fun u s1 hh => ?_)
  obtain ⟨x, H1, I1, rx, a, C, dd, fs, v, ex, T, hno, ha, hdd, l, q⟩ := hh
  subst ex
  obtain rfl : u = Value.ref a := rx
  obtain ⟨oe, od, J, hf⟩ := xo_at I1 ha (fun d' e => by cases e; exact ⟨fs, hdd⟩)
  obtain ⟨o, mA, rfl, hl, hr⟩ := hf dd fs rfl hdd
  obtain ⟨u, hu, ru⟩ := RelO.some_of (v := v) (o := mA n) (by rw [← l]; exact hr n)
  exact HandSPX.exc_get I1.kIn J T.ga T.gg T.exC (PySem.W.findObj_own T.hdC hno rfl (by rw [hl, hu])) (handed_of ru) ⟨v, H1, I1.tok _, ru, q⟩
end
end EX
set_option Elab.async false
set_option linter.all false
set_option maxRecDepth 100000
set_option maxHeartbeats 4000000
namespace EX
open PySem PySem.Spec PyProof.Rows L2 DL
theorem pg_tupk {X : Cx} {es : List Expr} {kk : Nat} {pos : Pos} {t : TGs} {n : Nat} {K : PySem.W.Frag} (hK : X.K = K) (hc : X.calm = true) (h : PGs X es t)
    (hn : (assignEach es X.env).length = n := by rfl) (hst : (assignEach es X.env).findIdx? (·.1) = none := by rfl) : PG X (.Tuple es kk pos) (gTup K n t) := by
  subst hK
  exact pg_tup hc h hn hst
section
variable {c : Cn} {Ex : XK} {om : Om} {sl : Sl} {P : DL.E → Om → Prop} {te : TE} {tr : TA}
theorem ev_raw {v : V} (p : P (.v (.raw v)) om) : EV c (tC v) om sl P := fun σ H O ps s Q k => k v H O ps (.v (.raw v)) om (Go.refl ..) s (Rl.raw v) p
theorem ev_newX {C : Addr} {f : Str} (h : EA c tr om sl fun es om1 => ∃ x, es = [.v x] ∧ P (.v (.exc C [(f, x)])) om1) : EV c (tNewX C f tr) om sl P := fun σ H O ps s Q k =>
  h σ H O ps s _ fun vs H1 O1 ps1 es om1 g1 s1 r1 ⟨x, he, p⟩ => by
    subst he
    obtain ⟨v, rfl, rv⟩ := ra1 r1
    refine ⟨v, rfl, fun d a hd ha hne => ?_⟩
    obtain ⟨s2, g2⟩ := s1.new (o := .xd [(f, v)]) hd
    have ha2 : upd H1 d (.xd [(f, v)]) a = none := by
      rw [upd_ne hne]
      exact ha
    obtain ⟨s3, g3⟩ := s2.new (o := XO (.ref C) (some d) a) ha2
    have r3 : Rl O1 (upd (upd H1 d (.xd [(f, v)])) a (XO (.ref C) (some d) a)) v x := Rl.ext (g2.trans g3).ex (show Rl O1 H1 v x from rv)
    refine k _ _ O1 ps1 (.v (.exc C [(f, x)])) om1 (g1.trans (g2.trans g3)) s3 (Rl.exc1 (s1.nin ha) (s1.nin hd) upd_same ?_ (.cons r3 .nil)) p
    rw [upd_ne (Ne.symm hne)]
    exact upd_same
theorem ev_new0X {C : Addr} (p : P (.v (.exc C [])) om) : EV c (fun _ H Q => ∀ a, H a = none → Q (.ref a) (upd H a (XO (.ref C) none a))) om sl P := fun σ H O ps s Q k a ha => by
  obtain ⟨s3, g3⟩ := s.new (o := XO (.ref C) none a) ha
  exact k _ _ O ps (.v (.exc C [])) om g3 s3 (Rl.exc0 (s.nin ha) upd_same) p
theorem exc_at {O : List Addr} {H : Hp} {v : V} {C : Addr} {gs : List (Str × D)} (r : Rl O H v (.exc C gs)) : ∃ a d, v = .ref a ∧ H a = some (XO (.ref C) d a) ∧ (∀ dd, d = some dd → ∃ fs, H dd = some (.xd fs) ∧ RlF O H fs gs) ∧ (d = none → gs = []) := by
  cases r with
  | exc0 ha hr => exact ⟨_, none, rfl, hr, (fun _ z => nomatch z), fun _ => rfl⟩
  | exc1 ha hd hr hq hx => exact ⟨_, some _, rfl, hr, (fun dd z => by cases z; exact ⟨_, hq, hx⟩), fun z => nomatch z⟩
theorem cv_isX {C : Addr} {gs : List (Str × D)} {cl : V} {u : Value} {b : Bool} (hu : ClsV cl u) (hC : ExcC c.K C) (hk : PySem.W.kitOne c.K (.ref C) u = some b) (p : P (.v (.bl b)) om) : CV c (rIsX c.K) om sl [.v (.exc C gs), .v (.raw cl)] P := fun σ H O ps s vs r Q k => by
  obtain ⟨v, w, rfl, rv, rw'⟩ := ra2 r
  cases rw'
  obtain ⟨a, d, rfl, h1, h2, _⟩ := exc_at rv
  exact ⟨a, C, d, cl, u, b, rfl, hu, hC, h1, (fun dd z => let ⟨fs, q, _⟩ := h2 dd z; ⟨fs, q⟩), hk, k _ H O ps (.v (.bl b)) om (Go.refl ..) s (Rl.bl b) p⟩
theorem ev_xfX {f : Str} (h : EV c te om sl fun e om1 => ∃ C gs d, e = .v (.exc C gs) ∧ XfC c.K C ∧ PySem.W.findIn c.K (.ref C) f = some none ∧ gs.lookup f = some d ∧ P (.v d) om1) : EV c (tXfX c.K f te) om sl P := fun σ H O ps s Q k =>
  h σ H O ps s _ fun v H1 O1 ps1 e om1 g1 s1 r1 ⟨C, gs, d, he, hx, hn, hl, p⟩ => by
    subst he
    obtain ⟨a, dd, rfl, h1, h2, h3⟩ := exc_at r1
    cases dd with
    | none =>
      rw [h3 rfl] at hl
      cases hl
    | some dd =>
      obtain ⟨fs, q, hf⟩ := h2 dd rfl
      obtain ⟨w, e1, e2⟩ := RlF.lookup hf hl
      exact ⟨a, C, dd, fs, w, rfl, hx, hn, h1, q, e1, k w H1 O1 ps1 (.v d) om1 g1 s1 e2 p⟩
theorem ev_revL {P : DL.E → Om → Prop} (h : EV c te om sl fun e om1 => ∃ ds, dat om1 e = some (.lst ds) ∧ P (.v (.lst ds.reverse)) om1) : EV c (tRevL c.K te) om sl P := fun σ H O ps s Q k =>
  h σ H O ps s _ fun v H1 O1 ps1 e om1 g1 s1 r1 ⟨ds, hd, p⟩ => by
    obtain ⟨a, vs, rfl, h1, h2⟩ := as_l s1 r1 hd
    refine ⟨a, vs, rfl, sqL h1, fun q hq => ?_⟩
    obtain ⟨s2, g2⟩ := s1.new (o := .lst vs.reverse) hq
    exact k _ _ O1 ps1 (.v (.lst ds.reverse)) om1 (g1.trans g2) s2 (Rl.lst (s1.nin hq) upd_same ((RlA.rev h2).ext g2.ex)) p
end
end EX
set_option Elab.async false
set_option linter.all false
set_option maxRecDepth 100000
set_option maxHeartbeats 4000000
namespace K0
open PySem PySem.Spec PyProof.Rows L2 DL HL
def topS (i : Nat) : Stmt := PySem.Challenge.pw_staysdeep_k00_errors_and_what_they_keep.main.body.getD i (.Pass ⟨0, 0, 0, 0⟩)
abbrev s__law_deal : Stmt := topS 14
theorem sc__law_deal : FnScope ["script", "base", "cells", "mix", "cell"] ["script", "base"] (defScope s__law_deal) := ⟨rfl, rfl, rfl, by decide +kernel, rfl, by decide +kernel, by decide +kernel⟩
abbrev s__law_any : Stmt := topS 15
theorem sc__law_any : FnScope ["deal", "bound", "rest"] ["deal", "bound"] (defScope s__law_any) := ⟨rfl, rfl, rfl, by decide +kernel, rfl, by decide +kernel, by decide +kernel⟩
abbrev s__law_of : Stmt := topS 16
theorem sc__law_of : FnScope ["deal", "some"] ["deal", "some"] (defScope s__law_of) := ⟨rfl, rfl, rfl, by decide +kernel, rfl, by decide +kernel, by decide +kernel⟩
abbrev s__law_thing : Stmt := topS 17
theorem sc__law_thing : FnScope ["deal", "depth", "form", "number", "text", "parts", "turn"] ["deal", "depth"] (defScope s__law_thing) := ⟨rfl, rfl, rfl, by decide +kernel, rfl, by decide +kernel, by decide +kernel⟩
abbrev s__law_made : Stmt := topS 18
theorem sc__law_made : FnScope ["number", "thing", "named"] ["number", "thing", "named"] (defScope s__law_made) := ⟨rfl, rfl, rfl, by decide +kernel, rfl, by decide +kernel, by decide +kernel⟩
abbrev s__law_kinds : Stmt := topS 19
theorem sc__law_kinds : FnScope ["e", "found", "at", "is_one"] ["e"] (defScope s__law_kinds) := ⟨rfl, rfl, rfl, by decide +kernel, rfl, by decide +kernel, by decide +kernel⟩
abbrev s__law_kept : Stmt := topS 20
theorem sc__law_kept : FnScope ["number", "e"] ["number", "e"] (defScope s__law_kept) := ⟨rfl, rfl, rfl, by decide +kernel, rfl, by decide +kernel, by decide +kernel⟩
abbrev s__law_caught : Stmt := topS 21
theorem sc__law_caught : FnScope ["number"] ["number"] (defScope s__law_caught) := ⟨rfl, rfl, rfl, by decide +kernel, rfl, by decide +kernel, by decide +kernel⟩
abbrev s_law : Stmt := topS 22
theorem sc_law : FnScope ["script", "deal", "number", "thing", "text", "named", "due", "e", "other"] ["script"] (defScope s_law) := ⟨rfl, rfl, rfl, by decide +kernel, rfl, by decide +kernel, by decide +kernel⟩
/-- what the top leaves: the built-ins' names, the classes at C 0 .. C 11 with their __init__ at f 0 .. f 9 -/
structure Tx (K : PySem.W.Frag) (mg : Str → Option Value) (C fi : Nat → Addr) : Prop where
  z_len : mg "len" = none
  z_range : mg "range" = none
  z_int : mg "int" = none
  z_tuple : mg "tuple" = none
  z_abs : mg "abs" = none
  z_repr : mg "repr" = none
  z_isinstance : mg "isinstance" = none
  z_enumerate : mg "enumerate" = none
  z_Exception : mg "Exception" = none
  z_ValueError : mg "ValueError" = none
  z_KeyError : mg "KeyError" = none
  x_InvalidYard : EX.XT K mg "InvalidYard" "at" (C 0) (fi 0)
  x_InvalidText : EX.XT K mg "InvalidText" "at" (C 1) (fi 1)
  x_InvalidStanding : EX.XT K mg "InvalidStanding" "at" (C 2) (fi 2)
  x_InvalidMove : EX.XT K mg "InvalidMove" "at" (C 3) (fi 3)
  x_InvalidTimetable : EX.XT K mg "InvalidTimetable" "at" (C 4) (fi 4)
  x_InvalidPlan : EX.XT K mg "InvalidPlan" "at" (C 5) (fi 5)
  x_InvalidOrder : EX.XT K mg "InvalidOrder" "at" (C 6) (fi 6)
  x_InvalidSize : EX.XT K mg "InvalidSize" "word" (C 7) (fi 7)
  x_Refused : EX.XT K mg "Refused" "word" (C 8) (fi 8)
  x_NoName : EX.XT K mg "NoName" "name" (C 9) (fi 9)
  x_InvalidCommand : EX.X0 K mg "InvalidCommand" (C 10)
  x_YardError : EX.X0 K mg "YardError" (C 11)
  is : ∀ i, i < 12 → ExcC K (C i)
  kit : ∀ i j, i < 11 → j < 11 → PySem.W.kitOne K (.ref (C i)) (.ref (C j)) = some (decide (i = j))
  kitY : ∀ i, i < 11 → PySem.W.kitOne K (.ref (C i)) (.ref (C 11)) = some (decide (i ≠ 9))
  kitE : ∀ i, i < 12 → PySem.W.kitOne K (.ref (C i)) (.type "Exception") = some true
  kitV : ∀ i, i < 12 → PySem.W.kitOne K (.ref (C i)) (.type "ValueError") = some false
  kitK : ∀ i, i < 12 → PySem.W.kitOne K (.ref (C i)) (.type "KeyError") = some (decide (i = 9))
  exm : ∀ i, i < 11 → PySem.W.exmOne K (.ref (C i)) (.ref (C 11)) = some (decide (i ≠ 9))
  exmK : PySem.W.exmOne K (.ref (C 9)) (.type "KeyError") = some true
def rMulU : R2 := fun x y H Q => rI CMulW (fun i j => V.int (i * j)) x y H Q ∨ rRep x y H Q
theorem op_mulU {X : Cx} : OpR X (binaryOp .Mult) rMulU := OpR.or op_mulW op_rep
section
variable {P : Program} {w : World} {K : PySem.W.Frag} {mg : Str → Option Value} {base : Heap} {C fi : Nat → Addr}
/-! ### _law_any: a number below what is asked -/
def pre_draw (ds : List D) : Prop := ∃ b : Int, ds = [.int b] ∧ 0 < b ∧ b < 2 ^ 64
def R_draw (ds : List D) (r : D) : Prop := ∃ b i : Int, ds = [.int b] ∧ r = .int i ∧ 0 ≤ i ∧ i < b
abbrev sp_draw : Sp := spN 1 pre_draw R_draw
theorem draw_read {K : PySem.W.Frag} {t : TS} {vs : List V} {H : Hp} {Q : VK} {E : XK} (h : sp_draw vs H Q E)
    (k : ∀ (h a : Addr) (b st : Int) (ns : List Int), h ≠ a → H h = some (.lst [.ref a, .int st]) → H a = some (.lst (ns.map V.int)) → 0 ≤ st → st < 2147483647 → ns.length ≤ 63 → (∀ n ∈ ns, 0 ≤ n ∧ n.toNat < 2 ^ 1048640) → 0 < b → b < 2 ^ 64 →
      (∀ (H' : Hp) (i st' : Int) (ns' : List Int), (∀ c o, c ∉ [h, a] → H c = some o → H' c = some o) → H' h = some (.lst [.ref a, .int st']) → H' a = some (.lst (ns'.map V.int)) → 0 ≤ st' → st' < 2147483647 → ns'.length ≤ 63 → (∀ n ∈ ns', 0 ≤ n ∧ n.toNat < 2 ^ 1048640) → 0 ≤ i → i < b → Q (.int i) H') →
      vs = [.ref h, .int b] → t { nx := fun _ H' => Q .non H', rt := Q } (L2.start ["deal", "bound", "rest"] [.ref h, .int b]) H) : t { nx := fun _ H' => Q .non H', rt := Q } (L2.start ["deal", "bound", "rest"] vs) H := by
  obtain ⟨h, a, ws, O, ds, rfl, hl, al, mh, ma, hD, ra, ⟨b, rfl, b0, b1⟩, hQ⟩ := h
  have ew : ws = [.int b] := RlA.ints (ns := [b]) ra
  subst ew
  rcases hD with z | ⟨h', a', st, ns, z1, z2, z3, z4, z5, z6, z7, z8⟩
  · cases z
  · injection z1 with e1 e2
    injection e2 with e2 _
    subst e1 e2
    refine k h a b st ns z2 z3 z4 z5 z6 z7 z8 b0 b1 (fun H' i st' ns' q1 q2 q3 q4 q5 q6 q7 q8 q9 => ?_) rfl
    exact hQ _ H' (.int i) q1 (.inr ⟨h, a, st', ns', rfl, z2, q2, q3, q4, q5, q6, q7⟩) (Rl.int i) ⟨b, i, rfl, rfl, q8, q9⟩
theorem dp_ints {K : PySem.W.Frag} {H : Hp} : ∀ ns : List Int, DpAll K H (ns.map V.int) (ns.map PyData.int)
  | [] => .nil
  | n :: ns => .cons (.int n) (dp_ints ns)
theorem can_ints : ∀ ns : List Int, PyData.canLayAll0 (ns.map PyData.int) = true
  | [] => rfl
  | n :: ns => by simp [PyData.canLayAll0, PyData.canLay0, can_ints ns]
theorem dep_ints : ∀ ns : List Int, PyData.depthAll (ns.map PyData.int) = 0
  | [] => rfl
  | n :: ns => by simp [PyData.depthAll, PyData.depth, dep_ints ns]
theorem sh_ints (ns : List Int) : SeqAt.shaped (.list (ns.map PyData.int)) = true := by
  unfold SeqAt.shaped
  simp [PyData.canLay0, can_ints, PyData.depth, dep_ints]
theorem eqv_nil (ns : List Int) : PyData.eqv (.list (ns.map PyData.int)) (.list []) = decide (ns = []) := by
  cases ns <;> simp [PyData.eqv, PyData.eqvAll]
theorem c__law_any {f : Addr} {fd : FuncData} (T : Tx K mg C fi) (B : DefB K mg "_law_any" s__law_any ["deal", "bound"] f fd) : Ca P w K mg base CX0 1 "_law_any" ["deal", "bound"] sp_draw := by
  refine ca_of B sc__law_any (fun vs H Q E h => ?_) (fun cdv A outer s H vs Q E hr h => ⟨_, (pss_cons (ps_while PassesOwn.never (PW.pt (pw_and (pt_cmpR (op_neU hr.units) (pe_ix ix_seq (pv 0) pe_int (fun _ _ => rfl)) (pe_lst pa_nil) (by first | exact nomark _ | rfl)) (pw_and1 (pt_cmpR (op_eqU hr.units) (pe_ix ix_seq (pe_ix ix_seq (pv 0) pe_int (fun _ _ => rfl)) (pe_un un_neg pe_int) (fun _ _ => rfl)) pe_int (by first | exact nomark _ | rfl)))))
     (pss_one (ps_expr (pe_bm0 PySem.F.plainAttrs_list PySem.F.slot_list_pop PySem.F.type_list_pop mt_pop (pe_ix ix_seq (pv 0) pe_int (fun _ _ => rfl))))))
    (pss_cons (ps_if (pt_cmpR (op_neU hr.units) (pe_ix ix_seq (pv 0) pe_int (fun _ _ => rfl)) (pe_lst pa_nil) (by first | exact nomark _ | rfl))
     (pss_cons (ps_set (i := 2) sc__law_any.nd rfl (by first | exact Or.inl rfl | exact Or.inr rfl) (pe_callTy cr_int (by rfl) T.z_int (by decide +kernel) (pa_cons (pe_bm0 PySem.F.plainAttrs_list PySem.F.slot_list_pop PySem.F.type_list_pop mt_pop (pe_ix ix_seq (pv 0) pe_int (fun _ _ => rfl))) pa_nil)))
     (pss_cons (ps_expr (pe_bm PySem.F.plainAttrs_list PySem.F.slot_list_append PySem.F.type_list_append mt_append (pe_ix ix_seq (pv 0) pe_int (fun _ _ => rfl)) (pa_cons (pe_op op_fdivW (pv 2) (pv 1)) pa_nil)))
     (pss_one (ps_ret (pe_op op_mod (pv 2) (pv 1))))))
     pss_nil)
    (pss_cons (ps_asg (pe_op op_mod (pe_callTy cr_int (by rfl) T.z_int (by decide +kernel) (pa_cons (pe_op op_addU (pe_op op_mulU (pe_ix ix_seq (pv 0) pe_int (fun _ _ => rfl)) pe_int) pe_int) pa_nil)) pe_int) (pg_sub (pv 0) pe_int set_list))
    (pss_one (ps_ret (pe_op op_mod (pe_callTy cr_int (by rfl) T.z_int (by decide +kernel) (pa_cons (pe_op op_fdivW (pe_ix ix_seq (pv 0) pe_int (fun _ _ => rfl)) pe_int) pa_nil)) (pv 1))))))), draw_read (K := K) h fun h a b st ns hne hh ha st0 st1 len big b0 b1 q _ => ?_⟩)
  · obtain ⟨h, a, ws, O, ds, rfl, hl, _⟩ := h
    show (_ :: ws).length = 2
    rw [List.length_cons, hl]
  · dsimp only [cxOf]
    have kp : ∀ {H1 : Hp} {p c : Addr} {o u : HO}, H1 p = none → H1 c = some o → upd H1 p u c = some o := fun {H1 p c o u} n e => by
      rw [upd_ne (ne_of_none e n)]
      exact e
    -- what stands: the deal with the rest ns'
    refine ⟨fun m σ H' => σ = [some (.ref h), some (.int b), none] ∧ ∃ ns' : List Int, m = ns'.length ∧ (∀ c o, c ∉ [h, a] → H c = some o → H' c = some o) ∧ H' h = some (.lst [.ref a, .int st]) ∧ H' a = some (.lst (ns'.map V.int)) ∧ ns'.length ≤ 63 ∧ ∀ n ∈ ns', 0 ≤ n ∧ n.toNat < 2 ^ 1048640,
      ⟨_, rfl, ns, rfl, fun _ _ _ z => z, hh, ha, len, big⟩, ?_⟩
    rintro m σ H1 ⟨rfl, ns', rfl, k1, k2, k3, k4, k5⟩
    -- heap[0] != [] at any heap that bears the deal
    have test : ∀ {H2 : Hp} {Q2 : V → Hp → Prop}, (∀ c o, c ∉ [h, a] → H c = some o → H2 c = some o) → H2 h = some (.lst [.ref a, .int st]) → H2 a = some (.lst (ns'.map V.int)) →
        (∀ H3 : Hp, (∀ c o, c ∉ [h, a] → H c = some o → H3 c = some o) → H3 h = some (.lst [.ref a, .int st]) → H3 a = some (.lst (ns'.map V.int)) → Q2 (.bl (!decide (ns' = []))) H3) →
        tOp (rNeU K) (tOp (rIx K) (tVar 0) (tC (.int 0))) (tLst tNil) [some (.ref h), some (.int b), none] H2 Q2 := fun {H2 Q2} w1 w2 w3 w4 => by
      refine ⟨.ref h, rfl, .inl ⟨h, [.ref a, .int st], 0, .ref a, rfl, rfl, sqL w2, rfl, ?_⟩⟩
      refine ⟨Nat.zero_le _, fun p hp => .inr ⟨.list (ns'.map PyData.int), .list [], .lst (sqL (kp hp w3)) (dp_ints ns'), .lst (sqL upd_same) .nil, sh_ints ns', rfl, ?_⟩⟩
      rw [eqv_nil]
      exact w4 _ (fun c o hc e => kp hp (w1 c o hc e)) (kp hp w2) (kp hp w3)
    refine test k1 k2 k3 fun H2 j1 j2 j3 => ⟨_, rfl, ?_⟩
    by_cases e0 : ns' = []
    · rw [decide_eq_true e0]
      refine iteF (iteF ?_)
      -- the rest: heap[0] is empty
      refine test j1 j2 j3 fun H3 i1 i2 i3 => ⟨_, rfl, ?_⟩
      rw [decide_eq_true e0]
      refine iteF ?_
      have m1 : 0 ≤ (st * 48271 + 89) % 2147483647 := Int.emod_nonneg _ (by decide)
      have m2 : (st * 48271 + 89) % 2147483647 < 2147483647 := Int.emod_lt_of_pos _ (by decide)
      refine ⟨.ref h, rfl, .inl ⟨h, [.ref a, .int st], 1, .int st, rfl, rfl, sqL i2, rfl, ?_⟩⟩
      refine .inl ⟨st, 48271, rfl, rfl, wide_mul (a := 31) (b := 31) (by omega) (by decide) (by decide) (by decide) (by decide), ?_⟩
      refine .inl ⟨_, _, rfl, rfl, .inl ⟨_, rfl, ?_⟩⟩
      refine ⟨_, _, rfl, rfl, (by show (0 : Int) < 2147483647; decide), ?_⟩
      refine ⟨.ref h, rfl, h, [.ref a, .int st], 1, 1, rfl, rfl, i2, rfl, ?_⟩
      have i2' : upd H3 h (.lst [.ref a, .int ((st * 48271 + 89) % 2147483647)]) h = some (.lst [.ref a, .int ((st * 48271 + 89) % 2147483647)]) := upd_same
      refine ⟨.ref h, rfl, .inl ⟨h, [.ref a, .int ((st * 48271 + 89) % 2147483647)], 1, .int ((st * 48271 + 89) % 2147483647), rfl, rfl, sqL i2', rfl, ?_⟩⟩
      refine ⟨_, _, rfl, rfl, wide_div (b := 64) (by decide) (by decide) (by decide) (by decide), .inl ⟨_, rfl, ?_⟩⟩
      refine ⟨.int b, rfl, _, _, rfl, rfl, b0, ?_⟩
      refine q _ _ ((st * 48271 + 89) % 2147483647) ns' (fun c o hc e => ?_) i2' ?_ m1 m2 k4 k5 (Int.emod_nonneg _ (by omega)) (Int.emod_lt_of_pos _ b0)
      · rw [upd_ne (fun z => hc (by rw [z]; simp))]
        exact i1 c o hc e
      · rw [upd_ne hne.symm]
        exact i3
    · rw [decide_eq_false e0]
      obtain ⟨ms, n, rfl⟩ : ∃ ms n, ns' = ms ++ [n] := ⟨ns'.dropLast, ns'.getLast e0, (List.dropLast_concat_getLast e0).symm⟩
      have hat : atI ((ms ++ [n]).map V.int) (-1) = some (.int n) := by
        rw [List.map_append]
        exact atI_last _ _
      have hlast : ((ms ++ [n]).map V.int)[((ms ++ [n]).map V.int).length - 1]? = some (.int n) := by simp
      have hdl : ((ms ++ [n]).map V.int).dropLast = ms.map V.int := by simp
      have bn := k5 n (by simp)
      have bms : ∀ z ∈ ms, 0 ≤ z ∧ z.toNat < 2 ^ 1048640 := fun z hz => k5 z (by simp [hz])
      have lms : ms.length + 1 ≤ 63 := by simpa using k4
      refine iteT ?_
      refine ⟨.ref h, rfl, .inl ⟨h, [.ref a, .int st], 0, .ref a, rfl, rfl, sqL j2, rfl, ?_⟩⟩
      refine ⟨1, rfl, .inl ⟨a, _, -1, .int n, rfl, rfl, sqL j3, hat, ?_⟩⟩
      refine .inl ⟨rfl, _, rfl, ?_⟩
      by_cases n0 : n = 0
      · subst n0
        refine iteT ?_
        refine ⟨fun σ' H' => _, fun σ' H' z => z, ?_⟩
        refine ⟨.ref h, rfl, .inl ⟨h, [.ref a, .int st], 0, .ref a, rfl, rfl, sqL j2, rfl, ?_⟩⟩
        refine ⟨.inl ⟨rfl, _, sqL j3⟩, a, _, _, rfl, rfl, j3, hlast, ?_⟩
        rw [hdl]
        refine ⟨ms.length, by simp, rfl, ms, rfl, fun c o hc e => ?_, ?_, upd_same, by omega, bms⟩
        · rw [upd_ne (fun z => hc (by rw [z]; simp))]
          exact j1 c o hc e
        · rw [upd_ne hne]
          exact j2
      · have nz : decide (V.int n = V.int 0) = false := decide_eq_false fun z => n0 (V.int.inj z)
        rw [nz]
        refine iteF ?_
        -- the rest: heap[0] has n at its end
        refine test j1 j2 j3 fun H3 i1 i2 i3 => ⟨_, rfl, ?_⟩
        rw [decide_eq_false e0]
        refine iteT ?_
        refine ⟨.ref h, rfl, .inl ⟨h, [.ref a, .int st], 0, .ref a, rfl, rfl, sqL i2, rfl, ?_⟩⟩
        refine ⟨.inl ⟨rfl, _, sqL i3⟩, a, _, _, rfl, rfl, i3, hlast, .inl ⟨n, rfl, ?_⟩⟩
        rw [hdl]
        have i2' : upd H3 a (.lst (ms.map V.int)) h = some (.lst [.ref a, .int st]) := by
          rw [upd_ne hne]
          exact i2
        refine ⟨.ref h, rfl, .inl ⟨h, [.ref a, .int st], 0, .ref a, rfl, rfl, sqL i2', rfl, ?_⟩⟩
        refine ⟨.inl ⟨rfl, _, sqL upd_same⟩, .int n, rfl, .int b, rfl, _, _, rfl, rfl, wide_div (b := 64) b0 (by omega) (by decide) (by decide), ?_⟩
        refine ⟨a, _, _, rfl, rfl, upd_same, by rw [List.length_map]; exact small1000 (by omega), ?_⟩
        refine ⟨.int n, rfl, .int b, rfl, _, _, rfl, rfl, b0, ?_⟩
        rw [upd_upd]
        have bq : 0 ≤ n / b ∧ (n / b).toNat < 2 ^ 1048640 := ⟨Int.ediv_nonneg bn.1 (by omega), Nat.lt_of_le_of_lt (by
          have := Int.ediv_le_self b bn.1
          omega) bn.2⟩
        refine q _ _ st (ms ++ [n / b]) (fun c o hc e => ?_) ?_ ?_ st0 st1 (by simpa using lms) (fun z hz => ?_) (Int.emod_nonneg _ (by omega)) (Int.emod_lt_of_pos _ b0)
        · rw [upd_ne (fun z => hc (by rw [z]; simp))]
          exact i1 c o hc e
        · rw [upd_ne hne]
          exact i2
        · rw [upd_same, List.map_append]
          rfl
        · rcases List.mem_append.mp hz with y | y
          · exact bms z y
          · rw [List.mem_singleton.mp y]
            exact bq
end
end K0
set_option Elab.async false
set_option linter.all false
set_option maxRecDepth 100000
set_option maxHeartbeats 4000000
namespace DL
open PySem PySem.Spec PyProof.Rows L2
section
variable {c : Cn} {Ex : XK} {om : Om} {sl : Sl} {P : E → Om → Prop} {x : E}
/-- a step that changes nothing: one more name for where one stands -/
theorem ltb {a b : Nat} (h : Nat.ble (a + 1) b = true) : a < b := Nat.le_of_ble_eq_true h
def itemsOf : D → Option (List D)
  | .lst xs => some xs
  | .str z => some (z.cps.toList.map fun ch => D.str ⟨#[ch]⟩)
  | _ => none
theorem cv_lenU {d : D} {xs : List D} (h : itemsOf d = some xs) (hl : xs.length ≤ 1000) (p : P (.v (.int (xs.length : Int))) om) : CV c (rLenU c.K) om sl [.v d] P := by
  cases d with
  | lst ys =>
    cases h
    exact cv_lenL rfl p
  | str z =>
    cases h
    have e : (z.cps.toList.map fun ch => D.str ⟨#[ch]⟩).length = z.length := by
      rw [List.length_map, Array.length_toList]
      rfl
    rw [e] at p hl
    exact cv_lenS hl p
  | _ => cases h
theorem ov_ixU {d r : D} {xs : List D} {j : Nat} (h : itemsOf d = some xs) (hl : xs.length ≤ 1000) (hj : xs[j]? = some r) (p : P (.v r) om) : OV c (rIx c.K) om sl (.v d) (.v (.int (j : Int))) P := by
  cases d with
  | lst ys =>
    cases h
    exact ov_ixL rfl (atI_n hj) p
  | str z =>
    cases h
    have e : (z.cps.toList.map fun ch => D.str ⟨#[ch]⟩).length = z.length := by
      rw [List.length_map, Array.length_toList]
      rfl
    rw [e] at hl
    rw [List.getElem?_map] at hj
    cases q : z.cps.toList[j]? with
    | none =>
      rw [q] at hj
      cases hj
    | some ch =>
      rw [q] at hj
      cases hj
      exact ov_ixS hl (atI_n q) p
  | _ => cases h
theorem sv_par {i j : Nat} {ta : TA} {Pq : Po} (h : EA c ta om sl fun es om1 => ∃ x y, es = [x, y] ∧ (i < sl.length ∧ j < sl.length) ∧ Pq.n om1 ((sl.set i (some x)).set j (some y))) : SV c Ex (tPar i j ta) om sl Pq := fun σ H O ps Dn s kn kr kb kc kx =>
  h σ H O ps s _ fun vs H1 O1 ps1 es om1 g1 s1 r1 ⟨x, y, he, hij, p⟩ => by
    subst he
    obtain ⟨v, w, rfl, rv, rw'⟩ := ra2 r1
    exact ⟨v, w, rfl, kn _ H1 O1 ps1 om1 _ g1 ((s1.set hij.1 rv).set (by rw [List.length_set]; exact hij.2) rw') p⟩
theorem sv_par3 {i j l : Nat} {ta : TA} {Pq : Po} (h : EA c ta om sl fun es om1 => ∃ x y z, es = [x, y, z] ∧ (i < sl.length ∧ j < sl.length ∧ l < sl.length) ∧ Pq.n om1 (((sl.set i (some x)).set j (some y)).set l (some z))) : SV c Ex (tPar3 i j l ta) om sl Pq := fun σ H O ps Dn s kn kr kb kc kx =>
  h σ H O ps s _ fun vs H1 O1 ps1 es om1 g1 s1 r1 ⟨x, y, z, he, hij, p⟩ => by
    subst he
    cases r1 with
    | @cons u _ vs' _ ru r1 =>
      obtain ⟨v, w, rfl, rv, rw'⟩ := ra2 r1
      exact ⟨u, v, w, rfl, kn _ H1 O1 ps1 om1 _ g1 (((s1.set hij.1 ru).set (by rw [List.length_set]; exact hij.2.1) rv).set (by rw [List.length_set, List.length_set]; exact hij.2.2) rw') p⟩
theorem RlA.rep {O : List Addr} {H : Hp} {vs : List V} {ds : List D} (h : RlA O H vs ds) : ∀ n : Nat, RlA O H (List.replicate n vs).flatten (List.replicate n ds).flatten
  | 0 => .nil
  | n + 1 => by
    rw [List.replicate_succ, List.replicate_succ, List.flatten_cons, List.flatten_cons]
    exact h.app (RlA.rep h n)
theorem ov_repL {x : E} {xs : List D} {n : Nat} (hx : dat om x = some (.lst xs)) (h : xs.length * n ≤ 100000) (hn : (n : Int) < 2 ^ 63) (p : P (.v (.lst (List.replicate n xs).flatten)) om) : OV c K0.rMulU om sl x (.v (.int (n : Int))) P := fun σ H O ps s v w rv rw' Q k => by
  cases rw'
  obtain ⟨a, vs, rfl, h1, h2⟩ := as_l s rv hx
  refine .inr ⟨a, n, vs, rfl, rfl, h1, by omega, hn, by rw [h2.len, Int.toNat_natCast]; exact Nat.le_trans h (by decide), fun q hq => ?_⟩
  rw [Int.toNat_natCast]
  obtain ⟨s2, g2⟩ := s.new (o := .lst (List.replicate n vs).flatten) hq
  exact k _ _ O ps (.v (.lst _)) om g2 s2 (Rl.lst (s.nin hq) upd_same ((RlA.rep h2 n).ext g2.ex)) p
theorem ov_mulI {i j : Int} (h : CMulW i j) (p : P (.v (.int (i * j))) om) : OV c K0.rMulU om sl (.v (.int i)) (.v (.int j)) P := fun σ H O ps s v w rv rw' Q k => .inl (ov_intC (c := c) (C := CMulW) (g := fun i j => i * j) h p σ H O ps s v w rv rw' Q k)
end
end DL
local macro_rules | `(tactic| walk_at "d1") => `(tactic| first
  | ((with_reducible refine' DL.ev_var ?hh ?_); (case hh => rfl))
  | with_reducible refine DL.ev_int ?_ | with_reducible refine DL.ev_str ?_ | with_reducible refine DL.ev_bl ?_ | with_reducible refine DL.ev_non ?_
  | with_reducible refine DL.ev_op ?_ | with_reducible refine DL.ev_un ?_ | with_reducible refine DL.ev_cb ?_ | with_reducible refine DL.ev_call ?_
  | with_reducible refine DL.ea_nil ?_ | with_reducible refine DL.ea_cons ?_ | with_reducible refine DL.ev_if ?_
  | ((with_reducible refine DL.et_test ?_)) | ((with_reducible refine DL.et_B ?_)) | with_reducible refine DL.et_and ?_ | with_reducible refine DL.et_or ?_ | with_reducible refine DL.et_not ?_
  | with_reducible refine DL.ev_andV ?_ | with_reducible refine DL.ev_orV ?_ | with_reducible refine DL.ev_notV ?_
  | with_reducible refine DL.ev_tup ?_ | with_reducible refine DL.ev_sl ?_ | with_reducible refine DL.eo_none ?_ | with_reducible refine DL.eo_some ?_
  | with_reducible refine DL.ev_bm ?_ | with_reducible refine DL.ev_bm0 ?_ | with_reducible refine DL.ev_m0 ?_ | with_reducible refine DL.ev_m1 ?_
  | with_reducible refine DL.sv_seq ?_ | with_reducible refine DL.sv_next ?_ | with_reducible refine DL.sv_set ?_ | with_reducible refine DL.sv_drop ?_ | with_reducible refine DL.sv_ret ?_ | with_reducible refine DL.sv_if ?_
  | with_reducible refine DL.uv_int ?_
  | with_reducible refine DL.ov_int ?_ | with_reducible refine DL.ov_cmp ?_ | with_reducible refine DL.ov_addI ?_ | with_reducible refine DL.ov_eqI ?_ | with_reducible refine DL.ov_neI ?_
  | with_reducible refine DL.cv_max2 ?_ | with_reducible refine DL.cv_min2 ?_ | with_reducible refine DL.cv_abs ?_ | with_reducible refine DL.cv_int ?_ | with_reducible refine DL.cv_lenT ?_ | with_reducible refine DL.cv_tupT ?_)
local macro_rules | `(tactic| walk_at "d0") => `(tactic| (dsimp only [L2.cxOf, L2.Cx.nox, L2.Cx.wish, DL.sl0, List.map, List.length, Nat.reduceAdd, Nat.reduceSub, List.replicate, List.append_nil, List.cons_append, List.nil_append]))
local macro_rules | `(tactic| walk_at "d") => `(tactic| repeat (first | walk_at "d1" | (with_reducible refine ⟨_, rfl, ?_⟩) | (with_reducible refine ⟨Nat.le_of_ble_eq_true rfl, ?_⟩)))
namespace K0
open PySem PySem.Spec PyProof.Rows L2 DL HL
section
variable {P : Program} {w : World} {K : PySem.W.Frag} {mg : Str → Option Value} {base : Heap} {C fi : Nat → Addr}
/-! ### _law_of: one of a list (or a sign of a text) -/
def pre_of (ds : List D) : Prop := ∃ d xs, ds = [d] ∧ itemsOf d = some xs ∧ 0 < xs.length ∧ xs.length ≤ 1000
def R_of (ds : List D) (r : D) : Prop := ∀ d xs, ds = [d] → itemsOf d = some xs → r ∈ xs
abbrev sp_of : Sp := spN 1 pre_of R_of
theorem lenN {ar : Nat} {pre : List D → Prop} {R : List D → D → Prop} {vs : List V} {H : Hp} {Q : VK} {Ew : XK} (h : spN ar pre R vs H Q Ew) : vs.length = ar + 1 := by
  obtain ⟨h, a, ws, O, ds, rfl, hl, _⟩ := h
  rw [List.length_cons, hl]
theorem lenP {ar : Nat} {pre : List D → Prop} {R : List D → D → Prop} {X : List D → Addr → Str → D → Prop} {vs : List V} {H : Hp} {Q : VK} {Ew : XK} (h : spP ar pre R X vs H Q Ew) : vs.length = ar := by
  obtain ⟨O, ds, hl, _⟩ := h
  exact hl
theorem cv_any {c : Cn} {om : Om} {sl : Sl} {P : DL.E → Om → Prop} {b : Int} (b0 : 0 < b) (b1 : b < 2 ^ 64) (h : ∀ i : Nat, (i : Int) < b → P (.v (.int (i : Int))) om) : CV c (fun vs H Q => sp_draw vs H Q E0) om sl [.l, .v (.int b)] P :=
  cv_N ⟨_, _, rfl, rfl, rfl, ⟨b, rfl, b0, b1⟩, fun r ⟨b', i, e1, e2, h1, h2⟩ => by
    cases e1
    subst e2
    have e := h i.toNat (by omega)
    rw [Int.toNat_of_nonneg h1] at e
    exact e⟩
theorem cv_of {c : Cn} {om : Om} {sl : Sl} {P : DL.E → Om → Prop} {d : D} {xs : List D} (hx : itemsOf d = some xs) (h0 : 0 < xs.length) (h1 : xs.length ≤ 1000) (h : ∀ r ∈ xs, P (.v r) om) : CV c (fun vs H Q => sp_of vs H Q E0) om sl [.l, .v d] P :=
  cv_N ⟨_, _, rfl, rfl, rfl, ⟨d, xs, rfl, hx, h0, h1⟩, fun r hr => h r (hr d xs rfl hx)⟩
theorem c__law_of {f : Addr} {fd : FuncData} (T : Tx K mg C fi) (c__law_any : Ca P w K mg base CX0 1 "_law_any" ["deal", "bound"] sp_draw) (B : DefB K mg "_law_of" s__law_of ["deal", "some"] f fd) : Ca P w K mg base CX0 2 "_law_of" ["deal", "some"] sp_of := by
  refine ca_of B sc__law_of (fun vs H Q E h => lenN h) (fun cdv A outer s H vs Q E hr h => ⟨_, (pss_one (ps_ret (pe_ix ix_seq (pv 1) (pe_ca c__law_any hr (by decide) pass0 (pa_cons (pv 0) (pa_cons (pe_callB cr_len (by rfl) T.z_len (by decide +kernel) (pa_cons (pv 1) pa_nil)) pa_nil))) (fun _ _ => rfl)))), entryN (K := K) (by decide) h fun F O ds hl hp => ?_⟩)
  obtain ⟨d, xs, rfl, hd, h0, h1⟩ := hp
  walk_at "d0"
  walk_at "d"
  refine cv_lenU hd h1 ?_
  walk_at "d"
  refine cv_any (by omega) (by omega) fun i hi => ?_
  have hi' : xs[i]? = some (xs[i]'(by omega)) := List.getElem?_eq_getElem _
  refine ov_ixU hd h1 hi' ⟨_, rfl, fun d' xs' e1 e2 => ?_⟩
  cases e1
  have e3 : xs = xs' := Option.some.inj (hd.symm.trans e2)
  subst e3
  exact List.getElem_mem _
end
end K0
set_option Elab.async false
set_option linter.all false
set_option maxRecDepth 100000
set_option maxHeartbeats 4000000
namespace DL
open PySem PySem.Spec PyProof.Rows L2
theorem et_mono {c : Cn} {om : Om} {sl : Sl} {tt : TT} {PB PB' : Bool → Om → Prop} (h : ET c tt om sl PB) (i : ∀ b om', PB b om' → PB' b om') : ET c tt om sl PB' := fun σ H O ps s Q k => h σ H O ps s Q fun b H' O' ps' om' g s' p => k b H' O' ps' om' g s' (i b om' p)
theorem et_yes {c : Cn} {om : Om} {sl : Sl} {PB : Bool → Om → Prop} (p : PB true om) : ET c tYes om sl PB := fun σ H O ps s Q k => k true H O ps om (Go.refl ..) s p
end DL
namespace K0
open PySem PySem.Spec PyProof.Rows L2 DL HL
/-! ### things that are shown -/
def Th (n : Nat) (d : D) : Prop := d.ok = true ∧ d.py.showable = true ∧ d.py.hasDict = false ∧ d.py.depth ≤ n ∧ d.py.shown.length ≤ 90 * 5 ^ n
theorem pow5 (n : Nat) : 1 ≤ 5 ^ n := Nat.one_le_pow _ _ (by decide)
theorem Th.up {n m : Nat} {d : D} (h : Th n d) (hm : n ≤ m) : Th m d := by
  obtain ⟨h1, h2, h3, h4, h5⟩ := h
  exact ⟨h1, h2, h3, Nat.le_trans h4 hm, Nat.le_trans h5 (Nat.mul_le_mul_left _ (Nat.pow_le_pow_right (by decide) hm))⟩
theorem th_non : Th 0 .non := ⟨rfl, rfl, rfl, Nat.le_refl _, by decide⟩
theorem th_bl (b : Bool) : Th 0 (.bl b) := by
  cases b <;> exact ⟨rfl, rfl, rfl, Nat.le_refl _, by decide⟩
theorem th_int {i : Int} (h : i.natAbs < 10 ^ 10) : Th 0 (.int i) := by
  refine ⟨rfl, ?_, rfl, Nat.le_refl _, ?_⟩
  · show decide (i.natAbs.log2 < 1920) = true
    refine decide_eq_true ?_
    by_cases h0 : i.natAbs = 0
    · rw [h0]
      decide
    · exact (Nat.log2_lt h0).mpr (Nat.lt_of_lt_of_le h (by decide))
  · show (Str.ofString (toString i)).length ≤ 90
    rw [PySem.ofString_length]
    have := int_text_length_le10 (a := i) (k := 10) (by decide) h
    omega
theorem th_str {x : Str} (h : x.length ≤ 8) (hx : ∀ c ∈ x.cps.toList, c < 16 ^ 8) : Th 0 (.str x) := by
  refine ⟨rfl, rfl, rfl, Nat.le_refl _, ?_⟩
  show (reprText x).length ≤ 90
  have := StrLaws.reprText_len x hx
  omega
theorem th_all {n : Nat} : ∀ {xs : List D}, (∀ x ∈ xs, Th n x) → D.okA xs = true ∧ PyData.showableAll (D.pyA xs) = true ∧ PyData.hasDictAll (D.pyA xs) = false ∧ PyData.depthAll (D.pyA xs) ≤ n ∧ ((PyData.shownAll (D.pyA xs)).map (·.length)).sum ≤ xs.length * (90 * 5 ^ n) ∧ (PyData.shownAll (D.pyA xs)).length = xs.length
  | [], _ => ⟨rfl, rfl, rfl, Nat.zero_le _, Nat.zero_le _, rfl⟩
  | x :: xs, h => by
    obtain ⟨h1, h2, h3, h4, h5⟩ := h x List.mem_cons_self
    obtain ⟨g1, g2, g3, g4, g5, g6⟩ := th_all (n := n) (xs := xs) fun y hy => h y (List.mem_cons_of_mem _ hy)
    refine ⟨?_, ?_, ?_, ?_, ?_, ?_⟩
    · unfold D.okA
      rw [h1, g1]
      rfl
    · unfold D.pyA PyData.showableAll
      rw [h2, g2]
      rfl
    · unfold D.pyA PyData.hasDictAll
      rw [h3, g3]
      rfl
    · unfold D.pyA PyData.depthAll
      exact Nat.max_le.mpr ⟨h4, g4⟩
    · unfold D.pyA PyData.shownAll
      rw [List.map_cons, List.sum_cons, List.length_cons, Nat.add_mul, Nat.one_mul]
      omega
    · unfold D.pyA PyData.shownAll
      rw [List.length_cons, List.length_cons, g6]
theorem th_lst {n : Nat} {xs : List D} (hl : xs.length ≤ 3) (h : ∀ x ∈ xs, Th n x) : Th (n + 1) (.lst xs) := by
  obtain ⟨g1, g2, g3, g4, g5, g6⟩ := th_all h
  have e := listText_len_le (PyData.shownAll (D.pyA xs))
  refine ⟨by unfold D.ok; exact g1, by unfold D.py PyData.showable; exact g2, by unfold D.py PyData.hasDict; exact g3, by unfold D.py PyData.depth; omega, ?_⟩
  unfold D.py PyData.shown
  have m : xs.length * (90 * 5 ^ n) ≤ 3 * (90 * 5 ^ n) := Nat.mul_le_mul_right _ hl
  have := pow5 n
  rw [Nat.pow_succ]
  omega
theorem th_tup {n : Nat} {xs : List D} (hl : xs.length ≤ 3) (h : ∀ x ∈ xs, Th n x) : Th (n + 1) (.tup xs) := by
  obtain ⟨g1, g2, g3, g4, g5, g6⟩ := th_all h
  have e := tupleText_len_le (PyData.shownAll (D.pyA xs))
  refine ⟨by unfold D.ok; exact g1, by unfold D.py PyData.showable; exact g2, by unfold D.py PyData.hasDict; exact g3, by unfold D.py PyData.depth; omega, ?_⟩
  unfold D.py PyData.shown
  have m : xs.length * (90 * 5 ^ n) ≤ 3 * (90 * 5 ^ n) := Nat.mul_le_mul_right _ hl
  have := pow5 n
  rw [Nat.pow_succ]
  omega
/-- texts of single signs, put together -/
def Sg (z : Str) : Prop := z.length = 1 ∧ ∀ c ∈ z.cps.toList, c < 16 ^ 8
theorem len_join : ∀ ys : List Str, (∀ y ∈ ys, Sg y) → (Str.join Str.empty ys).length = ys.length
  | [], _ => rfl
  | [y], h => (h y List.mem_cons_self).1
  | y :: z :: r, h => by
    rw [join_cons_cons, strLen_append, strLen_append, len_join (z :: r) (fun q hq => h q (List.mem_cons_of_mem _ hq)), (h y List.mem_cons_self).1]
    show 1 + 0 + _ = _
    rw [List.length_cons, List.length_cons, List.length_cons]
    omega
theorem th_join {ys : List Str} (hl : ys.length ≤ 8) (h : ∀ y ∈ ys, Sg y) : Th 0 (.str (Txt.join (PySem.Str.ofString "") ys)) := by
  have e : Txt.join (PySem.Str.ofString "") ys = Str.join Str.empty ys := PySem.StrLaws.glued_eq_join Str.empty ys
  rw [e]
  refine th_str (by rw [len_join ys h]; exact hl) fun c hc => ?_
  rcases (mem_join Str.empty c ys).mp hc with ⟨t, ht, hct⟩ | ⟨_, hce⟩
  · exact (h t ht).2 c hct
  · have e0 : Str.empty.cps.toList = [] := rfl
    rw [e0] at hce
    cases hce
section
variable {P : Program} {w : World} {K : PySem.W.Frag} {mg : Str → Option Value} {base : Heap} {C fi : Nat → Addr}
/-! ### _law_thing -/
def pre_thing (n : Nat) (ds : List D) : Prop := ∃ k : Nat, ds = [.int (k : Int)] ∧ k < n
def R_thing (ds : List D) (r : D) : Prop := ∀ k : Nat, ds = [.int (k : Int)] → Th k r
abbrev sp_thing (n : Nat) : Sp := spN 1 (pre_thing n) R_thing
theorem pre0 {vs : List V} {H : Hp} {Q : VK} {E : XK} (h : sp_thing 0 vs H Q E) : False := by
  obtain ⟨h, a, ws, O, ds, _, _, _, _, _, _, _, ⟨k, _, hk⟩, _⟩ := h
  exact absurd hk (Nat.not_lt_zero _)
theorem cv_thing {c : Cn} {om : Om} {sl : Sl} {P : DL.E → Om → Prop} {n j : Nat} {i : Int} (hi : i = (j : Int)) (hj : j < n) (h : ∀ r, Th j r → P (.v r) om) : CV c (fun vs H Q => sp_thing n vs H Q E0) om sl [.l, .v (.int i)] P := by
  subst hi
  exact cv_N ⟨_, _, rfl, rfl, rfl, ⟨j, rfl, hj⟩, fun r hr => h r (hr j rfl)⟩
theorem r_thing {k : Nat} {d : D} (h : Th k d) : R_thing [.int (k : Int)] d := fun k' e => by
  have e1 : (k : Int) = (k' : Int) := D.int.inj (List.cons.inj e).1
  have e2 : k = k' := Int.ofNat.inj e1
  exact e2 ▸ h
theorem th_any {m : Int} (h : 0 ≤ m ∧ m < 10 ^ 9) : m.natAbs < 10 ^ 10 := by omega
theorem c__law_thing {f : Addr} {fd : FuncData} (T : Tx K mg C fi) (c__law_any : Ca P w K mg base CX0 1 "_law_any" ["deal", "bound"] sp_draw) (c__law_of : Ca P w K mg base CX0 2 "_law_of" ["deal", "some"] sp_of) (B : DefB K mg "_law_thing" s__law_thing ["deal", "depth"] f fd) :
    ∀ n, Ca P w K mg base CX0 (3 + n) "_law_thing" ["deal", "depth"] (sp_thing n)
  | 0 => ⟨f, fd, ⟨fun vs H Q E h => (pre0 h).elim, fun A outer s H args us vs Q E hr e0 hb r h => (pre0 h).elim⟩, B.gl, B.fn.kp, B.b, B.kb⟩
  | n + 1 => by
    have c__law_thing := c__law_thing T c__law_any c__law_of B n
    refine ca_of B sc__law_thing (fun vs H Q E h => lenN h) (fun cdv A outer s H vs Q E hr h => ⟨_, (pss_cons (ps_set (i := 2) sc__law_thing.nd rfl (by first | exact Or.inl rfl | exact Or.inr rfl) (pe_ca c__law_any hr (by first | decide | (simp only [Nat.add_eq]; omega)) pass0 (pa_cons (pv 0) (pa_cons pe_int pa_nil))))
    (pss_cons (ps_if (PW.pt (pw_and (pt_cmpR op_lt (pv 2) pe_int (by first | exact nomark _ | rfl)) (pw_and1 (pt_cmpR op_gt (pv 1) pe_int (by first | exact nomark _ | rfl)))))
     (pss_cons (ps_setLc (i := 5) (own := [("turn", 6)]) rfl sc__law_thing.nd rfl rfl (sw_true rfl rfl rfl (by decide +kernel)) (pi_range1 (by rfl) T.z_range (pa_cons (pe_ca c__law_any hr (by first | decide | (simp only [Nat.add_eq]; omega)) pass0 (pa_cons (pv 0) (pa_cons pe_int pa_nil))) pa_nil)) (blkOk_by (N := ["deal", "depth", "form", "number", "text", "parts", "turn"]) (sc := defScope s__law_thing) (by decide +kernel)) (fun _ _ _ _ _ => (pg_name (i := 6) sc__law_thing.nd rfl (by first | exact Or.inl rfl | exact Or.inr rfl))) (fun _ _ _ _ _ => pts_nil) (fun _ _ _ _ _ => (pe_ca c__law_thing hr (by first | decide | (simp only [Nat.add_eq]; omega)) pass0 (pa_cons (pv 0) (pa_cons (pe_op op_sub (pv 1) pe_int) pa_nil)))))
     (pss_one (ps_ret (pe_ifExp (pt_cmpR (op_eqU hr.units) (pv 2) pe_int (by first | exact nomark _ | rfl)) (pv 5) (pe_callTy cr_tup (by rfl) T.z_tuple (by decide +kernel) (pa_cons (pv 5) pa_nil))))))
     pss_nil)
    (pss_cons (ps_set (i := 3) sc__law_thing.nd rfl (by first | exact Or.inl rfl | exact Or.inr rfl) (pe_ca c__law_of hr (by first | decide | (simp only [Nat.add_eq]; omega)) pass0 (pa_cons (pv 0) (pa_cons (pe_lst (pa_cons pe_int (pa_cons pe_int (pa_cons pe_int (pa_cons pe_int (pa_cons (pe_ca c__law_any hr (by first | decide | (simp only [Nat.add_eq]; omega)) pass0 (pa_cons (pv 0) (pa_cons (pe_op op_pow pe_int pe_int) pa_nil))) pa_nil)))))) pa_nil))))
    (pss_cons (ps_set (i := 4) sc__law_thing.nd rfl (by first | exact Or.inl rfl | exact Or.inr rfl) (pe_m1 PySem.F.slot_str_join PySem.F.type_str_join mt_joinU pe_str (pe_lc (own := [("turn", 6)]) rfl sc__law_thing.nd (pi_range1 (by rfl) T.z_range (pa_cons (pe_ca c__law_any hr (by first | decide | (simp only [Nat.add_eq]; omega)) pass0 (pa_cons (pv 0) (pa_cons pe_int pa_nil))) pa_nil)) (blkOk_by (N := ["deal", "depth", "form", "number", "text", "parts", "turn"]) (sc := defScope s__law_thing) (by decide +kernel)) (fun _ _ _ _ _ => (pg_name (i := 6) sc__law_thing.nd rfl (by first | exact Or.inl rfl | exact Or.inr rfl))) (fun _ _ _ _ _ => pts_nil) (fun _ _ _ _ _ => (pe_ca c__law_of hr (by first | decide | (simp only [Nat.add_eq]; omega)) pass0 (pa_cons (pv 0) (pa_cons pe_str pa_nil)))))))
    (pss_one (ps_ret (pe_ca c__law_of hr (by first | decide | (simp only [Nat.add_eq]; omega)) pass0 (pa_cons (pv 0) (pa_cons (pe_lst (pa_cons pe_non (pa_cons pe_bl (pa_cons pe_bl (pa_cons (pv 3) (pa_cons (pe_op op_sub pe_int (pv 3)) (pa_cons (pv 4) (pa_cons (pv 4) (pa_cons pe_str pa_nil))))))))) pa_nil))))))))), entryN (K := K) (by decide) h fun F O ds hl hp => ?_⟩)
    obtain ⟨k, rfl, hk⟩ := hp
    walk_at "d0"
    walk_at "d"
    refine cv_any (by decide) (by decide) fun form hform => ⟨ltb rfl, ?_⟩
    dsimp only [List.set]
    refine sv_seq (sv_if (et_mono (PB := fun b om1 => om1 = [] ∧ (b = true → form < 2 ∧ 0 < k)) ?_ ?_))
    · walk_at "d"
      refine ⟨fun h1 => ?_, fun _ => ⟨rfl, fun z => nomatch z⟩⟩
      walk_at "d"
      exact ⟨rfl, fun h2 => ⟨by have := of_decide_eq_true h1; omega, by have := of_decide_eq_true h2; omega⟩⟩
    · rintro b om1 ⟨rfl, hb⟩
      refine ⟨fun h1 => ?_, fun _ => ?_⟩
      · obtain ⟨f2, k0⟩ := hb h1
        -- parts
        refine sv_seq (sv_set (ev_lc (sets_name 6) (wv_range1 ?_)))
        walk_at "d"
        refine cv_any (by decide) (by decide) fun m hm => ?_
        walk_at "d"
        refine ⟨rfl, _, rfl, by omega, by omega, fun i acc => acc.length = i ∧ i ≤ m ∧ ∀ x ∈ acc, Th (k - 1) x, ⟨rfl, Nat.zero_le _, fun _ z => nomatch z⟩, ?_, ?_, ?_⟩
        · rintro i d acc hd ⟨hi, hm2, ha⟩
          have hi2 := (List.getElem?_eq_some_iff.mp hd).1
          rw [rgD_len] at hi2
          refine gv_name ⟨ltb rfl, ?_⟩
          dsimp only [List.set, List.foldr]
          refine et_yes ⟨fun _ => ?_, fun z => nomatch z⟩
          walk_at "d"
          refine cv_thing (j := k - 1) (by omega) (by omega) fun r hr => ⟨rfl, r, rfl, by simp [hi], by omega, fun x hx => ?_⟩
          rcases List.mem_append.mp hx with y | y
          · exact ha x y
          · rw [List.mem_singleton.mp y]
            exact hr
        · rintro i acc ⟨hi, hm2, ha⟩
          omega
        · rintro acc ⟨hi, hm2, ha⟩
          rw [rgD_len] at hi
          refine ⟨ltb rfl, ?_⟩
          dsimp only [List.set]
          walk_at "d"
          have a3 : acc.length ≤ 3 := by omega
          have ek : k - 1 + 1 = k := by omega
          refine ⟨fun _ => ?_, fun _ => ?_⟩
          · walk_at "d"
            have q := th_lst a3 ha
            rw [ek] at q
            exact r_thing q
          · walk_at "d"
            refine cv_tupL rfl ?_
            have q := th_tup a3 ha
            rw [ek] at q
            exact ⟨_, rfl, r_thing q⟩
      · walk_at "d"
        refine ev_lst ?_
        walk_at "d"
        refine ov_intC ⟨by decide, by decide, by decide⟩ ?_
        walk_at "d"
        refine cv_any (by decide) (by decide) fun m hm => ?_
        walk_at "d"
        refine cv_of rfl (ltb rfl) (Nat.le_of_ble_eq_true rfl) fun r hr => ?_
        obtain ⟨num, rfl, n0, n1⟩ : ∃ num : Int, r = .int num ∧ 0 ≤ num ∧ num < 1000000000 := by
          have e9 : (10 : Int) ^ (9 : Int).toNat = 1000000000 := by decide
          rw [e9] at hm
          simp only [List.mem_cons, List.not_mem_nil, or_false] at hr
          rcases hr with rfl | rfl | rfl | rfl | rfl
          · exact ⟨0, rfl, by decide, by decide⟩
          · exact ⟨1, rfl, by decide, by decide⟩
          · exact ⟨2, rfl, by decide, by decide⟩
          · exact ⟨7, rfl, by decide, by decide⟩
          · exact ⟨_, rfl, by omega, hm⟩
        refine ⟨ltb rfl, ?_⟩
        dsimp only [List.set]
        -- the text
        refine sv_seq (sv_set (ev_m1 (ev_str ⟨_, rfl, ev_lc (sets_name 6) (wv_range1 ?_)⟩)))
        walk_at "d"
        refine cv_any (by decide) (by decide) fun m2 hm2 => ?_
        walk_at "d"
        refine ⟨rfl, _, rfl, by omega, by omega, fun i acc => ∃ ys : List Str, acc = ys.map .str ∧ ys.length = i ∧ i ≤ m2 ∧ ∀ y ∈ ys, Sg y, ⟨[], rfl, rfl, Nat.zero_le _, fun _ z => nomatch z⟩, ?_, ?_, ?_⟩
        · rintro i d acc hd ⟨ys, rfl, hi, hm3, ha⟩
          have hi2 := (List.getElem?_eq_some_iff.mp hd).1
          rw [rgD_len] at hi2
          refine gv_name ⟨ltb rfl, ?_⟩
          dsimp only [List.set, List.foldr]
          refine et_yes ⟨fun _ => ?_, fun z => nomatch z⟩
          walk_at "d"
          refine cv_of rfl (by decide) (by decide) fun r hr => ?_
          obtain ⟨y, rfl, hy⟩ : ∃ y, r = .str y ∧ Sg y := by
            obtain ⟨ch, h1, rfl⟩ := List.mem_map.mp hr
            refine ⟨_, rfl, rfl, fun q hq => ?_⟩
            have eq : q = ch := List.mem_singleton.mp hq
            subst eq
            have all : ∀ z ∈ (PySem.Str.ofString "abcxyz ABZ09.,").cps.toList, z < 16 ^ 8 := by decide
            exact all q h1
          refine ⟨rfl, _, rfl, ys ++ [y], by simp, by simp [hi], by omega, fun z hz => ?_⟩
          rcases List.mem_append.mp hz with q | q
          · exact ha z q
          · rw [List.mem_singleton.mp q]
            exact hy
        · rintro i acc ⟨ys, rfl, hi, hm3, ha⟩
          rw [List.length_map]
          omega
        · rintro acc ⟨ys, rfl, hi, hm3, ha⟩
          rw [rgD_len] at hi
          have l8 : ys.length ≤ 8 := by omega
          refine mv_join rfl ?_ ?_
          · have e1 : ys.map (·.length) = ys.map fun _ => 1 := List.map_congr_left fun y hy => (ha y hy).1
            rw [e1]
            have e2 : (PySem.Str.ofString "").length = 0 := rfl
            rw [e2, Nat.mul_zero]
            have e3 : (ys.map fun _ => 1).sum = ys.length := by
              clear e1 ha hi
              induction ys with
              | nil => rfl
              | cons y r ih =>
                rw [List.map_cons, List.sum_cons, List.length_cons, ih (by rw [List.length_cons] at l8; omega)]
                omega
            rw [e3]
            omega
          · refine ⟨ltb rfl, ?_⟩
            dsimp only [List.set]
            walk_at "d"
            refine ev_lst ?_
            walk_at "d"
            have tz := th_join l8 ha
            refine cv_of rfl (ltb rfl) (Nat.le_of_ble_eq_true rfl) fun r hr => ⟨_, rfl, r_thing (Th.up ?_ (Nat.zero_le k))⟩
            simp only [List.mem_cons, List.not_mem_nil, or_false] at hr
            rcases hr with rfl | rfl | rfl | rfl | rfl | rfl | rfl | rfl
            · exact th_non
            · exact th_bl _
            · exact th_bl _
            · exact th_int (by omega)
            · exact th_int (by omega)
            · exact tz
            · exact tz
            · exact th_str (by decide) (by decide)
end
end K0
set_option Elab.async false
set_option linter.all false
set_option maxRecDepth 100000
set_option maxHeartbeats 4000000
namespace DL
open PySem PySem.Spec PyProof.Rows L2
theorem RlA.ofI {O : List Addr} {H : Hp} : ∀ (ns : List Int), RlA O H (ns.map V.int) (ns.map D.int)
  | [] => .nil
  | n :: ns => .cons (.int n) (RlA.ofI ns)
/-- a slice of a list of ints that stood at the entry -/
theorem lv_raw {c : Cn} {om : Om} {sl : Sl} {P : E → Om → Prop} {a : Addr} {ns : List Int} {lo hi : Option Int} (h : SqL c.K c.H0 a (ns.map V.int)) (hF : c.F = []) (p : P (.v (.lst (cutD (ns.map .int) lo hi))) om) : LV c om sl (.v (.raw (.ref a))) lo hi P := fun σ H O ps s v rv Q k => by
  cases rv
  have kp : ∀ b o, c.H0 b = some o → H b = some o := fun b o e => s.en b o (by rw [hF]; exact List.not_mem_nil) e
  have h' : SqL c.K H a (ns.map V.int) := by
    rcases h with (h | ⟨o, h⟩) | h
    · exact .inl (.inl (kp _ _ h))
    · exact .inl (.inr ⟨o, kp _ _ h⟩)
    · exact .inr h
  refine .inl ⟨a, ns.map V.int, rfl, h', fun q hq => ?_⟩
  obtain ⟨s2, g2⟩ := s.new (o := .lst (cutV (ns.map V.int) lo hi)) hq
  exact k _ _ O ps (.v (.lst (cutD (ns.map .int) lo hi))) om g2 s2 (Rl.lst (s.nin hq) upd_same ((RlA.cut (RlA.ofI ns) lo hi).ext g2.ex)) p
end DL
namespace K0
open PySem PySem.Spec PyProof.Rows L2 DL HL
section
variable {P : Program} {w : World} {K : PySem.W.Frag} {mg : Str → Option Value} {base : Heap} {C fi : Nat → Addr}
/-! ### _law_deal: where draws come from -/
def DealIs (r : D) : Prop := ∃ (ns : List Int) (st : Int), r = .lst [.lst (ns.map .int), .int st] ∧ 0 ≤ st ∧ st < 2147483647 ∧ ns.length ≤ 63 ∧ ∀ n ∈ ns, 0 ≤ n ∧ n.toNat < 2 ^ 1048640
def sp_deal (K : PySem.W.Frag) : Sp := fun vs H Q _ => ∃ (a : Addr) (b : Int) (ns : List Int), vs = [.ref a, .int b] ∧ SqL K H a (ns.map V.int) ∧ 0 ≤ b ∧ b ≤ 50000 ∧ (∀ n ∈ ns, n.natAbs < 2 ^ 1048640) ∧ ∀ v H' r, Same H H' → Rl [] H' v r → DealIs r → Q v H'
theorem cut63 {ns : List Int} : ∃ ms : List Int, cutD (ns.map D.int) none (some 63) = ms.map .int ∧ ms.length ≤ 63 ∧ ∀ m ∈ ms, m ∈ ns := by
  refine ⟨ns.take (HT.sIx ns.length ns.length (some 63)), ?_, ?_, fun m hm => List.mem_of_mem_take hm⟩
  · unfold DL.cutD
    rw [HT.sIx_none, List.length_map, List.drop_zero, Nat.sub_zero, List.map_take]
  · rw [List.length_take]
    have : HT.sIx ns.length ns.length (some 63) ≤ 63 := by
      rw [show (some (63 : Int)) = some ((63 : Nat) : Int) from rfl, HT.sIx_nat]
      exact Nat.min_le_left _ _
    omega
theorem entryD {N : List Str} {vs : List V} {H : Hp} {Q : VK} {E : XK} {t : TS} (hN : 2 ≤ N.length) (h : sp_deal K vs H Q E)
    (b : ∀ (a : Addr) (b : Int) (ns : List Int), SqL K H a (ns.map V.int) → 0 ≤ b → b ≤ 50000 → (∀ n ∈ ns, n.natAbs < 2 ^ 1048640) → SV ⟨[], [], H, K⟩ E t [] (sl0 [.raw (.ref a), .int b] (N.length - 2)) { n := fun _ _ => False, r := fun e om => ∃ d, dat om e = some d ∧ DealIs d }) :
    t { nx := fun _ H' => Q .non H', rt := Q } (L2.start N vs) H := by
  obtain ⟨a, b', ns, rfl, hs, b0, b1, hn, hQ⟩ := h
  have ra : RlA [] H [.ref a, .int b'] [.raw (.ref a), .int b'] := .cons (.raw _) (.cons (.int _) .nil)
  obtain ⟨h1, h2⟩ := start_slots (N := N) ra hN
  have s0 : St [] [] H H [] (L2.start N [.ref a, .int b']) (sl0 [.raw (.ref a), .int b'] (N.length - 2)) [] [] := ⟨fun _ _ _ h => h, fun _ h => .inl h, fun _ h => h, (fun _ h => nomatch h), (fun _ h => nomatch h), rfl, (fun k ds h => by simp at h), (fun j k p h => by simp at h), (fun k p h => by simp at h), .inl rfl, h2, h1⟩
  refine b a b' ns hs b0 b1 hn _ H [] [] _ s0 (fun _ _ _ _ _ _ _ _ z => z.elim) (fun v σ' sl' H' O' ps' e om' g s' r ⟨d, hd, p⟩ => hQ v H' d (fun b o e => s'.en b o (by simp) e) (al_sub s' r hd) p) (fun _ _ _ _ _ _ _ _ z => z.elim) (fun _ _ _ _ _ _ _ _ z => z.elim) ?_
  rintro C f x d v H1 H2 O' ps' g ⟨_, p⟩
  exact p.elim
theorem nat_abs_ok {n : Int} (h : n.natAbs < 2 ^ 1048640) : 0 ≤ (n.natAbs : Int) ∧ ((n.natAbs : Int)).toNat < 2 ^ 1048640 := ⟨Int.natCast_nonneg _, by rw [Int.toNat_natCast]; exact h⟩
theorem c__law_deal {f : Addr} {fd : FuncData} (T : Tx K mg C fi) (B : DefB K mg "_law_deal" s__law_deal ["script", "base"] f fd) : Ca P w K mg base CX0 1 "_law_deal" ["script", "base"] (sp_deal K) := by
  refine ca_of B sc__law_deal (fun vs H Q E h => ?_) (fun cdv A outer s H vs Q E hr h => ⟨_, (pss_cons (ps_setLc (i := 2) (own := [("cell", 4)]) rfl sc__law_deal.nd rfl rfl (sw_true rfl rfl rfl (by decide +kernel)) (pi_list (pe_slice sl_U (pv 0) po_none (po_some pe_int))) (blkOk_by (N := ["script", "base", "cells", "mix", "cell"]) (sc := defScope s__law_deal) (by decide +kernel)) (fun _ _ _ _ _ => (pg_name (i := 4) sc__law_deal.nd rfl (by first | exact Or.inl rfl | exact Or.inr rfl))) (fun _ _ _ _ _ => pts_nil) (fun _ _ _ _ _ => (pe_callB cr_abs (by rfl) T.z_abs (by decide +kernel) (pa_cons (pe_callTy cr_int (by rfl) T.z_int (by decide +kernel) (pa_cons (pv 4) pa_nil)) pa_nil))))
    (pss_cons (ps_set (i := 3) sc__law_deal.nd rfl (by first | exact Or.inl rfl | exact Or.inr rfl) (pe_op op_addU (pe_op op_mulU pe_int (pv 1)) pe_int))
    (pss_cons (ps_for PassesOwn.never rfl (pi_list (pv 2)) (pg_name (i := 4) sc__law_deal.nd rfl (by first | exact Or.inl rfl | exact Or.inr rfl))
     (pss_one (ps_set (i := 3) sc__law_deal.nd rfl (by first | exact Or.inl rfl | exact Or.inr rfl) (pe_op op_mod (pe_callTy cr_int (by rfl) T.z_int (by decide +kernel) (pa_cons (pe_op op_addU (pe_op op_addU (pe_op op_mulU (pv 3) pe_int) (pe_op op_mod (pv 4) pe_int)) pe_int) pa_nil)) pe_int))))
    (pss_one (ps_ret (pe_lst (pa_cons (pe_revL (pe_lc (own := [("cell", 4)]) rfl sc__law_deal.nd (pi_list (pv 2)) (blkOk_by (N := ["script", "base", "cells", "mix", "cell"]) (sc := defScope s__law_deal) (by decide +kernel)) (fun _ _ _ _ _ => (pg_name (i := 4) sc__law_deal.nd rfl (by first | exact Or.inl rfl | exact Or.inr rfl))) (fun _ _ _ _ _ => (pts_one (pt_cmpR op_ge (pv 4) (pe_op op_pow pe_int pe_int) (by first | exact nomark _ | rfl)))) (fun _ _ _ _ _ => (pv 4)))) (pa_cons (pv 3) pa_nil)))))))), entryD (K := K) (by decide) h fun a b ns hs b0 b1 hn => ?_⟩)
  · obtain ⟨a, b, ns, rfl, _⟩ := h
    rfl
  · walk_at "d0"
    refine sv_seq (sv_set (ev_lc (sets_name 4) (wv_list (ds := []) ?_)))
    walk_at "d"
    refine lv_raw hs rfl ?_
    obtain ⟨ms, em, lm, hm⟩ := cut63 (ns := ns)
    rw [em]
    refine ⟨rfl, _, rfl, fun i acc => ∃ qs : List Int, acc = qs.map .int ∧ qs.length = i ∧ i ≤ ms.length ∧ ∀ q ∈ qs, 0 ≤ q ∧ q.toNat < 2 ^ 1048640, ⟨[], rfl, rfl, Nat.zero_le _, fun _ z => nomatch z⟩, ?_, ?_, ?_⟩
    · rintro i d acc hd ⟨qs, rfl, hi, hi2, hq⟩
      have hlt := (List.getElem?_eq_some_iff.mp hd).1
      rw [List.length_map] at hlt
      rw [List.getElem?_map, List.getElem?_eq_getElem hlt] at hd
      cases hd
      refine gv_name ⟨ltb rfl, ?_⟩
      dsimp only [List.set, List.foldr]
      refine et_yes ⟨fun _ => ?_, fun z => nomatch z⟩
      walk_at "d"
      refine ⟨rfl, _, rfl, qs ++ [(ms[i].natAbs : Int)], by simp, by simp [hi], by omega, fun z hz => ?_⟩
      rcases List.mem_append.mp hz with y | y
      · exact hq z y
      · rw [List.mem_singleton.mp y]
        exact nat_abs_ok (hn _ (hm _ (List.getElem_mem hlt)))
    · rintro i acc ⟨qs, rfl, hi, hi2, hq⟩
      rw [List.length_map]
      omega
    · rintro acc ⟨qs, rfl, hi, hi2, hq⟩
      rw [List.length_map] at hi
      have lq : qs.length ≤ 63 := by omega
      clear hi hi2 em lm hm hs hn
      refine ⟨ltb rfl, ?_⟩
      dsimp only [List.set]
      refine sv_seq (sv_set ?_)
      walk_at "d"
      refine ov_mulI (wide_mul (a := 16) (b := 17) (by decide) (by omega) (by decide) (by decide) (by decide)) ?_
      walk_at "d"
      dsimp only [List.set]
      refine sv_for (wv_list (ds := []) ?_)
      walk_at "d"
      refine ⟨rfl, _, rfl, fun i om' sl' => ∃ (mix : Int) (x : Option DL.E), om' = [] ∧ sl' = [some (.v (.raw (.ref a))), some (.v (.int b)), some (.v (.lst (qs.map .int))), some (.v (.int mix)), x] ∧ 0 ≤ mix ∧ mix < 2147483647, ⟨_, _, rfl, rfl, by omega, by omega⟩, ?_, ?_⟩
      · rintro i d om' sl' hd ⟨mix, x, rfl, rfl, x0, x1⟩
        have hlt := (List.getElem?_eq_some_iff.mp hd).1
        rw [List.length_map] at hlt
        rw [List.getElem?_map, List.getElem?_eq_getElem hlt] at hd
        cases hd
        refine gv_name ⟨ltb rfl, ?_⟩
        dsimp only [List.set]
        walk_at "d"
        refine ov_mulI (wide_mul (a := 31) (b := 31) (by omega) (by decide) (by decide) (by decide) (by decide)) ?_
        walk_at "d"
        refine ov_intC (by decide) ?_
        walk_at "d"
        refine ov_intC (by decide) ?_
        refine ⟨ltb rfl, _, _, rfl, rfl, ?_, ?_⟩
        · exact Int.emod_nonneg _ (by decide)
        · exact Int.emod_lt_of_pos _ (by decide)
      · rintro om' sl' ⟨mix, x, rfl, rfl, x0, x1⟩
        walk_at "d"
        refine ev_lst ?_
        walk_at "d"
        refine EX.ev_revL (ev_lc (sets_name 4) (wv_list (ds := []) ?_))
        walk_at "d"
        refine ⟨rfl, _, rfl, fun i acc => ∃ rs : List Int, acc = rs.map .int ∧ rs.length ≤ i ∧ i ≤ qs.length ∧ ∀ q ∈ rs, 0 ≤ q ∧ q.toNat < 2 ^ 1048640, ⟨[], rfl, Nat.le_refl _, Nat.zero_le _, fun _ z => nomatch z⟩, ?_, ?_, ?_⟩
        · rintro i d acc hd ⟨rs, rfl, hi, hi2, hr⟩
          have hlt := (List.getElem?_eq_some_iff.mp hd).1
          rw [List.length_map] at hlt
          rw [List.getElem?_map, List.getElem?_eq_getElem hlt] at hd
          cases hd
          refine gv_name ⟨ltb rfl, ?_⟩
          dsimp only [List.set, List.foldr]
          walk_at "d"
          refine ov_intC ⟨by decide, by decide, by decide⟩ ?_
          walk_at "d"
          refine ⟨fun _ => ?_, fun _ => ⟨rfl, rs, rfl, by omega, by omega, hr⟩⟩
          walk_at "d"
          refine ⟨rfl, _, rfl, rs ++ [qs[i]], by simp, by simp; omega, by omega, fun z hz => ?_⟩
          rcases List.mem_append.mp hz with y | y
          · exact hr z y
          · rw [List.mem_singleton.mp y]
            exact hq _ (List.getElem_mem hlt)
        · rintro i acc ⟨rs, rfl, hi, hi2, hr⟩
          rw [List.length_map]
          omega
        · rintro acc ⟨rs, rfl, hi, hi2, hr⟩
          rw [List.length_map] at hi
          walk_at "d"
          refine ⟨rs.reverse, mix, ?_, x0, x1, by rw [List.length_reverse]; omega, fun n hn => hr n (List.mem_reverse.mp hn)⟩
          rw [List.map_reverse]
end
end K0
set_option Elab.async false
set_option linter.all false
set_option maxRecDepth 100000
set_option maxHeartbeats 8000000
namespace K0
open PySem PySem.Spec PyProof.Rows L2 DL HL
section
variable {P : Program} {w : World} {K : PySem.W.Frag} {mg : Str → Option Value} {base : Heap} {C fi : Nat → Addr}
/-! ### errors by their numbers -/
def fldOf (n : Nat) : Str := if n < 7 then "at" else if n < 9 then "word" else "name"
def excOf (C : Nat → Addr) (n : Nat) (d : D) : D := if n < 10 then .exc (C n) [(fldOf n, d)] else .exc (C n) []
theorem excOf_eq (n : Nat) (d : D) : ∃ gs, excOf C n d = .exc (C n) gs := by
  unfold excOf
  split <;> exact ⟨_, rfl⟩
theorem le10 {n : Nat} (h : n ≤ 10) : n = 0 ∨ n = 1 ∨ n = 2 ∨ n = 3 ∨ n = 4 ∨ n = 5 ∨ n = 6 ∨ n = 7 ∨ n = 8 ∨ n = 9 ∨ n = 10 := by omega
theorem Tx.xf (T : Tx K mg C fi) {n : Nat} (h : n < 10) : XfC K (C n) ∧ PySem.W.findIn K (.ref (C n)) (fldOf n) = some none := by
  have one : ∀ {nm f : Str} {c i : Addr}, EX.XT K mg nm f c i → XfC K c ∧ PySem.W.findIn K (.ref c) f = some none := fun x => ⟨⟨x.ga, x.gg, x.exC, x.hdC⟩, x.noN⟩
  rcases le10 (Nat.le_of_lt h) with rfl | rfl | rfl | rfl | rfl | rfl | rfl | rfl | rfl | rfl | rfl
  · exact one T.x_InvalidYard
  · exact one T.x_InvalidText
  · exact one T.x_InvalidStanding
  · exact one T.x_InvalidMove
  · exact one T.x_InvalidTimetable
  · exact one T.x_InvalidPlan
  · exact one T.x_InvalidOrder
  · exact one T.x_InvalidSize
  · exact one T.x_Refused
  · exact one T.x_NoName
  · exact absurd h (by decide)
def pre_made (ds : List D) : Prop := ∃ (n : Nat) (d : D) (b : Bool), ds = [.int (n : Int), d, .bl b] ∧ n ≤ 10
def R_made (C : Nat → Addr) (ds : List D) (r : D) : Prop := ∀ (n : Nat) (d : D) (b : Bool), ds = [.int (n : Int), d, .bl b] → r = excOf C n d
abbrev sp_made (C : Nat → Addr) : Sp := spP 3 pre_made (R_made C) nX
theorem r_made {n : Nat} {d r : D} {b : Bool} (h : r = excOf C n d) : R_made C [.int (n : Int), d, .bl b] r := fun n' d' b' e => by
  injection e with e1 e2
  injection e2 with e2 _
  have e3 : n = n' := Int.ofNat.inj (D.int.inj e1)
  rw [h, e3, e2]
local macro_rules | `(tactic| walk_at "c") => `(tactic| repeat (first | walk_at "d1" | (with_reducible refine DL.sv_next ?_) | (with_reducible refine EX.ev_newX ?_) | (with_reducible refine EX.ev_new0X ?_) | (with_reducible refine ⟨_, rfl, ?_⟩) | (with_reducible refine ⟨Nat.le_of_ble_eq_true rfl, ?_⟩) | (refine ⟨fun h => absurd h (by decide), fun _ => ?_⟩) | (refine ⟨fun _ => ?_, fun h => absurd h (by decide)⟩)))
theorem c__law_made {f : Addr} {fd : FuncData} (T : Tx K mg C fi) (B : DefB K mg "_law_made" s__law_made ["number", "thing", "named"] f fd) : Ca P w K mg base CX0 2 "_law_made" ["number", "thing", "named"] (sp_made C) := by
  refine ca_of B sc__law_made (fun vs H Q E h => lenP h) (fun cdv A outer s H vs Q E hr h => ⟨_, (pss_cons (ps_if (pt_cmpR (op_eqU hr.units) (pv 0) pe_int (by first | exact nomark _ | rfl))
     (pss_one (ps_ret (pe_ifExp (pt_val (pv 2)) (EX.pe_newXK T.x_InvalidYard hr (by first | decide | (simp only [Nat.add_eq]; omega)) (pk_cons (pv 1) pk_nil)) (EX.pe_newX T.x_InvalidYard hr (by first | decide | (simp only [Nat.add_eq]; omega)) (pa_cons (pv 1) pa_nil)))))
     pss_nil)
    (pss_cons (ps_if (pt_cmpR (op_eqU hr.units) (pv 0) pe_int (by first | exact nomark _ | rfl))
     (pss_one (ps_ret (pe_ifExp (pt_val (pv 2)) (EX.pe_newXK T.x_InvalidText hr (by first | decide | (simp only [Nat.add_eq]; omega)) (pk_cons (pv 1) pk_nil)) (EX.pe_newX T.x_InvalidText hr (by first | decide | (simp only [Nat.add_eq]; omega)) (pa_cons (pv 1) pa_nil)))))
     pss_nil)
    (pss_cons (ps_if (pt_cmpR (op_eqU hr.units) (pv 0) pe_int (by first | exact nomark _ | rfl))
     (pss_one (ps_ret (pe_ifExp (pt_val (pv 2)) (EX.pe_newXK T.x_InvalidStanding hr (by first | decide | (simp only [Nat.add_eq]; omega)) (pk_cons (pv 1) pk_nil)) (EX.pe_newX T.x_InvalidStanding hr (by first | decide | (simp only [Nat.add_eq]; omega)) (pa_cons (pv 1) pa_nil)))))
     pss_nil)
    (pss_cons (ps_if (pt_cmpR (op_eqU hr.units) (pv 0) pe_int (by first | exact nomark _ | rfl))
     (pss_one (ps_ret (pe_ifExp (pt_val (pv 2)) (EX.pe_newXK T.x_InvalidMove hr (by first | decide | (simp only [Nat.add_eq]; omega)) (pk_cons (pv 1) pk_nil)) (EX.pe_newX T.x_InvalidMove hr (by first | decide | (simp only [Nat.add_eq]; omega)) (pa_cons (pv 1) pa_nil)))))
     pss_nil)
    (pss_cons (ps_if (pt_cmpR (op_eqU hr.units) (pv 0) pe_int (by first | exact nomark _ | rfl))
     (pss_one (ps_ret (pe_ifExp (pt_val (pv 2)) (EX.pe_newXK T.x_InvalidTimetable hr (by first | decide | (simp only [Nat.add_eq]; omega)) (pk_cons (pv 1) pk_nil)) (EX.pe_newX T.x_InvalidTimetable hr (by first | decide | (simp only [Nat.add_eq]; omega)) (pa_cons (pv 1) pa_nil)))))
     pss_nil)
    (pss_cons (ps_if (pt_cmpR (op_eqU hr.units) (pv 0) pe_int (by first | exact nomark _ | rfl))
     (pss_one (ps_ret (pe_ifExp (pt_val (pv 2)) (EX.pe_newXK T.x_InvalidPlan hr (by first | decide | (simp only [Nat.add_eq]; omega)) (pk_cons (pv 1) pk_nil)) (EX.pe_newX T.x_InvalidPlan hr (by first | decide | (simp only [Nat.add_eq]; omega)) (pa_cons (pv 1) pa_nil)))))
     pss_nil)
    (pss_cons (ps_if (pt_cmpR (op_eqU hr.units) (pv 0) pe_int (by first | exact nomark _ | rfl))
     (pss_one (ps_ret (pe_ifExp (pt_val (pv 2)) (EX.pe_newXK T.x_InvalidOrder hr (by first | decide | (simp only [Nat.add_eq]; omega)) (pk_cons (pv 1) pk_nil)) (EX.pe_newX T.x_InvalidOrder hr (by first | decide | (simp only [Nat.add_eq]; omega)) (pa_cons (pv 1) pa_nil)))))
     pss_nil)
    (pss_cons (ps_if (pt_cmpR (op_eqU hr.units) (pv 0) pe_int (by first | exact nomark _ | rfl))
     (pss_one (ps_ret (pe_ifExp (pt_val (pv 2)) (EX.pe_newXK T.x_InvalidSize hr (by first | decide | (simp only [Nat.add_eq]; omega)) (pk_cons (pv 1) pk_nil)) (EX.pe_newX T.x_InvalidSize hr (by first | decide | (simp only [Nat.add_eq]; omega)) (pa_cons (pv 1) pa_nil)))))
     pss_nil)
    (pss_cons (ps_if (pt_cmpR (op_eqU hr.units) (pv 0) pe_int (by first | exact nomark _ | rfl))
     (pss_one (ps_ret (pe_ifExp (pt_val (pv 2)) (EX.pe_newXK T.x_Refused hr (by first | decide | (simp only [Nat.add_eq]; omega)) (pk_cons (pv 1) pk_nil)) (EX.pe_newX T.x_Refused hr (by first | decide | (simp only [Nat.add_eq]; omega)) (pa_cons (pv 1) pa_nil)))))
     pss_nil)
    (pss_cons (ps_if (pt_cmpR (op_eqU hr.units) (pv 0) pe_int (by first | exact nomark _ | rfl))
     (pss_one (ps_ret (pe_ifExp (pt_val (pv 2)) (EX.pe_newXK T.x_NoName hr (by first | decide | (simp only [Nat.add_eq]; omega)) (pk_cons (pv 1) pk_nil)) (EX.pe_newX T.x_NoName hr (by first | decide | (simp only [Nat.add_eq]; omega)) (pa_cons (pv 1) pa_nil)))))
     pss_nil)
    (pss_one (ps_ret (EX.pe_new0X T.x_InvalidCommand))))))))))))), entryP (K := K) (by decide) h fun O ds hl hp => ?_⟩)
  obtain ⟨n, d, b, rfl, hn⟩ := hp
  rcases le10 hn with rfl | rfl | rfl | rfl | rfl | rfl | rfl | rfl | rfl | rfl | rfl <;> cases b <;>
  · walk_at "d0"
    walk_at "c"
    exact r_made rfl
end
end K0
set_option Elab.async false
set_option linter.all false
set_option maxRecDepth 100000
set_option maxHeartbeats 8000000
local macro_rules | `(tactic| walk_at "c") => `(tactic| repeat (first | walk_at "d1" | (with_reducible refine DL.sv_next ?_) | (with_reducible refine EX.ev_newX ?_) | (with_reducible refine EX.ev_new0X ?_) | (with_reducible refine ⟨_, rfl, ?_⟩) | (with_reducible refine ⟨Nat.le_of_ble_eq_true rfl, ?_⟩) | (refine ⟨fun h => absurd h (by decide), fun _ => ?_⟩) | (refine ⟨fun _ => ?_, fun h => absurd h (by decide)⟩)))
local macro_rules | `(tactic| walk_at "kk") => `(tactic| repeat (first | walk_at "d1" | (with_reducible refine EX.ev_raw ?_) | (refine EX.cv_isX (L2.ClsV.own _) (by assumption) (K0.Tx.kit (by assumption) _ _ (by assumption) (by decide)) ?_) | (with_reducible refine ⟨_, rfl, ?_⟩) | (with_reducible refine ⟨Nat.le_of_ble_eq_true rfl, ?_⟩)))
namespace K0
open PySem PySem.Spec PyProof.Rows L2 DL HL
section
variable {P : Program} {w : World} {K : PySem.W.Frag} {mg : Str → Option Value} {base : Heap} {C fi : Nat → Addr}
/-! ### _law_kept -/
def pre_kept (C : Nat → Addr) (ds : List D) : Prop := ∃ (n : Nat) (d : D), ds = [.int (n : Int), excOf C n d] ∧ n ≤ 10
def keptOf (n : Nat) (d : D) : D := .lst (if n < 10 then [d] else [])
def R_kept (C : Nat → Addr) (ds : List D) (r : D) : Prop := ∀ (n : Nat) (d : D), n ≤ 10 → ds = [.int (n : Int), excOf C n d] → r = keptOf n d
abbrev sp_kept (C : Nat → Addr) : Sp := spP 2 (pre_kept C) (R_kept C) nX
theorem excOf_inj {n : Nat} {d d' : D} (h : n < 10) (e : excOf C n d = excOf C n d') : d = d' := by
  unfold excOf at e
  rw [if_pos h, if_pos h] at e
  injection e with _ e
  injection e with e _
  injection e
theorem r_kept {n : Nat} {d r : D} (h : r = keptOf n d) : R_kept C [.int (n : Int), excOf C n d] r := fun n' d' hn e => by
  injection e with e1 e2
  injection e2 with e2 _
  have e3 : n = n' := Int.ofNat.inj (D.int.inj e1)
  subst e3
  rw [h]
  unfold keptOf
  by_cases c : n < 10
  · rw [excOf_inj c e2]
  · rw [if_neg c, if_neg c]
theorem c__law_kept {f : Addr} {fd : FuncData} (T : Tx K mg C fi) (B : DefB K mg "_law_kept" s__law_kept ["number", "e"] f fd) : Ca P w K mg base CX0 1 "_law_kept" ["number", "e"] (sp_kept C) := by
  refine ca_of B sc__law_kept (fun vs H Q E h => lenP h) (fun cdv A outer s H vs Q E hr h => ⟨_, (pss_cons (ps_if (pt_cmpR op_lt (pv 0) pe_int (by first | exact nomark _ | rfl))
     (pss_one (ps_ret (pe_lst (pa_cons (EX.pe_xfX (pv 1)) pa_nil))))
     pss_nil)
    (pss_cons (ps_if (pt_cmpR op_lt (pv 0) pe_int (by first | exact nomark _ | rfl))
     (pss_one (ps_ret (pe_lst (pa_cons (EX.pe_xfX (pv 1)) pa_nil))))
     pss_nil)
    (pss_one (ps_ret (pe_ifExp (pt_cmpR (op_eqU hr.units) (pv 0) pe_int (by first | exact nomark _ | rfl)) (pe_lst (pa_cons (EX.pe_xfX (pv 1)) pa_nil)) (pe_lst pa_nil)))))), entryP (K := K) (by decide) h fun O ds hl hp => ?_⟩)
  obtain ⟨n, d, rfl, hn⟩ := hp
  have rk : R_kept C [.int (n : Int), excOf C n d] (keptOf n d) := r_kept rfl
  by_cases c : n < 10
  · obtain ⟨xf, no⟩ := T.xf c
    have fin : ∀ {f : Str}, f = fldOf n → EV (P := fun e om => ∃ d', dat om e = some d' ∧ R_kept C [.int (n : Int), excOf C n d] d') ⟨[], O, H, K⟩ (tLst (tCons (EX.tXfX K f (tVar 1)) tNil)) [] [some (.v (.int (n : Int))), some (.v (excOf C n d))] := fun {f} hf => by
      subst hf
      refine ev_lst (ea_cons (EX.ev_xfX (ev_var rfl ⟨C n, [(fldOf n, d)], d, ?_, xf, no, ?_, ?_⟩)))
      · unfold excOf
        rw [if_pos c]
      · simp [List.lookup]
      · refine ea_nil ⟨_, rfl, Nat.le_of_ble_eq_true rfl, _, rfl, ?_⟩
        have e : keptOf n d = .lst [d] := by
          unfold keptOf
          rw [if_pos c]
        rw [e] at rk
        exact rk
    rcases le10 hn with rfl | rfl | rfl | rfl | rfl | rfl | rfl | rfl | rfl | rfl | rfl
    all_goals (first | exact absurd c (by decide) | (walk_at "d0"; walk_at "c"; exact fin rfl))
  · have e10 : n = 10 := by omega
    subst e10
    walk_at "d0"
    walk_at "c"
    refine ev_lst ?_
    walk_at "c"
    exact rk
/-! ### _law_kinds -/
def pre_kinds (C : Nat → Addr) (ds : List D) : Prop := ∃ (n : Nat) (d : D), ds = [excOf C n d] ∧ n ≤ 10
def R_kinds (C : Nat → Addr) (ds : List D) (r : D) : Prop := ∀ (n : Nat) (d : D), n ≤ 10 → ds = [excOf C n d] → r = .lst [.int (n : Int)]
abbrev sp_kinds (C : Nat → Addr) : Sp := spP 1 (pre_kinds C) (R_kinds C) nX
theorem Tx.inj (T : Tx K mg C fi) {i j : Nat} (hi : i < 11) (hj : j < 11) (e : C i = C j) : i = j := by
  have h1 := T.kit i j hi hj
  rw [e, T.kit j j hj hj] at h1
  have h2 := Option.some.inj h1
  rw [decide_eq_true rfl] at h2
  exact of_decide_eq_true h2.symm
theorem excOf_num (T : Tx K mg C fi) {n n' : Nat} {d d' : D} (hn : n ≤ 10) (hn' : n' ≤ 10) (e : excOf C n d = excOf C n' d') : n = n' := by
  obtain ⟨g, h1⟩ := excOf_eq (C := C) n d
  obtain ⟨g', h2⟩ := excOf_eq (C := C) n' d'
  rw [h1, h2] at e
  injection e with e _
  exact T.inj (by omega) (by omega) e
def bls (n : Nat) : List D := (List.range 11).map fun j => .bl (decide (n = j))
theorem bls_get {n i : Nat} {d : D} (h : (enD (bls n))[i]? = some d) : i < 11 ∧ d = .tup [.int (i : Int), .bl (decide (n = i))] := by
  have hl := (List.getElem?_eq_some_iff.mp h).1
  rw [enD_len] at hl
  have hi : i < 11 := by simpa [bls] using hl
  refine ⟨hi, ?_⟩
  have e : (bls n)[i]? = some (.bl (decide (n = i))) := by simp [bls, hi]
  rw [enD_get e] at h
  exact (Option.some.inj h).symm
theorem c__law_kinds {f : Addr} {fd : FuncData} (T : Tx K mg C fi) (B : DefB K mg "_law_kinds" s__law_kinds ["e"] f fd) : Ca P w K mg base CX0 1 "_law_kinds" ["e"] (sp_kinds C) := by
  refine ca_of B sc__law_kinds (fun vs H Q E h => lenP h) (fun cdv A outer s H vs Q E hr h => ⟨_, (pss_cons (ps_set (i := 1) sc__law_kinds.nd rfl (by first | exact Or.inl rfl | exact Or.inr rfl) (pe_lst (pa_cons (pe_callB EX.call_isX (by rfl) T.z_isinstance (by decide +kernel) (pa_cons (pv 0) (pa_cons (pe_glob (v := .ref _) rfl T.x_InvalidYard.gC rfl) pa_nil))) (pa_cons (pe_callB EX.call_isX (by rfl) T.z_isinstance (by decide +kernel) (pa_cons (pv 0) (pa_cons (pe_glob (v := .ref _) rfl T.x_InvalidText.gC rfl) pa_nil))) (pa_cons (pe_callB EX.call_isX (by rfl) T.z_isinstance (by decide +kernel) (pa_cons (pv 0) (pa_cons (pe_glob (v := .ref _) rfl T.x_InvalidStanding.gC rfl) pa_nil))) (pa_cons (pe_callB EX.call_isX (by rfl) T.z_isinstance (by decide +kernel) (pa_cons (pv 0) (pa_cons (pe_glob (v := .ref _) rfl T.x_InvalidMove.gC rfl) pa_nil))) pa_nil))))))
    (pss_cons (ps_set (i := 1) sc__law_kinds.nd rfl (by first | exact Or.inl rfl | exact Or.inr rfl) (pe_op op_addU (pv 1) (pe_lst (pa_cons (pe_callB EX.call_isX (by rfl) T.z_isinstance (by decide +kernel) (pa_cons (pv 0) (pa_cons (pe_glob (v := .ref _) rfl T.x_InvalidTimetable.gC rfl) pa_nil))) (pa_cons (pe_callB EX.call_isX (by rfl) T.z_isinstance (by decide +kernel) (pa_cons (pv 0) (pa_cons (pe_glob (v := .ref _) rfl T.x_InvalidPlan.gC rfl) pa_nil))) (pa_cons (pe_callB EX.call_isX (by rfl) T.z_isinstance (by decide +kernel) (pa_cons (pv 0) (pa_cons (pe_glob (v := .ref _) rfl T.x_InvalidOrder.gC rfl) pa_nil))) (pa_cons (pe_callB EX.call_isX (by rfl) T.z_isinstance (by decide +kernel) (pa_cons (pv 0) (pa_cons (pe_glob (v := .ref _) rfl T.x_InvalidSize.gC rfl) pa_nil))) pa_nil)))))))
    (pss_cons (ps_set (i := 1) sc__law_kinds.nd rfl (by first | exact Or.inl rfl | exact Or.inr rfl) (pe_op op_addU (pv 1) (pe_lst (pa_cons (pe_callB EX.call_isX (by rfl) T.z_isinstance (by decide +kernel) (pa_cons (pv 0) (pa_cons (pe_glob (v := .ref _) rfl T.x_Refused.gC rfl) pa_nil))) (pa_cons (pe_callB EX.call_isX (by rfl) T.z_isinstance (by decide +kernel) (pa_cons (pv 0) (pa_cons (pe_glob (v := .ref _) rfl T.x_NoName.gC rfl) pa_nil))) (pa_cons (pe_callB EX.call_isX (by rfl) T.z_isinstance (by decide +kernel) (pa_cons (pv 0) (pa_cons (pe_glob (v := .ref _) rfl T.x_InvalidCommand.gC rfl) pa_nil))) pa_nil))))))
    (pss_one (ps_ret (pe_lc (own := [("at", 2), ("is_one", 3)]) rfl sc__law_kinds.nd (pi_enum (by rfl) T.z_enumerate (pa_cons (pv 1) pa_nil)) (blkOk_by (N := ["e", "found", "at", "is_one"]) (sc := defScope s__law_kinds) (by decide +kernel)) (fun _ _ _ _ _ => (EX.pg_tupk (K := K) (n := 2) rfl rfl (pgs_cons (pg_name (i := 2) sc__law_kinds.nd rfl (by first | exact Or.inl rfl | exact Or.inr rfl)) (pgs_cons (pg_name (i := 3) sc__law_kinds.nd rfl (by first | exact Or.inl rfl | exact Or.inr rfl)) pgs_nil)))) (fun _ _ _ _ _ => (pts_one (pt_val (pv 3)))) (fun _ _ _ _ _ => (pv 2)))))))), entryP (K := K) (by decide) h fun O ds hl hp => ?_⟩)
  obtain ⟨n, d, rfl, hn⟩ := hp
  have rk : R_kinds C [excOf C n d] (.lst [.int (n : Int)]) := fun n' d' hn' e => by
    injection e with e _
    rw [excOf_num T hn hn' e]
  obtain ⟨gs, eg⟩ := excOf_eq (C := C) n d
  rw [eg] at rk hl ⊢
  have hn11 : n < 11 := by omega
  have isc := T.is n (by omega)
  walk_at "d0"
  refine sv_seq (sv_set (ev_lst ?_))
  walk_at "kk"
  (try dsimp only [List.set])
  refine ev_lst ?_
  walk_at "kk"
  refine ov_addL rfl rfl (Nat.le_of_ble_eq_true rfl) ⟨ltb rfl, ?_⟩
  (try dsimp only [List.set])
  walk_at "kk"
  refine ev_lst ?_
  walk_at "kk"
  refine ov_addL rfl rfl (Nat.le_of_ble_eq_true rfl) ⟨ltb rfl, ?_⟩
  (try dsimp only [List.set])
  refine sv_ret (ev_lc (sets_pair (by decide)) (wv_enum ?_))
  walk_at "kk"
  refine ⟨rfl, bls n, rfl, fun i acc => acc = if n < i then [.int (n : Int)] else [], rfl, ?_, ?_, ?_⟩
  · rintro i d' acc hd ha
    obtain ⟨hi, rfl⟩ := bls_get hd
    refine gv_tup rfl (gsv_cons (gv_name ⟨ltb rfl, gsv_cons (gv_name ⟨ltb rfl, gsv_nil ?_⟩)⟩))
    dsimp only [List.set, List.foldr]
    walk_at "kk"
    refine ⟨fun h1 => ?_, fun h1 => ⟨rfl, ?_⟩⟩
    · have e := of_decide_eq_true h1
      subst e
      walk_at "kk"
      refine ⟨rfl, _, rfl, ?_⟩
      rw [ha, if_neg (Nat.lt_irrefl _), if_pos (Nat.lt_succ_self _)]
      rfl
    · have e := of_decide_eq_false h1
      rw [ha]
      by_cases c : n < i
      · rw [if_pos c, if_pos (by omega)]
      · rw [if_neg c, if_neg (by omega)]
  · rintro i acc rfl
    split <;> exact ltb rfl
  · rintro acc rfl
    refine ⟨_, rfl, ?_⟩
    have e : (enD (bls n)).length = 11 := by rw [enD_len]; rfl
    rw [e, if_pos hn11]
    exact rk
end
end K0
set_option Elab.async false
set_option linter.all false
set_option maxRecDepth 100000
set_option maxHeartbeats 8000000
namespace EX
open PySem PySem.Spec PyProof.Rows L2 DL
theorem op_eqUk {X : Cx} {K : PySem.W.Frag} (hK : X.K = K) (hu : X.A.units + 64 < cLine) : OpR X (compareOp .Eq) (rEqU K) := by
  subst hK
  exact op_eqU hu
end EX
namespace K0
open PySem PySem.Spec PyProof.Rows L2 DL HL
section
variable {P : Program} {w : World} {K : PySem.W.Frag} {mg : Str → Option Value} {base : Heap} {C fi : Nat → Addr}
/-! ### _law_caught -/
def pre_caught (ds : List D) : Prop := ∃ n : Nat, ds = [.int (n : Int)] ∧ n ≤ 10
def caughtOf (n : Nat) : Str := if n = 9 then "key" else "yard"
def R_caught (ds : List D) (r : D) : Prop := ∀ n : Nat, ds = [.int (n : Int)] → r = .str (caughtOf n)
abbrev sp_caught : Sp := spP 1 pre_caught R_caught nX
theorem c__law_caught {f : Addr} {fd : FuncData} (T : Tx K mg C fi) (B : DefB K mg "_law_caught" s__law_caught ["number"] f fd) : Ca P w K mg base CX0 2 "_law_caught" ["number"] sp_caught := by
  refine ca_of B sc__law_caught (fun vs H Q E h => lenP h) (fun cdv A outer s H vs Q E hr h => ⟨_, (pss_one (ps_try_many rfl rfl takes0 (fun W pn xe tk _ =>
     (pss_cons (ps_if (pt_cmpR (EX.op_eqUk (K := K) rfl hr.units) (pv 0) pe_int (by first | exact nomark _ | rfl))
      (pss_one (EX.ps_raiseF rfl T.x_InvalidYard hr (by first | decide | (simp only [Nat.add_eq]; omega)) tk (pa_cons pe_int pa_nil)))
      pss_nil)
     (pss_cons (ps_if (pt_cmpR (EX.op_eqUk (K := K) rfl hr.units) (pv 0) pe_int (by first | exact nomark _ | rfl))
      (pss_one (EX.ps_raiseF rfl T.x_InvalidText hr (by first | decide | (simp only [Nat.add_eq]; omega)) tk (pa_cons pe_int pa_nil)))
      pss_nil)
     (pss_cons (ps_if (pt_cmpR (EX.op_eqUk (K := K) rfl hr.units) (pv 0) pe_int (by first | exact nomark _ | rfl))
      (pss_one (EX.ps_raiseF rfl T.x_InvalidStanding hr (by first | decide | (simp only [Nat.add_eq]; omega)) tk (pa_cons pe_int pa_nil)))
      pss_nil)
     (pss_cons (ps_if (pt_cmpR (EX.op_eqUk (K := K) rfl hr.units) (pv 0) pe_int (by first | exact nomark _ | rfl))
      (pss_one (EX.ps_raiseF rfl T.x_InvalidMove hr (by first | decide | (simp only [Nat.add_eq]; omega)) tk (pa_cons pe_int pa_nil)))
      pss_nil)
     (pss_cons (ps_if (pt_cmpR (EX.op_eqUk (K := K) rfl hr.units) (pv 0) pe_int (by first | exact nomark _ | rfl))
      (pss_one (EX.ps_raiseF rfl T.x_InvalidTimetable hr (by first | decide | (simp only [Nat.add_eq]; omega)) tk (pa_cons pe_int pa_nil)))
      pss_nil)
     (pss_cons (ps_if (pt_cmpR (EX.op_eqUk (K := K) rfl hr.units) (pv 0) pe_int (by first | exact nomark _ | rfl))
      (pss_one (EX.ps_raiseF rfl T.x_InvalidPlan hr (by first | decide | (simp only [Nat.add_eq]; omega)) tk (pa_cons pe_int pa_nil)))
      pss_nil)
     (pss_cons (ps_if (pt_cmpR (EX.op_eqUk (K := K) rfl hr.units) (pv 0) pe_int (by first | exact nomark _ | rfl))
      (pss_one (EX.ps_raiseF rfl T.x_InvalidOrder hr (by first | decide | (simp only [Nat.add_eq]; omega)) tk (pa_cons pe_int pa_nil)))
      pss_nil)
     (pss_cons (ps_if (pt_cmpR (EX.op_eqUk (K := K) rfl hr.units) (pv 0) pe_int (by first | exact nomark _ | rfl))
      (pss_one (EX.ps_raiseF rfl T.x_InvalidSize hr (by first | decide | (simp only [Nat.add_eq]; omega)) tk (pa_cons pe_int pa_nil)))
      pss_nil)
     (pss_cons (ps_if (pt_cmpR (EX.op_eqUk (K := K) rfl hr.units) (pv 0) pe_int (by first | exact nomark _ | rfl))
      (pss_one (EX.ps_raiseF rfl T.x_Refused hr (by first | decide | (simp only [Nat.add_eq]; omega)) tk (pa_cons pe_int pa_nil)))
      pss_nil)
     (pss_cons (ps_if (pt_cmpR (EX.op_eqUk (K := K) rfl hr.units) (pv 0) pe_int (by first | exact nomark _ | rfl))
      (pss_one (EX.ps_raiseF rfl T.x_NoName hr (by first | decide | (simp only [Nat.add_eq]; omega)) tk (pa_cons pe_int pa_nil)))
      pss_nil)
     (pss_one (EX.ps_raise0 rfl T.x_InvalidCommand tk)))))))))))))
     (HdsOk.cons (c := .ref _) ⟨rfl, by decide, Or.inl T.x_YardError.gC⟩ (fun a oe cls d pn hz hf => (pss_one (ps_ret pe_str))) (HdsOk.cons (c := .type "KeyError") ⟨rfl, by decide, Or.inr ⟨T.z_KeyError, by decide +kernel, by decide⟩⟩ (fun a oe cls d pn hz hf => (pss_one (ps_ret pe_str))) HdsOk.nil)))), ?_⟩)
  obtain ⟨O, ds, hl, al, ra, ⟨n, rfl, hn⟩, hQ, _⟩ := h
  cases ra with
  | cons r1 r2 =>
    cases r2
    cases r1
    have tst : ∀ {j : Int} {Q2 : Bool → Hp → Prop}, Q2 (decide (V.int (n : Int) = V.int j)) H → tTest (tOp (rEqU K) (tVar 0) (tC (.int j))) (L2.start ["number"] [V.int (n : Int)]) H Q2 := fun h => ⟨.int (n : Int), rfl, .inl ⟨rfl, _, rfl, h⟩⟩
    have fin : ∀ {H' : Hp} {z : Str}, Same H H' → z = caughtOf n → Q (.str z) H' := fun {H' z} sm e => hQ _ H' (.str z) sm (Rl.str _) fun n' e' => by
      have e2 : n = n' := Int.ofNat.inj (D.int.inj (List.cons.inj e').1)
      rw [e, e2]
    have sm0 : Same H H := fun b o e => e
    have smd : ∀ {d : Addr} {o : HO}, H d = none → Same H (upd H d o) := fun {d o} hd b u e => by
      rw [upd_ne (ne_of_none e hd)]
      exact e
    dsimp only [cxOf, Cx.nox]
    have done : ∀ {H' : Hp} {d : Option Addr} {σ : L2.St}, Same H H' → wMany K (fun _ _ _ _ => False) { nx := fun _ H' => Q V.non H', rt := Q } [(Value.ref (C 11), fun a cls d => tRet (tC (V.str (PySem.Str.ofString "yard")))), (Value.type "KeyError", fun a cls d => tRet (tC (V.str (PySem.Str.ofString "key"))))] (.ref (C n)) d σ H' := fun {H' d σ} sm => by
      by_cases c : n = 9
      · subst c
        exact ⟨false, T.exm 9 (by decide), fun q => Bool.noConfusion q, fun _ => ⟨true, T.exmK, fun _ a _ => fin sm rfl, fun q => Bool.noConfusion q⟩⟩
      · refine ⟨true, by rw [T.exm n (by omega), decide_eq_true c], fun _ a _ => fin sm ?_, fun q => Bool.noConfusion q⟩
        unfold caughtOf
        rw [if_neg c]
    clear hQ fin
    rcases le10 hn with rfl | rfl | rfl | rfl | rfl | rfl | rfl | rfl | rfl | rfl | rfl
    all_goals
      repeat (first
        | (refine tst ?_; refine (if_neg (by decide)).mpr ?_)
        | (refine tst ?_; refine (if_pos (by decide)).mpr ?_; exact ⟨_, rfl, fun d hd => done (smd hd)⟩)
        | exact done sm0)
end
end K0
set_option Elab.async false
set_option linter.all false
set_option maxRecDepth 100000
set_option maxHeartbeats 8000000
local macro_rules | `(tactic| walk_at "k") => `(tactic| repeat (first | walk_at "d1" | (with_reducible refine EX.ev_raw ?_) | (with_reducible refine EX.ev_new0X ?_) | (with_reducible refine ⟨_, rfl, ?_⟩) | (with_reducible refine ⟨Nat.le_of_ble_eq_true rfl, ?_⟩)))
namespace K0
open PySem PySem.Spec PyProof.Rows L2 DL HL
section
variable {P : Program} {w : World} {K : PySem.W.Frag} {mg : Str → Option Value} {base : Heap} {C fi : Nat → Addr}
theorem cv_made {c : Cn} {om : Om} {sl : Sl} {P : DL.E → Om → Prop} {n : Nat} {d : D} {b : Bool} (hn : n ≤ 10) (h : P (.v (excOf C n d)) om) : CV c (fun vs H Q => sp_made C vs H Q E0) om sl [.v (.int (n : Int)), .v d, .v (.bl b)] P :=
  cv_P ⟨_, rfl, rfl, ⟨n, d, b, rfl, hn⟩, fun _ _ _ z => z, fun r hr => by rw [hr n d b rfl]; exact h⟩
theorem cv_kinds {c : Cn} {om : Om} {sl : Sl} {P : DL.E → Om → Prop} {n : Nat} {d : D} (hn : n ≤ 10) (h : P (.v (.lst [.int (n : Int)])) om) : CV c (fun vs H Q => sp_kinds C vs H Q E0) om sl [.v (excOf C n d)] P :=
  cv_P ⟨_, rfl, rfl, ⟨n, d, rfl, hn⟩, fun _ _ _ z => z, fun r hr => by rw [hr n d hn rfl]; exact h⟩
theorem cv_kept {c : Cn} {om : Om} {sl : Sl} {P : DL.E → Om → Prop} {n : Nat} {d : D} (hn : n ≤ 10) (h : P (.v (keptOf n d)) om) : CV c (fun vs H Q => sp_kept C vs H Q E0) om sl [.v (.int (n : Int)), .v (excOf C n d)] P :=
  cv_P ⟨_, rfl, rfl, ⟨n, d, rfl, hn⟩, fun _ _ _ z => z, fun r hr => by rw [hr n d hn rfl]; exact h⟩
theorem cv_caught {c : Cn} {om : Om} {sl : Sl} {P : DL.E → Om → Prop} {n : Nat} (hn : n ≤ 10) (h : P (.v (.str (caughtOf n))) om) : CV c (fun vs H Q => sp_caught vs H Q E0) om sl [.v (.int (n : Int))] P :=
  cv_P ⟨_, rfl, rfl, ⟨n, rfl, hn⟩, fun _ _ _ z => z, fun r hr => by rw [hr n rfl]; exact h⟩
theorem cv_is {c : Cn} {om : Om} {sl : Sl} {P : DL.E → Om → Prop} {n : Nat} {d : D} {cl : V} {u : Value} {b : Bool} (hu : ClsV cl u) (hC : ExcC c.K (C n)) (hk : PySem.W.kitOne c.K (.ref (C n)) u = some b) (p : P (.v (.bl b)) om) : CV c (EX.rIsX c.K) om sl [.v (excOf C n d), .v (.raw cl)] P := by
  obtain ⟨gs, e⟩ := excOf_eq (C := C) n d
  rw [e]
  exact EX.cv_isX hu hC hk p
theorem ov_neB {c : Cn} {om : Om} {sl : Sl} {P : DL.E → Om → Prop} {a b : Bool} (p : P (.v (.bl (!decide (a = b)))) om) : OV c (rNeU c.K) om sl (.v (.bl a)) (.v (.bl b)) P := fun σ H O ps s v w rv rw' Q k => by
  cases rv
  cases rw'
  have e : decide (V.bl a = V.bl b) = decide (a = b) := by by_cases z : a = b <;> simp [z]
  refine .inl ⟨rfl, ?_⟩
  rw [e]
  exact k _ H O ps (.v (.bl _)) om (Go.refl ..) s (Rl.bl _) p
theorem ov_neL {c : Cn} {om : Om} {sl : Sl} {P : DL.E → Om → Prop} {n : Int} (p : P (.v (.bl false)) om) : OV c (rNeU c.K) om sl (.v (.lst [.int n])) (.v (.lst [.int n])) P := by
  refine ov_neD rfl rfl rfl rfl rfl rfl ?_
  have e : PyData.eqv (D.lst [.int n]).py (D.lst [.int n]).py = true := by
    unfold D.py D.pyA D.pyA D.py
    simp [PyData.eqv, PyData.eqvAll]
  rw [e]
  exact p
theorem ov_neE {c : Cn} {om : Om} {sl : Sl} {P : DL.E → Om → Prop} (p : P (.v (.bl false)) om) : OV c (rNeU c.K) om sl (.v (.lst [])) (.v (.lst [])) P := by
  refine ov_neD rfl rfl rfl rfl rfl rfl ?_
  have e : PyData.eqv (D.lst []).py (D.lst []).py = true := by
    unfold D.py D.pyA
    simp [PyData.eqv, PyData.eqvAll]
  rw [e]
  exact p
theorem ov_neSS {c : Cn} {om : Om} {sl : Sl} {P : DL.E → Om → Prop} {x y : Str} (h : x = y) (p : P (.v (.bl false)) om) : OV c (rNeU c.K) om sl (.v (.str x)) (.v (.str y)) P := by
  refine ov_neS ?_
  rw [decide_eq_true h]
  exact p
theorem fits_th {n : Nat} {d : D} (h : Th n d) (hn : n ≤ 4) : d.fits := by
  obtain ⟨h1, h2, h3, h4, h5⟩ := h.up hn
  refine ⟨h1, h2, h3, by omega, ?_⟩
  rw [sizeLine_eq]
  omega
theorem th_kept {n : Nat} {d : D} (h : Th 3 d) : Th 4 (keptOf n d) := by
  unfold keptOf
  split
  · exact th_lst (Nat.le_of_ble_eq_true rfl) fun x hx => by rw [List.mem_singleton.mp hx]; exact h
  · exact th_lst (Nat.zero_le _) fun x hx => nomatch hx
theorem nb9 (i : Nat) : (!decide (decide (i ≠ 9) = !decide ((i : Int) = 9))) = false := by
  have e : ((i : Int) = 9) ↔ i = 9 := by omega
  by_cases h : i = 9
  · simp [h]
  · have h' : ¬ ((i : Int) = 9) := fun z => h (e.mp z)
    simp [h, h']
theorem kb9 (i : Nat) : (!decide (decide (i = 9) = decide ((i : Int) = 9))) = false := by
  have e : ((i : Int) = 9) ↔ i = 9 := by omega
  by_cases h : i = 9
  · simp [h]
  · have h' : ¬ ((i : Int) = 9) := fun z => h (e.mp z)
    simp [h, h']
theorem ov_neK {c : Cn} {om : Om} {sl : Sl} {P : DL.E → Om → Prop} {n : Nat} {i : Int} (p : P (.v (.bl false)) om) : OV c (rNeU c.K) om sl (.v (keptOf n (.int i))) (.v (keptOf n (.int i))) P := by
  unfold keptOf
  split
  · exact ov_neL p
  · exact ov_neE p
theorem kept10 {i : Nat} (hi : i ≤ 10) {d : D} {b : Bool} (h : decide ((i : Int) = 10) = b) : keptOf i d = .lst (if b = true then [] else [d]) := by
  unfold keptOf
  cases b with
  | true =>
    have := of_decide_eq_true h
    rw [if_neg (by omega)]
    rfl
  | false =>
    have := of_decide_eq_false h
    rw [if_pos (by omega)]
    rfl
/-! ### law -/
def sp_law (K : PySem.W.Frag) : Sp := fun vs H Q _ => ∃ (a : Addr) (ns : List Int), vs = [.ref a] ∧ SqL K H a (ns.map V.int) ∧ (∀ n ∈ ns, n.natAbs < 2 ^ 1048640) ∧ ∀ H', Q (.bl true) H'
theorem deal_at {H : Hp} {v : V} {r : D} (rl : Rl [] H v r) (hr : DealIs r) : ∃ (h p : Addr) (st : Int) (ms : List Int), v = .ref h ∧ h ≠ p ∧ H h = some (.lst [.ref p, .int st]) ∧ H p = some (.lst (ms.map V.int)) ∧ 0 ≤ st ∧ st < 2147483647 ∧ ms.length ≤ 63 ∧ ∀ n ∈ ms, 0 ≤ n ∧ n.toNat < 2 ^ 1048640 := by
  obtain ⟨ms, st, rfl, s0, s1, l, b⟩ := hr
  cases rl with
  | @lst h xs _ ha hh hx =>
    cases hx with
    | @cons v1 vs1 _ _ r1 hx =>
      cases hx with
      | @cons v2 vs2 _ _ r2 hx =>
        cases hx
        cases r2
        cases r1 with
        | @lst p ys _ hp hpp hy =>
          have e := RlA.ints hy
          subst e
          refine ⟨h, p, st, ms, rfl, fun z => ?_, hh, hpp, s0, s1, l, b⟩
          subst z
          rw [hh] at hpp
          have e2 := HO.lst.inj (Option.some.inj hpp)
          cases ms with
          | nil => cases e2
          | cons m ms => cases e2
def sl9 (t : List (Option DL.E)) : Sl := none :: some .l :: t
theorem c__law {f : Addr} {fd : FuncData} (T : Tx K mg C fi) (c__law_deal : Ca P w K mg base CX0 1 "_law_deal" ["script", "base"] (sp_deal K)) (c__law_thing : Ca P w K mg base CX0 7 "_law_thing" ["deal", "depth"] (sp_thing 4)) (c__law_made : Ca P w K mg base CX0 2 "_law_made" ["number", "thing", "named"] (sp_made C))
    (c__law_kinds : Ca P w K mg base CX0 1 "_law_kinds" ["e"] (sp_kinds C)) (c__law_kept : Ca P w K mg base CX0 1 "_law_kept" ["number", "e"] (sp_kept C)) (c__law_caught : Ca P w K mg base CX0 2 "_law_caught" ["number"] sp_caught)
    (B : DefB K mg "law" s_law ["script"] f fd) : FnG P w K mg base CX0 8 f fd ["script"] (sp_law K) := by
  refine okG B.fn sc_law (fun vs H Q E h => ?_) (fun cdv A outer s H vs Q E hr hgd h => ⟨_, PSs.nox (pss_cons (ps_set (i := 1) sc_law.nd rfl (by first | exact Or.inl rfl | exact Or.inr rfl) (pe_ca c__law_deal hr (by first | decide | (simp only [Nat.add_eq]; omega)) pass0 (pa_cons (pv 0) (pa_cons pe_int pa_nil))))
    (pss_cons (ps_for PassesOwn.never rfl (pi_range1 (by rfl) T.z_range (pa_cons pe_int pa_nil)) (pg_name (i := 2) sc_law.nd rfl (by first | exact Or.inl rfl | exact Or.inr rfl))
     (pss_cons (ps_set (i := 3) sc_law.nd rfl (by first | exact Or.inl rfl | exact Or.inr rfl) (pe_ca c__law_thing hr (by first | decide | (simp only [Nat.add_eq]; omega)) pass0 (pa_cons (pv 1) (pa_cons pe_int pa_nil))))
     (pss_cons (ps_set (i := 4) sc_law.nd rfl (by first | exact Or.inl rfl | exact Or.inr rfl) (pe_callB (LR.cr_repr rfl hgd hr.units) (by rfl) T.z_repr (by decide +kernel) (pa_cons (pv 3) pa_nil)))
     (pss_cons (ps_for PassesOwn.never rfl (pi_tup (pe_tup (pa_cons pe_bl (pa_cons pe_bl pa_nil)))) (pg_name (i := 5) sc_law.nd rfl (by first | exact Or.inl rfl | exact Or.inr rfl))
      (pss_cons (ps_par (i := 7) (j := 8) (by rfl) sc_law.nd rfl rfl (by decide) rfl rfl (pa_cons (pe_ca c__law_made hr (by first | decide | (simp only [Nat.add_eq]; omega)) pass0 (pa_cons (pv 2) (pa_cons (pv 3) (pa_cons (pv 5) pa_nil)))) (pa_cons (pe_ca c__law_made hr (by first | decide | (simp only [Nat.add_eq]; omega)) pass0 (pa_cons (pv 2) (pa_cons pe_int (pa_cons (pv 5) pa_nil)))) pa_nil)) (by rfl))
      (pss_cons (ps_if (PW.pt (pw_or (pt_cmpR (op_neU hr.units) (pe_ca c__law_kinds hr (by first | decide | (simp only [Nat.add_eq]; omega)) pass0 (pa_cons (pv 7) pa_nil)) (pe_lst (pa_cons (pv 2) pa_nil)) (by first | exact nomark _ | rfl)) (pw_or (pt_not (pt_val (pe_callB EX.call_isX (by rfl) T.z_isinstance (by decide +kernel) (pa_cons (pv 7) (pa_cons (pe_bltn rfl T.z_Exception (by decide +kernel) (v := .ty "Exception") rfl) pa_nil))))) (pw_or1 (pt_val (pe_callB EX.call_isX (by rfl) T.z_isinstance (by decide +kernel) (pa_cons (pv 7) (pa_cons (pe_bltn rfl T.z_ValueError (by decide +kernel) (v := .ty "ValueError") rfl) pa_nil))))))))
       (pss_one (ps_ret pe_bl))
       pss_nil)
      (pss_cons (ps_if (PW.pt (pw_or (pt_cmpR (op_neU hr.units) (pe_callB EX.call_isX (by rfl) T.z_isinstance (by decide +kernel) (pa_cons (pv 7) (pa_cons (pe_glob (v := .ref _) rfl T.x_YardError.gC rfl) pa_nil))) (pe_cmpR (op_neU hr.units) (pv 2) pe_int (by first | exact nomark _ | rfl)) (by first | exact nomark _ | rfl)) (pw_or1 (pt_cmpR (op_neU hr.units) (pe_callB EX.call_isX (by rfl) T.z_isinstance (by decide +kernel) (pa_cons (pv 7) (pa_cons (pe_bltn rfl T.z_KeyError (by decide +kernel) (v := .ty "KeyError") rfl) pa_nil))) (pe_cmpR (op_eqU hr.units) (pv 2) pe_int (by first | exact nomark _ | rfl)) (by first | exact nomark _ | rfl)))))
       (pss_one (ps_ret pe_bl))
       pss_nil)
      (pss_cons (ps_set (i := 6) sc_law.nd rfl (by first | exact Or.inl rfl | exact Or.inr rfl) (pe_ifExp (pt_cmpR (op_eqU hr.units) (pv 2) pe_int (by first | exact nomark _ | rfl)) (pe_lst pa_nil) (pe_lst (pa_cons (pv 3) pa_nil))))
      (pss_one (ps_if (PW.pt (pw_or (pt_cmpR (op_neU hr.units) (pe_callB (LR.cr_repr rfl hgd hr.units) (by rfl) T.z_repr (by decide +kernel) (pa_cons (pe_ca c__law_kept hr (by first | decide | (simp only [Nat.add_eq]; omega)) pass0 (pa_cons (pv 2) (pa_cons (pv 7) pa_nil))) pa_nil)) (pe_callB (LR.cr_repr rfl hgd hr.units) (by rfl) T.z_repr (by decide +kernel) (pa_cons (pv 6) pa_nil)) (by first | exact nomark _ | rfl)) (pw_or (pt_cmpR (op_neU hr.units) (pe_callB (LR.cr_repr rfl hgd hr.units) (by rfl) T.z_repr (by decide +kernel) (pa_cons (pv 3) pa_nil)) (pv 4) (by first | exact nomark _ | rfl)) (pw_or1 (pt_cmpR (op_neU hr.units) (pe_ca c__law_kept hr (by first | decide | (simp only [Nat.add_eq]; omega)) pass0 (pa_cons (pv 2) (pa_cons (pv 8) pa_nil))) (pe_ifExp (pt_cmpR (op_eqU hr.units) (pv 2) pe_int (by first | exact nomark _ | rfl)) (pe_lst pa_nil) (pe_lst (pa_cons pe_int pa_nil))) (by first | exact nomark _ | rfl))))))
       (pss_one (ps_ret pe_bl))
       pss_nil)))))))
     (pss_one (ps_if (pt_cmpR (op_neU hr.units) (pe_ca c__law_caught hr (by first | decide | (simp only [Nat.add_eq]; omega)) pass0 (pa_cons (pv 2) pa_nil)) (pe_ifExp (pt_cmpR (op_eqU hr.units) (pv 2) pe_int (by first | exact nomark _ | rfl)) pe_str pe_str) (by first | exact nomark _ | rfl))
      (pss_one (ps_ret pe_bl))
      pss_nil))))))
    (pss_one (ps_ret (pe_and (pe_callB EX.call_isX (by rfl) T.z_isinstance (by decide +kernel) (pa_cons (EX.pe_new0X T.x_YardError) (pa_cons (pe_bltn rfl T.z_Exception (by decide +kernel) (v := .ty "Exception") rfl) pa_nil))) (pe_and (pe_not (pe_callB EX.call_isX (by rfl) T.z_isinstance (by decide +kernel) (pa_cons (EX.pe_new0X T.x_YardError) (pa_cons (pe_bltn rfl T.z_ValueError (by decide +kernel) (v := .ty "ValueError") rfl) pa_nil)))) (pe_one (pe_not (pe_callB EX.call_isX (by rfl) T.z_isinstance (by decide +kernel) (pa_cons (EX.pe_new0X T.x_YardError) (pa_cons (pe_bltn rfl T.z_KeyError (by decide +kernel) (v := .ty "KeyError") rfl) pa_nil))))))))))), ?_⟩)
  · obtain ⟨a, ns, rfl, _⟩ := h
    rfl
  · obtain ⟨a, ns, rfl, hs, hb, hQ⟩ := h
    dsimp only [cxOf, Cx.nox]
    refine ⟨.ref a, rfl, a, 100, ns, rfl, hs, by decide, by decide, hb, fun v H1 r sm rl hr1 => ?_⟩
    obtain ⟨h, p, st, ms, rfl, hne, hh, hpp, s0, s1, lm, bm⟩ := deal_at rl hr1
    have st0 : St [h, p] [h, p] H1 H1 [] [some (.ref a), some (.ref h), none, none, none, none, none, none, none] [none, some .l, none, none, none, none, none, none, none] [h, p] [] := ⟨fun _ _ _ e => e, fun _ e => .inl e, fun _ e => e, fun q hq => ⟨hq, by
        rcases List.mem_cons.mp hq with y | y
        · rw [y, hh]; exact fun z => nomatch z
        · rw [List.mem_singleton.mp y, hpp]; exact fun z => nomatch z⟩, fun q hq => by
        rcases List.mem_cons.mp hq with y | y
        · rw [y]; exact ⟨_, hh⟩
        · rw [List.mem_singleton.mp y]; exact ⟨_, hpp⟩, rfl, (fun k ds e => by simp at e), (fun j k p e => by simp at e), (fun k p e => by simp at e), .inr ⟨h, p, st, ms, rfl, hne, hh, hpp, s0, s1, lm, bm⟩, fun i e he => ?_, rfl⟩
    · have fin : ∀ {t : TS}, SV ⟨[h, p], [h, p], H1, K⟩ E t [] [none, some .l, none, none, none, none, none, none, none] { n := fun _ _ => False, r := fun e _ => e = .v (.bl true) } →
          gName 1 (V.ref h) (L2.start ["script", "deal", "number", "thing", "text", "named", "due", "e", "other"] [V.ref a]) H1 ({ nx := t { nx := fun _ H' => Q .non H', rt := Q }, rt := Q } : Ends).nx := fun {t} hS => by
        refine hS [some (.ref a), some (.ref h), none, none, none, none, none, none, none] H1 [h, p] [] _ st0 (fun _ _ _ _ _ _ _ _ z => z.elim) (fun v σ' sl' H' O' ps' e om' g s' r hv => ?_) (fun _ _ _ _ _ _ _ _ z => z.elim) (fun _ _ _ _ _ _ _ _ z => z.elim) ?_
        · subst hv
          cases r
          exact hQ H'
        · rintro C f x d v H1 H2 O' ps' g ⟨_, z⟩
          exact z.elim
      refine fin ?_
      clear fin st0 hs hb hQ sm rl hr1
      refine sv_seq (sv_for (wv_range1 ?_))
      walk_at "k"
      refine ⟨rfl, _, rfl, by decide, by decide, fun i om' sl' => ∃ t2 t3 t4 t5 t6 t7 t8 : Option DL.E, om' = [] ∧ sl' = [none, some .l, t2, t3, t4, t5, t6, t7, t8], ⟨_, _, _, _, _, _, _, rfl, rfl⟩, ?_, ?_⟩
      · rintro i d om' sl' hd ⟨t2, t3, t4, t5, t6, t7, t8, rfl, rfl⟩
        have hi := (List.getElem?_eq_some_iff.mp hd).1
        rw [rgD_len] at hi
        have hi10 : i ≤ 10 := by
          have : (11 : Int).toNat = 11 := rfl
          omega
        rw [rgD_get hi, Int.zero_add] at hd
        cases hd
        refine gv_name ⟨ltb rfl, ?_⟩
        dsimp only [List.set]
        refine sv_seq (sv_set ?_)
        walk_at "k"
        refine cv_thing (j := 3) rfl (by decide) fun d td => ⟨ltb rfl, ?_⟩
        dsimp only [List.set]
        refine sv_seq (sv_set ?_)
        walk_at "k"
        refine cv_repr rfl (fits_th td (by decide)) ⟨ltb rfl, ?_⟩
        dsimp only [List.set]
        refine sv_seq (sv_for (wv_tup ?_))
        walk_at "k"
        refine ⟨rfl, _, rfl, fun j om' sl' => ∃ t5 t6 t7 t8 : Option DL.E, om' = [] ∧ sl' = [none, some .l, some (.v (.int (i : Int))), some (.v d), some (.v (.str d.py.shown)), t5, t6, t7, t8], ⟨_, _, _, _, rfl, rfl⟩, ?_, ?_⟩
        · rintro j x om' sl' hx ⟨t5', t6', t7', t8', rfl, rfl⟩
          obtain ⟨b, rfl⟩ : ∃ b, x = .bl b := by
            have m := List.mem_of_getElem? hx
            simp only [List.mem_cons, List.not_mem_nil, or_false] at m
            rcases m with rfl | rfl <;> exact ⟨_, rfl⟩
          refine gv_name ⟨ltb rfl, ?_⟩
          dsimp only [List.set]
          refine sv_seq (sv_par ?_)
          walk_at "k"
          refine cv_made hi10 ?_
          walk_at "k"
          refine cv_made hi10 ?_
          walk_at "k"
          refine ⟨_, _, rfl, ⟨ltb rfl, ltb rfl⟩, ?_⟩
          dsimp only [List.set]
          walk_at "k"
          refine cv_kinds hi10 ?_
          walk_at "k"
          refine ev_lst ?_
          walk_at "k"
          refine ov_neL ?_
          walk_at "k"
          refine ⟨fun _ => ?_, fun z => Bool.noConfusion z⟩
          walk_at "k"
          refine cv_is (.ty _) (T.is i (by omega)) (T.kitE i (by omega)) ⟨_, rfl, fun _ => ?_, fun z => Bool.noConfusion z⟩
          walk_at "k"
          refine cv_is (.ty _) (T.is i (by omega)) (T.kitV i (by omega)) ⟨_, rfl, fun z => Bool.noConfusion z, fun _ => ?_⟩
          walk_at "k"
          refine cv_is (.own _) (T.is i (by omega)) (T.kitY i (by omega)) ?_
          walk_at "k"
          refine ov_neB ?_
          rw [nb9]
          refine ⟨_, rfl, fun _ => ?_, fun z => Bool.noConfusion z⟩
          walk_at "k"
          refine cv_is (.ty _) (T.is i (by omega)) (T.kitK i (by omega)) ?_
          walk_at "k"
          refine ov_neB ?_
          rw [kb9]
          refine ⟨_, rfl, fun z => Bool.noConfusion z, fun _ => ?_⟩
          refine sv_next ?_
          refine sv_seq (sv_set (ev_mono (P := fun e om' => e = .v (keptOf i d) ∧ om' = []) ?_ ?_))
          · walk_at "k"
            refine ⟨fun z => ?_, fun z => ?_⟩
            · refine ev_lst (ea_nil ⟨_, rfl, Nat.zero_le _, ?_, rfl⟩)
              rw [kept10 hi10 z]
              rfl
            · refine ev_lst (ea_cons (ev_var rfl (ea_nil ⟨_, rfl, Nat.le_of_ble_eq_true rfl, ?_, rfl⟩)))
              rw [kept10 hi10 z]
              rfl
          · rintro e om' ⟨rfl, rfl⟩
            refine ⟨ltb rfl, ?_⟩
            dsimp only [List.set]
            walk_at "k"
            refine cv_kept hi10 ?_
            walk_at "k"
            refine cv_repr rfl (fits_th (th_kept td) (by decide)) ?_
            walk_at "k"
            refine cv_repr rfl (fits_th (th_kept td) (by decide)) ?_
            refine ov_neSS rfl ⟨_, rfl, fun _ => ?_, fun z => Bool.noConfusion z⟩
            walk_at "k"
            refine cv_repr rfl (fits_th td (by decide)) ?_
            walk_at "k"
            refine ov_neSS rfl ⟨_, rfl, fun _ => ?_, fun z => Bool.noConfusion z⟩
            walk_at "k"
            refine cv_kept hi10 ?_
            refine ev_mono (P := fun e om' => e = .v (keptOf i (.int 5)) ∧ om' = []) ?_ ?_
            · walk_at "k"
              refine ⟨fun z => ?_, fun z => ?_⟩
              · refine ev_lst (ea_nil ⟨_, rfl, Nat.zero_le _, ?_, rfl⟩)
                rw [kept10 hi10 z]
                rfl
              · refine ev_lst (ea_cons (ev_int (ea_nil ⟨_, rfl, Nat.le_of_ble_eq_true rfl, ?_, rfl⟩)))
                rw [kept10 hi10 z]
                rfl
            · rintro e om' ⟨rfl, rfl⟩
              refine ov_neK ⟨_, rfl, fun z => Bool.noConfusion z, fun _ => sv_next ⟨_, _, _, _, rfl, rfl⟩⟩
        · rintro om' sl' ⟨t5', t6', t7', t8', rfl, rfl⟩
          walk_at "k"
          refine cv_caught hi10 ?_
          refine ev_mono (P := fun e om' => e = .v (.str (caughtOf i)) ∧ om' = []) ?_ ?_
          · walk_at "k"
            have e9 : ((i : Int) = 9) ↔ i = 9 := by omega
            refine ⟨fun z => ev_str ⟨?_, rfl⟩, fun z => ev_str ⟨?_, rfl⟩⟩
            · have h9 := e9.mp (of_decide_eq_true z)
              unfold caughtOf
              rw [if_pos h9]
            · have h9 : ¬ i = 9 := fun y => of_decide_eq_false z (e9.mpr y)
              unfold caughtOf
              rw [if_neg h9]
          · rintro e om' ⟨rfl, rfl⟩
            refine ov_neSS rfl ⟨_, rfl, fun z => Bool.noConfusion z, fun _ => sv_next ⟨_, _, _, _, _, _, _, rfl, rfl⟩⟩
      · rintro om' sl' ⟨t2, t3, t4, t5, t6, t7, t8, rfl, rfl⟩
        walk_at "k"
        refine EX.cv_isX (.ty _) (T.is 11 (by decide)) (T.kitE 11 (by decide)) ⟨_, rfl, fun _ => ?_, fun z => Bool.noConfusion z⟩
        walk_at "k"
        refine EX.cv_isX (.ty _) (T.is 11 (by decide)) (T.kitV 11 (by decide)) ⟨_, rfl, _, rfl, fun _ => ?_, fun z => Bool.noConfusion z⟩
        walk_at "k"
        refine EX.cv_isX (.ty _) (T.is 11 (by decide)) (T.kitK 11 (by decide)) ⟨_, rfl, ?_⟩
        rfl
    · match i, he with
      | 0, he => cases he
      | 1, he =>
        cases he
        exact ⟨.ref h, rfl, h, p, rfl, rfl⟩
      | i + 2, he =>
        exfalso
        have e2 : (List.replicate 7 (none : Option DL.E))[i]? = some (some e) := he
        rw [List.getElem?_replicate] at e2
        split at e2 <;> cases e2
end
end K0
set_option Elab.async false
set_option linter.all false
set_option maxRecDepth 100000
set_option maxHeartbeats 2000000
/-! the end of a law whose def knows that nothing is guarded around it -/
namespace EG
open PySem PySem.Spec PyProof.Rows L2 HL
section
variable {P : Program} {w : World} {K : PySem.W.Frag} {mg mb : Str → Option Value} {t : Shared} {a : Addr} {vs : List Value} {G : Hp}
/-- what the hidden heap still tells -/
theorem still (hA : ∀ b, G b ≠ none → b = a) {b : Addr} {u : Obj} (hu : t.heap.get? b = some u) (hb : b = a → G a = none) : (hidT t.heap G).get? b = some u := by
  refine hidT_get hu ?_
  cases z : G b with
  | none => rfl
  | some y =>
    have e := hA b (by rw [z]; exact fun q => nomatch q)
    rw [e] at z
    exact (z.symm.trans (hb e))
theorem stillNs (ha : t.heap.get? a = some { cls := .type "list", data := .seq vs.toArray }) (hA : ∀ b, G b ≠ none → b = a) {b : Addr} {m : Str → Option Value} (n : t.heap.Ns b m) : (hidT t.heap G).Ns b m := by
  obtain ⟨u, l, k, h1, h2, h3⟩ := n
  refine ⟨u, l, k, still hA h1 fun e => ?_, h2, h3⟩
  rw [e, ha] at h1
  cases h1
  cases h2
theorem envG (KX : K.In t.heap) (n1 : t.heap.Ns mainGlobals mg) (n2 : t.heap.Ns builtinsNs mb) (n3 : ∀ x : Str, x ≠ "__name__" → mb x = bootBuiltins x) (n4 : t.heap.NoLimit) (hg : t.gens = #[])
    (ha : t.heap.get? a = some { cls := .type "list", data := .seq vs.toArray }) (hok : HOk P w G t.heap) (hA : ∀ b, G b ≠ none → b = a) (hK : G a ≠ none → K.lookup a = none) :
    K.In (hidT t.heap G) ∧ (hidT t.heap G).Ns mainGlobals mg ∧ Env0 P w K mg (hidT t.heap G) callerA [] t G := by
  have k1 : K.In (hidT t.heap G) := fun b u e => still hA (KX b u e) fun z => by
    rw [z] at e
    cases q : G a with
    | none => rfl
    | some y =>
      rw [hK (by rw [q]; exact fun r => nomatch r)] at e
      cases e
  have k2 := stillNs ha hA n1
  obtain ⟨m, l1, l2⟩ := n4
  refine ⟨k1, k2, rfl, ⟨k1, k2, ⟨mb, stillNs ha hA n2, n3⟩, ⟨m, stillNs ha hA l1, l2⟩⟩, fun b u e => of_hidT e, Nat.le_of_eq (hidT_size _ _), trivial, fun b z => ?_, hok, .of_eq hg⟩
  exact absurd (show b ∈ ([] : List Addr) from z) List.not_mem_nil
end
theorem lawG {P : Program} {w : World} {K : PySem.W.Frag} {mg mb : Str → Option Value} {k : Nat} {fa a : Addr} {fd : FuncData} {x : Str} {sp : Sp} {t : Shared} {vs : List Value} {ns : List Int}
    (KX : K.In t.heap) (n1 : t.heap.Ns mainGlobals mg) (n2 : t.heap.Ns builtinsNs mb) (n3 : ∀ x : Str, x ≠ "__name__" → mb x = bootBuiltins x) (n4 : t.heap.NoLimit) (hg : t.gens = #[])
    (ha : t.heap.get? a = some { cls := .type "list", data := .seq vs.toArray }) (hi : IntsAre vs ns) (hl : ns.length ≤ sizeLine) (hr : Room k callerA)
    (F : ∀ base : Heap, K.In base → base.Ns mainGlobals mg → FnG P w K mg base CX0 k fa fd [x] sp) (bind : ∀ (s : Shared) (u : Value), BindsTo s fd ⟨[u], []⟩ [(x, u)])
    (hsp : ∀ G : Hp, SqL K G a (ns.map V.int) → sp [.ref a] G (fun v _ => v = .bl true) fun _ _ _ => False) :
    codeAny (model P w) callerA (.call (.ref fa) ⟨[.ref a], []⟩) (fun r s' => r = .ok (.ret (.bool true)) ∧ OldK t.heap s'.heap ∧ s'.os = t.os ∧ AllBare s'.gens) t := by
  have rv := vals_ints hi
  have go : ∀ G : Hp, (∀ b, G b = none ∨ ∃ o xs, G b = some (.frz o (.lst xs))) → SqL K G a (ns.map V.int) → HOk P w G t.heap → (∀ b, G b ≠ none → b = a) → (G a ≠ none → K.lookup a = none) →
      codeAny (model P w) callerA (.call (.ref fa) ⟨[.ref a], []⟩) (fun r s' => r = .ok (.ret (.bool true)) ∧ OldK t.heap s'.heap ∧ s'.os = t.os ∧ AllBare s'.gens) t := fun G hO hS hok hA hK => by
    obtain ⟨k1, k2, en⟩ := envG (P := P) (w := w) KX n1 n2 n3 n4 hg ha hok hA hK
    have run := (F _ k1 k2).run callerA [] t G ⟨[.ref a], []⟩ [.ref a] [.ref a] _ _ hr rfl en (bind t (.ref a)) (.cons rfl .nil) (hsp G hS)
    refine codeAny_mono run fun r s' h => ?_
    rcases r with e | fl
    · exact h.elim
    · cases fl with
      | ret u =>
        obtain ⟨v, G', os, bare, un, hok', r', q⟩ := h
        have qv : v = .bl true := q
        rw [qv] at r'
        have ru : u = Value.bool true := r'
        refine ⟨by rw [ru], OldK.of_keep fun b o e => ?_, os, bare⟩
        rcases hO b with z | ⟨ob, xs, z⟩
        · exact un.keep b o e z (fun y => absurd (show b ∈ ([] : List Addr) from y) List.not_mem_nil) List.not_mem_nil
        · have e1 := (hok b _ z).1
          have e2 := (hok' b _ (un.frzs b ob _ z)).1
          rw [e] at e1
          cases e1
          exact e2
      | _ => exact h.elim
  cases c : K.lookup a with
  | some o =>
    have e := KX a o c
    rw [ha] at e
    cases e
    refine go (fun _ => none) (fun _ => .inl rfl) (.inr ⟨_, vs.toArray, _, c, rfl, rfl, rfl, ?_, ?_⟩) (fun b u z => nomatch z) (fun b z => absurd rfl z) fun z => absurd rfl z
    · rw [List.size_toArray, hi.length]
      exact hl
    · simpa using rv
  | none =>
    have at_ : ∀ {b : Addr}, b ≠ a → (fun b => if b = a then some (HO.frz { cls := .type "list", data := .seq vs.toArray } (.lst (ns.map V.int))) else none) b = none := fun hb => if_neg hb
    refine go (fun b => if b = a then some (.frz { cls := .type "list", data := .seq vs.toArray } (.lst (ns.map V.int))) else none) (fun b => ?_) (.inl (.inr ⟨_, if_pos rfl⟩)) (fun b u z => ?_) (fun b z => ?_) fun _ => c
    · by_cases hb : b = a
      · exact .inr ⟨_, _, if_pos hb⟩
      · exact .inl (at_ hb)
    · by_cases hb : b = a
      · subst hb
        have z' := (if_pos rfl).symm.trans z
        cases z'
        exact ⟨ha, by rw [List.length_map]; exact hl, vs, _, rv, ha⟩
      · rw [at_ hb] at z
        cases z
    · by_cases hb : b = a
      · exact hb
      · exact absurd (at_ hb) z
theorem walkG {l : PySem.W.OpenLaw} {n k : Nat} {q : Program} {loose : List Str} {XP : (Str → Option Value) → Heap → Prop} {YP : World → Heap → Prop} {d : DefRec} {K : Params → PySem.W.Frag} {sp : PySem.W.Frag → Sp} {x : Str}
    (hn : l.most = some n) (hn2 : n ≤ sizeLine) (hdf : d.params.defaults = []) (hr : Room k callerA) (hY : ∀ (w : World) (h : Heap), YP w h → (K w.params).In h)
    (F : ∀ (w : World) (mg : Str → Option Value) (fa : Addr) (h : Heap), YP w h → (K w.params).In h → h.Ns mainGlobals mg → mg d.name = some (.ref fa) →
      ∃ fd : FuncData, (∀ (s : Shared) (u : Value), BindsTo s fd ⟨[u], []⟩ [(x, u)]) ∧ ∀ base : Heap, (K w.params).In base → base.Ns mainGlobals mg → FnG l.prog w (K w.params) mg base CX0 k fa fd [x] (sp (K w.params)))
    (hsp : ∀ (K : PySem.W.Frag) (G : Hp) (a : Addr) (ns : List Int), ns.length ≤ n → (∀ z ∈ ns, Builtin.Int.intBits z ≤ 1048576) → SqL K G a (ns.map V.int) → sp K [.ref a] G (fun v _ => v = .bl true) fun _ _ _ => False) :
    PySem.W.WalkO q loose XP YP l.row.toRowW d [] (fun f vs => PySem.call f vs) := by
  refine Att.attach_callB hn hdf fun w s₀ t mg mb fa o pm cd doc a vs ns G Y ho hd hcd hmg hobj hints hlen hbits hg => ?_
  obtain ⟨fd, hb, hF⟩ := F w mg fa _ Y (hY w _ Y) G.T.g hmg
  exact lawG (hY w _ Y) G.T.g G.T.b G.T.builtins G.T.nolimit hg hobj hints (Nat.le_trans hlen hn2) hr hF hb fun H hS => hsp _ H a ns hlen hbits hS
end EG
set_option Elab.async false
set_option linter.all false
set_option maxRecDepth 100000
set_option maxHeartbeats 8000000
namespace K0
open PySem PySem.Spec PyProof.Rows L2 DL HL
/-! ### what the head says -/
def chkC (K : PySem.W.Frag) (C : Addr) : Bool :=
  decide (PySem.W.findIn K (.ref C) "__getattribute__" = some (some (.builtin "BaseException.__getattribute__"))) && (decide (PySem.W.findIn K (.ref C) "__getattr__" = some none) && (decide (PySem.W.subIn K (.ref C) (.type "BaseException") = some true) &&
  (PySem.W.hasDictIn K C && (decide (PySem.W.findIn K (.ref C) "__class__" = some (some (.builtin "object.__class__"))) && (decide (PySem.W.specialIn K (.builtin "object.__class__") "__get__" = some (some (.builtin "getset_descriptor.__get__"))) &&
  (decide (PySem.W.takesIn K (.builtin "object.__class__") = some true) && (decide (PySem.W.mroIn K C (.type "object") = some true) && (decide (PySem.W.typeIn K (.ref C) = some (.type "type")) && PySem.W.keepIn K (.ref C)))))))))
structure CC (K : PySem.W.Frag) (C : Addr) : Prop where
  ex : ExcC K C
  ty : PySem.W.typeIn K (.ref C) = some (.type "type")
  kp : PySem.W.keepIn K (.ref C) = true
theorem chkC_ok {K : PySem.W.Frag} {C : Addr} (h : chkC K C = true) : CC K C := by
  unfold chkC at h
  simp only [Bool.and_eq_true, decide_eq_true_eq] at h
  obtain ⟨h1, h2, h3, h4, h5, h6, h7, h8, h9, h10⟩ := h
  exact ⟨⟨h1, h2, h3, h4, h5, h6, h7, h8⟩, h9, h10⟩
def chkX (K : PySem.W.Frag) (C fI : Addr) (f : Str) : Bool :=
  decide (PySem.W.findIn K (.ref C) "__setattr__" = some (some (.builtin "object.__setattr__"))) && (decide (PySem.W.findIn K (.ref C) f = some none) && (decide (PySem.W.typeIn K (.ref fI) = some (.type "function")) && decide (PySem.W.findIn K (.ref C) "__init__" = some (some (.ref fI)))))
theorem mkX {K : PySem.W.Frag} {h : Heap} {mg : Str → Option Value} {nm f : Str} {C fI : Addr} (X : K.In h) (G : h.Ns mainGlobals mg) {B newId initId : String} {bmB bm : List Value} (FB : ExcBaseFacts B newId initId bmB) (ch : EX.Ch B bm) (f3 : EX.F3 f)
    (n : PySem.W.nsIn K mainGlobals nm = some (some (.ref C))) (c : chkC K C = true) (x : chkX K C fI f = true)
    (l : ∃ n q N bs sn sub ab col dd k0 k1 k2 k3 k5, K.lookup C = some (excClassObj n q C N bs bm true sn sub ab col dd k0 k1 k2 k3 k5 newId))
    (fn : ∃ (oc : Value) (od : Option Addr) (doc pm : Value) (an : Option Addr) (cdv ct : Value) (osl : Array (Option Value)) (p1 p2 q1 q2 q3 q4 : Pos) (qn : Str),
      K.lookup fI = some ⟨oc, od, .func (PySem.W.fnOf "__init__" qn (EX.inA f p1 p2) (EX.inB f q1 q2 q3 q4) (EX.inS f) .none .none doc pm an cdv ct), osl⟩ ∧ PySem.W.codeIn K cdv qn = true) : EX.XT K mg nm f C fI := by
  obtain ⟨e, ty, kp⟩ := chkC_ok c
  unfold chkX at x
  simp only [Bool.and_eq_true, decide_eq_true_eq] at x
  obtain ⟨x1, x2, x3, x4⟩ := x
  exact ⟨f3, PySem.W.mg_of X G n, ⟨B, newId, initId, bmB, bm, FB, ch, l⟩, x1, e.hg, e.hk, x2, x4, x3, kp, e.hs, ty, e.hd, fn⟩
theorem mk0 {K : PySem.W.Frag} {h : Heap} {mg : Str → Option Value} {nm : Str} {C : Addr} (X : K.In h) (G : h.Ns mainGlobals mg) (n : PySem.W.nsIn K mainGlobals nm = some (some (.ref C))) (c : chkC K C = true)
    (q : PySem.W.excIn K C [.type "Exception", .type "BaseException", .type "object"] "Exception.__new__" = true) : EX.X0 K mg nm C := by
  obtain ⟨e, ty, kp⟩ := chkC_ok c
  exact ⟨PySem.W.mg_of X G n, kp, q, e.hs, ty⟩
def kitTab (K : PySem.W.Frag) (l : List Addr) : Bool :=
  ((List.range 11).all fun i => (List.range 11).all fun j => PySem.W.kitOne K (.ref (l.getD i 0)) (.ref (l.getD j 0)) == some (decide (i = j))) &&
  (((List.range 11).all fun i => (PySem.W.kitOne K (.ref (l.getD i 0)) (.ref (l.getD 11 0)) == some (decide (i ≠ 9))) && (PySem.W.exmOne K (.ref (l.getD i 0)) (.ref (l.getD 11 0)) == some (decide (i ≠ 9)))) &&
  (((List.range 12).all fun i => (PySem.W.kitOne K (.ref (l.getD i 0)) (.type "Exception") == some true) && ((PySem.W.kitOne K (.ref (l.getD i 0)) (.type "ValueError") == some false) && ((PySem.W.kitOne K (.ref (l.getD i 0)) (.type "KeyError") == some (decide (i = 9))) && chkC K (l.getD i 0)))) &&
  (PySem.W.exmOne K (.ref (l.getD 9 0)) (.type "KeyError") == some true)))
theorem all_at {n : Nat} {p : Nat → Bool} (h : (List.range n).all p = true) {i : Nat} (hi : i < n) : p i = true := List.all_eq_true.mp h i (List.mem_range.mpr hi)

theorem tx_mk {K : PySem.W.Frag} {h : Heap} {mg : Str → Option Value} (X : K.In h) (G : h.Ns mainGlobals mg) {C0 C1 C2 C3 C4 C5 C6 C7 C8 C9 C10 C11 f0 f1 f2 f3 f4 f5 f6 f7 f8 f9 : Addr}
    (x0 : EX.XT K mg "InvalidYard" "at" C0 f0)
    (x1 : EX.XT K mg "InvalidText" "at" C1 f1)
    (x2 : EX.XT K mg "InvalidStanding" "at" C2 f2)
    (x3 : EX.XT K mg "InvalidMove" "at" C3 f3)
    (x4 : EX.XT K mg "InvalidTimetable" "at" C4 f4)
    (x5 : EX.XT K mg "InvalidPlan" "at" C5 f5)
    (x6 : EX.XT K mg "InvalidOrder" "at" C6 f6)
    (x7 : EX.XT K mg "InvalidSize" "word" C7 f7)
    (x8 : EX.XT K mg "Refused" "word" C8 f8)
    (x9 : EX.XT K mg "NoName" "name" C9 f9)
    (x10 : EX.X0 K mg "InvalidCommand" C10) (x11 : EX.X0 K mg "YardError" C11) (kt : kitTab K [C0, C1, C2, C3, C4, C5, C6, C7, C8, C9, C10, C11] = true)
    (z_len : PySem.W.nsIn K mainGlobals "len" = some none)
    (z_range : PySem.W.nsIn K mainGlobals "range" = some none)
    (z_int : PySem.W.nsIn K mainGlobals "int" = some none)
    (z_tuple : PySem.W.nsIn K mainGlobals "tuple" = some none)
    (z_abs : PySem.W.nsIn K mainGlobals "abs" = some none)
    (z_repr : PySem.W.nsIn K mainGlobals "repr" = some none)
    (z_isinstance : PySem.W.nsIn K mainGlobals "isinstance" = some none)
    (z_enumerate : PySem.W.nsIn K mainGlobals "enumerate" = some none)
    (z_Exception : PySem.W.nsIn K mainGlobals "Exception" = some none)
    (z_ValueError : PySem.W.nsIn K mainGlobals "ValueError" = some none)
    (z_KeyError : PySem.W.nsIn K mainGlobals "KeyError" = some none)
    : Tx K mg (fun i => ([C0, C1, C2, C3, C4, C5, C6, C7, C8, C9, C10, C11] : List Addr).getD i 0) (fun i => ([f0, f1, f2, f3, f4, f5, f6, f7, f8, f9] : List Addr).getD i 0) := by
  unfold kitTab at kt
  have e1 := Bool.and_eq_true_iff.mp kt
  have e2 := Bool.and_eq_true_iff.mp e1.2
  have e3 := Bool.and_eq_true_iff.mp e2.2
  have a1 : ∀ i, i < 12 → _ := fun i hi => Bool.and_eq_true_iff.mp (all_at e3.1 hi)
  have a2 : ∀ i, i < 12 → _ := fun i hi => Bool.and_eq_true_iff.mp (a1 i hi).2
  have a3 : ∀ i, i < 12 → _ := fun i hi => Bool.and_eq_true_iff.mp (a2 i hi).2
  have b1 : ∀ i, i < 11 → _ := fun i hi => Bool.and_eq_true_iff.mp (all_at e2.1 hi)
  exact {
    z_len := PySem.W.mg_none_of X G z_len,
    z_range := PySem.W.mg_none_of X G z_range,
    z_int := PySem.W.mg_none_of X G z_int,
    z_tuple := PySem.W.mg_none_of X G z_tuple,
    z_abs := PySem.W.mg_none_of X G z_abs,
    z_repr := PySem.W.mg_none_of X G z_repr,
    z_isinstance := PySem.W.mg_none_of X G z_isinstance,
    z_enumerate := PySem.W.mg_none_of X G z_enumerate,
    z_Exception := PySem.W.mg_none_of X G z_Exception,
    z_ValueError := PySem.W.mg_none_of X G z_ValueError,
    z_KeyError := PySem.W.mg_none_of X G z_KeyError,
    x_InvalidYard := x0,
    x_InvalidText := x1,
    x_InvalidStanding := x2,
    x_InvalidMove := x3,
    x_InvalidTimetable := x4,
    x_InvalidPlan := x5,
    x_InvalidOrder := x6,
    x_InvalidSize := x7,
    x_Refused := x8,
    x_NoName := x9,
    x_InvalidCommand := x10,
    x_YardError := x11,
    is := fun i hi => (chkC_ok (a3 i hi).2).ex,
    kit := fun i j hi hj => beq_iff_eq.mp (all_at (all_at e1.1 hi) hj),
    kitY := fun i hi => beq_iff_eq.mp (b1 i hi).1,
    kitE := fun i hi => beq_iff_eq.mp (a1 i hi).1,
    kitV := fun i hi => beq_iff_eq.mp (a2 i hi).1,
    kitK := fun i hi => beq_iff_eq.mp (a3 i hi).1,
    exm := fun i hi => beq_iff_eq.mp (b1 i hi).2,
    exmK := beq_iff_eq.mp e3.2 }
/-- a def of the text, as the head tells it -/
theorem db__law_deal {K : PySem.W.Frag} {h : Heap} {mg : Str → Option Value} (X : K.In h) (G : h.Ns mainGlobals mg) {f : Addr} {oc kV dc pm cd ct : Value} {od an : Option Addr} {sl : Array (Option Value)} (a : PySem.W.nsIn K mainGlobals "_law_deal" = some (some (.ref f)))
    (l : K.lookup f = some ⟨oc, od, .func (PySem.W.fnOf "_law_deal" "_law_deal" (defArgs s__law_deal) (defBody s__law_deal) (defScope s__law_deal) .none kV dc pm an cd ct), sl⟩) (c : PySem.W.codeIn K cd "_law_deal" = true) (k : PySem.W.keepIn K (.ref f) = true) :
    DefB K mg "_law_deal" s__law_deal ["script", "base"] f (PySem.W.fnOf "_law_deal" "_law_deal" (defArgs s__law_deal) (defBody s__law_deal) (defScope s__law_deal) .none kV dc pm an cd ct) := by
  have F := fun_mk (st := s__law_deal) l c k
  refine ⟨F, PySem.W.mg_of X G a, F.binds (ps := ["script", "base"]) (fun _ _ _ _ _ _ us hl => match us, hl with | [_, _], _ => rfl), ⟨fun s us ws _ hu hw => ?_, fun _ r => r⟩⟩
  match us, ws, hu, hw with
  | [], [_, _], _, _ => exact .of_eq (by first | rfl | with_unfolding_all rfl)
theorem db__law_any {K : PySem.W.Frag} {h : Heap} {mg : Str → Option Value} (X : K.In h) (G : h.Ns mainGlobals mg) {f : Addr} {oc kV dc pm cd ct : Value} {od an : Option Addr} {sl : Array (Option Value)} (a : PySem.W.nsIn K mainGlobals "_law_any" = some (some (.ref f)))
    (l : K.lookup f = some ⟨oc, od, .func (PySem.W.fnOf "_law_any" "_law_any" (defArgs s__law_any) (defBody s__law_any) (defScope s__law_any) .none kV dc pm an cd ct), sl⟩) (c : PySem.W.codeIn K cd "_law_any" = true) (k : PySem.W.keepIn K (.ref f) = true) :
    DefB K mg "_law_any" s__law_any ["deal", "bound"] f (PySem.W.fnOf "_law_any" "_law_any" (defArgs s__law_any) (defBody s__law_any) (defScope s__law_any) .none kV dc pm an cd ct) := by
  have F := fun_mk (st := s__law_any) l c k
  refine ⟨F, PySem.W.mg_of X G a, F.binds (ps := ["deal", "bound"]) (fun _ _ _ _ _ _ us hl => match us, hl with | [_, _], _ => rfl), ⟨fun s us ws _ hu hw => ?_, fun _ r => r⟩⟩
  match us, ws, hu, hw with
  | [], [_, _], _, _ => exact .of_eq (by first | rfl | with_unfolding_all rfl)
theorem db__law_of {K : PySem.W.Frag} {h : Heap} {mg : Str → Option Value} (X : K.In h) (G : h.Ns mainGlobals mg) {f : Addr} {oc kV dc pm cd ct : Value} {od an : Option Addr} {sl : Array (Option Value)} (a : PySem.W.nsIn K mainGlobals "_law_of" = some (some (.ref f)))
    (l : K.lookup f = some ⟨oc, od, .func (PySem.W.fnOf "_law_of" "_law_of" (defArgs s__law_of) (defBody s__law_of) (defScope s__law_of) .none kV dc pm an cd ct), sl⟩) (c : PySem.W.codeIn K cd "_law_of" = true) (k : PySem.W.keepIn K (.ref f) = true) :
    DefB K mg "_law_of" s__law_of ["deal", "some"] f (PySem.W.fnOf "_law_of" "_law_of" (defArgs s__law_of) (defBody s__law_of) (defScope s__law_of) .none kV dc pm an cd ct) := by
  have F := fun_mk (st := s__law_of) l c k
  refine ⟨F, PySem.W.mg_of X G a, F.binds (ps := ["deal", "some"]) (fun _ _ _ _ _ _ us hl => match us, hl with | [_, _], _ => rfl), ⟨fun s us ws _ hu hw => ?_, fun _ r => r⟩⟩
  match us, ws, hu, hw with
  | [], [_, _], _, _ => exact .of_eq (by first | rfl | with_unfolding_all rfl)
theorem db__law_thing {K : PySem.W.Frag} {h : Heap} {mg : Str → Option Value} (X : K.In h) (G : h.Ns mainGlobals mg) {f : Addr} {oc kV dc pm cd ct : Value} {od an : Option Addr} {sl : Array (Option Value)} (a : PySem.W.nsIn K mainGlobals "_law_thing" = some (some (.ref f)))
    (l : K.lookup f = some ⟨oc, od, .func (PySem.W.fnOf "_law_thing" "_law_thing" (defArgs s__law_thing) (defBody s__law_thing) (defScope s__law_thing) .none kV dc pm an cd ct), sl⟩) (c : PySem.W.codeIn K cd "_law_thing" = true) (k : PySem.W.keepIn K (.ref f) = true) :
    DefB K mg "_law_thing" s__law_thing ["deal", "depth"] f (PySem.W.fnOf "_law_thing" "_law_thing" (defArgs s__law_thing) (defBody s__law_thing) (defScope s__law_thing) .none kV dc pm an cd ct) := by
  have F := fun_mk (st := s__law_thing) l c k
  refine ⟨F, PySem.W.mg_of X G a, F.binds (ps := ["deal", "depth"]) (fun _ _ _ _ _ _ us hl => match us, hl with | [_, _], _ => rfl), ⟨fun s us ws _ hu hw => ?_, fun _ r => r⟩⟩
  match us, ws, hu, hw with
  | [], [_, _], _, _ => exact .of_eq (by first | rfl | with_unfolding_all rfl)
theorem db__law_made {K : PySem.W.Frag} {h : Heap} {mg : Str → Option Value} (X : K.In h) (G : h.Ns mainGlobals mg) {f : Addr} {oc kV dc pm cd ct : Value} {od an : Option Addr} {sl : Array (Option Value)} (a : PySem.W.nsIn K mainGlobals "_law_made" = some (some (.ref f)))
    (l : K.lookup f = some ⟨oc, od, .func (PySem.W.fnOf "_law_made" "_law_made" (defArgs s__law_made) (defBody s__law_made) (defScope s__law_made) .none kV dc pm an cd ct), sl⟩) (c : PySem.W.codeIn K cd "_law_made" = true) (k : PySem.W.keepIn K (.ref f) = true) :
    DefB K mg "_law_made" s__law_made ["number", "thing", "named"] f (PySem.W.fnOf "_law_made" "_law_made" (defArgs s__law_made) (defBody s__law_made) (defScope s__law_made) .none kV dc pm an cd ct) := by
  have F := fun_mk (st := s__law_made) l c k
  refine ⟨F, PySem.W.mg_of X G a, F.binds (ps := ["number", "thing", "named"]) (fun _ _ _ _ _ _ us hl => match us, hl with | [_, _, _], _ => rfl), ⟨fun s us ws _ hu hw => ?_, fun _ r => r⟩⟩
  match us, ws, hu, hw with
  | [], [_, _, _], _, _ => exact .of_eq (by first | rfl | with_unfolding_all rfl)
theorem db__law_kinds {K : PySem.W.Frag} {h : Heap} {mg : Str → Option Value} (X : K.In h) (G : h.Ns mainGlobals mg) {f : Addr} {oc kV dc pm cd ct : Value} {od an : Option Addr} {sl : Array (Option Value)} (a : PySem.W.nsIn K mainGlobals "_law_kinds" = some (some (.ref f)))
    (l : K.lookup f = some ⟨oc, od, .func (PySem.W.fnOf "_law_kinds" "_law_kinds" (defArgs s__law_kinds) (defBody s__law_kinds) (defScope s__law_kinds) .none kV dc pm an cd ct), sl⟩) (c : PySem.W.codeIn K cd "_law_kinds" = true) (k : PySem.W.keepIn K (.ref f) = true) :
    DefB K mg "_law_kinds" s__law_kinds ["e"] f (PySem.W.fnOf "_law_kinds" "_law_kinds" (defArgs s__law_kinds) (defBody s__law_kinds) (defScope s__law_kinds) .none kV dc pm an cd ct) := by
  have F := fun_mk (st := s__law_kinds) l c k
  refine ⟨F, PySem.W.mg_of X G a, F.binds (ps := ["e"]) (fun _ _ _ _ _ _ us hl => match us, hl with | [_], _ => rfl), ⟨fun s us ws _ hu hw => ?_, fun _ r => r⟩⟩
  match us, ws, hu, hw with
  | [], [_], _, _ => exact .of_eq (by first | rfl | with_unfolding_all rfl)
theorem db__law_kept {K : PySem.W.Frag} {h : Heap} {mg : Str → Option Value} (X : K.In h) (G : h.Ns mainGlobals mg) {f : Addr} {oc kV dc pm cd ct : Value} {od an : Option Addr} {sl : Array (Option Value)} (a : PySem.W.nsIn K mainGlobals "_law_kept" = some (some (.ref f)))
    (l : K.lookup f = some ⟨oc, od, .func (PySem.W.fnOf "_law_kept" "_law_kept" (defArgs s__law_kept) (defBody s__law_kept) (defScope s__law_kept) .none kV dc pm an cd ct), sl⟩) (c : PySem.W.codeIn K cd "_law_kept" = true) (k : PySem.W.keepIn K (.ref f) = true) :
    DefB K mg "_law_kept" s__law_kept ["number", "e"] f (PySem.W.fnOf "_law_kept" "_law_kept" (defArgs s__law_kept) (defBody s__law_kept) (defScope s__law_kept) .none kV dc pm an cd ct) := by
  have F := fun_mk (st := s__law_kept) l c k
  refine ⟨F, PySem.W.mg_of X G a, F.binds (ps := ["number", "e"]) (fun _ _ _ _ _ _ us hl => match us, hl with | [_, _], _ => rfl), ⟨fun s us ws _ hu hw => ?_, fun _ r => r⟩⟩
  match us, ws, hu, hw with
  | [], [_, _], _, _ => exact .of_eq (by first | rfl | with_unfolding_all rfl)
theorem db__law_caught {K : PySem.W.Frag} {h : Heap} {mg : Str → Option Value} (X : K.In h) (G : h.Ns mainGlobals mg) {f : Addr} {oc kV dc pm cd ct : Value} {od an : Option Addr} {sl : Array (Option Value)} (a : PySem.W.nsIn K mainGlobals "_law_caught" = some (some (.ref f)))
    (l : K.lookup f = some ⟨oc, od, .func (PySem.W.fnOf "_law_caught" "_law_caught" (defArgs s__law_caught) (defBody s__law_caught) (defScope s__law_caught) .none kV dc pm an cd ct), sl⟩) (c : PySem.W.codeIn K cd "_law_caught" = true) (k : PySem.W.keepIn K (.ref f) = true) :
    DefB K mg "_law_caught" s__law_caught ["number"] f (PySem.W.fnOf "_law_caught" "_law_caught" (defArgs s__law_caught) (defBody s__law_caught) (defScope s__law_caught) .none kV dc pm an cd ct) := by
  have F := fun_mk (st := s__law_caught) l c k
  refine ⟨F, PySem.W.mg_of X G a, F.binds (ps := ["number"]) (fun _ _ _ _ _ _ us hl => match us, hl with | [_], _ => rfl), ⟨fun s us ws _ hu hw => ?_, fun _ r => r⟩⟩
  match us, ws, hu, hw with
  | [], [_], _, _ => exact .of_eq (by first | rfl | with_unfolding_all rfl)
theorem db_law {K : PySem.W.Frag} {h : Heap} {mg : Str → Option Value} (X : K.In h) (G : h.Ns mainGlobals mg) {f : Addr} {oc kV dc pm cd ct : Value} {od an : Option Addr} {sl : Array (Option Value)} (a : PySem.W.nsIn K mainGlobals "law" = some (some (.ref f)))
    (l : K.lookup f = some ⟨oc, od, .func (PySem.W.fnOf "law" "law" (defArgs s_law) (defBody s_law) (defScope s_law) .none kV dc pm an cd ct), sl⟩) (c : PySem.W.codeIn K cd "law" = true) (k : PySem.W.keepIn K (.ref f) = true) :
    DefB K mg "law" s_law ["script"] f (PySem.W.fnOf "law" "law" (defArgs s_law) (defBody s_law) (defScope s_law) .none kV dc pm an cd ct) := by
  have F := fun_mk (st := s_law) l c k
  refine ⟨F, PySem.W.mg_of X G a, F.binds (ps := ["script"]) (fun _ _ _ _ _ _ us hl => match us, hl with | [_], _ => rfl), ⟨fun s us ws _ hu hw => ?_, fun _ r => r⟩⟩
  match us, ws, hu, hw with
  | [], [_], _, _ => exact .of_eq (by first | rfl | with_unfolding_all rfl)
end K0
set_option Elab.async false
set_option linter.all false
set_option maxRecDepth 100000
set_option maxHeartbeats 0
namespace K0
open PySem PySem.Spec PyProof.Rows L2 DL HL
theorem bits_lt {z : Int} (h : Builtin.Int.intBits z ≤ 1048576) : z.natAbs < 2 ^ 1048640 := by
  have e : z.natAbs < 2 ^ (Builtin.Int.intBits z) := by
    unfold Builtin.Int.intBits
    by_cases c : z = 0
    · subst c
      decide
    · have cb : (z == 0) = false := by simpa using c
      rw [cb, if_neg Bool.false_ne_true]
      exact Nat.lt_log2_self
  exact Nat.lt_of_lt_of_le e (Nat.pow_le_pow_right (by decide) (Nat.le_trans h (by decide)))
theorem tab_chk {K : PySem.W.Frag} {l : List Addr} (h : kitTab K l = true) {i : Nat} (hi : i < 12) : chkC K (l.getD i 0) = true := by
  unfold kitTab at h
  have e1 := Bool.and_eq_true_iff.mp h
  have e2 := Bool.and_eq_true_iff.mp e1.2
  have e3 := Bool.and_eq_true_iff.mp e2.2
  exact (Bool.and_eq_true_iff.mp (Bool.and_eq_true_iff.mp (Bool.and_eq_true_iff.mp (all_at e3.1 hi)).2).2).2
theorem all_mk {P : Program} {w : World} {K : PySem.W.Frag} {h : Heap} {mg : Str → Option Value} {fa : Addr} (X : K.In h) (G : h.Ns mainGlobals mg) (hfa : mg "law" = some (.ref fa))
    {C0 C1 C2 C3 C4 C5 C6 C7 C8 C9 C10 C11 f0 f1 f2 f3 f4 f5 f6 f7 f8 f9 g0 g1 g2 g3 g4 g5 g6 g7 g8 : Addr}
    {n0 q0 : Str} {N0 : Addr} {bs0 sub0 : List Value} {sn0 : List Str} {ab0 : Bool} {col0 : Option Bool} {dd0 : Option Addr} {ka0 kb0 kc0 kd0 ke0 : Option Value}
    {oc0 doc0 pm0 cdv0 ct0 : Value} {od0 an0 : Option Addr} {osl0 : Array (Option Value)} {pa0 pb0 qa0 qb0 qc0 qd0 : Pos} {qn0 : Str}
    {n1 q1 : Str} {N1 : Addr} {bs1 sub1 : List Value} {sn1 : List Str} {ab1 : Bool} {col1 : Option Bool} {dd1 : Option Addr} {ka1 kb1 kc1 kd1 ke1 : Option Value}
    {oc1 doc1 pm1 cdv1 ct1 : Value} {od1 an1 : Option Addr} {osl1 : Array (Option Value)} {pa1 pb1 qa1 qb1 qc1 qd1 : Pos} {qn1 : Str}
    {n2 q2 : Str} {N2 : Addr} {bs2 sub2 : List Value} {sn2 : List Str} {ab2 : Bool} {col2 : Option Bool} {dd2 : Option Addr} {ka2 kb2 kc2 kd2 ke2 : Option Value}
    {oc2 doc2 pm2 cdv2 ct2 : Value} {od2 an2 : Option Addr} {osl2 : Array (Option Value)} {pa2 pb2 qa2 qb2 qc2 qd2 : Pos} {qn2 : Str}
    {n3 q3 : Str} {N3 : Addr} {bs3 sub3 : List Value} {sn3 : List Str} {ab3 : Bool} {col3 : Option Bool} {dd3 : Option Addr} {ka3 kb3 kc3 kd3 ke3 : Option Value}
    {oc3 doc3 pm3 cdv3 ct3 : Value} {od3 an3 : Option Addr} {osl3 : Array (Option Value)} {pa3 pb3 qa3 qb3 qc3 qd3 : Pos} {qn3 : Str}
    {n4 q4 : Str} {N4 : Addr} {bs4 sub4 : List Value} {sn4 : List Str} {ab4 : Bool} {col4 : Option Bool} {dd4 : Option Addr} {ka4 kb4 kc4 kd4 ke4 : Option Value}
    {oc4 doc4 pm4 cdv4 ct4 : Value} {od4 an4 : Option Addr} {osl4 : Array (Option Value)} {pa4 pb4 qa4 qb4 qc4 qd4 : Pos} {qn4 : Str}
    {n5 q5 : Str} {N5 : Addr} {bs5 sub5 : List Value} {sn5 : List Str} {ab5 : Bool} {col5 : Option Bool} {dd5 : Option Addr} {ka5 kb5 kc5 kd5 ke5 : Option Value}
    {oc5 doc5 pm5 cdv5 ct5 : Value} {od5 an5 : Option Addr} {osl5 : Array (Option Value)} {pa5 pb5 qa5 qb5 qc5 qd5 : Pos} {qn5 : Str}
    {n6 q6 : Str} {N6 : Addr} {bs6 sub6 : List Value} {sn6 : List Str} {ab6 : Bool} {col6 : Option Bool} {dd6 : Option Addr} {ka6 kb6 kc6 kd6 ke6 : Option Value}
    {oc6 doc6 pm6 cdv6 ct6 : Value} {od6 an6 : Option Addr} {osl6 : Array (Option Value)} {pa6 pb6 qa6 qb6 qc6 qd6 : Pos} {qn6 : Str}
    {n7 q7 : Str} {N7 : Addr} {bs7 sub7 : List Value} {sn7 : List Str} {ab7 : Bool} {col7 : Option Bool} {dd7 : Option Addr} {ka7 kb7 kc7 kd7 ke7 : Option Value}
    {oc7 doc7 pm7 cdv7 ct7 : Value} {od7 an7 : Option Addr} {osl7 : Array (Option Value)} {pa7 pb7 qa7 qb7 qc7 qd7 : Pos} {qn7 : Str}
    {n8 q8 : Str} {N8 : Addr} {bs8 sub8 : List Value} {sn8 : List Str} {ab8 : Bool} {col8 : Option Bool} {dd8 : Option Addr} {ka8 kb8 kc8 kd8 ke8 : Option Value}
    {oc8 doc8 pm8 cdv8 ct8 : Value} {od8 an8 : Option Addr} {osl8 : Array (Option Value)} {pa8 pb8 qa8 qb8 qc8 qd8 : Pos} {qn8 : Str}
    {n9 q9 : Str} {N9 : Addr} {bs9 sub9 : List Value} {sn9 : List Str} {ab9 : Bool} {col9 : Option Bool} {dd9 : Option Addr} {ka9 kb9 kc9 kd9 ke9 : Option Value}
    {oc9 doc9 pm9 cdv9 ct9 : Value} {od9 an9 : Option Addr} {osl9 : Array (Option Value)} {pa9 pb9 qa9 qb9 qc9 qd9 : Pos} {qn9 : Str}
    (n_0 : PySem.W.nsIn K mainGlobals "InvalidYard" = some (some (.ref C0)))
    (n_1 : PySem.W.nsIn K mainGlobals "InvalidText" = some (some (.ref C1)))
    (n_2 : PySem.W.nsIn K mainGlobals "InvalidStanding" = some (some (.ref C2)))
    (n_3 : PySem.W.nsIn K mainGlobals "InvalidMove" = some (some (.ref C3)))
    (n_4 : PySem.W.nsIn K mainGlobals "InvalidTimetable" = some (some (.ref C4)))
    (n_5 : PySem.W.nsIn K mainGlobals "InvalidPlan" = some (some (.ref C5)))
    (n_6 : PySem.W.nsIn K mainGlobals "InvalidOrder" = some (some (.ref C6)))
    (n_7 : PySem.W.nsIn K mainGlobals "InvalidSize" = some (some (.ref C7)))
    (n_8 : PySem.W.nsIn K mainGlobals "Refused" = some (some (.ref C8)))
    (n_9 : PySem.W.nsIn K mainGlobals "NoName" = some (some (.ref C9)))
    (n_10 : PySem.W.nsIn K mainGlobals "InvalidCommand" = some (some (.ref C10)))
    (n_11 : PySem.W.nsIn K mainGlobals "YardError" = some (some (.ref C11)))
    (x_0 : K.lookup C0 = some (excClassObj n0 q0 C0 N0 bs0 [.ref C11, .type "Exception", .type "BaseException", .type "object"] true sn0 sub0 ab0 col0 dd0 ka0 kb0 kc0 kd0 ke0 "Exception.__new__"))
    (i_0 : PySem.W.findIn K (.ref C0) "__init__" = some (some (.ref f0)))
    (l_0 : K.lookup f0 = some ⟨oc0, od0, .func (PySem.W.fnOf "__init__" qn0 (EX.inA "at" pa0 pb0) (EX.inB "at" qa0 qb0 qc0 qd0) (EX.inS "at") .none .none doc0 pm0 an0 cdv0 ct0), osl0⟩)
    (c_0 : PySem.W.codeIn K cdv0 qn0 = true)
    (y_0 : chkX K C0 f0 "at" = true)
    (x_1 : K.lookup C1 = some (excClassObj n1 q1 C1 N1 bs1 [.ref C11, .type "Exception", .type "BaseException", .type "object"] true sn1 sub1 ab1 col1 dd1 ka1 kb1 kc1 kd1 ke1 "Exception.__new__"))
    (i_1 : PySem.W.findIn K (.ref C1) "__init__" = some (some (.ref f1)))
    (l_1 : K.lookup f1 = some ⟨oc1, od1, .func (PySem.W.fnOf "__init__" qn1 (EX.inA "at" pa1 pb1) (EX.inB "at" qa1 qb1 qc1 qd1) (EX.inS "at") .none .none doc1 pm1 an1 cdv1 ct1), osl1⟩)
    (c_1 : PySem.W.codeIn K cdv1 qn1 = true)
    (y_1 : chkX K C1 f1 "at" = true)
    (x_2 : K.lookup C2 = some (excClassObj n2 q2 C2 N2 bs2 [.ref C11, .type "Exception", .type "BaseException", .type "object"] true sn2 sub2 ab2 col2 dd2 ka2 kb2 kc2 kd2 ke2 "Exception.__new__"))
    (i_2 : PySem.W.findIn K (.ref C2) "__init__" = some (some (.ref f2)))
    (l_2 : K.lookup f2 = some ⟨oc2, od2, .func (PySem.W.fnOf "__init__" qn2 (EX.inA "at" pa2 pb2) (EX.inB "at" qa2 qb2 qc2 qd2) (EX.inS "at") .none .none doc2 pm2 an2 cdv2 ct2), osl2⟩)
    (c_2 : PySem.W.codeIn K cdv2 qn2 = true)
    (y_2 : chkX K C2 f2 "at" = true)
    (x_3 : K.lookup C3 = some (excClassObj n3 q3 C3 N3 bs3 [.ref C11, .type "Exception", .type "BaseException", .type "object"] true sn3 sub3 ab3 col3 dd3 ka3 kb3 kc3 kd3 ke3 "Exception.__new__"))
    (i_3 : PySem.W.findIn K (.ref C3) "__init__" = some (some (.ref f3)))
    (l_3 : K.lookup f3 = some ⟨oc3, od3, .func (PySem.W.fnOf "__init__" qn3 (EX.inA "at" pa3 pb3) (EX.inB "at" qa3 qb3 qc3 qd3) (EX.inS "at") .none .none doc3 pm3 an3 cdv3 ct3), osl3⟩)
    (c_3 : PySem.W.codeIn K cdv3 qn3 = true)
    (y_3 : chkX K C3 f3 "at" = true)
    (x_4 : K.lookup C4 = some (excClassObj n4 q4 C4 N4 bs4 [.ref C11, .type "Exception", .type "BaseException", .type "object"] true sn4 sub4 ab4 col4 dd4 ka4 kb4 kc4 kd4 ke4 "Exception.__new__"))
    (i_4 : PySem.W.findIn K (.ref C4) "__init__" = some (some (.ref f4)))
    (l_4 : K.lookup f4 = some ⟨oc4, od4, .func (PySem.W.fnOf "__init__" qn4 (EX.inA "at" pa4 pb4) (EX.inB "at" qa4 qb4 qc4 qd4) (EX.inS "at") .none .none doc4 pm4 an4 cdv4 ct4), osl4⟩)
    (c_4 : PySem.W.codeIn K cdv4 qn4 = true)
    (y_4 : chkX K C4 f4 "at" = true)
    (x_5 : K.lookup C5 = some (excClassObj n5 q5 C5 N5 bs5 [.ref C11, .type "Exception", .type "BaseException", .type "object"] true sn5 sub5 ab5 col5 dd5 ka5 kb5 kc5 kd5 ke5 "Exception.__new__"))
    (i_5 : PySem.W.findIn K (.ref C5) "__init__" = some (some (.ref f5)))
    (l_5 : K.lookup f5 = some ⟨oc5, od5, .func (PySem.W.fnOf "__init__" qn5 (EX.inA "at" pa5 pb5) (EX.inB "at" qa5 qb5 qc5 qd5) (EX.inS "at") .none .none doc5 pm5 an5 cdv5 ct5), osl5⟩)
    (c_5 : PySem.W.codeIn K cdv5 qn5 = true)
    (y_5 : chkX K C5 f5 "at" = true)
    (x_6 : K.lookup C6 = some (excClassObj n6 q6 C6 N6 bs6 [.ref C11, .type "Exception", .type "BaseException", .type "object"] true sn6 sub6 ab6 col6 dd6 ka6 kb6 kc6 kd6 ke6 "Exception.__new__"))
    (i_6 : PySem.W.findIn K (.ref C6) "__init__" = some (some (.ref f6)))
    (l_6 : K.lookup f6 = some ⟨oc6, od6, .func (PySem.W.fnOf "__init__" qn6 (EX.inA "at" pa6 pb6) (EX.inB "at" qa6 qb6 qc6 qd6) (EX.inS "at") .none .none doc6 pm6 an6 cdv6 ct6), osl6⟩)
    (c_6 : PySem.W.codeIn K cdv6 qn6 = true)
    (y_6 : chkX K C6 f6 "at" = true)
    (x_7 : K.lookup C7 = some (excClassObj n7 q7 C7 N7 bs7 [.ref C11, .type "Exception", .type "BaseException", .type "object"] true sn7 sub7 ab7 col7 dd7 ka7 kb7 kc7 kd7 ke7 "Exception.__new__"))
    (i_7 : PySem.W.findIn K (.ref C7) "__init__" = some (some (.ref f7)))
    (l_7 : K.lookup f7 = some ⟨oc7, od7, .func (PySem.W.fnOf "__init__" qn7 (EX.inA "word" pa7 pb7) (EX.inB "word" qa7 qb7 qc7 qd7) (EX.inS "word") .none .none doc7 pm7 an7 cdv7 ct7), osl7⟩)
    (c_7 : PySem.W.codeIn K cdv7 qn7 = true)
    (y_7 : chkX K C7 f7 "word" = true)
    (x_8 : K.lookup C8 = some (excClassObj n8 q8 C8 N8 bs8 [.ref C11, .type "Exception", .type "BaseException", .type "object"] true sn8 sub8 ab8 col8 dd8 ka8 kb8 kc8 kd8 ke8 "Exception.__new__"))
    (i_8 : PySem.W.findIn K (.ref C8) "__init__" = some (some (.ref f8)))
    (l_8 : K.lookup f8 = some ⟨oc8, od8, .func (PySem.W.fnOf "__init__" qn8 (EX.inA "word" pa8 pb8) (EX.inB "word" qa8 qb8 qc8 qd8) (EX.inS "word") .none .none doc8 pm8 an8 cdv8 ct8), osl8⟩)
    (c_8 : PySem.W.codeIn K cdv8 qn8 = true)
    (y_8 : chkX K C8 f8 "word" = true)
    (x_9 : K.lookup C9 = some (excClassObj n9 q9 C9 N9 bs9 [.type "KeyError", .type "LookupError", .type "Exception", .type "BaseException", .type "object"] true sn9 sub9 ab9 col9 dd9 ka9 kb9 kc9 kd9 ke9 "LookupError.__new__"))
    (i_9 : PySem.W.findIn K (.ref C9) "__init__" = some (some (.ref f9)))
    (l_9 : K.lookup f9 = some ⟨oc9, od9, .func (PySem.W.fnOf "__init__" qn9 (EX.inA "name" pa9 pb9) (EX.inB "name" qa9 qb9 qc9 qd9) (EX.inS "name") .none .none doc9 pm9 an9 cdv9 ct9), osl9⟩)
    (c_9 : PySem.W.codeIn K cdv9 qn9 = true)
    (y_9 : chkX K C9 f9 "name" = true)
    (e_10 : PySem.W.excIn K C10 [.type "Exception", .type "BaseException", .type "object"] "Exception.__new__" = true) (e_11 : PySem.W.excIn K C11 [.type "Exception", .type "BaseException", .type "object"] "Exception.__new__" = true)
    (kt : kitTab K [C0, C1, C2, C3, C4, C5, C6, C7, C8, C9, C10, C11] = true)
    (z_len : PySem.W.nsIn K mainGlobals "len" = some none)
    (z_range : PySem.W.nsIn K mainGlobals "range" = some none)
    (z_int : PySem.W.nsIn K mainGlobals "int" = some none)
    (z_tuple : PySem.W.nsIn K mainGlobals "tuple" = some none)
    (z_abs : PySem.W.nsIn K mainGlobals "abs" = some none)
    (z_repr : PySem.W.nsIn K mainGlobals "repr" = some none)
    (z_isinstance : PySem.W.nsIn K mainGlobals "isinstance" = some none)
    (z_enumerate : PySem.W.nsIn K mainGlobals "enumerate" = some none)
    (z_Exception : PySem.W.nsIn K mainGlobals "Exception" = some none)
    (z_ValueError : PySem.W.nsIn K mainGlobals "ValueError" = some none)
    (z_KeyError : PySem.W.nsIn K mainGlobals "KeyError" = some none)
    {doc_0 kV_0 dc_0 pmm_0 cd_0 ctt_0 : Value} {odd_0 ann_0 : Option Addr} {sl_0 : Array (Option Value)} (a_0 : PySem.W.nsIn K mainGlobals "_law_deal" = some (some (.ref g0)))
    (d_0 : K.lookup g0 = some ⟨doc_0, odd_0, .func (PySem.W.fnOf "_law_deal" "_law_deal" (defArgs s__law_deal) (defBody s__law_deal) (defScope s__law_deal) .none kV_0 dc_0 pmm_0 ann_0 cd_0 ctt_0), sl_0⟩)
    (o_0 : PySem.W.codeIn K cd_0 "_law_deal" = true) (p_0 : PySem.W.keepIn K (.ref g0) = true)
    {doc_1 kV_1 dc_1 pmm_1 cd_1 ctt_1 : Value} {odd_1 ann_1 : Option Addr} {sl_1 : Array (Option Value)} (a_1 : PySem.W.nsIn K mainGlobals "_law_any" = some (some (.ref g1)))
    (d_1 : K.lookup g1 = some ⟨doc_1, odd_1, .func (PySem.W.fnOf "_law_any" "_law_any" (defArgs s__law_any) (defBody s__law_any) (defScope s__law_any) .none kV_1 dc_1 pmm_1 ann_1 cd_1 ctt_1), sl_1⟩)
    (o_1 : PySem.W.codeIn K cd_1 "_law_any" = true) (p_1 : PySem.W.keepIn K (.ref g1) = true)
    {doc_2 kV_2 dc_2 pmm_2 cd_2 ctt_2 : Value} {odd_2 ann_2 : Option Addr} {sl_2 : Array (Option Value)} (a_2 : PySem.W.nsIn K mainGlobals "_law_of" = some (some (.ref g2)))
    (d_2 : K.lookup g2 = some ⟨doc_2, odd_2, .func (PySem.W.fnOf "_law_of" "_law_of" (defArgs s__law_of) (defBody s__law_of) (defScope s__law_of) .none kV_2 dc_2 pmm_2 ann_2 cd_2 ctt_2), sl_2⟩)
    (o_2 : PySem.W.codeIn K cd_2 "_law_of" = true) (p_2 : PySem.W.keepIn K (.ref g2) = true)
    {doc_3 kV_3 dc_3 pmm_3 cd_3 ctt_3 : Value} {odd_3 ann_3 : Option Addr} {sl_3 : Array (Option Value)} (a_3 : PySem.W.nsIn K mainGlobals "_law_thing" = some (some (.ref g3)))
    (d_3 : K.lookup g3 = some ⟨doc_3, odd_3, .func (PySem.W.fnOf "_law_thing" "_law_thing" (defArgs s__law_thing) (defBody s__law_thing) (defScope s__law_thing) .none kV_3 dc_3 pmm_3 ann_3 cd_3 ctt_3), sl_3⟩)
    (o_3 : PySem.W.codeIn K cd_3 "_law_thing" = true) (p_3 : PySem.W.keepIn K (.ref g3) = true)
    {doc_4 kV_4 dc_4 pmm_4 cd_4 ctt_4 : Value} {odd_4 ann_4 : Option Addr} {sl_4 : Array (Option Value)} (a_4 : PySem.W.nsIn K mainGlobals "_law_made" = some (some (.ref g4)))
    (d_4 : K.lookup g4 = some ⟨doc_4, odd_4, .func (PySem.W.fnOf "_law_made" "_law_made" (defArgs s__law_made) (defBody s__law_made) (defScope s__law_made) .none kV_4 dc_4 pmm_4 ann_4 cd_4 ctt_4), sl_4⟩)
    (o_4 : PySem.W.codeIn K cd_4 "_law_made" = true) (p_4 : PySem.W.keepIn K (.ref g4) = true)
    {doc_5 kV_5 dc_5 pmm_5 cd_5 ctt_5 : Value} {odd_5 ann_5 : Option Addr} {sl_5 : Array (Option Value)} (a_5 : PySem.W.nsIn K mainGlobals "_law_kinds" = some (some (.ref g5)))
    (d_5 : K.lookup g5 = some ⟨doc_5, odd_5, .func (PySem.W.fnOf "_law_kinds" "_law_kinds" (defArgs s__law_kinds) (defBody s__law_kinds) (defScope s__law_kinds) .none kV_5 dc_5 pmm_5 ann_5 cd_5 ctt_5), sl_5⟩)
    (o_5 : PySem.W.codeIn K cd_5 "_law_kinds" = true) (p_5 : PySem.W.keepIn K (.ref g5) = true)
    {doc_6 kV_6 dc_6 pmm_6 cd_6 ctt_6 : Value} {odd_6 ann_6 : Option Addr} {sl_6 : Array (Option Value)} (a_6 : PySem.W.nsIn K mainGlobals "_law_kept" = some (some (.ref g6)))
    (d_6 : K.lookup g6 = some ⟨doc_6, odd_6, .func (PySem.W.fnOf "_law_kept" "_law_kept" (defArgs s__law_kept) (defBody s__law_kept) (defScope s__law_kept) .none kV_6 dc_6 pmm_6 ann_6 cd_6 ctt_6), sl_6⟩)
    (o_6 : PySem.W.codeIn K cd_6 "_law_kept" = true) (p_6 : PySem.W.keepIn K (.ref g6) = true)
    {doc_7 kV_7 dc_7 pmm_7 cd_7 ctt_7 : Value} {odd_7 ann_7 : Option Addr} {sl_7 : Array (Option Value)} (a_7 : PySem.W.nsIn K mainGlobals "_law_caught" = some (some (.ref g7)))
    (d_7 : K.lookup g7 = some ⟨doc_7, odd_7, .func (PySem.W.fnOf "_law_caught" "_law_caught" (defArgs s__law_caught) (defBody s__law_caught) (defScope s__law_caught) .none kV_7 dc_7 pmm_7 ann_7 cd_7 ctt_7), sl_7⟩)
    (o_7 : PySem.W.codeIn K cd_7 "_law_caught" = true) (p_7 : PySem.W.keepIn K (.ref g7) = true)
    {doc_8 kV_8 dc_8 pmm_8 cd_8 ctt_8 : Value} {odd_8 ann_8 : Option Addr} {sl_8 : Array (Option Value)} (a_8 : PySem.W.nsIn K mainGlobals "law" = some (some (.ref g8)))
    (d_8 : K.lookup g8 = some ⟨doc_8, odd_8, .func (PySem.W.fnOf "law" "law" (defArgs s_law) (defBody s_law) (defScope s_law) .none kV_8 dc_8 pmm_8 ann_8 cd_8 ctt_8), sl_8⟩)
    (o_8 : PySem.W.codeIn K cd_8 "law" = true) (p_8 : PySem.W.keepIn K (.ref g8) = true)
    : ∃ fd : FuncData, (∀ (s : Shared) (u : Value), BindsTo s fd ⟨[u], []⟩ [("script", u)]) ∧ ∀ base : Heap, K.In base → base.Ns mainGlobals mg → FnG P w K mg base CX0 8 fa fd ["script"] (sp_law K) := by
  have e := hfa.symm.trans (PySem.W.mg_of X G a_8)
  cases e
  have ck : ∀ i, i < 12 → chkC K (([C0, C1, C2, C3, C4, C5, C6, C7, C8, C9, C10, C11] : List Addr).getD i 0) = true := fun i hi => tab_chk kt hi
  have xx0 : EX.XT K mg "InvalidYard" "at" C0 f0 := mkX X G F.excBase_Exception (EX.ch_Y C11) (Or.inl rfl) n_0 (ck 0 (by decide)) y_0 ⟨_, _, _, _, _, _, _, _, _, _, _, _, _, _, x_0⟩ ⟨_, _, _, _, _, _, _, _, _, _, _, _, _, _, _, l_0, c_0⟩
  have xx1 : EX.XT K mg "InvalidText" "at" C1 f1 := mkX X G F.excBase_Exception (EX.ch_Y C11) (Or.inl rfl) n_1 (ck 1 (by decide)) y_1 ⟨_, _, _, _, _, _, _, _, _, _, _, _, _, _, x_1⟩ ⟨_, _, _, _, _, _, _, _, _, _, _, _, _, _, _, l_1, c_1⟩
  have xx2 : EX.XT K mg "InvalidStanding" "at" C2 f2 := mkX X G F.excBase_Exception (EX.ch_Y C11) (Or.inl rfl) n_2 (ck 2 (by decide)) y_2 ⟨_, _, _, _, _, _, _, _, _, _, _, _, _, _, x_2⟩ ⟨_, _, _, _, _, _, _, _, _, _, _, _, _, _, _, l_2, c_2⟩
  have xx3 : EX.XT K mg "InvalidMove" "at" C3 f3 := mkX X G F.excBase_Exception (EX.ch_Y C11) (Or.inl rfl) n_3 (ck 3 (by decide)) y_3 ⟨_, _, _, _, _, _, _, _, _, _, _, _, _, _, x_3⟩ ⟨_, _, _, _, _, _, _, _, _, _, _, _, _, _, _, l_3, c_3⟩
  have xx4 : EX.XT K mg "InvalidTimetable" "at" C4 f4 := mkX X G F.excBase_Exception (EX.ch_Y C11) (Or.inl rfl) n_4 (ck 4 (by decide)) y_4 ⟨_, _, _, _, _, _, _, _, _, _, _, _, _, _, x_4⟩ ⟨_, _, _, _, _, _, _, _, _, _, _, _, _, _, _, l_4, c_4⟩
  have xx5 : EX.XT K mg "InvalidPlan" "at" C5 f5 := mkX X G F.excBase_Exception (EX.ch_Y C11) (Or.inl rfl) n_5 (ck 5 (by decide)) y_5 ⟨_, _, _, _, _, _, _, _, _, _, _, _, _, _, x_5⟩ ⟨_, _, _, _, _, _, _, _, _, _, _, _, _, _, _, l_5, c_5⟩
  have xx6 : EX.XT K mg "InvalidOrder" "at" C6 f6 := mkX X G F.excBase_Exception (EX.ch_Y C11) (Or.inl rfl) n_6 (ck 6 (by decide)) y_6 ⟨_, _, _, _, _, _, _, _, _, _, _, _, _, _, x_6⟩ ⟨_, _, _, _, _, _, _, _, _, _, _, _, _, _, _, l_6, c_6⟩
  have xx7 : EX.XT K mg "InvalidSize" "word" C7 f7 := mkX X G F.excBase_Exception (EX.ch_Y C11) (Or.inr (Or.inl rfl)) n_7 (ck 7 (by decide)) y_7 ⟨_, _, _, _, _, _, _, _, _, _, _, _, _, _, x_7⟩ ⟨_, _, _, _, _, _, _, _, _, _, _, _, _, _, _, l_7, c_7⟩
  have xx8 : EX.XT K mg "Refused" "word" C8 f8 := mkX X G F.excBase_Exception (EX.ch_Y C11) (Or.inr (Or.inl rfl)) n_8 (ck 8 (by decide)) y_8 ⟨_, _, _, _, _, _, _, _, _, _, _, _, _, _, x_8⟩ ⟨_, _, _, _, _, _, _, _, _, _, _, _, _, _, _, l_8, c_8⟩
  have xx9 : EX.XT K mg "NoName" "name" C9 f9 := mkX X G F.excBase_LookupError EX.ch_K (Or.inr (Or.inr rfl)) n_9 (ck 9 (by decide)) y_9 ⟨_, _, _, _, _, _, _, _, _, _, _, _, _, _, x_9⟩ ⟨_, _, _, _, _, _, _, _, _, _, _, _, _, _, _, l_9, c_9⟩
  have xx10 : EX.X0 K mg "InvalidCommand" C10 := mk0 X G n_10 (ck 10 (by decide)) e_10
  have xx11 : EX.X0 K mg "YardError" C11 := mk0 X G n_11 (ck 11 (by decide)) e_11
  have T := tx_mk X G xx0 xx1 xx2 xx3 xx4 xx5 xx6 xx7 xx8 xx9 xx10 xx11 kt z_len z_range z_int z_tuple z_abs z_repr z_isinstance z_enumerate z_Exception z_ValueError z_KeyError
  have B0 := db__law_deal X G a_0 d_0 o_0 p_0
  have B1 := db__law_any X G a_1 d_1 o_1 p_1
  have B2 := db__law_of X G a_2 d_2 o_2 p_2
  have B3 := db__law_thing X G a_3 d_3 o_3 p_3
  have B4 := db__law_made X G a_4 d_4 o_4 p_4
  have B5 := db__law_kinds X G a_5 d_5 o_5 p_5
  have B6 := db__law_kept X G a_6 d_6 o_6 p_6
  have B7 := db__law_caught X G a_7 d_7 o_7 p_7
  have B8 := db_law X G a_8 d_8 o_8 p_8
  refine ⟨PySem.W.fnOf "law" "law" (defArgs s_law) (defBody s_law) (defScope s_law) .none kV_8 dc_8 pmm_8 ann_8 cd_8 ctt_8, fun s u => .of_eq (by first | rfl | with_unfolding_all rfl), fun base _ _ => ?_⟩
  have r_any := c__law_any (P := P) (w := w) (base := base) T B1
  have r_of := c__law_of (P := P) (w := w) (base := base) T r_any B2
  have r_thing := c__law_thing (P := P) (w := w) (base := base) T r_any r_of B3 4
  exact c__law (P := P) (w := w) (base := base) T (c__law_deal T B0) r_thing (c__law_made T B4) (c__law_kinds T B5) (c__law_kept T B6) (c__law_caught T B7) B8
end K0
open PySem PySem.W PyProof.Rows
theorem PySem.Challenge.cw_staysdeep_k00_errors_and_what_they_keep_holds : PySem.Challenge.rw_staysdeep_k00_errors_and_what_they_keep.Holds := by
  w_on; o_law; k_head; (case hw => w_witness2); k_fill
  refine EG.walkG (l := PySem.Challenge.rw_staysdeep_k00_errors_and_what_they_keep) (n := 63) (k := 8) (x := "script") (sp := K0.sp_law) rfl (by decide) rfl ⟨rfl, by decide, by decide⟩ (fun w h Y => PySem.W.kIn_of Y) ?F ?S
  case F =>
    intro w mg fa h Y KX G hmg
    refine' K0.all_mk KX G hmg ?n_0 ?n_1 ?n_2 ?n_3 ?n_4 ?n_5 ?n_6 ?n_7 ?n_8 ?n_9 ?n_10 ?n_11 ?x_0 ?i_0 ?l_0 ?c_0 ?y_0 ?x_1 ?i_1 ?l_1 ?c_1 ?y_1 ?x_2 ?i_2 ?l_2 ?c_2 ?y_2 ?x_3 ?i_3 ?l_3 ?c_3 ?y_3 ?x_4 ?i_4 ?l_4 ?c_4 ?y_4 ?x_5 ?i_5 ?l_5 ?c_5 ?y_5 ?x_6 ?i_6 ?l_6 ?c_6 ?y_6 ?x_7 ?i_7 ?l_7 ?c_7 ?y_7 ?x_8 ?i_8 ?l_8 ?c_8 ?y_8 ?x_9 ?i_9 ?l_9 ?c_9 ?y_9 ?e_10 ?e_11 ?kt ?z_len ?z_range ?z_int ?z_tuple ?z_abs ?z_repr ?z_isinstance ?z_enumerate ?z_Exception ?z_ValueError ?z_KeyError ?a_0 ?d_0 ?o_0 ?p_0 ?a_1 ?d_1 ?o_1 ?p_1 ?a_2 ?d_2 ?o_2 ?p_2 ?a_3 ?d_3 ?o_3 ?p_3 ?a_4 ?d_4 ?o_4 ?p_4 ?a_5 ?d_5 ?o_5 ?p_5 ?a_6 ?d_6 ?o_6 ?p_6 ?a_7 ?d_7 ?o_7 ?p_7 ?a_8 ?d_8 ?o_8 ?p_8
    (case n_0 => k_is); (case n_1 => k_is); (case n_2 => k_is); (case n_3 => k_is); (case n_4 => k_is); (case n_5 => k_is)
    (case n_6 => k_is); (case n_7 => k_is); (case n_8 => k_is); (case n_9 => k_is); (case n_10 => k_is); (case n_11 => k_is)
    (case x_0 => k_is); (case i_0 => k_is); (case l_0 => k_is); (case c_0 => k_is); (case y_0 => kernel_rfl); (case x_1 => k_is)
    (case i_1 => k_is); (case l_1 => k_is); (case c_1 => k_is); (case y_1 => kernel_rfl); (case x_2 => k_is); (case i_2 => k_is)
    (case l_2 => k_is); (case c_2 => k_is); (case y_2 => kernel_rfl); (case x_3 => k_is); (case i_3 => k_is); (case l_3 => k_is)
    (case c_3 => k_is); (case y_3 => kernel_rfl); (case x_4 => k_is); (case i_4 => k_is); (case l_4 => k_is); (case c_4 => k_is)
    (case y_4 => kernel_rfl); (case x_5 => k_is); (case i_5 => k_is); (case l_5 => k_is); (case c_5 => k_is); (case y_5 => kernel_rfl)
    (case x_6 => k_is); (case i_6 => k_is); (case l_6 => k_is); (case c_6 => k_is); (case y_6 => kernel_rfl); (case x_7 => k_is)
    (case i_7 => k_is); (case l_7 => k_is); (case c_7 => k_is); (case y_7 => kernel_rfl); (case x_8 => k_is); (case i_8 => k_is)
    (case l_8 => k_is); (case c_8 => k_is); (case y_8 => kernel_rfl); (case x_9 => k_is); (case i_9 => k_is); (case l_9 => k_is)
    (case c_9 => k_is); (case y_9 => kernel_rfl); (case e_10 => kernel_rfl); (case e_11 => kernel_rfl); (case kt => kernel_rfl); (case z_len => k_is)
    (case z_range => k_is); (case z_int => k_is); (case z_tuple => k_is); (case z_abs => k_is); (case z_repr => k_is); (case z_isinstance => k_is)
    (case z_enumerate => k_is); (case z_Exception => k_is); (case z_ValueError => k_is); (case z_KeyError => k_is); (case a_0 => k_is); (case d_0 => k_is)
    (case o_0 => k_is); (case p_0 => k_is); (case a_1 => k_is); (case d_1 => k_is); (case o_1 => k_is); (case p_1 => k_is)
    (case a_2 => k_is); (case d_2 => k_is); (case o_2 => k_is); (case p_2 => k_is); (case a_3 => k_is); (case d_3 => k_is)
    (case o_3 => k_is); (case p_3 => k_is); (case a_4 => k_is); (case d_4 => k_is); (case o_4 => k_is); (case p_4 => k_is)
    (case a_5 => k_is); (case d_5 => k_is); (case o_5 => k_is); (case p_5 => k_is); (case a_6 => k_is); (case d_6 => k_is)
    (case o_6 => k_is); (case p_6 => k_is); (case a_7 => k_is); (case d_7 => k_is); (case o_7 => k_is); (case p_7 => k_is)
    (case a_8 => k_is); (case d_8 => k_is); (case o_8 => k_is); (case p_8 => k_is)
  case S =>
    intro K H a ns hl hb hS
    exact ⟨a, ns, rfl, hS, fun z hz => K0.bits_lt (hb z hz), fun _ => rfl⟩
