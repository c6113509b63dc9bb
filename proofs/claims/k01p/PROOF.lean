import PyProof.Rows.All
import Wide.All
import OpenK.AllK
import Wide.FinOn
import HandS.ForMost
import HandS.Walk
import HandS.Exc
import HandS.Lambda
import HandS.TupAny
import HandS.Deep
import HandS.Wide
import HandS.StrMore
import HandS.IsInst
import HandS.Style
import HandS.FStr
import PyProof.ReprRoads
import HandS.Iter
import KE.GoesMore
import PyProof.WalksMore
import PyProof.SumWalkG
import HandS.SetKeys
import HandS.Defaults
import HandS.WordsExc
import KE.KExcInit
import HandS.ExcIs
import HandS.ExcField
import HandS.ExcValue
import HandS.TryMany
import KE.KExcIs
import KE.GoesEnum
import HandS.More
import PySem.Challenge.RW_staysdeep_k01_yards_and_standings
import KE.SortData
import PyProof.ReprLen
import PyProof.StrLawsRepr
import PyProof.Rows.ReprOcc
import HandS.Strs
import HandS.SetBool
import HandS.Conv
import HandS.Text
import HandS.Rev
import HandS.Sort
import HandS.TupMul
import KE.KIndexOf
import HandS.MakeKwOnly
import HandS.EndTab
import PyProof.InstNe
import HandS.SlotsOwn
import HandS.EndBits
import KE.KNestM
set_option Elab.async false
set_option linter.all false
set_option maxRecDepth 100000
set_option maxHeartbeats 4000000
namespace DL
open PySem PySem.Spec PyProof.Rows L2

/-! ### data, and how the abstract heap bears it; O: the lists that may change -/
/-- an own exception as a value: of the class cls, its dict d (if it has one) -/
def XO (cls : Value) (d : Option Addr) (a : Addr) : HO := .ext fun h => ∃ (oe : Obj) (vs : Array Value), h.get? a = some oe ∧ Zc cls d oe ∧ oe.data = .fields vs
inductive D where
  | non | bl (b : Bool) | int (i : Int) | str (x : Str) | lst (xs : List D) | tup (xs : List D) | ftp (xs : List D) | obj (C : Addr) (fs : List (Str × D)) | raw (v : V) | exc (C : Addr) (fs : List (Str × D)) | dic (kvs : List (Key × D)) | xerr (a d : Addr) (fs : List (Str × D))
mutual
inductive Rl (O : List Addr) (H : Hp) : V → D → Prop
  | non : Rl O H .non .non
  | bl (b : Bool) : Rl O H (.bl b) (.bl b)
  | int (i : Int) : Rl O H (.int i) (.int i)
  | str (x : Str) : Rl O H (.str x) (.str x)
  | raw (v : V) : Rl O H v (.raw v)
  | lst {a : Addr} {xs : List V} {ds : List D} : a ∉ O → H a = some (.lst xs) → RlA O H xs ds → Rl O H (.ref a) (.lst ds)
  | tup {a : Addr} {xs : List V} {ds : List D} : a ∉ O → Rd H a (.tup xs) → RlA O H xs ds → Rl O H (.ref a) (.tup ds)
  | ftp {a : Addr} {ob : Obj} {xs : List V} {ds : List D} : a ∉ O → H a = some (.frz ob (.tup xs)) → ob.dict = none → RlA O H xs ds → Rl O H (.ref a) (.ftp ds)
  | obj {a C dx : Addr} {fs : List (Str × V)} {gs : List (Str × D)} : a ∉ O → H a = some (.ins C dx fs) → RlF O H fs gs → Rl O H (.ref a) (.obj C gs)
  | exc0 {a C : Addr} : a ∉ O → H a = some (XO (.ref C) none a) → Rl O H (.ref a) (.exc C [])
  | exc1 {a C d : Addr} {fs : List (Str × V)} {gs : List (Str × D)} : a ∉ O → d ∉ O → H a = some (XO (.ref C) (some d) a) → H d = some (.xd fs) → RlF O H fs gs → Rl O H (.ref a) (.exc C gs)
  | dic {a : Addr} {xs : List (Key × V)} {ds : List (Key × D)} : a ∉ O → H a = some (.dK xs) → RlK O H xs ds → Rl O H (.ref a) (.dic ds)
  | xerr {a d : Addr} {fs : List (Str × V)} {gs : List (Str × D)} : d ∉ O → H d = some (.xd fs) → RlF O H fs gs → Rl O H (.ref a) (.xerr a d gs)
inductive RlA (O : List Addr) (H : Hp) : List V → List D → Prop
  | nil : RlA O H [] []
  | cons {v : V} {vs : List V} {d : D} {ds : List D} : Rl O H v d → RlA O H vs ds → RlA O H (v :: vs) (d :: ds)
inductive RlF (O : List Addr) (H : Hp) : List (Str × V) → List (Str × D) → Prop
  | nil : RlF O H [] []
  | cons {f : Str} {v : V} {vs : List (Str × V)} {d : D} {ds : List (Str × D)} : Rl O H v d → RlF O H vs ds → RlF O H ((f, v) :: vs) ((f, d) :: ds)
inductive RlK (O : List Addr) (H : Hp) : List (Key × V) → List (Key × D) → Prop
  | nil : RlK O H [] []
  | cons {f : Key} {v : V} {vs : List (Key × V)} {d : D} {ds : List (Key × D)} : Rl O H v d → RlK O H vs ds → RlK O H ((f, v) :: vs) ((f, d) :: ds)
end
/-- from O, H to O', H': what stands outside O stays; what may change anew is new -/
structure Ext (O : List Addr) (H : Hp) (O' : List Addr) (H' : Hp) : Prop where
  keep : ∀ b o, b ∉ O → H b = some o → H' b = some o
  sub : ∀ p ∈ O', p ∈ O ∨ H p = none
theorem Ext.refl (O : List Addr) (H : Hp) : Ext O H O H := ⟨fun _ _ _ h => h, fun _ h => .inl h⟩
theorem Ext.trans {O O1 O2 : List Addr} {H H1 H2 : Hp} (a : Ext O H O1 H1) (b : Ext O1 H1 O2 H2) : Ext O H O2 H2 := by
  refine ⟨fun c o hc h => b.keep c o (fun z => ?_) (a.keep c o hc h), fun p hp => ?_⟩
  · rcases a.sub c z with y | y
    · exact hc y
    · rw [y] at h
      cases h
  · rcases b.sub p hp with y | y
    · exact a.sub p y
    · by_cases hO : p ∈ O
      · exact .inl hO
      · cases e : H p with
        | none => exact .inr rfl
        | some o =>
          rw [a.keep p o hO e] at y
          cases y
theorem Ext.rd {O O' : List Addr} {H H' : Hp} {a : Addr} {u : HO} (e : Ext O H O' H') (ha : a ∉ O) (h : Rd H a u) : Rd H' a u := by
  rcases h with h | ⟨o, h⟩
  · exact .inl (e.keep _ _ ha h)
  · exact .inr ⟨o, e.keep _ _ ha h⟩
theorem Ext.out {O O' : List Addr} {H H' : Hp} {a : Addr} (e : Ext O H O' H') (ha : a ∉ O) (h : H a ≠ none) : a ∉ O' := fun z => by
  rcases e.sub a z with y | y
  · exact ha y
  · exact h y
theorem rd_some {H : Hp} {a : Addr} {u : HO} (h : Rd H a u) : H a ≠ none := fun z => by
  rcases h with h | ⟨o, h⟩ <;> rw [z] at h <;> cases h
mutual
theorem Rl.ext {O O' : List Addr} {H H' : Hp} (e : Ext O H O' H') : ∀ {v : V} {d : D}, Rl O H v d → Rl O' H' v d
  | _, _, .non => .non
  | _, _, .bl b => .bl b
  | _, _, .int i => .int i
  | _, _, .str x => .str x
  | _, _, .raw v => .raw v
  | _, _, .lst ha hr hx => .lst (e.out ha (by rw [hr]; exact fun z => nomatch z)) (e.keep _ _ ha hr) (RlA.ext e hx)
  | _, _, .tup ha hr hx => .tup (e.out ha (rd_some hr)) (e.rd ha hr) (RlA.ext e hx)
  | _, _, .ftp ha hr hd hx => .ftp (e.out ha (by rw [hr]; exact fun z => nomatch z)) (e.keep _ _ ha hr) hd (RlA.ext e hx)
  | _, _, .obj ha hr hx => .obj (e.out ha (by rw [hr]; exact fun z => nomatch z)) (e.keep _ _ ha hr) (RlF.ext e hx)
  | _, _, .exc0 ha hr => .exc0 (e.out ha (by rw [hr]; exact fun z => nomatch z)) (e.keep _ _ ha hr)
  | _, _, .exc1 ha hd hr hq hx => .exc1 (e.out ha (by rw [hr]; exact fun z => nomatch z)) (e.out hd (by rw [hq]; exact fun z => nomatch z)) (e.keep _ _ ha hr) (e.keep _ _ hd hq) (RlF.ext e hx)
  | _, _, .dic ha hr hx => .dic (e.out ha (by rw [hr]; exact fun z => nomatch z)) (e.keep _ _ ha hr) (RlK.ext e hx)
  | _, _, .xerr ha hr hx => .xerr (e.out ha (by rw [hr]; exact fun z => nomatch z)) (e.keep _ _ ha hr) (RlF.ext e hx)
theorem RlA.ext {O O' : List Addr} {H H' : Hp} (e : Ext O H O' H') : ∀ {vs : List V} {ds : List D}, RlA O H vs ds → RlA O' H' vs ds
  | _, _, .nil => .nil
  | _, _, .cons h t => .cons (Rl.ext e h) (RlA.ext e t)
theorem RlF.ext {O O' : List Addr} {H H' : Hp} (e : Ext O H O' H') : ∀ {vs : List (Str × V)} {ds : List (Str × D)}, RlF O H vs ds → RlF O' H' vs ds
  | _, _, .nil => .nil
  | _, _, .cons h t => .cons (Rl.ext e h) (RlF.ext e t)
theorem RlK.ext {O O' : List Addr} {H H' : Hp} (e : Ext O H O' H') : ∀ {vs : List (Key × V)} {ds : List (Key × D)}, RlK O H vs ds → RlK O' H' vs ds
  | _, _, .nil => .nil
  | _, _, .cons h t => .cons (Rl.ext e h) (RlK.ext e t)
end
mutual
theorem Rl.sub {O O' : List Addr} {H : Hp} (e : ∀ p ∈ O', p ∈ O) : ∀ {v : V} {d : D}, Rl O H v d → Rl O' H v d
  | _, _, .non => .non
  | _, _, .bl b => .bl b
  | _, _, .int i => .int i
  | _, _, .str x => .str x
  | _, _, .raw v => .raw v
  | _, _, .lst ha hr hx => .lst (fun z => ha (e _ z)) hr (RlA.sub e hx)
  | _, _, .tup ha hr hx => .tup (fun z => ha (e _ z)) hr (RlA.sub e hx)
  | _, _, .ftp ha hr hd hx => .ftp (fun z => ha (e _ z)) hr hd (RlA.sub e hx)
  | _, _, .obj ha hr hx => .obj (fun z => ha (e _ z)) hr (RlF.sub e hx)
  | _, _, .exc0 ha hr => .exc0 (fun z => ha (e _ z)) hr
  | _, _, .exc1 ha hd hr hq hx => .exc1 (fun z => ha (e _ z)) (fun z => hd (e _ z)) hr hq (RlF.sub e hx)
  | _, _, .dic ha hr hx => .dic (fun z => ha (e _ z)) hr (RlK.sub e hx)
  | _, _, .xerr ha hr hx => .xerr (fun z => ha (e _ z)) hr (RlF.sub e hx)
theorem RlA.sub {O O' : List Addr} {H : Hp} (e : ∀ p ∈ O', p ∈ O) : ∀ {vs : List V} {ds : List D}, RlA O H vs ds → RlA O' H vs ds
  | _, _, .nil => .nil
  | _, _, .cons h t => .cons (Rl.sub e h) (RlA.sub e t)
theorem RlF.sub {O O' : List Addr} {H : Hp} (e : ∀ p ∈ O', p ∈ O) : ∀ {vs : List (Str × V)} {ds : List (Str × D)}, RlF O H vs ds → RlF O' H vs ds
  | _, _, .nil => .nil
  | _, _, .cons h t => .cons (Rl.sub e h) (RlF.sub e t)
theorem RlK.sub {O O' : List Addr} {H : Hp} (e : ∀ p ∈ O', p ∈ O) : ∀ {vs : List (Key × V)} {ds : List (Key × D)}, RlK O H vs ds → RlK O' H vs ds
  | _, _, .nil => .nil
  | _, _, .cons h t => .cons (Rl.sub e h) (RlK.sub e t)
end
theorem RlA.len {O : List Addr} {H : Hp} : ∀ {vs : List V} {ds : List D}, RlA O H vs ds → vs.length = ds.length
  | _, _, .nil => rfl
  | _, _, .cons _ t => congrArg (· + 1) (RlA.len t)
theorem RlA.get {O : List Addr} {H : Hp} : ∀ {vs : List V} {ds : List D} {i : Nat} {d : D}, RlA O H vs ds → ds[i]? = some d → ∃ v, vs[i]? = some v ∧ Rl O H v d
  | _, _, _, _, .nil, e => by simp at e
  | _, _, 0, _, .cons h _, e => by
    have e' := Option.some.inj (by simpa using e)
    exact ⟨_, rfl, e' ▸ h⟩
  | _, _, i + 1, _, .cons _ t, e => by
    obtain ⟨v, h1, h2⟩ := RlA.get (i := i) t (by simpa using e)
    exact ⟨v, by simpa using h1, h2⟩
theorem RlA.app {O : List Addr} {H : Hp} : ∀ {vs ws : List V} {ds es : List D}, RlA O H vs ds → RlA O H ws es → RlA O H (vs ++ ws) (ds ++ es)
  | _, _, _, _, .nil, s => s
  | _, _, _, _, .cons h t, s => .cons h (RlA.app t s)
theorem RlA.drop {O : List Addr} {H : Hp} : ∀ {vs : List V} {ds : List D} (n : Nat), RlA O H vs ds → RlA O H (vs.drop n) (ds.drop n)
  | _, _, 0, h => h
  | _, _, _ + 1, .nil => .nil
  | _, _, n + 1, .cons _ t => RlA.drop n t
theorem RlA.take {O : List Addr} {H : Hp} : ∀ {vs : List V} {ds : List D} (n : Nat), RlA O H vs ds → RlA O H (vs.take n) (ds.take n)
  | _, _, 0, _ => .nil
  | _, _, _ + 1, .nil => .nil
  | _, _, n + 1, .cons h t => .cons h (RlA.take n t)
theorem RlA.set {O : List Addr} {H : Hp} {v : V} {d : D} (h : Rl O H v d) : ∀ {vs : List V} {ds : List D} (n : Nat), RlA O H vs ds → RlA O H (vs.set n v) (ds.set n d)
  | _, _, _, .nil => .nil
  | _, _, 0, .cons _ t => .cons h t
  | _, _, n + 1, .cons q t => .cons q (RlA.set h n t)
theorem RlA.eraseIdx {O : List Addr} {H : Hp} : ∀ {vs : List V} {ds : List D} (n : Nat), RlA O H vs ds → RlA O H (vs.eraseIdx n) (ds.eraseIdx n)
  | _, _, _, .nil => .nil
  | _, _, 0, .cons _ t => t
  | _, _, n + 1, .cons q t => .cons q (RlA.eraseIdx n t)
theorem RlA.rev {O : List Addr} {H : Hp} : ∀ {vs : List V} {ds : List D}, RlA O H vs ds → RlA O H vs.reverse ds.reverse
  | _, _, .nil => .nil
  | _, _, .cons h t => by
    rw [List.reverse_cons, List.reverse_cons]
    exact RlA.app (RlA.rev t) (.cons h .nil)
theorem RlA.ints {O : List Addr} {H : Hp} : ∀ {vs : List V} {ns : List Int}, RlA O H vs (ns.map D.int) → vs = ns.map V.int
  | _, [], .nil => rfl
  | _, n :: ns, .cons h t => by
    cases h
    rw [RlA.ints (ns := ns) t]
    rfl
theorem RlA.strs {O : List Addr} {H : Hp} : ∀ {vs : List V} {ns : List Str}, RlA O H vs (ns.map D.str) → vs = ns.map V.str
  | _, [], .nil => rfl
  | _, n :: ns, .cons h t => by
    cases h
    rw [RlA.strs (ns := ns) t]
    rfl
theorem RlA.bls {O : List Addr} {H : Hp} : ∀ {vs : List V} {ns : List Bool}, RlA O H vs (ns.map D.bl) → vs = ns.map V.bl
  | _, [], .nil => rfl
  | _, n :: ns, .cons h t => by
    cases h
    rw [RlA.bls (ns := ns) t]
    rfl
theorem RlA.ofInts {O : List Addr} {H : Hp} : ∀ (ns : List Int), RlA O H (ns.map V.int) (ns.map D.int)
  | [] => .nil
  | n :: ns => .cons (.int n) (RlA.ofInts ns)
theorem RlF.lookup {O : List Addr} {H : Hp} {f : Str} {d : D} : ∀ {fs : List (Str × V)} {gs : List (Str × D)}, RlF O H fs gs → gs.lookup f = some d → ∃ v, fs.lookup f = some v ∧ Rl O H v d
  | _, _, .nil, e => by cases e
  | _, _, @RlF.cons _ _ g v vs d' ds h t, e => by
    by_cases c : f = g
    · subst c
      simp [List.lookup] at e ⊢
      exact e ▸ h
    · have cb : (f == g) = false := by simpa using c
      simp [List.lookup, cb] at e ⊢
      exact RlF.lookup t e

/-! ### a def's state: F the deal's two lists (or none), H0 and O0 the entry's; Om the def's own lists, sl its slots -/
inductive E where
  | v (d : D) | o (k : Nat) | l | rs (n : Nat)
/-- what is the def's own, and may change: a list, a dict, any other object by what it is at its address -/
inductive Own where
  | l (ds : List D) | d (kvs : List (Key × D)) | h (f : Addr → HO) | i (C dx : Addr) (fs : List (Str × D))
instance : Coe (List D) Own := ⟨.l⟩
abbrev Om := List (Option Own)
/-- neither a code object nor a table of such -/
def NotC (b : Addr) (x : Option HO) : Prop := (∀ q, x ≠ some (LamX.CodeO b q)) ∧ ∀ ps, x ≠ some (.tbl ps)
theorem notC_lst {b : Addr} {vs : List V} : NotC b (some (.lst vs)) := ⟨fun q z => (by unfold LamX.CodeO at z; injection z with z; cases z), fun ps z => (by injection z with z; cases z)⟩
theorem notC_dK {b : Addr} {vs : List (Key × V)} : NotC b (some (.dK vs)) := ⟨fun q z => (by unfold LamX.CodeO at z; injection z with z; cases z), fun ps z => (by injection z with z; cases z)⟩
theorem notC_ins {b C dx : Addr} {vs : List (Str × V)} : NotC b (some (.ins C dx vs)) := ⟨fun q z => (by unfold LamX.CodeO at z; injection z with z; cases z), fun ps z => (by injection z with z; cases z)⟩
def OwnAt (O : List Addr) (H : Hp) (p : Addr) : Own → Prop
  | .l ds => ∃ vs, H p = some (.lst vs) ∧ RlA O H vs ds
  | .d kvs => ∃ ws, H p = some (.dK ws) ∧ RlK O H ws kvs
  | .h f => H p = some (f p) ∧ NotC p (some (f p))
  | .i C dx fs => ∃ gs, H p = some (.ins C dx gs) ∧ RlF O H gs fs
theorem OwnAt.ext {O O' : List Addr} {H H' : Hp} {p : Addr} (e : Ext O H O' H') (k : ∀ o, H p = some o → H' p = some o) : ∀ {w : Own}, OwnAt O H p w → OwnAt O' H' p w
  | .l _, ⟨vs, h1, h2⟩ => ⟨vs, k _ h1, h2.ext e⟩
  | .d _, ⟨vs, h1, h2⟩ => ⟨vs, k _ h1, h2.ext e⟩
  | .h _, h => ⟨k _ h.1, h.2⟩
  | .i _ _ _, ⟨vs, h1, h2⟩ => ⟨vs, k _ h1, h2.ext e⟩
theorem OwnAt.notC {O : List Addr} {H : Hp} {p : Addr} : ∀ {w : Own}, OwnAt O H p w → NotC p (H p)
  | .l _, ⟨vs, h1, _⟩ => by rw [h1]; exact notC_lst
  | .d _, ⟨vs, h1, _⟩ => by rw [h1]; exact notC_dK
  | .h _, ⟨h1, h2⟩ => by rw [h1]; exact h2
  | .i _ _ _, ⟨vs, h1, _⟩ => by rw [h1]; exact notC_ins
abbrev Sl := List (Option E)
def Big : Nat := 2 ^ 1048640
/-- what may change although the entry knew it: the deal's two lists, and tables of code objects, each with the name that it tells -/
structure FT where
  a : List Addr := []
  t : List (Addr × Str) := []
instance : Membership Addr FT := ⟨fun F b => b ∈ F.a⟩
def FT.non : FT := {}
def FT.deal (h a : Addr) : FT := ⟨[h, a], []⟩
/-- tables are as they should be, and nothing that may change is a code object -/
def TbOk (T : List (Addr × Str)) (O : List Addr) (H : Hp) : Prop := T = [] ∨ (LamX.Tabs T H ∧ ∀ b ∈ O, NotC b (H b) ∨ b ∈ T.map (·.1))
theorem TbOk.step {T : List (Addr × Str)} {O O' : List Addr} {H H' : Hp} (t : TbOk T O H) (keep : ∀ b o, b ∉ O → H b = some o → (∃ q, o = LamX.CodeO b q) → H' b = some o) (hT : ∀ p ∈ T, H' p.1 = H p.1)
    (hO : ∀ b ∈ O', (b ∈ O ∧ H' b = H b) ∨ NotC b (H' b) ∨ b ∈ T.map (·.1)) : TbOk T O' H' := by
  rcases t with t | ⟨t1, t2⟩
  · exact .inl t
  refine .inr ⟨fun p hp => ?_, fun b hb => ?_⟩
  · obtain ⟨ps, h1, h2, h3⟩ := t1 p hp
    refine ⟨ps, (hT p hp).trans h1, h2, fun pos cv hc => ?_⟩
    obtain ⟨c, e1, e2⟩ := h3 pos cv hc
    refine ⟨c, e1, keep c _ (fun hcO => ?_) e2 ⟨_, rfl⟩⟩
    rcases t2 c hcO with z | z
    · exact z.1 _ e2
    · obtain ⟨r, hr, er⟩ := List.mem_map.mp z
      obtain ⟨ps', g1, _⟩ := t1 r hr
      rw [er, e2] at g1
      unfold LamX.CodeO at g1
      cases g1
  · rcases hO b hb with ⟨y1, y2⟩ | y
    · rw [y2]
      exact t2 b y1
    · exact y
/-- all is kept -/
theorem TbOk.same {T : List (Addr × Str)} {O : List Addr} {H H' : Hp} (t : TbOk T O H) (al : ∀ b ∈ O, H b ≠ none) (k : ∀ b o, H b = some o → H' b = some o) : TbOk T O H' := by
  rcases t with t | t
  · exact .inl t
  have kk : ∀ b, H b ≠ none → H' b = H b := fun b hb => by
    cases e : H b with
    | none => exact absurd e hb
    | some o => exact k b o e
  refine TbOk.step (.inr t) (fun b o _ e _ => k b o e) (fun p hp => kk _ ?_) fun b hb => .inl ⟨hb, kk b (al b hb)⟩
  obtain ⟨ps, h1, _⟩ := t.1 p hp
  rw [h1]
  exact fun z => nomatch z
/-- fewer may change -/
theorem TbOk.sub {T : List (Addr × Str)} {O O' : List Addr} {H : Hp} (t : TbOk T O H) (h : ∀ b ∈ O', b ∈ O) : TbOk T O' H :=
  t.step (fun _ _ _ e _ => e) (fun _ _ => rfl) fun b hb => .inl ⟨h b hb, rfl⟩
/-- the deal's two lists -/
def DealL (h a : Addr) (H : Hp) : Prop := ∃ (st : Int) (ns : List Int), h ≠ a ∧ H h = some (.lst [.ref a, .int st]) ∧ H a = some (.lst (ns.map V.int)) ∧ 0 ≤ st ∧ st < 2147483647 ∧ ns.length ≤ 63 ∧ ∀ n ∈ ns, 0 ≤ n ∧ n.toNat < 2 ^ 1048640
def DealOk (F : FT) (H : Hp) : Prop := F.a = F.t.map (·.1) ∨ ∃ (h a : Addr) (st : Int) (ns : List Int), F.a = h :: a :: F.t.map (·.1) ∧ h ≠ a ∧ H h = some (.lst [.ref a, .int st]) ∧ H a = some (.lst (ns.map V.int)) ∧ 0 ≤ st ∧ st < 2147483647 ∧ ns.length ≤ 63 ∧ ∀ n ∈ ns, 0 ≤ n ∧ n.toNat < 2 ^ 1048640
def RE (F : FT) (O ps : List Addr) (H : Hp) (v : V) : E → Prop
  | .v d => Rl O H v d
  | .o k => ∃ p, v = .ref p ∧ ps[k]? = some p
  | .l => ∃ h a, F.a = h :: a :: F.t.map (·.1) ∧ v = .ref h
  | .rs n => ∃ q vs, v = .ref q ∧ q ∉ O ∧ H q = some (.lst vs) ∧ vs.length = n ∧ ∀ i, i < n → ∃ p, ps[1 + i]? = some p ∧ vs[i]? = some (.ref p)
structure St (F : FT) (O0 : List Addr) (H0 : Hp) (H : Hp) (om : Om) (σ : L2.St) (sl : Sl) (O ps : List Addr) : Prop where
  en : ∀ b o, b ∉ F → H0 b = some o → H b = some o
  fo : ∀ a ∈ O, a ∈ O0 ∨ H0 a = none
  oo : ∀ a ∈ O0, a ∈ O
  ff : ∀ a ∈ F, a ∈ O0 ∧ H0 a ≠ none
  al : ∀ a ∈ O, H a ≠ none
  len : ps.length = om.length
  own : ∀ (k : Nat) (w : Own), om[k]? = some (some w) → ∃ p, ps[k]? = some p ∧ (p ∈ O ∧ p ∉ O0) ∧ H0 p = none ∧ OwnAt O H p w
  inj : ∀ (j k : Nat) (p : Addr), ps[j]? = some p → ps[k]? = some p → j = k
  pa : ∀ (k : Nat) (p : Addr), ps[k]? = some p → H p ≠ none
  dl : DealOk F H
  slots : ∀ (i : Nat) (e : E), sl[i]? = some (some e) → ∃ v, σ[i]? = some (some v) ∧ RE F O ps H v e
  ln : σ.length = sl.length
  tb : TbOk F.t O H
/-- what one step leaves: the pins of the own lists stay, new ones come behind -/
structure Go (O ps : List Addr) (H : Hp) (O' ps' : List Addr) (H' : Hp) : Prop where
  ex : Ext O H O' H'
  pre : ∀ (k : Nat) (p : Addr), ps[k]? = some p → ps'[k]? = some p
theorem Go.refl (O ps : List Addr) (H : Hp) : Go O ps H O ps H := ⟨Ext.refl O H, fun _ _ h => h⟩
theorem Go.trans {O ps O1 ps1 O2 ps2 : List Addr} {H H1 H2 : Hp} (a : Go O ps H O1 ps1 H1) (b : Go O1 ps1 H1 O2 ps2 H2) : Go O ps H O2 ps2 H2 :=
  ⟨a.ex.trans b.ex, fun k p h => b.pre k p (a.pre k p h)⟩
theorem RE.go {F : FT} {O ps O' ps' : List Addr} {H H' : Hp} {v : V} : ∀ {e : E}, Go O ps H O' ps' H' → RE F O ps H v e → RE F O' ps' H' v e
  | .v _, g, h => Rl.ext g.ex h
  | .o k, g, ⟨p, e, h⟩ => ⟨p, e, g.pre k p h⟩
  | .l, _, h => h
  | .rs n, g, ⟨q, vs, e, h1, h2, h3, h4⟩ => ⟨q, vs, e, g.ex.out h1 (by rw [h2]; exact fun z => nomatch z), g.ex.keep _ _ h1 h2, h3, fun i hi => let ⟨p, e1, e2⟩ := h4 i hi; ⟨p, g.pre _ _ e1, e2⟩⟩
section
variable {F : FT} {O0 : List Addr} {H0 H : Hp} {om : Om} {σ : L2.St} {sl : Sl} {O ps : List Addr}
theorem St.nin (s : St F O0 H0 H om σ sl O ps) {p : Addr} (h : H p = none) : p ∉ O := fun z => s.al p z h
/-- a heap that holds all that the former held -/
theorem St.same (s : St F O0 H0 H om σ sl O ps) {H' : Hp} (k : ∀ b o, H b = some o → H' b = some o) : St F O0 H0 H' om σ sl O ps ∧ Go O ps H O ps H' := by
  have x : Ext O H O H' := ⟨fun b o _ h => k b o h, fun _ h => .inl h⟩
  have g : Go O ps H O ps H' := ⟨x, fun _ _ h => h⟩
  refine ⟨⟨fun b o hb h => k _ _ (s.en b o hb h), s.fo, s.oo, s.ff, fun a ha => ?_, s.len, fun i ds h => ?_, s.inj, fun i p h => ?_, ?_, fun i e h => ?_, s.ln, s.tb.same s.al k⟩, g⟩
  · intro z
    cases e : H a with
    | none => exact s.al a ha e
    | some o =>
      rw [k _ _ e] at z
      cases z
  · obtain ⟨p, h1, h2, h3, h4⟩ := s.own i ds h
    exact ⟨p, h1, h2, h3, h4.ext x fun o => k p o⟩
  · intro z
    cases e : H p with
    | none => exact s.pa i p h e
    | some o =>
      rw [k _ _ e] at z
      cases z
  · rcases s.dl with h | ⟨h, a, st, ns, h1, h2, h3, h4, h5⟩
    · exact .inl h
    · exact .inr ⟨h, a, st, ns, h1, h2, k _ _ h3, k _ _ h4, h5⟩
  · obtain ⟨v, h1, h2⟩ := s.slots i e h
    exact ⟨v, h1, h2.go g⟩
/-- a new object -/
theorem St.new (s : St F O0 H0 H om σ sl O ps) {p : Addr} {o : HO} (h : H p = none) : St F O0 H0 (upd H p o) om σ sl O ps ∧ Go O ps H O ps (upd H p o) :=
  s.same fun b u e => by
    rw [upd_ne (ne_of_none e h)]
    exact e
/-- a slot is set -/
theorem St.set (s : St F O0 H0 H om σ sl O ps) {i : Nat} {v : V} {e : E} (hi : i < sl.length) (r : RE F O ps H v e) : St F O0 H0 H om (σ.set i (some v)) (sl.set i (some e)) O ps := by
  refine ⟨s.en, s.fo, s.oo, s.ff, s.al, s.len, s.own, s.inj, s.pa, s.dl, fun j f h => ?_, by simp [s.ln], s.tb⟩
  by_cases c : i = j
  · subst c
    rw [List.getElem?_set_self hi] at h
    cases h
    exact ⟨v, List.getElem?_set_self (by rw [s.ln]; exact hi), r⟩
  · rw [List.getElem?_set_ne c] at h
    obtain ⟨w, h1, h2⟩ := s.slots j f h
    exact ⟨w, by rw [List.getElem?_set_ne c]; exact h1, h2⟩
/-- a slot is forgotten -/
theorem St.forget (s : St F O0 H0 H om σ sl O ps) (i : Nat) (x : Option V) : St F O0 H0 H om (σ.set i x) (sl.set i none) O ps := by
  refine ⟨s.en, s.fo, s.oo, s.ff, s.al, s.len, s.own, s.inj, s.pa, s.dl, fun j f h => ?_, by simp [s.ln], s.tb⟩
  by_cases c : i = j
  · subst c
    by_cases hi : i < sl.length
    · rw [List.getElem?_set_self hi] at h
      cases h
    · rw [List.getElem?_eq_none (by simp; omega)] at h
      cases h
  · rw [List.getElem?_set_ne c] at h
    obtain ⟨w, h1, h2⟩ := s.slots j f h
    exact ⟨w, by rw [List.getElem?_set_ne c]; exact h1, h2⟩
/-- slots known less -/
theorem St.less (s : St F O0 H0 H om σ sl O ps) {sl' : Sl} (hl : sl'.length = sl.length) (h : ∀ (i : Nat) (e : E), sl'[i]? = some (some e) → sl[i]? = some (some e)) : St F O0 H0 H om σ sl' O ps :=
  ⟨s.en, s.fo, s.oo, s.ff, s.al, s.len, s.own, s.inj, s.pa, s.dl, fun i e q => s.slots i e (h i e q), by rw [hl]; exact s.ln, s.tb⟩
/-- what is at a new object of one's own -/
theorem ext_new {O : List Addr} {H : Hp} {p : Addr} (o : HO) (h : H p = none) : Ext O H (p :: O) (upd H p o) := ⟨fun b u _ e => by
    rw [upd_ne (ne_of_none e h)]
    exact e, fun q hq => by
    rcases List.mem_cons.mp hq with z | z
    · rw [z]
      exact .inr h
    · exact .inl z⟩
/-- a new object of the def's own -/
theorem St.newOwnW (s : St F O0 H0 H om σ sl O ps) {p : Addr} {u : HO} {ds : Own} (h : H p = none) (r : OwnAt (p :: O) (upd H p u) p ds) :
    St F O0 H0 (upd H p u) (om ++ [some ds]) σ sl (p :: O) (ps ++ [p]) ∧ Go O ps H (p :: O) (ps ++ [p]) (upd H p u) ∧ RE F (p :: O) (ps ++ [p]) (upd H p u) (.ref p) (.o om.length) := by
  have k : ∀ b o, H b = some o → upd H p u b = some o := fun b u e => by
    rw [upd_ne (ne_of_none e h)]
    exact e
  have x : Ext O H (p :: O) (upd H p u) := ⟨fun b o _ e => k b o e, fun q hq => by
    rcases List.mem_cons.mp hq with z | z
    · rw [z]
      exact .inr h
    · exact .inl z⟩
  have hp0 : H0 p = none := by
    cases e : H0 p with
    | none => rfl
    | some o =>
      by_cases hF : p ∈ F
      · exact absurd (s.oo _ (s.ff _ hF).1) (s.nin h)
      · rw [s.en p o hF e] at h
        cases h
  have pn : ∀ k : Nat, ps[k]? ≠ some p := fun k e => s.pa k p e h
  have g : Go O ps H (p :: O) (ps ++ [p]) (upd H p u) := ⟨x, fun k q e => by
    have hk : k < ps.length := (List.getElem?_eq_some_iff.mp e).1
    rw [List.getElem?_append_left hk]
    exact e⟩
  have at_ : ∀ (k : Nat) (q : Addr), (ps ++ [p])[k]? = some q → ps[k]? = some q ∨ (k = ps.length ∧ q = p) := fun k q e => by
    by_cases hk : k < ps.length
    · rw [List.getElem?_append_left hk] at e
      exact .inl e
    · rw [List.getElem?_append_right (by omega)] at e
      have z : k - ps.length = 0 := by
        cases c : k - ps.length with
        | zero => rfl
        | succ j =>
          rw [c] at e
          simp at e
      rw [z] at e
      exact .inr ⟨by omega, (Option.some.inj (by simpa using e)).symm⟩
  refine ⟨⟨fun b o hb e => k _ _ (s.en b o hb e), fun a ha => ?_, fun a ha => List.mem_cons_of_mem _ (s.oo a ha), s.ff, fun a ha => ?_, by simp [s.len], fun i es e => ?_, fun i j q e1 e2 => ?_, fun i q e => ?_, ?_, fun i f e => ?_, s.ln, ?_⟩, g, p, rfl, ?_⟩
  · rcases List.mem_cons.mp ha with z | z
    · rw [z]
      exact .inr hp0
    · exact s.fo a z
  · rcases List.mem_cons.mp ha with z | z
    · rw [z, upd_same]
      exact fun y => nomatch y
    · intro y
      cases c : H a with
      | none => exact s.al a z c
      | some o =>
        rw [k _ _ c] at y
        cases y
  · by_cases hi : i < om.length
    · rw [List.getElem?_append_left hi] at e
      obtain ⟨q, h1, h2, h3, h4⟩ := s.own i es e
      exact ⟨q, g.pre i q h1, ⟨List.mem_cons_of_mem _ h2.1, h2.2⟩, h3, h4.ext x fun o => k q o⟩
    · rw [List.getElem?_append_right (by omega)] at e
      have z : i - om.length = 0 := by
        cases c : i - om.length with
        | zero => rfl
        | succ j =>
          rw [c] at e
          simp at e
      rw [z] at e
      have e' : ds = es := by simpa using e
      subst e'
      have ei : i = ps.length := by rw [s.len]; omega
      refine ⟨p, by rw [ei]; simp, ⟨List.mem_cons_self .., fun z => s.nin h (s.oo _ z)⟩, hp0, r⟩
  · rcases at_ i q e1 with z1 | ⟨z1, z2⟩ <;> rcases at_ j q e2 with y1 | ⟨y1, y2⟩
    · exact s.inj i j q z1 y1
    · exact absurd (y2 ▸ z1) (pn i)
    · exact absurd (z2 ▸ y1) (pn j)
    · omega
  · rcases at_ i q e with z | ⟨_, z⟩
    · intro y
      cases c : H q with
      | none => exact s.pa i q z c
      | some o =>
        rw [k _ _ c] at y
        cases y
    · rw [z, upd_same]
      exact fun y => nomatch y
  · rcases s.dl with e | ⟨h', a, st, ns, h1, h2, h3, h4, h5⟩
    · exact .inl e
    · exact .inr ⟨h', a, st, ns, h1, h2, k _ _ h3, k _ _ h4, h5⟩
  · obtain ⟨v, h1, h2⟩ := s.slots i f e
    exact ⟨v, h1, h2.go g⟩
  · have t1 := s.tb.same s.al k
    refine t1.step (fun _ _ _ e _ => e) (fun _ _ => rfl) fun b hb => ?_
    rcases List.mem_cons.mp hb with z | z
    · rw [z]
      exact .inr (.inl r.notC)
    · exact .inl ⟨z, rfl⟩
  · rw [← s.len]
    simp
/-- a new list of the def's own -/
theorem St.newOwn (s : St F O0 H0 H om σ sl O ps) {p : Addr} {vs : List V} {ds : List D} (h : H p = none) (r : RlA O H vs ds) :
    St F O0 H0 (upd H p (.lst vs)) (om ++ [some (.l ds)]) σ sl (p :: O) (ps ++ [p]) ∧ Go O ps H (p :: O) (ps ++ [p]) (upd H p (.lst vs)) ∧ RE F (p :: O) (ps ++ [p]) (upd H p (.lst vs)) (.ref p) (.o om.length) :=
  s.newOwnW h ⟨vs, upd_same, r.ext (ext_new _ h)⟩
/-- the last own list becomes data -/
theorem St.freeze {ds : List D} (s : St F O0 H0 H (om ++ [some (.l ds)]) σ sl O ps) (hs : ∀ (i k : Nat), sl[i]? = some (some (.o k)) → k < om.length) (hs2 : ∀ (i n : Nat), sl[i]? = some (some (.rs n)) → ∀ j, j < n → 1 + j < om.length) {p : Addr} (hp : ps[om.length]? = some p) :
    St F O0 H0 H om σ sl (O.filter fun a => decide (a ≠ p)) (ps.take om.length) ∧ Ext O H (O.filter fun a => decide (a ≠ p)) H ∧ Rl (O.filter fun a => decide (a ≠ p)) H (.ref p) (.lst ds) := by
  have hf : ∀ {a : Addr}, a ∈ (O.filter fun a => decide (a ≠ p)) ↔ a ∈ O ∧ a ≠ p := fun {a} => by simp [List.mem_filter]
  have x : Ext O H (O.filter fun a => decide (a ≠ p)) H := ⟨fun _ _ _ h => h, fun a ha => .inl (hf.mp ha).1⟩
  obtain ⟨q, e1, e2, e3, vs, e4, e5⟩ := s.own om.length (.l ds) (by simp)
  have eq : q = p := Option.some.inj (e1.symm.trans hp)
  subst eq
  have tk : ∀ (k : Nat) (r : Addr), (ps.take om.length)[k]? = some r → k < om.length ∧ ps[k]? = some r := fun k r h => by
    by_cases hk : k < om.length
    · rw [List.getElem?_take_of_lt hk] at h
      exact ⟨hk, h⟩
    · rw [List.getElem?_eq_none (by rw [List.length_take]; omega)] at h
      cases h
  have kt : ∀ (k : Nat) (r : Addr), k < om.length → ps[k]? = some r → (ps.take om.length)[k]? = some r := fun k r hk h => by
    rw [List.getElem?_take_of_lt hk]
    exact h
  refine ⟨⟨s.en, fun a ha => s.fo a (hf.mp ha).1, fun a ha => hf.mpr ⟨s.oo a ha, fun z => e2.2 (z ▸ ha)⟩, s.ff, fun a ha => s.al a (hf.mp ha).1, ?_, fun k es h => ?_, fun j k r h1 h2 => s.inj j k r (tk j r h1).2 (tk k r h2).2, fun k r h => s.pa k r (tk k r h).2, s.dl, fun i e h => ?_, s.ln, s.tb.sub fun b hb => (hf.mp hb).1⟩, x, ?_⟩
  · rw [List.length_take, s.len]
    simp
  · have hk : k < om.length := (List.getElem?_eq_some_iff.mp h).1
    obtain ⟨r, g1, g2, g3, g4⟩ := s.own k es (by rw [List.getElem?_append_left hk]; exact h)
    refine ⟨r, kt k r hk g1, ⟨hf.mpr ⟨g2.1, fun z => ?_⟩, g2.2⟩, g3, g4.ext x fun _ h => h⟩
    have := s.inj k om.length q (z ▸ g1) hp
    omega
  · obtain ⟨v, h1, h2⟩ := s.slots i e h
    refine ⟨v, h1, ?_⟩
    cases e with
    | v d => exact Rl.ext x h2
    | o k =>
      obtain ⟨r, e, h3⟩ := h2
      exact ⟨r, e, kt k r (hs i k h) h3⟩
    | l => exact h2
    | rs n =>
      obtain ⟨q', vs', e', g1, g2, g3, g4⟩ := h2
      exact ⟨q', vs', e', fun z => g1 (hf.mp z).1, g2, g3, fun j hj => let ⟨r, z1, z2⟩ := g4 j hj; ⟨r, kt _ r (hs2 i n h j hj) z1, z2⟩⟩
  · exact Rl.lst (fun z => (hf.mp z).2 rfl) e4 (e5.ext x)
/-- what stays where one of its own is changed -/
theorem ext_write {O : List Addr} {H : Hp} {p : Addr} (u : HO) (h : p ∈ O) : Ext O H O (upd H p u) := ⟨fun b o hb e => by
    rw [upd_ne (fun z => by
      rw [z] at hb
      exact hb h)]
    exact e, fun _ h => .inl h⟩
/-- an own object is changed -/
theorem St.writeW (s : St F O0 H0 H om σ sl O ps) {k : Nat} {ds ds' : Own} {p : Addr} {u : HO} (ho : om[k]? = some (some ds)) (hp : ps[k]? = some p) (r : OwnAt O (upd H p u) p ds') :
    St F O0 H0 (upd H p u) (om.set k (some ds')) σ sl O ps ∧ Go O ps H O ps (upd H p u) := by
  obtain ⟨p', h1, h2, h3, h4⟩ := s.own k ds ho
  have ep : p' = p := Option.some.inj (h1.symm.trans hp)
  subst ep
  have x : Ext O H O (upd H p' u) := ext_write u h2.1
  have g : Go O ps H O ps (upd H p' u) := ⟨x, fun _ _ e => e⟩
  have hk : k < om.length := (List.getElem?_eq_some_iff.mp ho).1
  have nF : p' ∉ F := fun z => (s.ff _ z).2 h3
  refine ⟨⟨fun b o hb e => ?_, s.fo, s.oo, s.ff, fun a ha => ?_, by simp [s.len], fun i es e => ?_, s.inj, fun i q e => ?_, ?_, fun i f e => ?_, s.ln, ?_⟩, g⟩
  · rw [upd_ne (fun z => by
      rw [z, h3] at e
      cases e)]
    exact s.en b o hb e
  · by_cases c : a = p'
    · rw [c, upd_same]
      exact fun y => nomatch y
    · rw [upd_ne c]
      exact s.al a ha
  · by_cases c : k = i
    · subst c
      rw [List.getElem?_set_self hk] at e
      have e' : ds' = es := by simpa using e
      subst e'
      exact ⟨p', hp, h2, h3, r⟩
    · rw [List.getElem?_set_ne c] at e
      obtain ⟨q, g1, g2, g3, g4⟩ := s.own i es e
      have nq : q ≠ p' := fun z => c (s.inj k i p' hp (z ▸ g1))
      exact ⟨q, g1, g2, g3, g4.ext x fun o h => by rw [upd_ne nq]; exact h⟩
  · by_cases c : q = p'
    · rw [c, upd_same]
      exact fun y => nomatch y
    · rw [upd_ne c]
      exact s.pa i q e
  · rcases s.dl with e | ⟨h', a, st, ns, e1, e2, e3, e4, e5⟩
    · exact .inl e
    · refine .inr ⟨h', a, st, ns, e1, e2, ?_, ?_, e5⟩
      · rw [upd_ne (fun z => nF (show _ ∈ F.a by rw [e1, ← z]; simp))]
        exact e3
      · rw [upd_ne (fun z => nF (show _ ∈ F.a by rw [e1, ← z]; simp))]
        exact e4
  · obtain ⟨v, e1, e2⟩ := s.slots i f e
    exact ⟨v, e1, e2.go g⟩
  · rcases s.tb with z | ⟨t1, t2⟩
    · exact .inl z
    refine TbOk.step (.inr ⟨t1, t2⟩) (fun b o hb e _ => x.keep b o hb e) (fun q hq => ?_) fun b hb => ?_
    · refine upd_ne (fun z => ?_)
      obtain ⟨ps', g1, _⟩ := t1 q hq
      rw [z] at g1
      exact h4.notC.2 _ g1
    · by_cases c : b = p'
      · rw [c]
        exact .inr (.inl r.notC)
      · exact .inl ⟨hb, upd_ne c⟩
/-- an own list is changed -/
theorem St.write (s : St F O0 H0 H om σ sl O ps) {k : Nat} {ds ds' : List D} {p : Addr} {vs' : List V} (ho : om[k]? = some (some (.l ds))) (hp : ps[k]? = some p) (r : RlA O H vs' ds') :
    St F O0 H0 (upd H p (.lst vs')) (om.set k (some (.l ds'))) σ sl O ps ∧ Go O ps H O ps (upd H p (.lst vs')) := by
  obtain ⟨p', h1, h2, h3, h4⟩ := s.own k (.l ds) ho
  have ep : p' = p := Option.some.inj (h1.symm.trans hp)
  subst ep
  exact s.writeW ho hp ⟨vs', upd_same, r.ext (ext_write _ h2.1)⟩
/-- an own list, read -/
theorem St.ownL (s : St F O0 H0 H om σ sl O ps) {k : Nat} {ds : List D} (ho : om[k]? = some (some (.l ds))) : ∃ p vs, ps[k]? = some p ∧ (p ∈ O ∧ p ∉ O0) ∧ H0 p = none ∧ H p = some (.lst vs) ∧ RlA O H vs ds := by
  obtain ⟨p, h1, h2, h3, vs, h4, h5⟩ := s.own k (.l ds) ho
  exact ⟨p, vs, h1, h2, h3, h4, h5⟩
end
end DL
set_option Elab.async false
set_option linter.all false
set_option maxRecDepth 100000
set_option maxHeartbeats 4000000
namespace DL
open PySem PySem.Spec PyProof.Rows L2
/-! ### what is asked of a piece: P holds of what it gives -/
structure Po where
  n : Om → Sl → Prop := fun _ _ => False
  r : E → Om → Prop := fun _ _ => False
  b : Om → Sl → Prop := fun _ _ => False
  c : Om → Sl → Prop := fun _ _ => False
  x : Addr → Str → D → Prop := fun _ _ _ => False
/-- the fixed part: the deal's lists, the lists of others, the entry's heap, the wish of exceptions -/
structure Cn where
  F : FT
  O0 : List Addr
  H0 : Hp
  K : PySem.W.Frag
abbrev RA (F : FT) (O ps : List Addr) (H : Hp) : List V → List E → Prop := Paired (RE F O ps H)
def EV (c : Cn) (te : TE) (om : Om) (sl : Sl) (P : E → Om → Prop) : Prop := ∀ σ H O ps, St c.F c.O0 c.H0 H om σ sl O ps → ∀ Q : VK,
  (∀ v H' O' ps' e om', Go O ps H O' ps' H' → St c.F c.O0 c.H0 H' om' σ sl O' ps' → RE c.F O' ps' H' v e → P e om' → Q v H') → te σ H Q
def ET (c : Cn) (tt : TT) (om : Om) (sl : Sl) (P : Bool → Om → Prop) : Prop := ∀ σ H O ps, St c.F c.O0 c.H0 H om σ sl O ps → ∀ Q : Bool → Hp → Prop,
  (∀ b H' O' ps' om', Go O ps H O' ps' H' → St c.F c.O0 c.H0 H' om' σ sl O' ps' → P b om' → Q b H') → tt σ H Q
def EA (c : Cn) (ta : TA) (om : Om) (sl : Sl) (P : List E → Om → Prop) : Prop := ∀ σ H O ps, St c.F c.O0 c.H0 H om σ sl O ps → ∀ Q : List V → Hp → Prop,
  (∀ vs H' O' ps' es om', Go O ps H O' ps' H' → St c.F c.O0 c.H0 H' om' σ sl O' ps' → RA c.F O' ps' H' vs es → P es om' → Q vs H') → ta σ H Q
/-- by values: operators, calls -/
def OV (c : Cn) (r : R2) (om : Om) (sl : Sl) (x y : E) (P : E → Om → Prop) : Prop := ∀ σ H O ps, St c.F c.O0 c.H0 H om σ sl O ps → ∀ v w, RE c.F O ps H v x → RE c.F O ps H w y → ∀ Q : VK,
  (∀ v H' O' ps' e om', Go O ps H O' ps' H' → St c.F c.O0 c.H0 H' om' σ sl O' ps' → RE c.F O' ps' H' v e → P e om' → Q v H') → r v w H Q
def UV (c : Cn) (r : V → Hp → VK → Prop) (om : Om) (sl : Sl) (x : E) (P : E → Om → Prop) : Prop := ∀ σ H O ps, St c.F c.O0 c.H0 H om σ sl O ps → ∀ v, RE c.F O ps H v x → ∀ Q : VK,
  (∀ v H' O' ps' e om', Go O ps H O' ps' H' → St c.F c.O0 c.H0 H' om' σ sl O' ps' → RE c.F O' ps' H' v e → P e om' → Q v H') → r v H Q
def CV (c : Cn) (r : List V → Hp → VK → Prop) (om : Om) (sl : Sl) (xs : List E) (P : E → Om → Prop) : Prop := ∀ σ H O ps, St c.F c.O0 c.H0 H om σ sl O ps → ∀ vs, RA c.F O ps H vs xs → ∀ Q : VK,
  (∀ v H' O' ps' e om', Go O ps H O' ps' H' → St c.F c.O0 c.H0 H' om' σ sl O' ps' → RE c.F O' ps' H' v e → P e om' → Q v H') → r vs H Q
def MV (c : Cn) (r : V → List V → Hp → VK → Prop) (om : Om) (sl : Sl) (x : E) (xs : List E) (P : E → Om → Prop) : Prop := ∀ σ H O ps, St c.F c.O0 c.H0 H om σ sl O ps → ∀ v vs, RE c.F O ps H v x → RA c.F O ps H vs xs → ∀ Q : VK,
  (∀ v H' O' ps' e om', Go O ps H O' ps' H' → St c.F c.O0 c.H0 H' om' σ sl O' ps' → RE c.F O' ps' H' v e → P e om' → Q v H') → r v vs H Q
/-- a statement: the wish Ex of exceptions holds of what P.x says -/
def SV (c : Cn) (Ex : XK) (t : TS) (om : Om) (sl : Sl) (P : Po) : Prop := ∀ σ H O ps (Dn : Ends), St c.F c.O0 c.H0 H om σ sl O ps →
  (∀ σ' H' O' ps' om' sl', Go O ps H O' ps' H' → St c.F c.O0 c.H0 H' om' σ' sl' O' ps' → P.n om' sl' → Dn.nx σ' H') →
  (∀ v σ' sl' H' O' ps' e om', Go O ps H O' ps' H' → St c.F c.O0 c.H0 H' om' σ' sl' O' ps' → RE c.F O' ps' H' v e → P.r e om' → Dn.rt v H') →
  (∀ σ' H' O' ps' om' sl', Go O ps H O' ps' H' → St c.F c.O0 c.H0 H' om' σ' sl' O' ps' → P.b om' sl' → Dn.bk σ' H') →
  (∀ σ' H' O' ps' om' sl', Go O ps H O' ps' H' → St c.F c.O0 c.H0 H' om' σ' sl' O' ps' → P.c om' sl' → Dn.ct σ' H') →
  (∀ C f x d v H1 H2 O' ps', Go O ps H O' ps' H1 → ((∃ om' σ' sl', St c.F c.O0 c.H0 H1 om' σ' sl' O' ps') ∧ P.x C f x) → Rl O' H1 v x → H1 d = none → H2 = upd H1 d (.xd [(f, v)]) → Ex (.ref C) (some d) H2) → t Dn σ H
section
variable {c : Cn} {Ex : XK} {om : Om} {sl : Sl} {P : E → Om → Prop} {PB : Bool → Om → Prop} {PA : List E → Om → Prop} {ta tb te tc' : TE} {tt tu : TT} {tr : TA} {x y : E}

/-! ### expressions -/
theorem ev_var {i : Nat} {e : E} (h : sl[i]? = some (some e)) (p : P e om) : EV c (tVar i) om sl P := fun σ H O ps s Q k => by
  obtain ⟨v, h1, h2⟩ := s.slots i e h
  exact ⟨v, h1, k v H O ps e om (Go.refl ..) s h2 p⟩
theorem ev_int {i : Int} (p : P (.v (.int i)) om) : EV c (tC (.int i)) om sl P := fun σ H O ps s Q k => k _ H O ps (.v (.int i)) om (Go.refl ..) s (Rl.int i) p
theorem ev_str {i : Str} (p : P (.v (.str i)) om) : EV c (tC (.str i)) om sl P := fun σ H O ps s Q k => k _ H O ps (.v (.str i)) om (Go.refl ..) s (Rl.str i) p
theorem ev_bl {i : Bool} (p : P (.v (.bl i)) om) : EV c (tC (.bl i)) om sl P := fun σ H O ps s Q k => k _ H O ps (.v (.bl i)) om (Go.refl ..) s (Rl.bl i) p
theorem ev_non (p : P (.v .non) om) : EV c (tC .non) om sl P := fun σ H O ps s Q k => k _ H O ps (.v .non) om (Go.refl ..) s Rl.non p
theorem ev_op {r : R2} (h : EV c ta om sl fun x om1 => EV c tb om1 sl fun y om2 => OV c r om2 sl x y P) : EV c (tOp r ta tb) om sl P := fun σ H O ps s Q k =>
  h σ H O ps s _ fun v H1 O1 ps1 e om1 g1 s1 r1 h1 => h1 σ H1 O1 ps1 s1 _ fun w H2 O2 ps2 f om2 g2 s2 r2 h2 => h2 σ H2 O2 ps2 s2 v w (r1.go g2) r2 Q fun z H3 O3 ps3 e3 om3 g3 s3 r3 p => k z H3 O3 ps3 e3 om3 ((g1.trans g2).trans g3) s3 r3 p
theorem ev_un {r : V → Hp → VK → Prop} (h : EV c ta om sl fun x om1 => UV c r om1 sl x P) : EV c (tUn r ta) om sl P := fun σ H O ps s Q k =>
  h σ H O ps s _ fun v H1 O1 ps1 e om1 g1 s1 r1 h1 => h1 σ H1 O1 ps1 s1 v r1 Q fun z H3 O3 ps3 e3 om3 g3 s3 r3 p => k z H3 O3 ps3 e3 om3 (g1.trans g3) s3 r3 p
theorem ea_nil (p : PA [] om) : EA c tNil om sl PA := fun σ H O ps s Q k => k [] H O ps [] om (Go.refl ..) s .nil p
theorem ra_go {F : FT} {O ps O' ps' : List Addr} {H H' : Hp} (g : Go O ps H O' ps' H') : ∀ {vs : List V} {es : List E}, RA F O ps H vs es → RA F O' ps' H' vs es
  | _, _, .nil => .nil
  | _, _, .cons h t => .cons (h.go g) (ra_go g t)
theorem ea_cons (h : EV c ta om sl fun x om1 => EA c tr om1 sl fun xs om2 => PA (x :: xs) om2) : EA c (tCons ta tr) om sl PA := fun σ H O ps s Q k =>
  h σ H O ps s _ fun v H1 O1 ps1 e om1 g1 s1 r1 h1 => h1 σ H1 O1 ps1 s1 _ fun vs H2 O2 ps2 es om2 g2 s2 r2 p => k (v :: vs) H2 O2 ps2 _ om2 (g1.trans g2) s2 (.cons (r1.go g2) r2) p
theorem ev_cb {r : List V → Hp → VK → Prop} (h : EA c tr om sl fun xs om1 => CV c r om1 sl xs P) : EV c (tCB r tr) om sl P := fun σ H O ps s Q k =>
  h σ H O ps s _ fun vs H1 O1 ps1 es om1 g1 s1 r1 h1 => h1 σ H1 O1 ps1 s1 vs r1 Q fun z H3 O3 ps3 e3 om3 g3 s3 r3 p => k z H3 O3 ps3 e3 om3 (g1.trans g3) s3 r3 p
theorem ev_call {sp : Sp} {Ew : XK} (h : EA c tr om sl fun xs om1 => CV c (fun vs H Q => sp vs H Q Ew) om1 sl xs P) : EV c (tCall sp [] Ew tr) om sl P := fun σ H O ps s Q k =>
  h σ H O ps s _ fun vs H1 O1 ps1 es om1 g1 s1 r1 h1 => by
    show sp (vs ++ []) H1 Q Ew
    rw [List.append_nil]
    exact h1 σ H1 O1 ps1 s1 vs r1 Q fun z H3 O3 ps3 e3 om3 g3 s3 r3 p => k z H3 O3 ps3 e3 om3 (g1.trans g3) s3 r3 p
theorem ev_if (h : ET c tt om sl fun b om1 => (b = true → EV c ta om1 sl P) ∧ (b = false → EV c tb om1 sl P)) : EV c (tIf tt ta tb) om sl P := fun σ H O ps s Q k =>
  h σ H O ps s _ fun b H1 O1 ps1 om1 g1 s1 h1 => by
    cases b with
    | true =>
      show ta σ H1 Q
      exact h1.1 rfl σ H1 O1 ps1 s1 Q fun z H3 O3 ps3 e3 om3 g3 s3 r3 p => k z H3 O3 ps3 e3 om3 (g1.trans g3) s3 r3 p
    | false =>
      show tb σ H1 Q
      exact h1.2 rfl σ H1 O1 ps1 s1 Q fun z H3 O3 ps3 e3 om3 g3 s3 r3 p => k z H3 O3 ps3 e3 om3 (g1.trans g3) s3 r3 p
theorem ev_mono {P' : E → Om → Prop} (h : EV c te om sl P) (i : ∀ e om', P e om' → P' e om') : EV c te om sl P' := fun σ H O ps s Q k => h σ H O ps s Q fun v H' O' ps' e om' g s' r p => k v H' O' ps' e om' g s' r (i e om' p)
/-! tests -/
theorem et_test (h : EV c te om sl fun e om1 => ∃ b, e = .v (.bl b) ∧ PB b om1) : ET c (tTest te) om sl PB := fun σ H O ps s Q k =>
  h σ H O ps s _ fun v H1 O1 ps1 e om1 g1 s1 r1 ⟨b, he, p⟩ => by
    subst he
    cases r1
    exact ⟨b, rfl, k b H1 O1 ps1 om1 g1 s1 p⟩
theorem et_B (h : EV c te om sl fun e om1 => ∃ b, e = .v (.bl b) ∧ PB b om1) : ET c (tB te) om sl PB := fun σ H O ps s Q k =>
  h σ H O ps s _ fun v H1 O1 ps1 e om1 g1 s1 r1 ⟨b, he, p⟩ => by
    subst he
    cases r1
    exact ⟨b, rfl, k b H1 O1 ps1 om1 g1 s1 p⟩
theorem et_and (h : ET c tt om sl fun b om1 => (b = true → ET c tu om1 sl PB) ∧ (b = false → PB false om1)) : ET c (tAnd tt tu) om sl PB := fun σ H O ps s Q k =>
  h σ H O ps s _ fun b H1 O1 ps1 om1 g1 s1 h1 => by
    cases b with
    | true =>
      show tu σ H1 Q
      exact h1.1 rfl σ H1 O1 ps1 s1 Q fun b H3 O3 ps3 om3 g3 s3 p => k b H3 O3 ps3 om3 (g1.trans g3) s3 p
    | false =>
      show Q false H1
      exact k false H1 O1 ps1 om1 g1 s1 (h1.2 rfl)
theorem et_or (h : ET c tt om sl fun b om1 => (b = false → ET c tu om1 sl PB) ∧ (b = true → PB true om1)) : ET c (tOr tt tu) om sl PB := fun σ H O ps s Q k =>
  h σ H O ps s _ fun b H1 O1 ps1 om1 g1 s1 h1 => by
    cases b with
    | false =>
      show tu σ H1 Q
      exact h1.1 rfl σ H1 O1 ps1 s1 Q fun b H3 O3 ps3 om3 g3 s3 p => k b H3 O3 ps3 om3 (g1.trans g3) s3 p
    | true =>
      show Q true H1
      exact k true H1 O1 ps1 om1 g1 s1 (h1.2 rfl)
theorem et_not (h : ET c tt om sl fun b om1 => PB (!b) om1) : ET c (tNot tt) om sl PB := fun σ H O ps s Q k =>
  h σ H O ps s _ fun b H1 O1 ps1 om1 g1 s1 p => k (!b) H1 O1 ps1 om1 g1 s1 p
/-! and, or, not as values of truth -/
theorem ev_andV (h : EV c ta om sl fun e om1 => ∃ b, e = .v (.bl b) ∧ (b = true → EV c tb om1 sl P) ∧ (b = false → P (.v (.bl false)) om1)) : EV c (tAndV ta tb) om sl P := fun σ H O ps s Q k =>
  h σ H O ps s _ fun v H1 O1 ps1 e om1 g1 s1 r1 ⟨b, he, h1, h2⟩ => by
    subst he
    cases r1
    refine ⟨b, rfl, ?_⟩
    cases b with
    | true =>
      show tb σ H1 Q
      exact h1 rfl σ H1 O1 ps1 s1 Q fun z H3 O3 ps3 e3 om3 g3 s3 r3 p => k z H3 O3 ps3 e3 om3 (g1.trans g3) s3 r3 p
    | false =>
      show Q (.bl false) H1
      exact k _ H1 O1 ps1 (.v (.bl false)) om1 g1 s1 (Rl.bl false) (h2 rfl)
theorem ev_orV (h : EV c ta om sl fun e om1 => ∃ b, e = .v (.bl b) ∧ (b = false → EV c tb om1 sl P) ∧ (b = true → P (.v (.bl true)) om1)) : EV c (tOrV ta tb) om sl P := fun σ H O ps s Q k =>
  h σ H O ps s _ fun v H1 O1 ps1 e om1 g1 s1 r1 ⟨b, he, h1, h2⟩ => by
    subst he
    cases r1
    refine ⟨b, rfl, ?_⟩
    cases b with
    | false =>
      show tb σ H1 Q
      exact h1 rfl σ H1 O1 ps1 s1 Q fun z H3 O3 ps3 e3 om3 g3 s3 r3 p => k z H3 O3 ps3 e3 om3 (g1.trans g3) s3 r3 p
    | true =>
      show Q (.bl true) H1
      exact k _ H1 O1 ps1 (.v (.bl true)) om1 g1 s1 (Rl.bl true) (h2 rfl)
theorem ev_notV (h : EV c ta om sl fun e om1 => ∃ b, e = .v (.bl b) ∧ P (.v (.bl (!b))) om1) : EV c (tNotV ta) om sl P := fun σ H O ps s Q k =>
  h σ H O ps s _ fun v H1 O1 ps1 e om1 g1 s1 r1 ⟨b, he, p⟩ => by
    subst he
    cases r1
    exact ⟨b, rfl, k _ H1 O1 ps1 (.v (.bl (!b))) om1 g1 s1 (Rl.bl _) p⟩
/-! displays -/
/-- all of them data -/
theorem ra_data {F : FT} {O ps : List Addr} {H : Hp} : ∀ {vs : List V} {ds : List D}, RA F O ps H vs (ds.map E.v) → RlA O H vs ds
  | _, [], .nil => .nil
  | _, d :: ds, .cons h t => .cons h (ra_data (ds := ds) t)
def unv : List E → Option (List D)
  | [] => some []
  | .v d :: r => match unv r with
    | some ds => some (d :: ds)
    | none => none
  | _ :: _ => none
theorem unv_eq : ∀ {xs : List E} {ds : List D}, unv xs = some ds → xs = ds.map E.v
  | [], ds, h => by
    cases h
    rfl
  | .v d :: r, ds, h => by
    unfold unv at h
    split at h
    · rename_i es e
      cases h
      rw [unv_eq e]
      rfl
    · cases h
  | .o _ :: _, _, h => by cases h
  | .l :: _, _, h => by cases h
  | .rs _ :: _, _, h => by cases h
theorem ev_tup (h : EA c tr om sl fun xs om1 => ∃ ds, unv xs = some ds ∧ ds.length ≤ 1000 ∧ P (.v (.tup ds)) om1) : EV c (tTup tr) om sl P := fun σ H O ps s Q k =>
  h σ H O ps s _ fun vs H1 O1 ps1 es om1 g1 s1 r1 ⟨ds, he, hl, p⟩ => by
    have he := unv_eq he
    subst he
    have ra := ra_data r1
    refine ⟨by rw [ra.len]; exact Nat.le_of_lt (small1000 hl), fun q hq => ?_⟩
    obtain ⟨s2, g2⟩ := s1.new (o := .tup vs) hq
    exact k _ _ O1 ps1 (.v (.tup ds)) om1 (g1.trans g2) s2 (Rl.tup (s1.nin hq) (.inl upd_same) (ra.ext g2.ex)) p
theorem ev_lst (h : EA c tr om sl fun xs om1 => ∃ ds, unv xs = some ds ∧ ds.length ≤ 1000 ∧ P (.v (.lst ds)) om1) : EV c (tLst tr) om sl P := fun σ H O ps s Q k =>
  h σ H O ps s _ fun vs H1 O1 ps1 es om1 g1 s1 r1 ⟨ds, he, hl, p⟩ => by
    have he := unv_eq he
    subst he
    have ra := ra_data r1
    refine ⟨by rw [ra.len]; exact Nat.le_of_lt (small1000 hl), fun q hq => ?_⟩
    obtain ⟨s2, g2⟩ := s1.new (o := .lst vs) hq
    exact k _ _ O1 ps1 (.v (.lst ds)) om1 (g1.trans g2) s2 (Rl.lst (s1.nin hq) upd_same (ra.ext g2.ex)) p
/-- a display that is the def's own from now on -/
theorem ev_lstO (h : EA c tr om sl fun xs om1 => ∃ ds, unv xs = some ds ∧ ds.length ≤ 1000 ∧ P (.o om1.length) (om1 ++ [some (.l ds)])) : EV c (tLst tr) om sl P := fun σ H O ps s Q k =>
  h σ H O ps s _ fun vs H1 O1 ps1 es om1 g1 s1 r1 ⟨ds, he, hl, p⟩ => by
    have he := unv_eq he
    subst he
    have ra := ra_data r1
    refine ⟨by rw [ra.len]; exact Nat.le_of_lt (small1000 hl), fun q hq => ?_⟩
    obtain ⟨s2, g2, r2⟩ := s1.newOwn hq ra
    exact k _ _ _ _ _ _ (g1.trans g2) s2 r2 p
/-- an attribute of an object -/
theorem ev_fld {f : Str} (h : EV c ta om sl fun e om1 => ∃ C fs d, e = .v (.obj C fs) ∧ Cls c.K C ∧ NoAttr c.K C f ∧ fs.lookup f = some d ∧ P (.v d) om1) : EV c (tFld c.K ta f) om sl P := fun σ H O ps s Q k =>
  h σ H O ps s _ fun v H1 O1 ps1 e om1 g1 s1 r1 ⟨C, fs, d, he, hc, hn, hl, p⟩ => by
    subst he
    cases r1 with
    | obj ha hr hx =>
      obtain ⟨w, h1, h2⟩ := RlF.lookup hx hl
      exact ⟨_, C, _, _, w, rfl, hr, hc, hn, h1, k w H1 O1 ps1 (.v d) om1 g1 s1 h2 p⟩

/-! ### statements -/
variable {Pq : Po} {t u : TS}
theorem sv_seq (h : SV c Ex t om sl { Pq with n := fun om1 sl1 => SV c Ex u om1 sl1 Pq }) : SV c Ex (tSeq t u) om sl Pq := fun σ H O ps Dn s kn kr kb kc kx =>
  h σ H O ps { Dn with nx := u Dn } s (fun σ1 H1 O1 ps1 om1 sl1 g1 s1 h1 => h1 σ1 H1 O1 ps1 Dn s1 (fun σ2 H2 O2 ps2 om2 sl2 g2 s2 p => kn σ2 H2 O2 ps2 om2 sl2 (g1.trans g2) s2 p)
    (fun v σ2 sl2 H2 O2 ps2 e om2 g2 s2 r p => kr v σ2 sl2 H2 O2 ps2 e om2 (g1.trans g2) s2 r p) (fun σ2 H2 O2 ps2 om2 sl2 g2 s2 p => kb σ2 H2 O2 ps2 om2 sl2 (g1.trans g2) s2 p)
    (fun σ2 H2 O2 ps2 om2 sl2 g2 s2 p => kc σ2 H2 O2 ps2 om2 sl2 (g1.trans g2) s2 p) fun C f x d v H2 H3 O2 ps2 g2 p r hd e => kx C f x d v H2 H3 O2 ps2 (g1.trans g2) p r hd e) kr kb kc kx
theorem sv_next (p : Pq.n om sl) : SV c Ex tNext om sl Pq := fun σ H O ps Dn s kn kr kb kc kx => kn σ H O ps om sl (Go.refl ..) s p
theorem sv_never (h : False) : SV c Ex t om sl Pq := h.elim
theorem sv_set {i : Nat} (h : EV c te om sl fun e om1 => i < sl.length ∧ Pq.n om1 (sl.set i (some e))) : SV c Ex (tAsg te (gName i)) om sl Pq := fun σ H O ps Dn s kn kr kb kc kx =>
  h σ H O ps s _ fun v H1 O1 ps1 e om1 g1 s1 r1 ⟨hi, p⟩ => kn _ H1 O1 ps1 om1 _ g1 (s1.set hi r1) p
theorem sv_drop (h : EV c te om sl fun _ om1 => Pq.n om1 sl) : SV c Ex (tDrop te) om sl Pq := fun σ H O ps Dn s kn kr kb kc kx =>
  h σ H O ps s _ fun v H1 O1 ps1 e om1 g1 s1 r1 p => kn _ H1 O1 ps1 om1 _ g1 s1 p
theorem sv_ret (h : EV c te om sl Pq.r) : SV c Ex (tRet te) om sl Pq := fun σ H O ps Dn s kn kr kb kc kx =>
  h σ H O ps s _ fun v H1 O1 ps1 e om1 g1 s1 r1 p => kr v σ sl H1 O1 ps1 e om1 g1 s1 r1 p
theorem sv_if (h : ET c tt om sl fun b om1 => (b = true → SV c Ex t om1 sl Pq) ∧ (b = false → SV c Ex u om1 sl Pq)) : SV c Ex (tIfS tt t u) om sl Pq := fun σ H O ps Dn s kn kr kb kc kx =>
  h σ H O ps s _ fun b H1 O1 ps1 om1 g1 s1 h1 => by
    have go : ∀ {w : TS}, SV c Ex w om1 sl Pq → w Dn σ H1 := fun {w} hw => hw σ H1 O1 ps1 Dn s1 (fun σ2 H2 O2 ps2 om2 sl2 g2 s2 p => kn σ2 H2 O2 ps2 om2 sl2 (g1.trans g2) s2 p)
      (fun v σ2 sl2 H2 O2 ps2 e om2 g2 s2 r p => kr v σ2 sl2 H2 O2 ps2 e om2 (g1.trans g2) s2 r p) (fun σ2 H2 O2 ps2 om2 sl2 g2 s2 p => kb σ2 H2 O2 ps2 om2 sl2 (g1.trans g2) s2 p)
      (fun σ2 H2 O2 ps2 om2 sl2 g2 s2 p => kc σ2 H2 O2 ps2 om2 sl2 (g1.trans g2) s2 p) fun C f x d v H2 H3 O2 ps2 g2 p r hd e => kx C f x d v H2 H3 O2 ps2 (g1.trans g2) p r hd e
    cases b with
    | true =>
      show t Dn σ H1
      exact go (h1.1 rfl)
    | false =>
      show u Dn σ H1
      exact go (h1.2 rfl)
theorem sv_mono {P' : Po} (h : SV c Ex t om sl Pq) (hn : ∀ om' sl', Pq.n om' sl' → P'.n om' sl') (hr : ∀ e om', Pq.r e om' → P'.r e om') (hb : ∀ om' sl', Pq.b om' sl' → P'.b om' sl') (hc : ∀ om' sl', Pq.c om' sl' → P'.c om' sl') (hx : ∀ C f x, Pq.x C f x → P'.x C f x) : SV c Ex t om sl P' :=
  fun σ H O ps Dn s kn kr kb kc kx => h σ H O ps Dn s (fun σ2 H2 O2 ps2 om2 sl2 g2 s2 p => kn σ2 H2 O2 ps2 om2 sl2 g2 s2 (hn _ _ p)) (fun v σ2 sl2 H2 O2 ps2 e om2 g2 s2 r p => kr v σ2 sl2 H2 O2 ps2 e om2 g2 s2 r (hr _ _ p))
    (fun σ2 H2 O2 ps2 om2 sl2 g2 s2 p => kb σ2 H2 O2 ps2 om2 sl2 g2 s2 (hb _ _ p)) (fun σ2 H2 O2 ps2 om2 sl2 g2 s2 p => kc σ2 H2 O2 ps2 om2 sl2 g2 s2 (hc _ _ p)) fun C f x d v H2 H3 O2 ps2 g2 p r hd e => kx C f x d v H2 H3 O2 ps2 g2 ⟨p.1, hx _ _ _ p.2⟩ r hd e
theorem sv_brk (p : Pq.b om sl) : SV c Ex tBreak om sl Pq := fun σ H O ps Dn s kn kr kb kc kx => kb σ H O ps om sl (Go.refl ..) s p
theorem sv_cont (p : Pq.c om sl) : SV c Ex tCont om sl Pq := fun σ H O ps Dn s kn kr kb kc kx => kc σ H O ps om sl (Go.refl ..) s p
/-- an if without else of which both ways come to one end -/
theorem sv_cut {M : Om → Sl → Prop} (h : SV c Ex t om sl { Pq with n := M }) (hm : ∀ om' sl', M om' sl' → Pq.n om' sl') : SV c Ex t om sl Pq := sv_mono h hm (fun _ _ p => p) (fun _ _ p => p) (fun _ _ p => p) fun _ _ _ p => p
end
end DL
set_option Elab.async false
set_option linter.all false
set_option maxRecDepth 100000
set_option maxHeartbeats 4000000
namespace DL
open PySem PySem.Spec PyProof.Rows L2
/-! ### data as the library's -/
mutual
def D.py : D → PyData
  | .non => .none
  | .bl b => .bool b
  | .int i => .int i
  | .str x => .str x
  | .lst xs => .list (D.pyA xs)
  | .tup xs => .tuple (D.pyA xs)
  | .ftp xs => .tuple (D.pyA xs)
  | .obj _ _ => .none
  | .raw _ => .none
  | .exc _ _ => .none
  | .dic _ => .none
  | .xerr _ _ _ => .none
def D.pyA : List D → List PyData
  | [] => []
  | d :: ds => d.py :: D.pyA ds
end
mutual
def D.ok : D → Bool
  | .non => true
  | .bl _ => true
  | .int _ => true
  | .str _ => true
  | .lst xs => D.okA xs
  | .tup xs => D.okA xs
  | .ftp xs => D.okA xs
  | .obj _ _ => false
  | .raw _ => false
  | .exc _ _ => false
  | .dic _ => false
  | .xerr _ _ _ => false
def D.okA : List D → Bool
  | [] => true
  | d :: ds => d.ok && D.okA ds
end
mutual
theorem Rl.dp {K : PySem.W.Frag} {O : List Addr} {H : Hp} : ∀ {v : V} {d : D}, Rl O H v d → d.ok = true → Dp K H v d.py
  | _, _, .non, _ => by unfold D.py; exact .non
  | _, _, .bl b, _ => by unfold D.py; exact .bl b
  | _, _, .int i, _ => by unfold D.py; exact .int i
  | _, _, .str x, _ => by unfold D.py; exact .str x
  | _, _, .raw v, h => by unfold D.ok at h; cases h
  | _, _, .obj _ _ _, h => by unfold D.ok at h; cases h
  | _, _, .exc0 _ _, h => by unfold D.ok at h; cases h
  | _, _, .exc1 _ _ _ _ _, h => by unfold D.ok at h; cases h
  | _, _, .dic _ _ _, h => by unfold D.ok at h; cases h
  | _, _, .xerr _ _ _, h => by unfold D.ok at h; cases h
  | _, _, .lst ha hr hx, h => by
    unfold D.ok at h
    unfold D.py
    exact .lst (.inl (.inl hr)) (RlA.dp hx h)
  | _, _, .tup ha hr hx, h => by
    unfold D.ok at h
    unfold D.py
    exact .tup (.inl hr) (RlA.dp hx h)
  | _, _, .ftp ha hr hd hx, h => by
    unfold D.ok at h
    unfold D.py
    exact .tup (.inl (.inr ⟨_, hr⟩)) (RlA.dp hx h)
theorem RlA.dp {K : PySem.W.Frag} {O : List Addr} {H : Hp} : ∀ {vs : List V} {ds : List D}, RlA O H vs ds → D.okA ds = true → DpAll K H vs (D.pyA ds)
  | _, _, .nil, _ => by unfold D.pyA; exact .nil
  | _, _, .cons h t, e => by
    unfold D.okA at e
    have e' := Bool.and_eq_true_iff.mp e
    unfold D.pyA
    exact .cons (Rl.dp h e'.1) (RlA.dp t e'.2)
end
/-- a thing as data -/
def olst : Option (Option Own) → Option D
  | some (some (.l ds)) => some (.lst ds)
  | some (some (.d kvs)) => some (.dic kvs)
  | some (some (.i C _ fs)) => some (.obj C fs)
  | _ => none
def dat (om : Om) : E → Option D
  | .v d => some d
  | .o k => olst om[k]?
  | .l => none
  | .rs _ => none
theorem olst_some {x : Option (Option Own)} {d : D} (h : olst x = some d) : (∃ ds, d = .lst ds ∧ x = some (some (.l ds))) ∨ (∃ kvs, d = .dic kvs ∧ x = some (some (.d kvs))) ∨ ∃ C dx fs, d = .obj C fs ∧ x = some (some (.i C dx fs)) := by
  cases x with
  | none => cases h
  | some y =>
    cases y with
    | none => cases h
    | some w =>
      cases w with
      | l ds => exact .inl ⟨ds, (Option.some.inj h).symm, rfl⟩
      | d kvs => exact .inr (.inl ⟨kvs, (Option.some.inj h).symm, rfl⟩)
      | i C dx fs => exact .inr (.inr ⟨C, dx, fs, (Option.some.inj h).symm, rfl⟩)
      | h f => cases h
section
variable {c : Cn} {om : Om} {sl : Sl} {P : E → Om → Prop} {σ : L2.St} {H : Hp} {O ps : List Addr}
theorem dat_o {k : Nat} {ds : List D} (h : dat om (.o k) = some (.lst ds)) : om[k]? = some (some (.l ds)) := by
  rcases olst_some (show olst om[k]? = some (.lst ds) from h) with ⟨es, e, h'⟩ | ⟨es, e, h'⟩ | ⟨_, _, _, e, _⟩
  · injection e with e
    rw [h', e]
  · cases e
  · cases e
theorem dat_od {k : Nat} {ds : List (Key × D)} (h : dat om (.o k) = some (.dic ds)) : om[k]? = some (some (.d ds)) := by
  rcases olst_some (show olst om[k]? = some (.dic ds) from h) with ⟨es, e, h'⟩ | ⟨es, e, h'⟩ | ⟨_, _, _, e, _⟩
  · cases e
  · injection e with e
    rw [h', e]
  · cases e
/-- read as a list: by its items -/
theorem as_l (s : St c.F c.O0 c.H0 H om σ sl O ps) {v : V} {e : E} {ds : List D} (r : RE c.F O ps H v e) (h : dat om e = some (.lst ds)) : ∃ p vs, v = .ref p ∧ H p = some (.lst vs) ∧ RlA O H vs ds := by
  cases e with
  | v d =>
    have h' : d = .lst ds := Option.some.inj h
    subst h'
    cases r with
    | lst ha hr hx => exact ⟨_, _, rfl, hr, hx⟩
  | o k =>
    obtain ⟨p, rfl, hp⟩ := r
    obtain ⟨q, vs, h1, h2, h3, h4, h5⟩ := s.ownL (dat_o h)
    have ep : q = p := Option.some.inj (h1.symm.trans hp)
    subst ep
    exact ⟨q, vs, rfl, h4, h5⟩
  | l => cases h
  | rs n => cases h
/-- read as a dict -/
theorem as_k (s : St c.F c.O0 c.H0 H om σ sl O ps) {v : V} {e : E} {ds : List (Key × D)} (r : RE c.F O ps H v e) (h : dat om e = some (.dic ds)) : ∃ p vs, v = .ref p ∧ H p = some (.dK vs) ∧ RlK O H vs ds := by
  cases e with
  | v d =>
    have h' : d = .dic ds := Option.some.inj h
    subst h'
    cases r with
    | dic ha hr hx => exact ⟨_, _, rfl, hr, hx⟩
  | o k =>
    obtain ⟨p, rfl, hp⟩ := r
    obtain ⟨q, h1, h2, h3, vs, h4, h5⟩ := s.own k (.d ds) (dat_od h)
    have ep : q = p := Option.some.inj (h1.symm.trans hp)
    subst ep
    exact ⟨q, vs, rfl, h4, h5⟩
  | l => cases h
  | rs n => cases h
theorem as_t {v : V} {ds : List D} (r : Rl O H v (.tup ds)) : ∃ p vs, v = .ref p ∧ p ∉ O ∧ Rd H p (.tup vs) ∧ RlA O H vs ds := by
  cases r with
  | tup ha hr hx => exact ⟨_, _, rfl, ha, hr, hx⟩
theorem sqL {K : PySem.W.Frag} {p : Addr} {vs : List V} (h : H p = some (.lst vs)) : SqL K H p vs := .inl (.inl h)
theorem sqT {K : PySem.W.Frag} {p : Addr} {vs : List V} (h : Rd H p (.tup vs)) : SqT K H p vs := .inl h
theorem as_dp {K : PySem.W.Frag} (s : St c.F c.O0 c.H0 H om σ sl O ps) {v : V} {e : E} {d : D} (r : RE c.F O ps H v e) (h : dat om e = some d) (ok : d.ok = true) : Dp K H v d.py := by
  cases e with
  | v x =>
    have h' : x = d := Option.some.inj h
    subst h'
    exact r.dp ok
  | o k =>
    rcases olst_some (show olst om[k]? = some d from h) with ⟨ds, rfl, _⟩ | ⟨ds, rfl, _⟩ | ⟨_, _, _, rfl, _⟩
    · obtain ⟨p, vs, rfl, h1, h2⟩ := as_l s (e := .o k) r h
      unfold D.ok at ok
      unfold D.py
      exact .lst (sqL h1) (h2.dp ok)
    · unfold D.ok at ok
      cases ok
    · unfold D.ok at ok
      cases ok
  | l => cases h
  | rs n => cases h

/-! ### operators by values -/
theorem ov_int {g : Int → Int → Int} {i j : Int} (p : P (.v (.int (g i j))) om) : OV c (rI0 fun i j => .int (g i j)) om sl (.v (.int i)) (.v (.int j)) P := fun σ H O ps s v w rv rw' Q k => by
  cases rv
  cases rw'
  exact ⟨i, j, rfl, rfl, k _ H O ps (.v (.int (g i j))) om (Go.refl ..) s (Rl.int _) p⟩
theorem ov_intC {C : Int → Int → Prop} {g : Int → Int → Int} {i j : Int} (h : C i j) (p : P (.v (.int (g i j))) om) : OV c (rI C fun i j => .int (g i j)) om sl (.v (.int i)) (.v (.int j)) P := fun σ H O ps s v w rv rw' Q k => by
  cases rv
  cases rw'
  exact ⟨i, j, rfl, rfl, h, k _ H O ps (.v (.int (g i j))) om (Go.refl ..) s (Rl.int _) p⟩
theorem ov_cmp {g : Int → Int → Bool} {i j : Int} (p : P (.v (.bl (g i j))) om) : OV c (rI0 fun i j => .bl (g i j)) om sl (.v (.int i)) (.v (.int j)) P := fun σ H O ps s v w rv rw' Q k => by
  cases rv
  cases rw'
  exact ⟨i, j, rfl, rfl, k _ H O ps (.v (.bl (g i j))) om (Go.refl ..) s (Rl.bl _) p⟩
theorem uv_int {g : Int → Int} {i : Int} (p : P (.v (.int (g i))) om) : UV c (rU fun i => .int (g i)) om sl (.v (.int i)) P := fun σ H O ps s v rv Q k => by
  cases rv
  exact ⟨i, rfl, k _ H O ps (.v (.int (g i))) om (Go.refl ..) s (Rl.int _) p⟩
def rAddS : R2 := fun x y H Q => ∃ i j, x = .str i ∧ y = .str j ∧ i.length + j.length ≤ sizeLine ∧ Q (.str (i ++ j)) H
/-- + of ints, texts, lists, tuples -/
def rAddU (K : PySem.W.Frag) : R2 := fun x y H Q => rI0 (fun i j => V.int (i + j)) x y H Q ∨ rAddS x y H Q ∨ rCat x y H Q ∨ rCatA K x y H Q
theorem op_addU {X : Cx} : OpR X (binaryOp .Add) (rAddU X.K) := OpR.or op_add (OpR.or op_add_str (OpR.or op_cat op_catA))
theorem ov_addI {i j : Int} (p : P (.v (.int (i + j))) om) : OV c (rAddU c.K) om sl (.v (.int i)) (.v (.int j)) P := fun σ H O ps s v w rv rw' Q k => .inl (ov_int (c := c) (g := fun i j => i + j) p σ H O ps s v w rv rw' Q k)
theorem ov_addS {i j : Str} (h : i.length + j.length ≤ 1000) (p : P (.v (.str (i ++ j))) om) : OV c (rAddU c.K) om sl (.v (.str i)) (.v (.str j)) P := fun σ H O ps s v w rv rw' Q k => by
  cases rv
  cases rw'
  exact .inr (.inl ⟨i, j, rfl, rfl, Nat.le_of_lt (small1000 h), k _ H O ps (.v (.str (i ++ j))) om (Go.refl ..) s (Rl.str _) p⟩)
theorem ov_addL {x y : E} {xs ys : List D} (hx : dat om x = some (.lst xs)) (hy : dat om y = some (.lst ys)) (h : xs.length + ys.length ≤ 100000) (p : P (.v (.lst (xs ++ ys))) om) : OV c (rAddU c.K) om sl x y P := fun σ H O ps s v w rv rw' Q k => by
  obtain ⟨a, vs, rfl, h1, h2⟩ := as_l s rv hx
  obtain ⟨b, ws, rfl, h3, h4⟩ := as_l s rw' hy
  refine .inr (.inr (.inl ⟨a, b, vs, ws, rfl, rfl, h1, h3, by rw [h2.len, h4.len]; exact Nat.le_trans h (by decide), fun q hq => ?_⟩))
  obtain ⟨s2, g2⟩ := s.new (o := .lst (vs ++ ws)) hq
  exact k _ _ O ps (.v (.lst (xs ++ ys))) om g2 s2 (Rl.lst (s.nin hq) upd_same ((h2.app h4).ext g2.ex)) p
theorem ov_addLO {x y : E} {xs ys : List D} (hx : dat om x = some (.lst xs)) (hy : dat om y = some (.lst ys)) (h : xs.length + ys.length ≤ 100000) (p : P (.o om.length) (om ++ [some (.l (xs ++ ys))])) : OV c (rAddU c.K) om sl x y P := fun σ H O ps s v w rv rw' Q k => by
  obtain ⟨a, vs, rfl, h1, h2⟩ := as_l s rv hx
  obtain ⟨b, ws, rfl, h3, h4⟩ := as_l s rw' hy
  refine .inr (.inr (.inl ⟨a, b, vs, ws, rfl, rfl, h1, h3, by rw [h2.len, h4.len]; exact Nat.le_trans h (by decide), fun q hq => ?_⟩))
  obtain ⟨s2, g2, r2⟩ := s.newOwn hq (h2.app h4)
  exact k _ _ _ _ _ _ g2 s2 r2 p
theorem ov_addT {xs ys : List D} (h : xs.length + ys.length ≤ 100000) (p : P (.v (.tup (xs ++ ys))) om) : OV c (rAddU c.K) om sl (.v (.tup xs)) (.v (.tup ys)) P := fun σ H O ps s v w rv rw' Q k => by
  have rx : Rl O H v (.tup xs) := rv
  have ry : Rl O H w (.tup ys) := rw'
  obtain ⟨a, vs, rfl, na, h1, h2⟩ := as_t rx
  obtain ⟨b, ws, rfl, nb, h3, h4⟩ := as_t ry
  refine .inr (.inr (.inr ⟨a, b, vs, ws, rfl, rfl, sqT h1, sqT h3, by rw [h2.len, h4.len]; exact Nat.le_trans h (by decide), fun e => ?_, fun _ e => ?_, fun _ _ q hq => ?_⟩))
  · subst e
    cases h2
    exact k _ H O ps (.v (.tup ys)) om (Go.refl ..) s ry p
  · subst e
    cases h4
    rw [List.append_nil] at p
    exact k _ H O ps (.v (.tup xs)) om (Go.refl ..) s rx p
  · obtain ⟨s2, g2⟩ := s.new (o := .tup (vs ++ ws)) hq
    exact k _ _ O ps (.v (.tup (xs ++ ys))) om g2 s2 (Rl.tup (s.nin hq) (.inl upd_same) ((h2.app h4).ext g2.ex)) p
/-- == of data -/
def rEqU (K : PySem.W.Frag) : R2 := fun x y H Q => rEq x y H Q ∨ rEqD K x y H Q
def rNeU (K : PySem.W.Frag) : R2 := fun x y H Q => rNe x y H Q ∨ rNeD K x y H Q
theorem op_eqU {X : Cx} (hu : X.A.units + 64 < cLine) : OpR X (compareOp .Eq) (rEqU X.K) := OpR.or op_eq (op_eqD hu)
theorem op_neU {X : Cx} (hu : X.A.units + 64 < cLine) : OpR X (compareOp .NotEq) (rNeU X.K) := OpR.or op_ne (op_neD hu)
theorem ov_eqD {x y : E} {d e : D} (hx : dat om x = some d) (hy : dat om y = some e) (h1 : d.ok = true) (h2 : e.ok = true) (h3 : SeqAt.shaped d.py = true) (h4 : SeqAt.shaped e.py = true) (p : P (.v (.bl (PyData.eqv d.py e.py))) om) : OV c (rEqU c.K) om sl x y P := fun σ H O ps s v w rv rw' Q k =>
  .inr ⟨d.py, e.py, as_dp s rv hx h1, as_dp s rw' hy h2, h3, h4, k _ H O ps (.v (.bl _)) om (Go.refl ..) s (Rl.bl _) p⟩
theorem ov_neD {x y : E} {d e : D} (hx : dat om x = some d) (hy : dat om y = some e) (h1 : d.ok = true) (h2 : e.ok = true) (h3 : SeqAt.shaped d.py = true) (h4 : SeqAt.shaped e.py = true) (p : P (.v (.bl (!PyData.eqv d.py e.py))) om) : OV c (rNeU c.K) om sl x y P := fun σ H O ps s v w rv rw' Q k =>
  .inr ⟨d.py, e.py, as_dp s rv hx h1, as_dp s rw' hy h2, h3, h4, k _ H O ps (.v (.bl _)) om (Go.refl ..) s (Rl.bl _) p⟩
/-- == of ints, of texts -/
theorem ov_eqI {i j : Int} (p : P (.v (.bl (decide (i = j)))) om) : OV c (rEqU c.K) om sl (.v (.int i)) (.v (.int j)) P := fun σ H O ps s v w rv rw' Q k => by
  cases rv
  cases rw'
  have e : decide (V.int i = V.int j) = decide (i = j) := by by_cases z : i = j <;> simp [z]
  refine .inl ⟨rfl, ?_⟩
  rw [e]
  exact k _ H O ps (.v (.bl _)) om (Go.refl ..) s (Rl.bl _) p
theorem ov_neI {i j : Int} (p : P (.v (.bl (!decide (i = j)))) om) : OV c (rNeU c.K) om sl (.v (.int i)) (.v (.int j)) P := fun σ H O ps s v w rv rw' Q k => by
  cases rv
  cases rw'
  have e : decide (V.int i = V.int j) = decide (i = j) := by by_cases z : i = j <;> simp [z]
  refine .inl ⟨rfl, ?_⟩
  rw [e]
  exact k _ H O ps (.v (.bl _)) om (Go.refl ..) s (Rl.bl _) p
theorem ov_eqS {i j : Str} (p : P (.v (.bl (decide (i = j)))) om) : OV c (rEqU c.K) om sl (.v (.str i)) (.v (.str j)) P := fun σ H O ps s v w rv rw' Q k => by
  cases rv
  cases rw'
  have e : decide (V.str i = V.str j) = decide (i = j) := by by_cases z : i = j <;> simp [z]
  refine .inl ⟨rfl, ?_⟩
  rw [e]
  exact k _ H O ps (.v (.bl _)) om (Go.refl ..) s (Rl.bl _) p
theorem ov_neS {i j : Str} (p : P (.v (.bl (!decide (i = j)))) om) : OV c (rNeU c.K) om sl (.v (.str i)) (.v (.str j)) P := fun σ H O ps s v w rv rw' Q k => by
  cases rv
  cases rw'
  have e : decide (V.str i = V.str j) = decide (i = j) := by by_cases z : i = j <;> simp [z]
  refine .inl ⟨rfl, ?_⟩
  rw [e]
  exact k _ H O ps (.v (.bl _)) om (Go.refl ..) s (Rl.bl _) p
/-- is None -/
theorem ov_isN {x : D} {b : Bool} (h : ∀ (O : List Addr) (H : Hp) (v : V), Rl O H v x → decide (v = .non) = b) (p : P (.v (.bl b)) om) : OV c (fun x y H Q => y = .non ∧ Q (.bl (decide (x = .non))) H) om sl (.v x) (.v .non) P := fun σ H O ps s v w rv rw' Q k => by
  cases rw'
  have e := h O H v rv
  refine ⟨rfl, ?_⟩
  rw [e]
  exact k _ H O ps (.v (.bl b)) om (Go.refl ..) s (Rl.bl _) p
/-- an item -/
theorem atI_len {α β : Type} {xs : List α} {ys : List β} (h : xs.length = ys.length) (i : Int) {y : β} (e : atI ys i = some y) : ∃ j : Nat, ixN xs.length i = some j ∧ ys[j]? = some y := by
  unfold atI at e
  cases c : ixN ys.length i with
  | none =>
    rw [c] at e
    cases e
  | some j =>
    rw [c] at e
    exact ⟨j, by rw [h]; exact c, e⟩
theorem atI_of {O : List Addr} {H : Hp} {vs : List V} {ds : List D} (r : RlA O H vs ds) {i : Int} {d : D} (e : atI ds i = some d) : ∃ v, atI vs i = some v ∧ Rl O H v d := by
  obtain ⟨j, h1, h2⟩ := atI_len r.len i e
  obtain ⟨v, h3, h4⟩ := r.get h2
  exact ⟨v, by unfold atI; rw [h1]; exact h3, h4⟩
theorem ov_ixL {x : E} {ds : List D} {i : Int} {d : D} (hx : dat om x = some (.lst ds)) (h : atI ds i = some d) (p : P (.v d) om) : OV c (rIx c.K) om sl x (.v (.int i)) P := fun σ H O ps s v w rv rw' Q k => by
  cases rw'
  obtain ⟨a, vs, rfl, h1, h2⟩ := as_l s rv hx
  obtain ⟨z, h3, h4⟩ := atI_of h2 h
  exact .inl ⟨a, vs, i, z, rfl, rfl, sqL h1, h3, k _ H O ps (.v d) om (Go.refl ..) s h4 p⟩
theorem ov_ixT {ds : List D} {i : Int} {d : D} (h : atI ds i = some d) (p : P (.v d) om) : OV c (rIx c.K) om sl (.v (.tup ds)) (.v (.int i)) P := fun σ H O ps s v w rv rw' Q k => by
  cases rw'
  obtain ⟨a, vs, rfl, na, h1, h2⟩ := as_t rv
  obtain ⟨z, h3, h4⟩ := atI_of h2 h
  exact .inr (.inl ⟨a, vs, i, z, rfl, rfl, sqT h1, h3, k _ H O ps (.v d) om (Go.refl ..) s h4 p⟩)
theorem ov_ixS {z : Str} {i : Int} {ch : Nat} (hz : z.length ≤ 1000) (h : atI z.cps.toList i = some ch) (p : P (.v (.str ⟨#[ch]⟩)) om) : OV c (rIx c.K) om sl (.v (.str z)) (.v (.int i)) P := fun σ H O ps s v w rv rw' Q k => by
  cases rw'
  cases rv
  exact .inr (.inr ⟨z, i, ch, rfl, rfl, Nat.le_of_lt (small1000 hz), h, k _ H O ps (.v (.str ⟨#[ch]⟩)) om (Go.refl ..) s (Rl.str _) p⟩)
theorem atI_n {α : Type} {xs : List α} {j : Nat} {x : α} (h : xs[j]? = some x) : atI xs (j : Int) = some x := atI_nat h
/-- in, not in: a list of data -/
theorem ov_inL {x y : E} {d : D} {ds : List D} (hx : dat om x = some d) (hy : dat om y = some (.lst ds)) (h1 : d.ok = true) (h2 : D.okA ds = true) (h3 : SeqAt.shaped d.py = true) (h4 : SeqAt.shaped (PyData.list (D.pyA ds)) = true) (p : P (.v (.bl ((D.pyA ds).any fun z => PyData.eqv z d.py))) om) : OV c (rInD c.K) om sl x y P := fun σ H O ps s v w rv rw' Q k => by
  have q : Dp c.K H w (D.lst ds).py := as_dp s rw' hy (by unfold D.ok; exact h2)
  unfold D.py at q
  exact ⟨d.py, _, as_dp s rv hx h1, q, h3, h4, k _ H O ps (.v (.bl _)) om (Go.refl ..) s (Rl.bl _) p⟩
theorem ov_niL {x y : E} {d : D} {ds : List D} (hx : dat om x = some d) (hy : dat om y = some (.lst ds)) (h1 : d.ok = true) (h2 : D.okA ds = true) (h3 : SeqAt.shaped d.py = true) (h4 : SeqAt.shaped (PyData.list (D.pyA ds)) = true) (p : P (.v (.bl (!(D.pyA ds).any fun z => PyData.eqv z d.py))) om) : OV c (rNotInD c.K) om sl x y P := fun σ H O ps s v w rv rw' Q k => by
  have q : Dp c.K H w (D.lst ds).py := as_dp s rw' hy (by unfold D.ok; exact h2)
  unfold D.py at q
  exact ⟨d.py, _, as_dp s rv hx h1, q, h3, h4, k _ H O ps (.v (.bl _)) om (Go.refl ..) s (Rl.bl _) p⟩

/-! ### slices -/
def cutD (xs : List D) (lo hi : Option Int) : List D := (xs.drop (HT.sIx xs.length 0 lo)).take (HT.sIx xs.length xs.length hi - HT.sIx xs.length 0 lo)
theorem RlA.cut {vs : List V} {ds : List D} (r : RlA O H vs ds) (lo hi : Option Int) : RlA O H (cutV vs lo hi) (cutD ds lo hi) := by
  unfold cutV cutD
  rw [r.len]
  exact (r.drop _).take _
def rSlU (K : PySem.W.Frag) : V → Option Int → Option Int → Hp → VK → Prop := fun x lo hi H Q => rSlL K x lo hi H Q ∨ rSlA K x lo hi H Q ∨ rSlS x lo hi H Q
theorem sl_U {X : Cx} : SlR X (rSlU X.K) := SlR.or sl_list (SlR.or sl_tupA sl_str)
def EO (c : Cn) (to : TO) (om : Om) (sl : Sl) (P : Option Int → Om → Prop) : Prop := ∀ σ H O ps, St c.F c.O0 c.H0 H om σ sl O ps → ∀ Q : Option Int → Hp → Prop,
  (∀ i H' O' ps' om', Go O ps H O' ps' H' → St c.F c.O0 c.H0 H' om' σ sl O' ps' → P i om' → Q i H') → to σ H Q
theorem eo_none {P : Option Int → Om → Prop} (p : P none om) : EO c tNoPart om sl P := fun σ H O ps s Q k => k none H O ps om (Go.refl ..) s p
theorem eo_some {te : TE} {P : Option Int → Om → Prop} (h : EV c te om sl fun e om1 => ∃ i, e = .v (.int i) ∧ P (some i) om1) : EO c (tPart te) om sl P := fun σ H O ps s Q k =>
  h σ H O ps s _ fun v H1 O1 ps1 e om1 g1 s1 r1 ⟨i, he, p⟩ => by
    subst he
    cases r1
    exact ⟨i, rfl, k (some i) H1 O1 ps1 om1 g1 s1 p⟩
def LV (c : Cn) (om : Om) (sl : Sl) (x : E) (lo hi : Option Int) (P : E → Om → Prop) : Prop := ∀ σ H O ps, St c.F c.O0 c.H0 H om σ sl O ps → ∀ v, RE c.F O ps H v x → ∀ Q : VK,
  (∀ v H' O' ps' e om', Go O ps H O' ps' H' → St c.F c.O0 c.H0 H' om' σ sl O' ps' → RE c.F O' ps' H' v e → P e om' → Q v H') → rSlU c.K v lo hi H Q
theorem ev_sl {te : TE} {tl th : TO} (h : EV c te om sl fun x om1 => EO c tl om1 sl fun lo om2 => EO c th om2 sl fun hi om3 => LV c om3 sl x lo hi P) : EV c (tSl (rSlU c.K) te tl th) om sl P := fun σ H O ps s Q k =>
  h σ H O ps s _ fun v H1 O1 ps1 e om1 g1 s1 r1 h1 => h1 σ H1 O1 ps1 s1 _ fun lo H2 O2 ps2 om2 g2 s2 h2 => h2 σ H2 O2 ps2 s2 _ fun hi H3 O3 ps3 om3 g3 s3 h3 =>
    h3 σ H3 O3 ps3 s3 v (r1.go (g2.trans g3)) Q fun z H4 O4 ps4 e4 om4 g4 s4 r4 p => k z H4 O4 ps4 e4 om4 (((g1.trans g2).trans g3).trans g4) s4 r4 p
theorem lv_l {x : E} {ds : List D} {lo hi : Option Int} (hx : dat om x = some (.lst ds)) (p : P (.v (.lst (cutD ds lo hi))) om) : LV c om sl x lo hi P := fun σ H O ps s v rv Q k => by
  obtain ⟨a, vs, rfl, h1, h2⟩ := as_l s rv hx
  refine .inl ⟨a, vs, rfl, sqL h1, fun q hq => ?_⟩
  obtain ⟨s2, g2⟩ := s.new (o := .lst (cutV vs lo hi)) hq
  exact k _ _ O ps (.v (.lst (cutD ds lo hi))) om g2 s2 (Rl.lst (s.nin hq) upd_same ((h2.cut lo hi).ext g2.ex)) p
theorem cutD_whole {ds : List D} {lo hi : Option Int} (h : HT.sIx ds.length 0 lo = 0 ∧ HT.sIx ds.length ds.length hi = ds.length) : cutD ds lo hi = ds := by
  unfold cutD
  rw [h.1, h.2]
  simp
theorem lv_t {ds : List D} {lo hi : Option Int} (p : P (.v (.tup (cutD ds lo hi))) om) : LV c om sl (.v (.tup ds)) lo hi P := fun σ H O ps s v rv Q k => by
  have rv' : Rl O H v (.tup ds) := rv
  obtain ⟨a, vs, rfl, na, h1, h2⟩ := as_t rv'
  refine .inr (.inl ⟨a, vs, rfl, sqT h1, fun e => ?_, fun _ q hq => ?_⟩)
  · rw [h2.len] at e
    rw [cutD_whole e] at p
    exact k _ H O ps (.v (.tup ds)) om (Go.refl ..) s rv' p
  · obtain ⟨s2, g2⟩ := s.new (o := .tup (cutV vs lo hi)) hq
    exact k _ _ O ps (.v (.tup (cutD ds lo hi))) om g2 s2 (Rl.tup (s.nin hq) (.inl upd_same) ((h2.cut lo hi).ext g2.ex)) p
theorem lv_s {z : Str} {lo hi : Option Int} (hz : z.length ≤ 1000) (p : P (.v (.str (cutS z lo hi))) om) : LV c om sl (.v (.str z)) lo hi P := fun σ H O ps s v rv Q k => by
  cases rv
  exact .inr (.inr ⟨z, rfl, Nat.le_of_lt (small1000 hz), k _ H O ps (.v (.str (cutS z lo hi))) om (Go.refl ..) s (Rl.str _) p⟩)
end
end DL
set_option Elab.async false
set_option linter.all false
set_option maxRecDepth 100000
set_option maxHeartbeats 4000000
/-! rules at the machine: repr of data, sum of a tuple, enumerate of a tuple -/
namespace LR
open PySem PySem.Spec PyProof.Rows L2
open Sem (wp)
open AutoSeq1 (wpAny_loadPart')
/-- repr of data -/
def rRepr (K : PySem.W.Frag) : List V → Hp → VK → Prop := fun vs H Q => ∃ (v : V) (d : PyData), vs = [v] ∧ Dp K H v d ∧ d.showable = true ∧ d.hasDict = false ∧ d.depth ≤ 40 ∧ d.shown.length ≤ sizeLine ∧ Q (.str d.shown) H
theorem cr_repr {X : Cx} (hc : X.calm = true) (hg : X.A.guards = some []) (hu : X.A.units + 64 < cLine) : CallR X (.builtin "repr") (rRepr X.K) := by
  intro pins s σ H vs us Q I r h
  obtain ⟨v, d, rfl, hd, h1, h2, h3, h4, q⟩ := h
  obtain ⟨u, rfl, rv⟩ := vals1 r
  obtain ⟨as, rd⟩ := Dp.reads I d v u hd rv
  cases rd with
  | none => exact PySem.P.repr_of_none ⟨.str _, H, I.tok _, ⟨_, rfl⟩, by simpa only [PyData.shown] using q⟩
  | bool b => exact PySem.P.repr_of_bool ⟨.str _, H, I.tok _, ⟨_, rfl⟩, by simpa only [PyData.shown] using q⟩
  | int i t =>
    have z : i.natAbs.log2 < 1920 := by simpa [PyData.showable] using h1
    exact PySem.P.repr_of_int z ⟨.str _, H, I.tok _, ⟨_, rfl⟩, by simpa only [PyData.shown] using q⟩
  | str x t => exact PySem.P.repr_of_str (hsz := by simpa only [PyData.shown] using h4) ⟨.str _, H, I.tok _, ⟨_, rfl⟩, by simpa only [PyData.shown] using q⟩
  | list e1 e2 e3 e4 => exact repr_of_reads' (.list e1 e2 e3 e4) h1 (fun z => absurd (h2.symm.trans z) (by decide)) hg (by omega) (fun _ _ z => z) (fun h' u tk k => ⟨.str _, H, I.kept k, ⟨_, rfl⟩, q⟩) h4
  | tuple e1 e2 e3 e4 => exact repr_of_reads' (.tuple e1 e2 e3 e4) h1 (fun z => absurd (h2.symm.trans z) (by decide)) hg (by omega) (fun _ _ z => z) (fun h' u tk k => ⟨.str _, H, I.kept k, ⟨_, rfl⟩, q⟩) h4
  | dict e1 e2 e3 e4 e5 => simp only [PyData.hasDict] at h2; cases h2
section
variable {prog : Program} {w : World} {A : Around} {E : Value → Shared → Prop} {s : Shared}
/-- sum over a tuple of ints -/
theorem sum_tupG {a : Addr} {its : List Value} {ns : List Int} {Q : Value → Shared → Prop} (hh : A.handled = none) (ht : s.heap.IsTuple a its.toArray) (hi : IntsAre its ns)
    (h : ∀ h' tk t', (∀ b o, s.heap.get? b = some o → h'.get? b = some o) → Q (.int ns.sum t') { s with heap := h', toks := tk }) : wpAny (model prog w) A (call (.builtin "sum") [.ref a]) Q E s := by
  obtain ⟨xs, ex⟩ := hi.allInts.items
  have hn : numsOf (intItems xs).toList = ns := ex ▸ hi.numsOf
  rw [nums_intItems] at hn
  rw [ex] at ht
  refine call_sum_walkG (wpAny_pyIter_tuple ht ?_)
  have hlt : a < s.heap.objs.size := by obtain ⟨o, ho, _⟩ := ht; exact Heap.lt_size ho
  refine ⟨_, _, _, _, _, _, numAt xs, rfl, Walks.tuple (A := A.in1) hh s.heap.objs.size a (Nat.ne_of_lt hlt) (intItems xs), ⟨⟨_, Heap.get?_push_size _ rfl, rfl, rfl⟩, ht.push _⟩, fun b hb => ?_, (fun _ _ => intItems_at), fun h' tk t' hk => ?_⟩
  · rw [Heap.size_push]
    rcases List.mem_cons.mp hb with z | z
    · rw [z]; exact Nat.lt_succ_self _
    · rw [List.mem_singleton.mp z]; exact Nat.lt_succ_of_lt hlt
  · have q := h h' tk t' fun b o e => hk b o (fun z => by
      rw [List.mem_singleton.mp z] at e
      exact Nat.lt_irrefl _ (Heap.lt_size e)) (Heap.get?_push_of_some _ e)
    have e2 : preSum (numAt xs) (intItems xs).size = ns.sum := by
      rw [preSum_eq, List.take_of_length_le (by simp [intItems]), hn]
    rw [e2]
    exact q
end
end LR
set_option Elab.async false
set_option linter.all false
set_option maxRecDepth 100000
set_option maxHeartbeats 4000000
namespace DL
open PySem PySem.Spec PyProof.Rows L2
/-! ### targets -/
def GV (c : Cn) (g : TG) (d : D) (om : Om) (sl : Sl) (P : Om → Sl → Prop) : Prop := ∀ σ H O ps, St c.F c.O0 c.H0 H om σ sl O ps → ∀ v, Rl O H v d → ∀ Q : L2.St → Hp → Prop,
  (∀ σ' sl', St c.F c.O0 c.H0 H om σ' sl' O ps → P om sl' → Q σ' H) → g v σ H Q
def GsV (c : Cn) (g : TGs) (ds : List D) (om : Om) (sl : Sl) (P : Om → Sl → Prop) : Prop := ∀ σ H O ps, St c.F c.O0 c.H0 H om σ sl O ps → ∀ vs, RlA O H vs ds → ∀ Q : L2.St → Hp → Prop,
  (∀ σ' sl', St c.F c.O0 c.H0 H om σ' sl' O ps → P om sl' → Q σ' H) → g vs σ H Q
section
variable {c : Cn} {Ex : XK} {om : Om} {sl : Sl} {P : E → Om → Prop} {PB : Bool → Om → Prop} {PG : Om → Sl → Prop} {te ta tb : TE} {tt : TT} {tr : TA} {x y : E} {Pq : Po} {t u : TS}
theorem gv_name {i : Nat} {d : D} (p : i < sl.length ∧ PG om (sl.set i (some (.v d)))) : GV c (gName i) d om sl PG := fun σ H O ps s v r Q k => k _ _ (s.set p.1 (show RE c.F O ps H v (.v d) from r)) p.2
theorem gsv_nil (p : PG om sl) : GsV c gNil [] om sl PG := fun σ H O ps s vs r Q k => by
  cases r
  exact ⟨rfl, k σ sl s p⟩
theorem gsv_cons {g : TG} {gs : TGs} {d : D} {ds : List D} (h : GV c g d om sl fun om1 sl1 => GsV c gs ds om1 sl1 PG) : GsV c (gCons g gs) (d :: ds) om sl PG := fun σ H O ps s vs r Q k => by
  cases r with
  | @cons v vs' _ _ r1 r2 => exact ⟨v, vs', rfl, h σ H O ps s v r1 _ fun σ1 sl1 s1 h1 => h1 σ1 H O ps s1 vs' r2 Q k⟩
theorem gv_tup {n : Nat} {gs : TGs} {ds : List D} (hn : ds.length = n) (h : GsV c gs ds om sl PG) : GV c (gTup c.K n gs) (.tup ds) om sl PG := fun σ H O ps s v r Q k => by
  obtain ⟨a, vs, rfl, na, h1, h2⟩ := as_t r
  exact ⟨a, vs, rfl, sqT h1, by rw [h2.len]; exact hn, h σ H O ps s vs h2 Q k⟩
/-- x = e, e data, any target -/
theorem sv_asg {g : TG} (h : EV c te om sl fun e om1 => ∃ d, e = .v d ∧ GV c g d om1 sl Pq.n) : SV c Ex (tAsg te g) om sl Pq := fun σ H O ps Dn s kn kr kb kc kx =>
  h σ H O ps s _ fun v H1 O1 ps1 e om1 g1 s1 r1 ⟨d, he, hg⟩ => by
    subst he
    exact hg σ H1 O1 ps1 s1 v r1 _ fun σ' sl' s' p => kn σ' H1 O1 ps1 om1 sl' g1 s' p
/-! ### what is walked -/
def WV (c : Cn) (wi : TI) (om : Om) (sl : Sl) (P : List D → Prop) : Prop := ∀ σ H O ps, St c.F c.O0 c.H0 H om σ sl O ps → ∀ R : It → Hp → Prop,
  (∀ (J : It) (H1 : Hp) (O1 ps1 : List Addr) (G : Hp → Prop) (Y : Nat → Hp → V → Hp → Prop) (xs : List D), P xs → Go O ps H O1 ps1 H1 → St c.F c.O0 c.H0 H1 om σ sl O1 ps1 → Walk J xs.length G Y →
    (∀ H2 O2 ps2, Go O1 ps1 H1 O2 ps2 H2 → G H2) →
    (∀ i H2 O2 ps2 v H3, Go O1 ps1 H1 O2 ps2 H2 → (∀ p ∈ O2, H2 p ≠ none) → i < xs.length → Y i H2 v H3 → ∃ d, xs[i]? = some d ∧ (∀ b o, H2 b = some o → H3 b = some o) ∧ Rl O2 H3 v d) → R J H1) → wi σ H R
theorem wv_list {ds : List D} {P : List D → Prop} (h : EV c te om sl fun e om1 => om1 = om ∧ ∃ ds, e = .v (.lst ds) ∧ P ds) : WV c (iList c.K te) om sl P := fun σ H O ps s R k =>
  h σ H O ps s _ fun v H1 O1 ps1 e om1 g1 s1 r1 ⟨ho, ds, he, p⟩ => by
    subst he ho
    cases r1 with
    | @lst a vs _ ha hr hx =>
      refine ⟨a, rfl, ⟨vs, sqL hr⟩, k (Itl c.K a) H1 O1 ps1 (fun H => SqL c.K H a vs) (YAt vs) ds p g1 s1 ?_ (fun H2 O2 ps2 g => sqL (g.ex.keep _ _ ha hr)) fun i H2 O2 ps2 v H3 g al hi hy => ?_⟩
      · rw [← hx.len]
        exact walk_list
      · obtain ⟨rfl, hv⟩ := hy
        have hi' : ds[i]? = some ds[i] := List.getElem?_eq_getElem hi
        obtain ⟨w, h1, h2⟩ := (hx.ext g.ex).get hi'
        have ew : w = v := Option.some.inj (h1.symm.trans hv)
        subst ew
        exact ⟨_, hi', fun _ _ z => z, h2⟩
theorem wv_tup {P : List D → Prop} (h : EV c te om sl fun e om1 => om1 = om ∧ ∃ ds, e = .v (.tup ds) ∧ P ds) : WV c (iTup c.K te) om sl P := fun σ H O ps s R k =>
  h σ H O ps s _ fun v H1 O1 ps1 e om1 g1 s1 r1 ⟨ho, ds, he, p⟩ => by
    subst he ho
    cases r1 with
    | @tup a vs _ ha hr hx =>
      refine ⟨a, rfl, ⟨vs, sqT hr⟩, k (Itt c.K a) H1 O1 ps1 (fun H => SqT c.K H a vs) (YAt vs) ds p g1 s1 ?_ (fun H2 O2 ps2 g => sqT (g.ex.rd ha hr)) fun i H2 O2 ps2 v H3 g al hi hy => ?_⟩
      · rw [← hx.len]
        exact walk_tup
      · obtain ⟨rfl, hv⟩ := hy
        have hi' : ds[i]? = some ds[i] := List.getElem?_eq_getElem hi
        obtain ⟨w, h1, h2⟩ := (hx.ext g.ex).get hi'
        have ew : w = v := Option.some.inj (h1.symm.trans hv)
        subst ew
        exact ⟨_, hi', fun _ _ z => z, h2⟩
/-- the items lo, lo + 1, .. -/
def rgD (lo : Int) (n : Nat) : List D := (List.range n).map fun (i : Nat) => D.int (lo + (i : Int))
theorem rgD_len (lo : Int) (n : Nat) : (rgD lo n).length = n := by simp [rgD]
theorem rgD_get {lo : Int} {n i : Nat} (h : i < n) : (rgD lo n)[i]? = some (.int (lo + (i : Int))) := by simp [rgD, h]
theorem wv_rangeC {lo : Int} {n : Nat} {σ : L2.St} {H : Hp} {O ps : List Addr} {P : List D → Prop} {R : It → Hp → Prop} {H1 : Hp} {O1 ps1 : List Addr} (p : P (rgD lo n)) (g1 : Go O ps H O1 ps1 H1) (s1 : St c.F c.O0 c.H0 H1 om σ sl O1 ps1)
    (k : (∀ (J : It) (H1 : Hp) (O1 ps1 : List Addr) (G : Hp → Prop) (Y : Nat → Hp → V → Hp → Prop) (xs : List D), P xs → Go O ps H O1 ps1 H1 → St c.F c.O0 c.H0 H1 om σ sl O1 ps1 → Walk J xs.length G Y →
    (∀ H2 O2 ps2, Go O1 ps1 H1 O2 ps2 H2 → G H2) →
    (∀ i H2 O2 ps2 v H3, Go O1 ps1 H1 O2 ps2 H2 → (∀ p ∈ O2, H2 p ≠ none) → i < xs.length → Y i H2 v H3 → ∃ d, xs[i]? = some d ∧ (∀ b o, H2 b = some o → H3 b = some o) ∧ Rl O2 H3 v d) → R J H1)) : R (Itr lo n) H1 := by
  refine k (Itr lo n) H1 O1 ps1 (fun _ => True) (YFn fun i => .int (lo + i)) (rgD lo n) p g1 s1 ?_ (fun _ _ _ _ => trivial) fun i H2 O2 ps2 v H3 g al hi hy => ?_
  · rw [rgD_len]
    exact walk_range
  · rw [rgD_len] at hi
    obtain ⟨rfl, rfl⟩ := hy
    exact ⟨_, rgD_get hi, fun _ _ z => z, Rl.int _⟩
theorem wv_range1 {P : List D → Prop} (h : EA c tr om sl fun es om1 => om1 = om ∧ ∃ n : Int, es = [.v (.int n)] ∧ -(2 ^ 62) ≤ n ∧ n < 2 ^ 62 ∧ P (rgD 0 n.toNat)) : WV c (iRng1 tr) om sl P := fun σ H O ps s R k =>
  h σ H O ps s _ fun vs H1 O1 ps1 es om1 g1 s1 r1 ⟨ho, n, he, h1, h2, p⟩ => by
    subst he ho
    cases r1 with
    | cons rv rn =>
      cases rn
      cases rv
      exact ⟨n, rfl, h1, h2, wv_rangeC p g1 s1 k⟩
theorem wv_range2 {P : List D → Prop} (h : EA c tr om sl fun es om1 => om1 = om ∧ ∃ i n : Int, es = [.v (.int i), .v (.int n)] ∧ (-(2 ^ 62) ≤ i ∧ i < 2 ^ 62 ∧ -(2 ^ 62) ≤ n ∧ n < 2 ^ 62) ∧ P (rgD i (n - i).toNat)) : WV c (iRng2 tr) om sl P := fun σ H O ps s R k =>
  h σ H O ps s _ fun vs H1 O1 ps1 es om1 g1 s1 r1 ⟨ho, i, n, he, h1, p⟩ => by
    subst he ho
    cases r1 with
    | cons rv rn =>
      cases rn with
      | cons rw' rn =>
        cases rn
        cases rv
        cases rw'
        exact ⟨i, n, rfl, h1, wv_rangeC p g1 s1 k⟩
/-- enumerate(list) -/
def enD (ds : List D) : List D := ds.zipIdx.map fun p => D.tup [.int (p.2 : Int), p.1]
theorem enD_len (ds : List D) : (enD ds).length = ds.length := by simp [enD]
theorem enD_get {ds : List D} {i : Nat} {d : D} (h : ds[i]? = some d) : (enD ds)[i]? = some (.tup [.int (i : Int), d]) := by simp [enD, h]
theorem wv_enum {P : List D → Prop} (h : EA c tr om sl fun es om1 => om1 = om ∧ ∃ ds, es = [.v (.lst ds)] ∧ P (enD ds)) : WV c (iEnum c.K tr) om sl P := fun σ H O ps s R k =>
  h σ H O ps s _ fun vs H1 O1 ps1 es om1 g1 s1 r1 ⟨ho, ds, he, p⟩ => by
    subst he ho
    cases r1 with
    | cons rv rn =>
      cases rn
      cases rv with
      | @lst a vs _ ha hr hx =>
        refine ⟨a, vs, rfl, sqL hr, k (Ite c.K a) H1 O1 ps1 (fun H => SqL c.K H a vs) (YPair (fun i => some (.int (i : Nat))) (fun i => vs[i]?)) (enD ds) p g1 s1 ?_ (fun H2 O2 ps2 g => sqL (g.ex.keep _ _ ha hr)) fun i H2 O2 ps2 v H3 g al hi hy => ?_⟩
        · rw [enD_len, ← hx.len]
          exact walk_enum
        · rw [enD_len] at hi
          obtain ⟨T, w1, w2, rfl, nT, rfl, e1, e2⟩ := hy
          have hi' : ds[i]? = some ds[i] := List.getElem?_eq_getElem hi
          obtain ⟨w, h1, h2⟩ := (hx.ext g.ex).get hi'
          have ew : w = w2 := Option.some.inj (h1.symm.trans e2)
          subst ew
          have e1' := Option.some.inj e1
          subst e1'
          have kp : ∀ b o, H2 b = some o → upd H2 T (.tup [V.int (i : Nat), w]) b = some o := fun b o z => by
            rw [upd_ne (ne_of_none z nT)]
            exact z
          have x2 : Ext O2 H2 O2 (upd H2 T (.tup [V.int (i : Nat), w])) := ⟨fun b o _ z => kp b o z, fun _ z => .inl z⟩
          refine ⟨_, enD_get hi', kp, Rl.tup (fun z => ?_) (.inl upd_same) (.cons (Rl.int _) (.cons (h2.ext x2) .nil))⟩
          exact al T z nT
/-! ### for -/
theorem sv_for {wi : TI} {g : TG} (h : WV c wi om sl fun xs => ∃ Iv : Nat → Om → Sl → Prop, Iv 0 om sl ∧
      (∀ i d om' sl', xs[i]? = some d → Iv i om' sl' → GV c g d om' sl' fun om2 sl2 => SV c Ex t om2 sl2 { Pq with n := Iv (i + 1), c := Iv (i + 1), b := Pq.n }) ∧
      ∀ om' sl', Iv xs.length om' sl' → Pq.n om' sl') : SV c Ex (tFor wi g t) om sl Pq := fun σ H O ps Dn s kn kr kb kc kx =>
  h σ H O ps s _ fun J H1 O1 ps1 G Y xs ⟨Iv, h0, hs, hd⟩ g1 s1 w hG hY => by
    refine for_it w (fun i σ' H' => ∃ O' ps' om' sl', Go O1 ps1 H1 O' ps' H' ∧ St c.F c.O0 c.H0 H' om' σ' sl' O' ps' ∧ Iv i om' sl') ⟨O1, ps1, om, sl, Go.refl .., s1, h0⟩ (fun i σ' H' _ ⟨O', ps', om', sl', g', _⟩ => hG H' O' ps' g') ?_ ?_
    · rintro i v σ' H2 H3 hi ⟨O2, ps2, om2, sl2, g2, s2, p⟩ hy
      obtain ⟨d, e1, k2, r⟩ := hY i H2 O2 ps2 v H3 g2 s2.al hi hy
      obtain ⟨s3, g3⟩ := s2.same k2
      have gg : Go O ps H O2 ps2 H3 := g1.trans (g2.trans g3)
      refine hs i d om2 sl2 e1 p σ' H3 O2 ps2 s3 v r _ fun σ4 sl4 s4 h4 => ?_
      exact h4 σ4 H3 O2 ps2 _ s4 (fun σ5 H5 O5 ps5 om5 sl5 g5 s5 p5 => ⟨O5, ps5, om5, sl5, g2.trans (g3.trans g5), s5, p5⟩)
        (fun v σ5 sl5 H5 O5 ps5 e om5 g5 s5 r5 p5 => kr v σ5 sl5 H5 O5 ps5 e om5 (gg.trans g5) s5 r5 p5) (fun σ5 H5 O5 ps5 om5 sl5 g5 s5 p5 => kn σ5 H5 O5 ps5 om5 sl5 (gg.trans g5) s5 p5)
        (fun σ5 H5 O5 ps5 om5 sl5 g5 s5 p5 => ⟨O5, ps5, om5, sl5, g2.trans (g3.trans g5), s5, p5⟩) fun C f x d v H5 H6 O5 ps5 g5 p5 r5 hd5 e5 => kx C f x d v H5 H6 O5 ps5 (gg.trans g5) p5 r5 hd5 e5
    · rintro σ' H' ⟨O', ps', om', sl', g', s', p⟩
      exact kn σ' H' O' ps' om' sl' (g1.trans g') s' (hd om' sl' p)
/-! ### while -/
theorem sv_while (Iv : Nat → Om → Sl → Prop) (m0 : Nat) (h0 : Iv m0 om sl)
    (hs : ∀ m om' sl', Iv m om' sl' → ET c tt om' sl' fun b om2 => (b = true → SV c Ex t om2 sl' { Pq with n := fun om3 sl3 => ∃ m', m' < m ∧ Iv m' om3 sl3, c := fun om3 sl3 => ∃ m', m' < m ∧ Iv m' om3 sl3, b := Pq.n }) ∧ (b = false → Pq.n om2 sl')) : SV c Ex (tWhile tt t) om sl Pq := fun σ H O ps Dn s kn kr kb kc kx => by
  refine ⟨fun m σ' H' => ∃ O' ps' om' sl', Go O ps H O' ps' H' ∧ St c.F c.O0 c.H0 H' om' σ' sl' O' ps' ∧ Iv m om' sl', ⟨m0, O, ps, om, sl, Go.refl .., s, h0⟩, ?_⟩
  rintro m σ' H' ⟨O1, ps1, om1, sl1, g1, s1, p1⟩
  refine hs m om1 sl1 p1 σ' H' O1 ps1 s1 _ fun b H2 O2 ps2 om2 g2 s2 ⟨ht, hf⟩ => ?_
  cases b with
  | true =>
    refine (if_pos rfl).mpr ⟨fun σ3 H3 => ∃ m', m' < m ∧ ∃ O' ps' om' sl', Go O ps H O' ps' H3 ∧ St c.F c.O0 c.H0 H3 om' σ3 sl' O' ps' ∧ Iv m' om' sl', fun σ3 H3 z => z, ?_⟩
    have gg := g1.trans g2
    exact ht rfl σ' H2 O2 ps2 _ s2 (fun σ5 H5 O5 ps5 om5 sl5 g5 s5 ⟨m', l, p5⟩ => ⟨m', l, O5, ps5, om5, sl5, gg.trans g5, s5, p5⟩)
        (fun v σ5 sl5 H5 O5 ps5 e om5 g5 s5 r5 p5 => kr v σ5 sl5 H5 O5 ps5 e om5 (gg.trans g5) s5 r5 p5) (fun σ5 H5 O5 ps5 om5 sl5 g5 s5 p5 => kn σ5 H5 O5 ps5 om5 sl5 (gg.trans g5) s5 p5)
        (fun σ5 H5 O5 ps5 om5 sl5 g5 s5 ⟨m', l, p5⟩ => ⟨m', l, O5, ps5, om5, sl5, gg.trans g5, s5, p5⟩) fun C f x d v H5 H6 O5 ps5 g5 p5 r5 hd5 e5 => kx C f x d v H5 H6 O5 ps5 (gg.trans g5) p5 r5 hd5 e5
  | false =>
    refine (if_neg Bool.false_ne_true).mpr ?_
    exact kn σ' H2 O2 ps2 om2 sl1 (g1.trans g2) s2 (hf rfl)
end
end DL
set_option Elab.async false
set_option linter.all false
set_option maxRecDepth 100000
set_option maxHeartbeats 4000000
namespace DL
open PySem PySem.Spec PyProof.Rows L2
section
variable {c : Cn} {Ex : XK} {om : Om} {sl : Sl} {σ : L2.St} {H : Hp} {O ps : List Addr} {P : E → Om → Prop} {PB : Bool → Om → Prop} {PG : Om → Sl → Prop} {te ta tb to : TE} {tt : TT} {tr : TA} {x y : E} {Pq : Po} {t u : TS}
/-! ### built-ins by values -/
def rLenU (K : PySem.W.Frag) : List V → Hp → VK → Prop := fun xs H Q => ∃ x n, xs = [x] ∧ LenV K x H n ∧ Q (.int n) H
theorem cr_len {X : Cx} : CallR X (.builtin "len") (rLenU X.K) := call_len
theorem ra1 {F : FT} {O ps : List Addr} {H : Hp} {vs : List V} {x : E} (r : RA F O ps H vs [x]) : ∃ v, vs = [v] ∧ RE F O ps H v x := by
  cases r with
  | cons h t =>
    cases t
    exact ⟨_, rfl, h⟩
theorem ra2 {F : FT} {O ps : List Addr} {H : Hp} {vs : List V} {x y : E} (r : RA F O ps H vs [x, y]) : ∃ v w, vs = [v, w] ∧ RE F O ps H v x ∧ RE F O ps H w y := by
  cases r with
  | cons h t =>
    obtain ⟨w, rfl, h2⟩ := ra1 t
    exact ⟨_, w, rfl, h, h2⟩
theorem cv_lenL {ds : List D} (hx : dat om x = some (.lst ds)) (p : P (.v (.int (ds.length : Int))) om) : CV c (rLenU c.K) om sl [x] P := fun σ H O ps s vs r Q k => by
  obtain ⟨v, rfl, rv⟩ := ra1 r
  obtain ⟨a, ws, rfl, h1, h2⟩ := as_l s rv hx
  exact ⟨_, ds.length, rfl, .inl ⟨ws, sqL h1, h2.len.symm⟩, k _ H O ps (.v (.int _)) om (Go.refl ..) s (Rl.int _) p⟩
theorem cv_lenT {ds : List D} (p : P (.v (.int (ds.length : Int))) om) : CV c (rLenU c.K) om sl [.v (.tup ds)] P := fun σ H O ps s vs r Q k => by
  obtain ⟨v, rfl, rv⟩ := ra1 r
  obtain ⟨a, ws, rfl, na, h1, h2⟩ := as_t rv
  exact ⟨_, ds.length, rfl, .inr ⟨ws, sqT h1, h2.len.symm⟩, k _ H O ps (.v (.int _)) om (Go.refl ..) s (Rl.int _) p⟩
theorem cv_lenS {z : Str} (h : z.length ≤ 1000) (p : P (.v (.int (z.length : Int))) om) : CV c (rLenU c.K) om sl [.v (.str z)] P := fun σ H O ps s vs r Q k => by
  obtain ⟨v, rfl, rv⟩ := ra1 r
  cases rv
  exact ⟨_, z.length, rfl, ⟨Nat.le_of_lt (small1000 h), rfl⟩, k _ H O ps (.v (.int _)) om (Go.refl ..) s (Rl.int _) p⟩
def rListU (K : PySem.W.Frag) : List V → Hp → VK → Prop := fun xs H Q => ∃ p ys, xs = [.ref p] ∧ (SqL K H p ys ∨ SqT K H p ys) ∧ ∀ l, H l = none → Q (.ref l) (upd H l (.lst ys))
theorem cr_list {X : Cx} : CallR X (.type "list") (rListU X.K) := call_list_of
theorem cv_listLO {ds : List D} (hx : dat om x = some (.lst ds)) (p : P (.o om.length) (om ++ [some (.l ds)])) : CV c (rListU c.K) om sl [x] P := fun σ H O ps s vs r Q k => by
  obtain ⟨v, rfl, rv⟩ := ra1 r
  obtain ⟨a, ws, rfl, h1, h2⟩ := as_l s rv hx
  refine ⟨a, ws, rfl, .inl (sqL h1), fun l hl => ?_⟩
  obtain ⟨s2, g2, r2⟩ := s.newOwn hl h2
  exact k _ _ _ _ _ _ g2 s2 r2 p
theorem cv_listTO {ds : List D} (p : P (.o om.length) (om ++ [some (.l ds)])) : CV c (rListU c.K) om sl [.v (.tup ds)] P := fun σ H O ps s vs r Q k => by
  obtain ⟨v, rfl, rv⟩ := ra1 r
  obtain ⟨a, ws, rfl, na, h1, h2⟩ := as_t rv
  refine ⟨a, ws, rfl, .inr (sqT h1), fun l hl => ?_⟩
  obtain ⟨s2, g2, r2⟩ := s.newOwn hl h2
  exact k _ _ _ _ _ _ g2 s2 r2 p
theorem cv_listL {ds : List D} (hx : dat om x = some (.lst ds)) (p : P (.v (.lst ds)) om) : CV c (rListU c.K) om sl [x] P := fun σ H O ps s vs r Q k => by
  obtain ⟨v, rfl, rv⟩ := ra1 r
  obtain ⟨a, ws, rfl, h1, h2⟩ := as_l s rv hx
  refine ⟨a, ws, rfl, .inl (sqL h1), fun l hl => ?_⟩
  obtain ⟨s2, g2⟩ := s.new (o := .lst ws) hl
  exact k _ _ O ps (.v (.lst ds)) om g2 s2 (Rl.lst (s.nin hl) upd_same (h2.ext g2.ex)) p
def rTupU (K : PySem.W.Frag) : List V → Hp → VK → Prop := fun xs H Q => ∃ p ys, xs = [.ref p] ∧ ((SqL K H p ys ∧ ∀ l, H l = none → Q (.ref l) (upd H l (.tup ys))) ∨ (SqT K H p ys ∧ Q (.ref p) H))
theorem cr_tup {X : Cx} : CallR X (.type "tuple") (rTupU X.K) := call_tuple_of
theorem cv_tupL {ds : List D} (hx : dat om x = some (.lst ds)) (p : P (.v (.tup ds)) om) : CV c (rTupU c.K) om sl [x] P := fun σ H O ps s vs r Q k => by
  obtain ⟨v, rfl, rv⟩ := ra1 r
  obtain ⟨a, ws, rfl, h1, h2⟩ := as_l s rv hx
  refine ⟨a, ws, rfl, .inl ⟨sqL h1, fun l hl => ?_⟩⟩
  obtain ⟨s2, g2⟩ := s.new (o := .tup ws) hl
  exact k _ _ O ps (.v (.tup ds)) om g2 s2 (Rl.tup (s.nin hl) (.inl upd_same) (h2.ext g2.ex)) p
theorem cv_tupT {ds : List D} (p : P (.v (.tup ds)) om) : CV c (rTupU c.K) om sl [.v (.tup ds)] P := fun σ H O ps s vs r Q k => by
  obtain ⟨v, rfl, rv⟩ := ra1 r
  have rv' : Rl O H v (.tup ds) := rv
  obtain ⟨a, ws, rfl, na, h1, h2⟩ := as_t rv'
  exact ⟨a, ws, rfl, .inr ⟨sqT h1, k _ H O ps (.v (.tup ds)) om (Go.refl ..) s rv' p⟩⟩
def rSumT (K : PySem.W.Frag) : List V → Hp → VK → Prop := fun vs H Q => ∃ (a : Addr) (ns : List Int), vs = [V.ref a] ∧ SqT K H a (ns.map V.int) ∧ Q (.int ns.sum) H
theorem cr_sumT {X : Cx} (hc : X.calm = true) : CallR X (.builtin "sum") (rSumT X.K) := by
  intro pins s σ H vs us Q I r h
  obtain ⟨a, ns, rfl, hs, q⟩ := h
  obtain ⟨its, rv, ht, _⟩ := I.tuple hs
  rw [Vals.ref1 r]
  exact LR.sum_tupG (I.ok.hd hc) (by obtain ⟨o, h1, h2, n, h3⟩ := ht; exact ⟨o, h1, h2, n, h3⟩) rv.ints fun h' tk t' hk => ⟨.int _, H, I.kept hk, ⟨_, rfl⟩, q⟩
def rSumU (K : PySem.W.Frag) : List V → Hp → VK → Prop := fun vs H Q => rSum K vs H Q ∨ rSumT K vs H Q
theorem cr_sumU {X : Cx} (hc : X.calm = true) : CallR X (.builtin "sum") (rSumU X.K) := CallR.or (cr_sum hc) (cr_sumT hc)
theorem cv_sumL {ns : List Int} (hx : dat om x = some (.lst (ns.map .int))) (p : P (.v (.int ns.sum)) om) : CV c (rSumU c.K) om sl [x] P := fun σ H O ps s vs r Q k => by
  obtain ⟨v, rfl, rv⟩ := ra1 r
  obtain ⟨a, ws, rfl, h1, h2⟩ := as_l s rv hx
  rw [h2.ints] at h1
  exact .inl ⟨a, ns, rfl, sqL h1, k _ H O ps (.v (.int _)) om (Go.refl ..) s (Rl.int _) p⟩
theorem cv_sumT {ns : List Int} (p : P (.v (.int ns.sum)) om) : CV c (rSumU c.K) om sl [.v (.tup (ns.map .int))] P := fun σ H O ps s vs r Q k => by
  obtain ⟨v, rfl, rv⟩ := ra1 r
  obtain ⟨a, ws, rfl, na, h1, h2⟩ := as_t rv
  rw [h2.ints] at h1
  exact .inr ⟨a, ns, rfl, sqT h1, k _ H O ps (.v (.int _)) om (Go.refl ..) s (Rl.int _) p⟩
theorem cv_maxL {ns : List Int} (hx : dat om x = some (.lst (ns.map .int))) (h0 : 0 < ns.length) (p : ∀ m, m ∈ ns → (∀ y, y ∈ ns → y ≤ m) → P (.v (.int m)) om) : CV c (rMax c.K) om sl [x] P := fun σ H O ps s vs r Q k => by
  obtain ⟨v, rfl, rv⟩ := ra1 r
  obtain ⟨a, ws, rfl, h1, h2⟩ := as_l s rv hx
  rw [h2.ints] at h1
  exact ⟨a, ns, rfl, sqL h1, h0, fun m m1 m2 => k _ H O ps (.v (.int m)) om (Go.refl ..) s (Rl.int _) (p m m1 m2)⟩
def rMax2 : List V → Hp → VK → Prop := fun xs H Q => ∃ i j, xs = [.int i, .int j] ∧ Q (.int (if j > i then j else i)) H
theorem cr_max2 {X : Cx} (hc : X.calm = true) : CallR X (.builtin "max") rMax2 := call_max2 hc
def rMin2 : List V → Hp → VK → Prop := fun xs H Q => ∃ i j, xs = [.int i, .int j] ∧ Q (.int (if j < i then j else i)) H
theorem cr_min2 {X : Cx} (hc : X.calm = true) : CallR X (.builtin "min") rMin2 := call_min2 hc
theorem cv_max2 {i j : Int} (p : P (.v (.int (max i j))) om) : CV c rMax2 om sl [.v (.int i), .v (.int j)] P := fun σ H O ps s vs r Q k => by
  obtain ⟨v, w, rfl, rv, rw'⟩ := ra2 r
  cases rv
  cases rw'
  have e : (if j > i then j else i) = max i j := by split <;> omega
  refine ⟨i, j, rfl, ?_⟩
  rw [e]
  exact k _ H O ps (.v (.int _)) om (Go.refl ..) s (Rl.int _) p
theorem cv_min2 {i j : Int} (p : P (.v (.int (min i j))) om) : CV c rMin2 om sl [.v (.int i), .v (.int j)] P := fun σ H O ps s vs r Q k => by
  obtain ⟨v, w, rfl, rv, rw'⟩ := ra2 r
  cases rv
  cases rw'
  have e : (if j < i then j else i) = min i j := by split <;> omega
  refine ⟨i, j, rfl, ?_⟩
  rw [e]
  exact k _ H O ps (.v (.int _)) om (Go.refl ..) s (Rl.int _) p
theorem cv_all {bs : List Bool} (hx : dat om x = some (.lst (bs.map .bl))) (p : P (.v (.bl (bs.all id))) om) : CV c (rAll c.K) om sl [x] P := fun σ H O ps s vs r Q k => by
  obtain ⟨v, rfl, rv⟩ := ra1 r
  obtain ⟨a, ws, rfl, h1, h2⟩ := as_l s rv hx
  rw [h2.bls] at h1
  exact ⟨a, bs, rfl, sqL h1, k _ H O ps (.v (.bl _)) om (Go.refl ..) s (Rl.bl _) p⟩
def rAbs : List V → Hp → VK → Prop := fun xs H Q => ∃ i, xs = [.int i] ∧ Q (.int (if i < 0 then -i else i)) H
theorem cr_abs {X : Cx} : CallR X (.builtin "abs") rAbs := call_abs
theorem cv_abs {i : Int} (p : P (.v (.int (i.natAbs : Int))) om) : CV c rAbs om sl [.v (.int i)] P := fun σ H O ps s vs r Q k => by
  obtain ⟨v, rfl, rv⟩ := ra1 r
  cases rv
  have e : (if i < 0 then -i else i) = (i.natAbs : Int) := by split <;> omega
  refine ⟨i, rfl, ?_⟩
  rw [e]
  exact k _ H O ps (.v (.int _)) om (Go.refl ..) s (Rl.int _) p
def rInt1 : List V → Hp → VK → Prop := fun xs H Q => (∃ i, xs = [.int i] ∧ Q (.int i) H) ∨ ∃ k, xs = [.bl k] ∧ Q (.int (if k then 1 else 0)) H
theorem cr_int {X : Cx} : CallR X (.type "int") rInt1 := call_int1
theorem cv_int {i : Int} (p : P (.v (.int i)) om) : CV c rInt1 om sl [.v (.int i)] P := fun σ H O ps s vs r Q k => by
  obtain ⟨v, rfl, rv⟩ := ra1 r
  cases rv
  exact .inl ⟨i, rfl, k _ H O ps (.v (.int _)) om (Go.refl ..) s (Rl.int _) p⟩
/-- what may be shown -/
def D.fits (d : D) : Prop := d.ok = true ∧ d.py.showable = true ∧ d.py.hasDict = false ∧ d.py.depth ≤ 40 ∧ d.py.shown.length ≤ sizeLine
theorem cv_repr {d : D} (hx : dat om x = some d) (h : d.fits) (p : P (.v (.str d.py.shown)) om) : CV c (LR.rRepr c.K) om sl [x] P := fun σ H O ps s vs r Q k => by
  obtain ⟨v, rfl, rv⟩ := ra1 r
  exact ⟨v, d.py, rfl, as_dp s rv hx h.1, h.2.1, h.2.2.1, h.2.2.2.1, h.2.2.2.2, k _ H O ps (.v (.str _)) om (Go.refl ..) s (Rl.str _) p⟩
/-! ### methods -/
theorem ev_bm {r : V → List V → Hp → VK → Prop} (h : EV c to om sl fun x om1 => (∃ ds, dat om1 x = some (.lst ds)) ∧ EA c tr om1 sl fun xs om2 => MV c r om2 sl x xs P) : EV c (tBM c.K "list" r to tr) om sl P := fun σ H O ps s Q k =>
  h σ H O ps s _ fun v H1 O1 ps1 e om1 g1 s1 r1 ⟨⟨ds, hd⟩, h1⟩ => by
    obtain ⟨a, ws, rfl, h2, h3⟩ := as_l s1 r1 hd
    exact ⟨.inl ⟨rfl, ws, sqL h2⟩, h1 σ H1 O1 ps1 s1 _ fun vs H2 O2 ps2 es om2 g2 s2 r2 h4 => h4 σ H2 O2 ps2 s2 _ vs (r1.go g2) r2 Q fun z H3 O3 ps3 e3 om3 g3 s3 r3 p => k z H3 O3 ps3 e3 om3 ((g1.trans g2).trans g3) s3 r3 p⟩
theorem ev_bm0 {r : V → List V → Hp → VK → Prop} (h : EV c to om sl fun x om1 => (∃ ds, dat om1 x = some (.lst ds)) ∧ MV c r om1 sl x [] P) : EV c (tBM0 c.K "list" r to) om sl P := fun σ H O ps s Q k =>
  h σ H O ps s _ fun v H1 O1 ps1 e om1 g1 s1 r1 ⟨⟨ds, hd⟩, h1⟩ => by
    obtain ⟨a, ws, rfl, h2, h3⟩ := as_l s1 r1 hd
    exact ⟨.inl ⟨rfl, ws, sqL h2⟩, h1 σ H1 O1 ps1 s1 _ [] r1 .nil Q fun z H3 O3 ps3 e3 om3 g3 s3 r3 p => k z H3 O3 ps3 e3 om3 (g1.trans g3) s3 r3 p⟩
theorem own_at (s : St c.F c.O0 c.H0 H om σ sl O ps) {k : Nat} {ds : List D} {v : V} (ho : om[k]? = some (some (.l ds))) (r : RE c.F O ps H v (.o k)) : ∃ p vs, v = .ref p ∧ ps[k]? = some p ∧ H p = some (.lst vs) ∧ RlA O H vs ds := by
  obtain ⟨p, rfl, hp⟩ := r
  obtain ⟨q, vs, h1, h2, h3, h4, h5⟩ := s.ownL ho
  have e : q = p := Option.some.inj (h1.symm.trans hp)
  subst e
  exact ⟨q, vs, rfl, hp, h4, h5⟩
theorem mv_append {k : Nat} {ds : List D} {d : D} (ho : om[k]? = some (some (.l ds))) (hl : ds.length < 100000) (p : P (.v .non) (om.set k (some (.l (ds ++ [d]))))) : MV c rAppend om sl (.o k) [.v d] P := fun σ H O ps s v vs r rs Q kk => by
  obtain ⟨w, rfl, rw'⟩ := ra1 rs
  obtain ⟨q, ws, rfl, hq, h1, h2⟩ := own_at s ho r
  obtain ⟨s2, g2⟩ := s.write ho hq (h2.app (.cons (show Rl O H w d from rw') .nil))
  exact ⟨q, ws, w, rfl, rfl, h1, by rw [h2.len]; exact Nat.lt_of_lt_of_le hl (by decide), kk _ _ O ps (.v .non) _ g2 s2 Rl.non p⟩
theorem RlA.dropLast {O : List Addr} {H : Hp} {vs : List V} {ds : List D} (h : RlA O H vs ds) : RlA O H vs.dropLast ds.dropLast := by
  rw [List.dropLast_eq_take, List.dropLast_eq_take, h.len]
  exact h.take _
theorem mv_pop {k : Nat} {ds : List D} {d : D} (ho : om[k]? = some (some (.l ds))) (hd : ds[ds.length - 1]? = some d) (p : P (.v d) (om.set k (some (.l ds.dropLast)))) : MV c rPop om sl (.o k) [] P := fun σ H O ps s v vs r rs Q kk => by
  cases rs
  obtain ⟨q, ws, rfl, hq, h1, h2⟩ := own_at s ho r
  obtain ⟨z, e1, e2⟩ := h2.get hd
  obtain ⟨s2, g2⟩ := s.write ho hq h2.dropLast
  exact ⟨q, ws, z, rfl, rfl, h1, by rw [h2.len]; exact e1, kk _ _ O ps (.v d) _ g2 s2 (e2.ext g2.ex) p⟩
theorem mv_popAt {k : Nat} {ds : List D} {d : D} {j : Nat} (ho : om[k]? = some (some (.l ds))) (hj : (j : Int) < 2 ^ 63) (hd : ds[j]? = some d) (p : P (.v d) (om.set k (some (.l (ds.eraseIdx j))))) : MV c rPopAt om sl (.o k) [.v (.int (j : Int))] P := fun σ H O ps s v vs r rs Q kk => by
  obtain ⟨w, rfl, rw'⟩ := ra1 rs
  cases rw'
  obtain ⟨q, ws, rfl, hq, h1, h2⟩ := own_at s ho r
  obtain ⟨z, e1, e2⟩ := h2.get hd
  obtain ⟨s2, g2⟩ := s.write ho hq (h2.eraseIdx j)
  have hlt : j < ws.length := (List.getElem?_eq_some_iff.mp e1).1
  exact ⟨q, ws, j, j, z, rfl, rfl, h1, by omega, hj, by
    unfold seqIndex?
    simp
    omega, e1, kk _ _ O ps (.v d) _ g2 s2 (e2.ext g2.ex) p⟩
/-- texts' methods -/
theorem ev_m0 {r : V → List V → Hp → VK → Prop} (h : EV c to om sl fun x om1 => ∃ z, x = .v (.str z) ∧ MV c r om1 sl x [] P) : EV c (tM0 r to) om sl P := fun σ H O ps s Q k =>
  h σ H O ps s _ fun v H1 O1 ps1 e om1 g1 s1 r1 ⟨z, hz, h1⟩ => by
    subst hz
    have r2 := r1
    cases r1
    exact ⟨⟨z, rfl⟩, h1 σ H1 O1 ps1 s1 _ [] r2 .nil Q fun z H3 O3 ps3 e3 om3 g3 s3 r3 p => k z H3 O3 ps3 e3 om3 (g1.trans g3) s3 r3 p⟩
theorem ev_m1 {r : V → List V → Hp → VK → Prop} (h : EV c to om sl fun x om1 => ∃ z, x = .v (.str z) ∧ EV c te om1 sl fun y om2 => MV c r om2 sl x [y] P) : EV c (tM1 r to te) om sl P := fun σ H O ps s Q k =>
  h σ H O ps s _ fun v H1 O1 ps1 e om1 g1 s1 r1 ⟨z, hz, h1⟩ => by
    subst hz
    have r2 := r1
    cases r1
    exact ⟨⟨z, rfl⟩, h1 σ H1 O1 ps1 s1 _ fun w H2 O2 ps2 e2 om2 g2 s2 rw' h2 => h2 σ H2 O2 ps2 s2 _ [w] (r2.go g2) (.cons rw' .nil) Q fun z H3 O3 ps3 e3 om3 g3 s3 r3 p => k z H3 O3 ps3 e3 om3 ((g1.trans g2).trans g3) s3 r3 p⟩
def rS0 (C : Str → Prop) (g : Str → Bool) : V → List V → Hp → VK → Prop := fun x xs H Q => ∃ a, x = .str a ∧ xs = [] ∧ C a ∧ Q (.bl (g a)) H
theorem mv_s0 {C : Str → Prop} {g : Str → Bool} {z : Str} (h : C z) (p : P (.v (.bl (g z))) om) : MV c (fun x xs H Q => ∃ a, x = .str a ∧ xs = [] ∧ C a ∧ Q (.bl (g a)) H) om sl (.v (.str z)) [] P := fun σ H O ps s v vs r rs Q kk => by
  cases rs
  cases r
  exact ⟨z, rfl, rfl, h, kk _ H O ps (.v (.bl _)) om (Go.refl ..) s (Rl.bl _) p⟩
def rJoin (K : PySem.W.Frag) : V → List V → Hp → VK → Prop := fun x xs H Q => ∃ a p, ∃ ys : List Str, x = .str a ∧ xs = [.ref p] ∧ (SqL K H p (ys.map V.str) ∨ SqT K H p (ys.map V.str)) ∧ (ys.map (·.length)).sum + ys.length * a.length ≤ 16777216 ∧ Q (.str (Txt.join a ys)) H
theorem mt_joinU {X : Cx} : MtR X "str.join" (rJoin X.K) := mt_join
theorem mv_join {z : Str} {ys : List Str} (hx : dat om x = some (.lst (ys.map .str))) (h : (ys.map (·.length)).sum + ys.length * z.length ≤ 16777216) (p : P (.v (.str (Txt.join z ys))) om) : MV c (rJoin c.K) om sl (.v (.str z)) [x] P := fun σ H O ps s v vs r rs Q kk => by
  obtain ⟨w, rfl, rw'⟩ := ra1 rs
  cases r
  obtain ⟨a, ws, rfl, h1, h2⟩ := as_l s rw' hx
  rw [h2.strs] at h1
  exact ⟨z, a, ys, rfl, rfl, .inl (sqL h1), h, kk _ H O ps (.v (.str _)) om (Go.refl ..) s (Rl.str _) p⟩
/-! ### a slot's own list becomes data -/
def Own.dat : Own → Option D
  | .l ds => some (.lst ds)
  | .d kvs => some (.dic kvs)
  | .h _ => none
  | .i C _ fs => some (.obj C fs)
theorem OwnAt.rl {O : List Addr} {H : Hp} {p : Addr} (hp : p ∉ O) : ∀ {w : Own} {d : D}, OwnAt O H p w → w.dat = some d → Rl O H (.ref p) d
  | .l _, _, ⟨vs, h1, h2⟩, e => by
    cases e
    exact .lst hp h1 h2
  | .d _, _, ⟨vs, h1, h2⟩, e => by
    cases e
    exact .dic hp h1 h2
  | .h _, _, _, e => by cases e
  | .i C dx fs, _, ⟨vs, h1, h2⟩, e => by
    cases e
    exact .obj hp h1 h2
theorem St.deadW {F : FT} {O0 : List Addr} {H0 H : Hp} {σ : L2.St} {O ps : List Addr} (s : St F O0 H0 H om σ sl O ps) {i k : Nat} {ds : Own} {d : D} (hd : ds.dat = some d) (ho : om[k]? = some (some ds)) (hi : sl[i]? = some (some (.o k))) :
    ∃ O', St F O0 H0 H (om.set k none) σ (sl.set i (some (.v d))) O' ps ∧ Go O ps H O' ps H := by
  obtain ⟨p, e1, e2, e3, e4⟩ := s.own k ds ho
  have hf : ∀ {a : Addr}, a ∈ (O.filter fun a => decide (a ≠ p)) ↔ a ∈ O ∧ a ≠ p := fun {a} => by simp [List.mem_filter]
  have x : Ext O H (O.filter fun a => decide (a ≠ p)) H := ⟨fun _ _ _ h => h, fun a ha => .inl (hf.mp ha).1⟩
  have g : Go O ps H (O.filter fun a => decide (a ≠ p)) ps H := ⟨x, fun _ _ h => h⟩
  have hk : k < om.length := (List.getElem?_eq_some_iff.mp ho).1
  have hil : i < sl.length := (List.getElem?_eq_some_iff.mp hi).1
  refine ⟨_, ⟨s.en, fun a ha => s.fo a (hf.mp ha).1, fun a ha => hf.mpr ⟨s.oo a ha, fun z => e2.2 (z ▸ ha)⟩, s.ff, fun a ha => s.al a (hf.mp ha).1, by simp [s.len], fun j es h => ?_, s.inj, s.pa, s.dl, fun j e h => ?_, by simp [s.ln], s.tb.sub fun b hb => (hf.mp hb).1⟩, g⟩
  · by_cases cj : k = j
    · subst cj
      rw [List.getElem?_set_self hk] at h
      cases h
    · rw [List.getElem?_set_ne cj] at h
      obtain ⟨r, g1, g2, g3, g4⟩ := s.own j es h
      exact ⟨r, g1, ⟨hf.mpr ⟨g2.1, fun z => cj (s.inj k j p e1 (z ▸ g1))⟩, g2.2⟩, g3, g4.ext x fun _ h => h⟩
  · by_cases cj : i = j
    · subst cj
      rw [List.getElem?_set_self hil] at h
      have h' := Option.some.inj (Option.some.inj h)
      subst h'
      obtain ⟨v, h1, h2⟩ := s.slots i _ hi
      obtain ⟨q, rfl, hq⟩ := h2
      have eq : p = q := Option.some.inj (e1.symm.trans hq)
      subst eq
      exact ⟨_, h1, (e4.ext x fun _ h => h).rl (fun z => (hf.mp z).2 rfl) hd⟩
    · rw [List.getElem?_set_ne cj] at h
      obtain ⟨v, h1, h2⟩ := s.slots j e h
      exact ⟨v, h1, h2.go g⟩
theorem St.dead {F : FT} {O0 : List Addr} {H0 H : Hp} {σ : L2.St} {O ps : List Addr} (s : St F O0 H0 H om σ sl O ps) {i k : Nat} {ds : List D} (ho : om[k]? = some (some (.l ds))) (hi : sl[i]? = some (some (.o k))) :
    ∃ O', St F O0 H0 H (om.set k none) σ (sl.set i (some (.v (.lst ds)))) O' ps ∧ Go O ps H O' ps H := s.deadW rfl ho hi
theorem sv_freezeD (i k : Nat) {ds : List (Key × D)} (ho : om[k]? = some (some (.d ds))) (hi : sl[i]? = some (some (.o k))) (h : SV c Ex t (om.set k none) (sl.set i (some (.v (.dic ds)))) Pq) : SV c Ex t om sl Pq := fun σ H O ps Dn s kn kr kb kc kx => by
  obtain ⟨O', s1, g1⟩ := s.deadW rfl ho hi
  exact h σ H O' ps Dn s1 (fun σ2 H2 O2 ps2 om2 sl2 g2 s2 p => kn σ2 H2 O2 ps2 om2 sl2 (g1.trans g2) s2 p) (fun v σ2 sl2 H2 O2 ps2 e om2 g2 s2 r p => kr v σ2 sl2 H2 O2 ps2 e om2 (g1.trans g2) s2 r p)
    (fun σ2 H2 O2 ps2 om2 sl2 g2 s2 p => kb σ2 H2 O2 ps2 om2 sl2 (g1.trans g2) s2 p) (fun σ2 H2 O2 ps2 om2 sl2 g2 s2 p => kc σ2 H2 O2 ps2 om2 sl2 (g1.trans g2) s2 p) fun C f x d v H2 H3 O2 ps2 g2 p r hd e => kx C f x d v H2 H3 O2 ps2 (g1.trans g2) p r hd e
theorem sv_freeze (i k : Nat) {ds : List D} (ho : om[k]? = some (some (.l ds))) (hi : sl[i]? = some (some (.o k))) (h : SV c Ex t (om.set k none) (sl.set i (some (.v (.lst ds)))) Pq) : SV c Ex t om sl Pq := fun σ H O ps Dn s kn kr kb kc kx => by
  obtain ⟨O', s1, g1⟩ := s.dead ho hi
  exact h σ H O' ps Dn s1 (fun σ2 H2 O2 ps2 om2 sl2 g2 s2 p => kn σ2 H2 O2 ps2 om2 sl2 (g1.trans g2) s2 p) (fun v σ2 sl2 H2 O2 ps2 e om2 g2 s2 r p => kr v σ2 sl2 H2 O2 ps2 e om2 (g1.trans g2) s2 r p)
    (fun σ2 H2 O2 ps2 om2 sl2 g2 s2 p => kb σ2 H2 O2 ps2 om2 sl2 (g1.trans g2) s2 p) (fun σ2 H2 O2 ps2 om2 sl2 g2 s2 p => kc σ2 H2 O2 ps2 om2 sl2 (g1.trans g2) s2 p) fun C f x d v H2 H3 O2 ps2 g2 p r hd e => kx C f x d v H2 H3 O2 ps2 (g1.trans g2) p r hd e
/-! ### list comprehensions -/
/-- the state without the block's names -/
theorem st_wipe {F : FT} {O0 : List Addr} {H0 H : Hp} {σ : L2.St} {O ps : List Addr} (s : St F O0 H0 H om σ sl O ps) : ∀ vs : List Nat, St F O0 H0 H om (wipe σ vs) (vs.foldr (fun i l => l.set i none) sl) O ps
  | [] => s
  | i :: vs => (st_wipe s vs).forget i none
/-- g sets the block's names alone -/
def Sets (g : TG) (vs : List Nat) : Prop := ∀ v σ H Q, g v (wipe σ vs) H Q → g v (wipe σ vs) H fun σ2 H2 => wipe σ2 vs = wipe σ vs ∧ Q σ2 H2
theorem wipe_set {σ : L2.St} {i : Nat} {x : Option V} : (σ.set i x).set i none = σ.set i none := by
  rw [List.set_set]
theorem sets_name (i : Nat) : Sets (gName i) [i] := fun v σ H Q h => ⟨by
  show ((σ.set i none).set i (some v)).set i none = σ.set i none
  rw [List.set_set, List.set_set], h⟩
theorem sets_pair {K : PySem.W.Frag} {i j : Nat} (hij : i ≠ j) : Sets (gTup K 2 (gCons (gName i) (gCons (gName j) gNil))) [i, j] := fun v σ H Q h => by
  obtain ⟨a, xs, e1, e2, e3, v1, r1, e4, v2, r2, e5, e6, q⟩ := h
  refine ⟨a, xs, e1, e2, e3, v1, r1, e4, v2, r2, e5, e6, ?_, q⟩
  show ((((((σ.set j none).set i none).set i (some v1)).set j (some v2)).set j none).set i none) = (σ.set j none).set i none
  rw [List.set_set, List.set_set, List.set_comm _ _ (Ne.symm hij), List.set_set, List.set_comm _ _ hij, List.set_set]
theorem ev_lc {wi : TI} {g : TG} {vs : List Nat} (hg : Sets g vs) (h : WV c wi om sl fun xs => ∃ Iv : Nat → List D → Prop, Iv 0 [] ∧
      (∀ i d acc, xs[i]? = some d → Iv i acc → GV c g d (om ++ [some (.l acc)]) (vs.foldr (fun i l => l.set i none) sl) fun om2 sl2 => ET c tt om2 sl2 fun b om3 =>
        (b = true → EV c te om3 sl2 fun e om4 => om4 = om ++ [some (.l acc)] ∧ ∃ y, e = .v y ∧ Iv (i + 1) (acc ++ [y])) ∧ (b = false → om3 = om ++ [some (.l acc)] ∧ Iv (i + 1) acc)) ∧
      (∀ i acc, Iv i acc → acc.length < 100000) ∧ ∀ acc, Iv xs.length acc → P (.v (.lst acc)) om) : EV c (tLc wi g tt te vs) om sl P := fun σ H O ps s Q k =>
  h σ H O ps s _ fun J H1 O1 ps1 G Y xs ⟨Iv, h0, hs, hb, hd⟩ g1 s1 w hG hY Dl hD => by
    obtain ⟨s2, g2, r2⟩ := s1.newOwn (vs := []) (ds := []) hD .nil
    have lp : ps1.length = om.length := s1.len
    have osl : ∀ (i k : Nat), sl[i]? = some (some (.o k)) → k < om.length := fun i k e => by
      obtain ⟨v, _, p, _, e2⟩ := s1.slots i _ e
      rw [← lp]
      exact (List.getElem?_eq_some_iff.mp e2).1
    have osl2 : ∀ (i n : Nat), sl[i]? = some (some (.rs n)) → ∀ j, j < n → 1 + j < om.length := fun i n e j hj => by
      obtain ⟨v, _, q, vs, _, _, _, _, e2⟩ := s1.slots i _ e
      obtain ⟨p, e3, _⟩ := e2 j hj
      rw [← lp]
      exact (List.getElem?_eq_some_iff.mp e3).1
    refine lc_it w (fun i H' => ∃ O' ps' acc, Go (Dl :: O1) (ps1 ++ [Dl]) (upd H1 Dl (.lst [])) O' ps' H' ∧ St c.F c.O0 c.H0 H' (om ++ [some (.l acc)]) σ sl O' ps' ∧ Iv i acc)
      ⟨Dl :: O1, ps1 ++ [Dl], [], Go.refl .., s2, h0⟩ (fun i H' _ ⟨O', ps', acc, g', _⟩ => hG H' O' ps' (g2.trans g')) ?_ ?_
    · rintro i v H2 H3 hi ⟨O2, ps2, acc, g3, s3, p⟩ hy
      obtain ⟨d, e1, k2, r⟩ := hY i H2 O2 ps2 v H3 (g2.trans g3) s3.al hi hy
      obtain ⟨s4, g4⟩ := s3.same k2
      refine hg v σ H3 _ (hs i d acc e1 p (wipe σ vs) H3 O2 ps2 (st_wipe s4 vs) v r _ fun σ5 sl5 s5 h5 => ?_)
      refine h5 σ5 H3 O2 ps2 s5 _ fun b H6 O6 ps6 om6 g6 s6 ⟨ht, hf⟩ => ?_
      -- the slots of σ stand as before
      have back : ∀ {H7 : Hp} {O7 ps7 : List Addr} {acc' : List D} {σ7 : L2.St} {sl7 : Sl}, Go O2 ps2 H2 O7 ps7 H7 → St c.F c.O0 c.H0 H7 (om ++ [some (.l acc')]) σ7 sl7 O7 ps7 → St c.F c.O0 c.H0 H7 (om ++ [some (.l acc')]) σ sl O7 ps7 := fun {H7 O7 ps7 acc' σ7 sl7} g7 s7 =>
        ⟨s7.en, s7.fo, s7.oo, s7.ff, s7.al, s7.len, s7.own, s7.inj, s7.pa, s7.dl, fun i e z => by
          obtain ⟨v, z1, z2⟩ := s3.slots i e z
          exact ⟨v, z1, z2.go g7⟩, s3.ln, s7.tb⟩
      cases b with
      | true =>
        refine (if_pos rfl).mpr (ht rfl σ5 H6 O6 ps6 s6 _ fun y H7 O7 ps7 e om7 g7 s7 r7 ⟨ho, z, he, hz⟩ => ?_)
        subst he ho
        obtain ⟨q, ws, e1, e2, e3, e4, e5⟩ := s7.ownL (k := om.length) (ds := acc) (by simp)
        have gg : Go O2 ps2 H2 O7 ps7 H7 := g4.trans (g6.trans g7)
        have eD : (ps1 ++ [Dl])[om.length]? = some Dl := by
          rw [← lp]
          simp
        have eq : q = Dl := Option.some.inj (e1.symm.trans (gg.pre _ _ (g3.pre _ _ eD)))
        subst eq
        have hw := hb _ _ p
        obtain ⟨s8, g8⟩ := s7.write (ds' := acc ++ [z]) (vs' := ws ++ [y]) (by simp : (om ++ [some (Own.l acc)])[om.length]? = some (some (Own.l acc))) e1 (e5.app (.cons (show Rl O7 H7 y z from r7) .nil))
        refine ⟨ws, e4, by rw [e5.len]; exact Nat.lt_of_lt_of_le hw (by decide), O7, ps7, acc ++ [z], g3.trans (gg.trans g8), ?_, hz⟩
        have es : (om ++ [some (Own.l acc)]).set om.length (some (Own.l (acc ++ [z]))) = om ++ [some (Own.l (acc ++ [z]))] := by simp [List.set_append]
        rw [es] at s8
        exact back (gg.trans g8) s8
      | false =>
        obtain ⟨ho, hz⟩ := hf rfl
        subst ho
        refine (if_neg Bool.false_ne_true).mpr ⟨O6, ps6, acc, g3.trans (g4.trans g6), back (g4.trans g6) s6, hz⟩
    · rintro H' ⟨O', ps', acc, g', s', p⟩
      have eD : ps'[om.length]? = some Dl := g'.pre _ _ (by
        rw [← lp]
        simp)
      obtain ⟨s9, x9, r9⟩ := s'.freeze osl osl2 eD
      have gf : Go O1 ps1 H1 (O'.filter fun a => decide (a ≠ Dl)) (ps'.take om.length) H' := ⟨(g2.trans g').ex.trans x9, fun k q e => by
        have hk : k < om.length := by
          rw [← lp]
          exact (List.getElem?_eq_some_iff.mp e).1
        rw [List.getElem?_take_of_lt hk]
        exact (g2.trans g').pre k q e⟩
      exact k _ H' _ _ (.v (.lst acc)) om (g1.trans gf) s9 r9 (hd acc p)
end
end DL
set_option Elab.async false
set_option linter.all false
set_option maxRecDepth 100000
set_option maxHeartbeats 4000000
namespace DL
open PySem PySem.Spec PyProof.Rows L2
/-! ### promises -/
def Al (O : List Addr) (H : Hp) : Prop := ∀ p ∈ O, H p ≠ none
/-- a def that changes nothing: from data ds (what pre asks) some r with R ds r, or an error of which X ds tells -/
def spP (ar : Nat) (pre : List D → Prop) (R : List D → D → Prop) (X : List D → Addr → Str → D → Prop) : Sp := fun vs H Q E => ∃ O ds, vs.length = ar ∧ Al O H ∧ RlA O H vs ds ∧ pre ds ∧
  (∀ v H' r, Same H H' → Rl O H' v r → R ds r → Q v H') ∧ ∀ C f x d v H1, Same H H1 → X ds C f x → Rl O H1 v x → H1 d = none → E (.ref C) (some d) (upd H1 d (.xd [(f, v)]))
/-- a def that draws: its first thing is the deal -/
def spN (ar : Nat) (pre : List D → Prop) (R : List D → D → Prop) : Sp := fun vs H Q _ => ∃ h a ws O ds, vs = .ref h :: ws ∧ ws.length = ar ∧ Al O H ∧ h ∈ O ∧ a ∈ O ∧ DealL h a H ∧ RlA O H ws ds ∧ pre ds ∧
  ∀ v H' r, (∀ b o, b ∉ [h, a] → H b = some o → H' b = some o) → DealL h a H' → Rl O H' v r → R ds r → Q v H'
def nX : List D → Addr → Str → D → Prop := fun _ _ _ _ => False
section
variable {c : Cn} {Ex : XK} {om : Om} {sl : Sl} {P : E → Om → Prop} {t : TS}
theorem cv_P {ar : Nat} {pre : List D → Prop} {R : List D → D → Prop} {X : List D → Addr → Str → D → Prop} {Ew : XK} {xs : List E} (h : ∃ ds, unv xs = some ds ∧ ds.length = ar ∧ pre ds ∧ (∀ C f x, ¬ X ds C f x) ∧ ∀ r, R ds r → P (.v r) om) : CV c (fun vs H Q => spP ar pre R X vs H Q Ew) om sl xs P := fun σ H O ps s vs r Q k => by
  obtain ⟨ds, he, hl, hp, hx, hr⟩ := h
  have he := unv_eq he
  subst he
  have ra := ra_data r
  refine ⟨O, ds, by rw [ra.len]; exact hl, s.al, ra, hp, fun v H' r' hs hv hR => ?_, fun C f x _ _ _ _ h => (hx C f x h).elim⟩
  obtain ⟨s2, g2⟩ := s.same hs
  exact k v H' O ps (.v r') om g2 s2 hv (hr r' hR)
/-- a call that may raise: what is raised is wished for -/
theorem cv_PX {ar : Nat} {pre : List D → Prop} {R : List D → D → Prop} {X : List D → Addr → Str → D → Prop} {Ew : XK} {xs : List E} (h : ∃ ds, unv xs = some ds ∧ ds.length = ar ∧ pre ds ∧ ∀ r, R ds r → P (.v r) om) (hE : ∀ σ H O ps, St c.F c.O0 c.H0 H om σ sl O ps → ∀ ds, xs = ds.map E.v → ∀ C f x d v H1, Same H H1 → X ds C f x → Rl O H1 v x → H1 d = none → Ew (.ref C) (some d) (upd H1 d (.xd [(f, v)]))) :
    CV c (fun vs H Q => spP ar pre R X vs H Q Ew) om sl xs P := fun σ H O ps s vs r Q k => by
  obtain ⟨ds, he, hl, hp, hr⟩ := h
  have he := unv_eq he
  have hE' := hE σ H O ps s ds he
  subst he
  have ra := ra_data r
  refine ⟨O, ds, by rw [ra.len]; exact hl, s.al, ra, hp, fun v H' r' hs hv hR => ?_, hE'⟩
  obtain ⟨s2, g2⟩ := s.same hs
  exact k v H' O ps (.v r') om g2 s2 hv (hr r' hR)
theorem cv_N {ar : Nat} {pre : List D → Prop} {R : List D → D → Prop} {Ew : XK} {xs : List E} (h : ∃ ys ds, xs = .l :: ys ∧ unv ys = some ds ∧ ds.length = ar ∧ pre ds ∧ ∀ r, R ds r → P (.v r) om) : CV c (fun vs H Q => spN ar pre R vs H Q Ew) om sl xs P := fun σ H O ps s vs r Q k => by
  obtain ⟨ys, ds, he, hy, hl, hp, hr⟩ := h
  have hy := unv_eq hy
  subst hy
  subst he
  cases r with
  | cons r1 r2 =>
    obtain ⟨h, a, hF, rfl⟩ := r1
    have ra := ra_data r2
    have inF : ∀ b ∈ [h, a], b ∈ c.F := fun b hb => show b ∈ c.F.a by
      rw [hF]
      rcases List.mem_cons.mp hb with y | y
      · rw [y]; exact List.mem_cons_self
      · rw [List.mem_singleton.mp y]; exact List.mem_cons_of_mem _ List.mem_cons_self
    have hD : DealL h a H := by
      rcases s.dl with z | ⟨h', a', st, ns, z1, z2⟩
      · have := congrArg List.length z
        rw [hF] at this
        simp at this
        omega
      · rw [hF] at z1
        injection z1 with z3 z4
        injection z4 with z4 _
        rw [z3, z4]
        exact ⟨st, ns, z2⟩
    have mh : h ∈ O := s.oo _ (s.ff _ (inF h (by simp))).1
    have ma : a ∈ O := s.oo _ (s.ff _ (inF a (by simp))).1
    refine ⟨h, a, _, O, ds, rfl, by rw [ra.len]; exact hl, s.al, mh, ma, hD, ra, hp, fun v H' r' hs hd hv hR => ?_⟩
    have al' : ∀ p ∈ O, H' p ≠ none := fun p hp => by
      by_cases q : p ∈ [h, a]
      · obtain ⟨st, ns, z2, z3, z4, z5⟩ := hd
        rcases List.mem_cons.mp q with y | y
        · rw [y, z3]
          exact fun z => nomatch z
        · rw [List.mem_singleton.mp y, z4]
          exact fun z => nomatch z
      · intro z
        cases e : H p with
        | none => exact s.al p hp e
        | some l =>
          rw [hs p _ q e] at z
          cases z
    have nF : ∀ b, b ∉ O → b ∉ [h, a] := fun b hb z => by
      rcases List.mem_cons.mp z with y | y
      · exact hb (y ▸ mh)
      · exact hb (List.mem_singleton.mp y ▸ ma)
    have x : Ext O H O H' := ⟨fun b o hb e => hs b o (nF b hb) e, fun _ z => .inl z⟩
    have g : Go O ps H O ps H' := ⟨x, fun _ _ z => z⟩
    refine k v H' O ps (.v r') om g ⟨fun b o hb e => hs b o (fun z => hb (inF b z)) (s.en b o hb e), s.fo, s.oo, s.ff, al', s.len, fun i es e => ?_, s.inj, fun i p e => ?_, .inr ⟨h, a, let ⟨st, ns, q⟩ := hd; ⟨st, ns, hF, q⟩⟩, fun i e he => ?_, s.ln, ?_⟩ hv (hr r' hR)
    · obtain ⟨p, e1, e2, e3, e4⟩ := s.own i es e
      refine ⟨p, e1, e2, e3, e4.ext x fun o => hs p _ (fun z => ?_)⟩
      exact (s.ff _ (inF _ z)).2 e3
    · intro z
      cases e3 : H p with
      | none => exact s.pa i p e e3
      | some o =>
        by_cases q : p ∈ [h, a]
        · exact al' p (by
            rcases List.mem_cons.mp q with y | y
            · rw [y]; exact mh
            · rw [List.mem_singleton.mp y]; exact ma) z
        · rw [hs p _ q e3] at z
          cases z
    · obtain ⟨w, e1, e2⟩ := s.slots i e he
      exact ⟨w, e1, e2.go g⟩
    · rcases s.tb with z | ⟨t1, t2⟩
      · exact .inl z
      obtain ⟨st, ns, y1, y2, y3, _⟩ := hd
      obtain ⟨st', ns', x1, x2, x3, _⟩ := hD
      refine TbOk.step (.inr ⟨t1, t2⟩) (fun b o hb e _ => x.keep b o hb e) (fun q hq => ?_) fun b hb => ?_
      · obtain ⟨ps', g1, _⟩ := t1 q hq
        rw [g1]
        refine hs q.1 _ (fun z => ?_) g1
        rcases List.mem_cons.mp z with y | y
        · rw [y, x2] at g1
          cases g1
        · rw [List.mem_singleton.mp y, x3] at g1
          cases g1
      · by_cases q : b ∈ [h, a]
        · refine .inr (.inl ?_)
          rcases List.mem_cons.mp q with y | y
          · rw [y, y2]
            exact notC_lst
          · rw [List.mem_singleton.mp y, y3]
            exact notC_lst
        · refine .inl ⟨hb, ?_⟩
          cases e : H b with
          | none => exact absurd e (s.al b hb)
          | some o => exact hs b o q e
/-! ### a def's entry -/
def sl0 (ds : List D) (n : Nat) : Sl := ds.map (fun d => some (.v d)) ++ List.replicate n none
theorem start_slots {O : List Addr} {H : Hp} {vs : List V} {ds : List D} {N : List Str} (r : RlA O H vs ds) (hn : vs.length ≤ N.length) : (L2.start N vs).length = (sl0 ds (N.length - ds.length)).length ∧
    ∀ (i : Nat) (e : E), (sl0 ds (N.length - ds.length))[i]? = some (some e) → ∃ v, (L2.start N vs)[i]? = some (some v) ∧ RE FT.non O [] H v e := by
  refine ⟨by simp [L2.start, sl0, r.len], fun i e he => ?_⟩
  unfold sl0 at he
  by_cases hi : i < ds.length
  · rw [List.getElem?_append_left (by simpa using hi), List.getElem?_map] at he
    have hd : ds[i]? = some ds[i] := List.getElem?_eq_getElem hi
    rw [hd] at he
    have he' := Option.some.inj (Option.some.inj he)
    obtain ⟨v, h1, h2⟩ := r.get hd
    refine ⟨v, ?_, by rw [← he']; exact h2⟩
    unfold L2.start
    rw [List.getElem?_append_left (by simpa [r.len] using hi), List.getElem?_map, h1]
    rfl
  · rw [List.getElem?_append_right (by simpa using hi), List.getElem?_replicate] at he
    split at he <;> cases he
theorem al_sub {O' : List Addr} {H : Hp} {v : V} {e : E} {d : D} {F : FT} {O0 ps : List Addr} {H0 : Hp} {σ : L2.St} (s : St F O0 H0 H om σ sl O' ps) (r : RE F O' ps H v e) (h : dat om e = some d) : Rl O0 H v d := by
  cases e with
  | v x =>
    have h' : x = d := Option.some.inj h
    subst h'
    exact Rl.sub s.oo r
  | o k =>
    obtain ⟨p, rfl, hp⟩ := r
    rcases olst_some (show olst om[k]? = some d from h) with ⟨ds, rfl, ho⟩ | ⟨ds, rfl, ho⟩ | ⟨C, dx, fs, rfl, ho⟩
    · obtain ⟨q, e1, e2, e3, vs, e4, e5⟩ := s.own k _ ho
      have eq : q = p := Option.some.inj (e1.symm.trans hp)
      subst eq
      exact Rl.lst e2.2 e4 (e5.sub s.oo)
    · obtain ⟨q, e1, e2, e3, vs, e4, e5⟩ := s.own k _ ho
      have eq : q = p := Option.some.inj (e1.symm.trans hp)
      subst eq
      exact Rl.dic e2.2 e4 (e5.sub s.oo)
    · obtain ⟨q, e1, e2, e3, vs, e4, e5⟩ := s.own k _ ho
      have eq : q = p := Option.some.inj (e1.symm.trans hp)
      subst eq
      exact Rl.obj e2.2 e4 (e5.sub s.oo)
  | l => cases h
  | rs n => cases h
/-- a def that changes nothing, by its body at data -/
theorem entryP {K : PySem.W.Frag} {N : List Str} {ar : Nat} {pre : List D → Prop} {R : List D → D → Prop} {X : List D → Addr → Str → D → Prop} {vs : List V} {H : Hp} {Q : VK} (hN : ar ≤ N.length) (h : spP ar pre R X vs H Q Ex)
    (b : ∀ (O : List Addr) (ds : List D), ds.length = ar → pre ds → SV ⟨FT.non, O, H, K⟩ Ex t [] (sl0 ds (N.length - ar)) { n := fun _ _ => R ds .non, r := fun e om => ∃ d, dat om e = some d ∧ R ds d, x := X ds }) :
    t { nx := fun _ H' => Q .non H', rt := Q } (L2.start N vs) H := by
  obtain ⟨O, ds, hl, al, ra, hp, hQ, hE⟩ := h
  have hl2 : ds.length = ar := by rw [← ra.len]; exact hl
  obtain ⟨h1, h2⟩ := start_slots (N := N) ra (by rw [hl]; exact hN)
  rw [hl2] at h1 h2
  have s0 : St FT.non O H H [] (L2.start N vs) (sl0 ds (N.length - ar)) O [] := ⟨fun _ _ _ h => h, fun _ h => .inl h, fun _ h => h, (fun b h => nomatch (show b ∈ ([] : List Addr) from h)), al, rfl, (fun k ds h => by simp at h), (fun j k p h => by simp at h), (fun k p h => by simp at h), .inl rfl, h2, h1, .inl rfl⟩
  have sm : ∀ {H' : Hp} {om' : Om} {σ' : L2.St} {sl' : Sl} {O' ps' : List Addr}, St FT.non O H H' om' σ' sl' O' ps' → Same H H' := fun s b o e => s.en b o (fun z => nomatch (show b ∈ ([] : List Addr) from z)) e
  refine b O ds hl2 hp (L2.start N vs) H O [] _ s0 (fun σ' H' O' ps' om' sl' g s' p => hQ _ H' .non (sm s') Rl.non p) (fun v σ' sl' H' O' ps' e om' g s' r ⟨d, hd, p⟩ => hQ v H' d (sm s') (al_sub s' r hd) p) (fun _ _ _ _ _ _ _ _ z => z.elim) (fun _ _ _ _ _ _ _ _ z => z.elim) ?_
  rintro C f x d v H1 H2 O' ps' g ⟨⟨om', σ', sl', s'⟩, p⟩ r hd rfl
  exact hE C f x d v H1 (sm s') p (r.sub s'.oo) hd
/-- a def that draws -/
theorem entryN {K : PySem.W.Frag} {N : List Str} {ar : Nat} {pre : List D → Prop} {R : List D → D → Prop} {vs : List V} {H : Hp} {Q : VK} (hN : ar + 1 ≤ N.length) (h : spN ar pre R vs H Q Ex)
    (b : ∀ (F : FT) (O : List Addr) (ds : List D), ds.length = ar → pre ds → SV ⟨F, O, H, K⟩ Ex t [] (some .l :: sl0 ds (N.length - (ar + 1))) { n := fun _ _ => R ds .non, r := fun e om => ∃ d, dat om e = some d ∧ R ds d }) :
    t { nx := fun _ H' => Q .non H', rt := Q } (L2.start N vs) H := by
  obtain ⟨h, a, ws, O, ds, rfl, hl, al, mh, ma, hD, ra, hp, hQ⟩ := h
  have hl2 : ds.length = ar := by rw [← ra.len]; exact hl
  cases N with
  | nil => simp at hN
  | cons nm N =>
    obtain ⟨h1, h2⟩ := start_slots (N := N) ra (by rw [hl]; simpa using hN)
    rw [hl2] at h1 h2
    have est : L2.start (nm :: N) (V.ref h :: ws) = some (V.ref h) :: L2.start N ws := by simp [L2.start]
    have esz : (nm :: N).length - (ar + 1) = N.length - ar := by simp
    rw [est]
    have lst : ∀ p ∈ [h, a], H p ≠ none := fun p hp => al p (by
      rcases List.mem_cons.mp hp with y | y
      · rw [y]; exact mh
      · rw [List.mem_singleton.mp y]; exact ma)
    have s0 : St (FT.deal h a) O H H [] (some (V.ref h) :: L2.start N ws) (some .l :: sl0 ds (N.length - ar)) O [] := ⟨fun _ _ _ h => h, fun _ h => .inl h, fun _ h => h, fun p hp => ⟨by
        rcases List.mem_cons.mp (show p ∈ [h, a] from hp) with y | y
        · rw [y]; exact mh
        · rw [List.mem_singleton.mp y]; exact ma, by
        exact lst p hp⟩, al, rfl, (fun k ds h => by simp at h), (fun j k p h => by simp at h), (fun k p h => by simp at h), .inr ⟨h, a, let ⟨st, ns, q⟩ := hD; ⟨st, ns, rfl, q⟩⟩, (fun i e he => by
        cases i with
        | zero =>
          have e' := Option.some.inj (Option.some.inj he)
          rw [← e']
          exact ⟨.ref h, rfl, h, a, rfl, rfl⟩
        | succ j =>
          obtain ⟨v, z1, z2⟩ := h2 j e (by simpa using he)
          refine ⟨v, by simpa using z1, ?_⟩
          cases e with
          | v d => exact z2
          | o k => exact z2
          | l =>
            obtain ⟨_, _, z, _⟩ := z2
            cases z
          | rs n => exact z2), by simp [h1], .inl rfl⟩
    have dl1 : ∀ {H' : Hp}, DealOk (FT.deal h a) H' → DealL h a H' := fun {H'} z => by
      rcases z with z | ⟨h', a', st, ns, z1, z2⟩
      · cases (show [h, a] = ([] : List Addr) from z)
      · injection (show [h, a] = h' :: a' :: ([] : List Addr) from z1) with z3 z4
        injection z4 with z4 _
        rw [z3, z4]
        exact ⟨st, ns, z2⟩
    have q := b (FT.deal h a) O ds hl2 hp
    rw [esz] at q
    refine q _ H O [] _ s0 (fun σ' H' O' ps' om' sl' g s' p => hQ _ H' .non s'.en (dl1 s'.dl) Rl.non p) (fun v σ' sl' H' O' ps' e om' g s' r ⟨d, hd, p⟩ => hQ v H' d s'.en (dl1 s'.dl) (al_sub s' r hd) p) (fun _ _ _ _ _ _ _ _ z => z.elim) (fun _ _ _ _ _ _ _ _ z => z.elim) ?_
    rintro C f x d v H1 H2 O' ps' g ⟨_, p⟩
    exact p.elim
/-! ### raise -/
def tRaiseF (fld : Str) (C : Addr) (W : WX) (ta : TA) : TS := fun _ σ H => ta σ H fun vs H1 => ∃ v, vs = [v] ∧ ∀ d, H1 d = none → W (.ref C) (some d) σ (upd H1 d (.xd [(fld, v)]))
theorem sv_raise {fld : Str} {C : Addr} {ta : TA} {Pq : Po} (h : EA c ta om sl fun es _ => ∃ x, es = [.v x] ∧ Pq.x C fld x) : SV c Ex (tRaiseF fld C (fun cls d _ H => Ex cls d H) ta) om sl Pq := fun σ H O ps Dn s kn kr kb kc kx =>
  h σ H O ps s _ fun vs H1 O1 ps1 es om1 g1 s1 r1 ⟨x, he, p⟩ => by
    subst he
    obtain ⟨v, rfl, rv⟩ := ra1 r1
    exact ⟨v, rfl, fun d hd => kx C fld x d v H1 _ O1 ps1 g1 ⟨⟨om1, σ, sl, s1⟩, p⟩ rv hd rfl⟩
end
end DL
set_option Elab.async false
set_option linter.all false
set_option maxRecDepth 100000
set_option maxHeartbeats 4000000
/-! s.discard(k) for sets of keys whose members are known -/
namespace STX
open PySem PySem.Spec PyProof.Rows L2
def memK (ks : List Key) (k : Key) : Bool := ks.any fun x => decide (x = k)
def delK (ks : List Key) (k : Key) : List Key := ks.filter fun x => !decide (x = k)
theorem memK_iff {ks : List Key} {k : Key} : memK ks k = true ↔ k ∈ ks := by
  unfold memK
  rw [List.any_eq_true]
  exact ⟨fun ⟨x, h, e⟩ => of_decide_eq_true e ▸ h, fun h => ⟨k, h, decide_eq_true rfl⟩⟩
theorem mem_delK {ks : List Key} {k i : Key} : i ∈ delK ks k ↔ i ∈ ks ∧ i ≠ k := by
  unfold delK
  rw [List.mem_filter]
  constructor
  · rintro ⟨h, e⟩
    refine ⟨h, fun z => ?_⟩
    rw [decide_eq_true z] at e
    cases e
  · rintro ⟨h, e⟩
    exact ⟨h, by rw [decide_eq_false e]; rfl⟩
theorem delK_nodup {ks : List Key} {k : Key} (h : ks.Nodup) : (delK ks k).Nodup := h.filter _
theorem delK_no : ∀ {ks : List Key} {k : Key}, k ∉ ks → delK ks k = ks
  | [], _, _ => rfl
  | x :: ks, k, h => by
    unfold delK
    have ne : ¬ x = k := fun e => h (by rw [e]; exact List.mem_cons_self)
    rw [List.filter_cons, if_pos (by rw [decide_eq_false ne]; rfl)]
    congr 1
    exact delK_no fun z => h (List.mem_cons_of_mem _ z)
theorem delK_len : ∀ {ks : List Key} {k : Key}, ks.Nodup → k ∈ ks → (delK ks k).length = ks.length - 1
  | x :: ks, k, hn, h => by
    have hn' := List.nodup_cons.mp hn
    by_cases e : x = k
    · have e2 : delK (x :: ks) k = delK ks k := by
        unfold delK
        rw [List.filter_cons, if_neg (by rw [decide_eq_true e]; exact fun z => nomatch z)]
      rw [e2, delK_no (e ▸ hn'.1), List.length_cons]
      rfl
    · have hk : k ∈ ks := (List.mem_cons.mp h).resolve_left fun z => e z.symm
      have e2 : delK (x :: ks) k = x :: delK ks k := by
        unfold delK
        rw [List.filter_cons, if_pos (by rw [decide_eq_false e]; rfl)]
      have := List.length_pos_of_mem hk
      rw [e2, List.length_cons, delK_len hn'.2 hk, List.length_cons]
      omega
theorem perm_of_all {α : Type} [DecidableEq α] : ∀ {ks l : List α}, ks.Nodup → (∀ x ∈ ks, x ∈ l) → l.length = ks.length → l.Perm ks
  | [], l, _, _, h => by
    have : l = [] := List.eq_nil_of_length_eq_zero h
    rw [this]
  | x :: ks, l, hn, hs, h => by
    have hx : x ∈ l := hs x List.mem_cons_self
    have hn' := List.nodup_cons.mp hn
    have p := List.perm_cons_erase hx
    have ih : (l.erase x).Perm ks := perm_of_all hn'.2 (fun y hy => by
      have hy' := hs y (List.mem_cons_of_mem _ hy)
      have ne : y ≠ x := fun e => hn'.1 (e ▸ hy)
      exact (List.mem_erase_of_ne ne).mpr hy') (by
      rw [List.length_erase_of_mem hx, h, List.length_cons]
      rfl)
    exact p.trans (ih.cons x)
theorem eraseAt_list {α : Type} (xs : Array α) (p : Nat) (hp : p < xs.size) : (SetTable.eraseAt xs p).toList = xs.toList.eraseIdx p := by
  unfold SetTable.eraseAt
  rw [Array.toList_append, Array.toList_extract, Array.toList_extract, List.eraseIdx_eq_take_drop_succ]
  simp only [List.extract_eq_take_drop]
  congr 1
  rw [List.take_of_length_le (by rw [List.length_drop]; simp)]
theorem drop_fits {t : SetTable} {n i : Nat} (h : t.fits n = true) (hi : i < n) : (t.drop i).fits (n - 1) = true := by
  have h0 := h
  simp only [SetTable.fits, Bool.and_eq_true, beq_iff_eq, decide_eq_true_eq] at h0
  obtain ⟨h1, h2⟩ := h0
  have hs : i < t.place.size := by omega
  have e : t.place[i]? = some t.place[i] := by simp [hs]
  have mk : ∀ T : SetTable, T.place.size = n - 1 → T.place.size + T.dummies.size ≤ T.mask → T.fits (n - 1) = true := fun T q1 q2 => by
    simp only [SetTable.fits, Bool.and_eq_true, beq_iff_eq, decide_eq_true_eq, SetTable.fill]
    exact ⟨q1, decide_eq_true q2⟩
  have e1 : (SetTable.eraseAt t.place i).size = t.place.size - 1 := by
    rw [← Array.length_toList, eraseAt_list _ _ hs, List.length_eraseIdx_of_lt (by simpa using hs), Array.length_toList]
  have e2 : ∀ (p x : Nat), (SetTable.insertAt t.dummies p x).size ≤ t.dummies.size + 1 := fun p x => by
    unfold SetTable.insertAt
    simp
    omega
  have e3 := e2 (SetTable.below t.dummies t.place[i]) t.place[i]
  unfold SetTable.fill at h2
  unfold SetTable.drop
  rw [e]
  refine mk _ ?_ ?_
  · show (SetTable.eraseAt t.place i).size = n - 1
    omega
  · show (SetTable.eraseAt t.place i).size + (SetTable.insertAt t.dummies (SetTable.below t.dummies t.place[i]) t.place[i]).size ≤ t.mask
    omega
section
variable {prog : Program} {w : World} {A : Around} {E : Value → Shared → Prop} {s : Shared} {a : Addr} {ks : List Key} {k : Key} {u : Value}
/-- the keys of the entries, one for each -/
theorem keys_of : ∀ {l : List (Int × Value)}, ElemsOf (mixKind prog w) l → ∃ zs : List Key, zs.length = l.length ∧ ∀ (i : Nat) (e : Int × Value), l[i]? = some e → ∃ z, zs[i]? = some z ∧ (mixKind prog w).is z e.2 = true
  | [], _ => ⟨[], rfl, fun i e h => by simp at h⟩
  | e :: l, h => by
    obtain ⟨zs, h1, h2⟩ := keys_of h.tail
    obtain ⟨⟨z, hz, _⟩, _⟩ := h.head
    refine ⟨z :: zs, by simp [h1], fun i e' he => ?_⟩
    cases i with
    | zero =>
      have : e = e' := by simpa using he
      exact ⟨z, rfl, this ▸ hz⟩
    | succ i =>
      obtain ⟨y, h3, h4⟩ := h2 i e' (by simpa using he)
      exact ⟨y, by simpa using h3, h4⟩
theorem discard_run {Q : Bool → Shared → Prop} (hn : ks.Nodup) (hkey : (mixKind prog w).is k u = true) (hsc : u.scannable = true) (hS : s.heap.SetOf (mixKind prog w) a (memK ks) ks.length)
    (h : ∀ b h', Heap.SameBut a s.heap h' → h'.SetOf (mixKind prog w) a (memK (delK ks k)) (delK ks k).length → Q b { s with heap := h' }) :
    wpAny (model prog w) A (setDiscardHashed a u ((mixKind prog w).hash k)) Q E s := by
  obtain ⟨o, es, ep, t, ho, hex, hd, hel, hmem, hb, hf, hz⟩ := hS
  obtain ⟨zs, hzl, hzs⟩ := keys_of hel
  have inz : ∀ j, j ∈ ks → j ∈ zs := fun j hj => by
    obtain ⟨e, he, hp⟩ := (hmem j).mp (memK_iff.mpr hj)
    obtain ⟨i, hi, ei⟩ := List.getElem_of_mem he
    obtain ⟨z, z1, z2⟩ := hzs i e (by rw [List.getElem?_eq_getElem hi, ei])
    rw [(mixKind prog w).inj e.2 j z hp z2]
    exact List.mem_of_getElem? z1
  have hl : zs.length = ks.length := by rw [hzl, ← hz, Array.length_toList]
  have pz : zs.Perm ks := perm_of_all hn inz hl
  have zn : zs.Nodup := pz.nodup_iff.mpr hn
  unfold setDiscardHashed setFind setFindIn
  refine wpAny_bind (wpAny_bind (wpAny_setState_of ho hd hf ?_))
  dsimp only
  rw [byScan_of hsc hb hel, if_pos rfl]
  refine wpAny_bind (wpAny_rule ?_)
  refine wpAny_bind (wpAny_setScan_of hkey ho hd hf hel ?_)
  cases hr : List.findIdx? (fun e => (mixKind prog w).is k e.2) es.toList with
  | none =>
    dsimp only
    refine wpAny_pure (wpAny_pure ?_)
    have nk : k ∉ ks := fun z => by
      obtain ⟨e, he, hp⟩ := (hmem k).mp (memK_iff.mpr z)
      have q := List.findIdx?_eq_none_iff.mp hr e he
      rw [hp] at q
      cases q
    have ee : delK ks k = ks := delK_no nk
    have := h false s.heap (Heap.SameBut.refl a s.heap) (by rw [ee]; exact ⟨o, es, ep, t, ho, hex, hd, hel, hmem, hb, hf, hz⟩)
    exact this
  | some j =>
    dsimp only
    obtain ⟨hj, hpj, _⟩ := List.findIdx?_eq_some_iff_getElem.mp hr
    have hj' : j < es.size := by simpa using hj
    refine wpAny_pure ?_
    dsimp only
    rw [Nat.zero_add]
    refine wpAny_bind (wpAny_setState_of ho hd hf ?_)
    dsimp only
    have sz : (SetTable.eraseAt es j).size = es.size - 1 := by rw [← Array.length_toList, eraseAt_list _ _ hj', List.length_eraseIdx_of_lt hj, Array.length_toList]
    refine wpAny_bind (wpAny_storeSet_of ho hd ?_ (fits_of_scanBound (by rw [sz]; omega)))
    refine wpAny_bind (wpAny_point (wpAny_pure ?_))
    obtain ⟨zk, zk1, zk2⟩ := hzs j _ (List.getElem?_eq_getElem hj)
    have ek : zk = k := (mixKind prog w).inj _ zk k zk2 hpj
    subst ek
    have kin : zk ∈ ks := memK_iff.mp <| (hmem zk).mpr ⟨_, List.getElem_mem hj, hpj⟩
    have el : (delK ks zk).length = es.size - 1 := by rw [delK_len hn kin, hz]
    refine h true _ (Heap.SameBut.update s.heap a _) ?_
    have q := (SetOf_store (knd := mixKind prog w) (S' := memK (delK ks zk)) ho hex hd (es' := SetTable.eraseAt es j) (t' := t.drop j) ?_ ?_ (by rw [sz]; omega) (by rw [sz]; exact drop_fits hf hj')).2
    · rw [sz, ← el] at q
      exact q
    · rw [eraseAt_list _ _ hj']
      exact fun e he => hel e (List.mem_of_mem_eraseIdx he)
    · intro i
      rw [eraseAt_list _ _ hj', memK_iff, mem_delK]
      constructor
      · rintro ⟨hi, ne⟩
        obtain ⟨e, he, hp⟩ := (hmem i).mp (memK_iff.mpr hi)
        refine ⟨e, ?_, hp⟩
        obtain ⟨m, hm, em⟩ := List.getElem_of_mem he
        have mj : m ≠ j := fun c => by
          subst c
          exact ne ((mixKind prog w).inj _ i zk (em ▸ hp) hpj)
        rw [List.mem_eraseIdx_iff_getElem?]
        exact ⟨m, mj, by rw [List.getElem?_eq_getElem hm, em]⟩
      · rintro ⟨e, he, hp⟩
        rw [List.mem_eraseIdx_iff_getElem?] at he
        obtain ⟨m, mj, em⟩ := he
        have ie : i ∈ ks := memK_iff.mp <| (hmem i).mpr ⟨e, List.mem_of_getElem? em, hp⟩
        refine ⟨ie, fun c => ?_⟩
        subst c
        obtain ⟨z, z1, z2⟩ := hzs m e em
        have zz : z = i := (mixKind prog w).inj e.2 z i z2 hp
        subst zz
        exact mj ((List.getElem?_inj (by rw [hzl]; exact (List.getElem?_eq_some_iff.mp em).1) zn).mp (z1.trans zk1.symm))
/-- s.discard(k) at the machine -/
theorem call_discard {Q : Value → Shared → Prop} (hn : ks.Nodup) (hkey : (mixKind prog w).is k u = true) (hsc : u.scannable = true) (hS : s.heap.SetOf (mixKind prog w) a (memK ks) ks.length)
    (h : ∀ h', Heap.SameBut a s.heap h' → h'.SetOf (mixKind prog w) a (memK (delK ks k)) (delK ks k).length → Q .none { s with heap := h', toks := s.toks + 1 }) :
    wpAny (model prog w) A (call (.builtin "set.discard") [.ref a, u]) Q E s := by
  refine wpAny_call_entry F.slot_set_discard hS.typeIs F.entry_set_discard ?_ (F.args_set_discard_2 _ _)
  unfold Builtin.«set.discard» Builtin.Frozenset.oneOther Builtin.Frozenset.withSetAsKey
  simp only [List.isEmpty_nil, bind_assoc]
  unfold Builtin.Frozenset.addrOf setDiscard
  refine wpAny_bind (wpAny_pure ?_)
  refine wpAny_bind (wpAny_pure ?_)
  dsimp only
  refine wpAny_bind (wpAny_tryCatch ?_)
  refine wpAny_holding (wpAny_bind ((mixKind prog w).pyHash hkey ?_))
  refine discard_run (s := { s with toks := s.toks + 1 }) hn hkey hsc hS fun b h' hb hS' => ?_
  exact wpAny_pure ⟨_, rfl, h h' hb hS'⟩
end
end STX
set_option Elab.async false
set_option linter.all false
set_option maxRecDepth 100000
set_option maxHeartbeats 4000000
/-! sets and dicts of the def's own: the layer's rules, then by data -/
namespace STX
open PySem PySem.Spec PyProof.Rows L2
section
variable {X : Cx}
/-- the set whose members are ks -/
def setO (P : Program) (w : World) (ks : List Key) (a : Addr) : HO := SetK P w a (memK ks) ks.length
theorem upd_self {H : Hp} {a : Addr} {o : HO} (h : H a = some o) : upd H a o = H := by
  funext b
  by_cases e : b = a
  · rw [e, upd_same, h]
  · rw [upd_ne e]
/-- s.discard(k) -/
def rSDis (P : Program) (w : World) : V → List V → Hp → VK → Prop := fun x xs H Q => ∃ (a : Addr) (k : Key) (ks : List Key), x = V.ref a ∧ xs = [kV k] ∧ ks.Nodup ∧ H a = some (setO P w ks a) ∧ Q .non (upd H a (setO P w (delK ks k) a))
theorem mt_sdis : MtR X "set.discard" (rSDis X.prog X.w) := fun pins s σ H x xs v us Q I rx rxs h => by
  obtain ⟨a, k, ks, rfl, rfl, hn, ha, q⟩ := h
  cases rx
  cases rxs with
  | cons ry rt =>
    cases rt
    refine call_discard hn (kV_is ry) (key_scan ry) (setK_get I ha) fun h' sb new => ?_
    have he : ∃ u, h'.get? a = some u := let ⟨o, _, _, _, ho, _⟩ := new; ⟨o, ho⟩
    exact ⟨.non, _, I.write (e := a) (t' := s.toks + 1) (by rw [ha]; trivial) (.inl rfl) (fun b u hb hu => (sb.2 b hb).trans hu) he (setK_new new), rfl, q⟩
def isSet (P : Program) (w : World) (x : V) (H : Hp) : Prop := ∃ a S n, x = V.ref a ∧ H a = some (SetK P w a S n)
/-- a set's method with arguments -/
def tSM (P : Program) (w : World) (r : V → List V → Hp → VK → Prop) (to : TE) (t : TA) : TE := fun σ H Q => to σ H fun x H1 => isSet P w x H1 ∧ t σ H1 fun xs H2 => r x xs H2 Q
variable {o e : Expr} {es : List Expr} {to : TE} {t : TA} {apos cpos : Pos} {name : Str} {id : String} {r : V → List V → Hp → VK → Prop}
theorem pe_sm (slot : Slot "set" name id) (hty : typeOf (.builtin id) = pure (.type "method_descriptor")) (hm : MtR X id r) (ho : PE X o to) (ha : PA X (e :: es) t) (hbase : attributeBase o name X.env (eval o X.env) = eval o X.env := by rfl)
    (hfew : ((backTo cpos (starEach (e :: es) X.env)).all (fun x => !x.1) && (backToKw cpos (keywordEach [] X.env)).all (fun x => x.1.isSome) && decide ((e :: es).length + ([] : List Keyword).length + (if ([] : List Keyword).isEmpty then 0 else 1) < 30)) = true := by rfl)
    (hline : (apos.endLine == cpos.line) = true := by rfl) (hst : starEach (e :: es) X.env = (false, eval e X.env) :: starEach es X.env := by rfl) (hpl : (backTo cpos (starEach es X.env)).any (·.1) = false := by rfl) : PE X (.Call (.Attribute o name apos) (e :: es) [] cpos) (tSM X.prog X.w r to t) :=
  ⟨fun pins s σ H Q I h => by
    refine wpAny_Call_method_late hbase hfew hline rfl (thn (ho.run pins s σ H _ I h) fun v s1 ⟨x, H1, I1, r1, ty, q1⟩ => ?_)
    obtain ⟨a, S, n, rfl, hka⟩ := ty
    have hS := setK_get I1 hka
    cases r1
    refine ⟨"set", id, F.plainAttrs_set, slot, hty, hS.typeIs, hS.noDict, ?_⟩
    have hA := ha.run cpos pins s1 σ H1 _ I1 q1
    rw [hst] at hA ⊢
    refine Calls.callWith_builtin (show (false || (backTo cpos (starEach es X.env)).any (·.1)) = false by rw [hpl] <;> rfl) (Calls.evalArgs_plain (thn hA fun us s2 ⟨vs, H2, I2, r2, q2⟩ => ?_))
    exact hm pins s2 σ H2 (.ref a) vs (.ref a) us Q I2 rfl r2 q2⟩
/-- len(s) of a set -/
def rLenS (P : Program) (w : World) : List V → Hp → VK → Prop := fun xs H Q => ∃ a S n, xs = [V.ref a] ∧ H a = some (SetK P w a S n) ∧ Q (.int (n : Int)) H
theorem cr_lenS : CallR X (.builtin "len") (rLenS X.prog X.w) := fun pins s σ H xs us Q I r h => by
  obtain ⟨a, S, n, rfl, ha, q⟩ := h
  obtain ⟨u, rfl, ru⟩ := vals1 r
  cases ru
  obtain ⟨o, es, ep, t, ho, hex, hd, _, _, hb, hf, hn⟩ := setK_get I ha
  have h4 : scanBound = 4096 := rfl
  refine call_len_set ho hex hd hf (by omega) ?_
  rw [hn]
  exact ⟨.int (n : Int), H, I.tok _, ⟨_, rfl⟩, q⟩
end
end STX
namespace DL
open PySem PySem.Spec PyProof.Rows L2 STX
/-! ### dicts as data -/
def valD (kvs : List (Key × D)) (k : Key) : Option D := (kvs.find? fun kv => decide (kv.1 = k)).map (·.2)
def putD (kvs : List (Key × D)) (k : Key) (d : D) : List (Key × D) :=
  if (kvs.any fun kv => decide (kv.1 = k)) = true then kvs.map (fun kv => if kv.1 = k then (kv.1, d) else kv) else kvs ++ [(k, d)]
theorem valD_cons {p : Key × D} {r : List (Key × D)} {k : Key} : valD (p :: r) k = if p.1 = k then some p.2 else valD r k := by
  unfold valD
  rw [List.find?_cons]
  by_cases e : p.1 = k
  · rw [decide_eq_true e, if_pos e]
    rfl
  · rw [decide_eq_false e, if_neg e]
theorem valD_any (k : Key) : ∀ kvs : List (Key × D), (kvs.any fun kv => decide (kv.1 = k)) = (valD kvs k).isSome
  | [] => rfl
  | p :: r => by
    rw [List.any_cons, valD_cons, valD_any k r]
    by_cases e : p.1 = k
    · rw [if_pos e, decide_eq_true e]
      rfl
    · rw [if_neg e, decide_eq_false e, Bool.false_or]
theorem valD_snoc (kvs : List (Key × D)) (k j : Key) (d : D) (h : valD kvs k = none) : valD (kvs ++ [(k, d)]) j = if k = j then some d else valD kvs j := by
  induction kvs with
  | nil =>
    rw [List.nil_append, valD_cons]
  | cons p r ih =>
    rw [valD_cons] at h
    by_cases e : p.1 = k
    · rw [if_pos e] at h
      cases h
    · rw [if_neg e] at h
      rw [List.cons_append, valD_cons, valD_cons, ih h]
      by_cases e2 : p.1 = j
      · rw [if_pos e2, if_pos e2, if_neg fun z => e (e2.trans z.symm)]
      · rw [if_neg e2, if_neg e2]
theorem valD_map (kvs : List (Key × D)) (k j : Key) (d : D) : valD (kvs.map fun kv => if kv.1 = k then (kv.1, d) else kv) j = if k = j then (valD kvs j).map fun _ => d else valD kvs j := by
  induction kvs with
  | nil => split <;> rfl
  | cons p r ih =>
    rw [List.map_cons, valD_cons, valD_cons, ih]
    by_cases e : p.1 = k
    · rw [if_pos e]
      by_cases e2 : p.1 = j
      · rw [if_pos e2, if_pos (e.symm.trans e2), if_pos e2]
        rfl
      · rw [if_neg e2, if_neg e2]
    · rw [if_neg e]
      by_cases e2 : p.1 = j
      · rw [if_pos e2, if_neg fun z => e (e2.trans z.symm), if_pos e2]
      · rw [if_neg e2, if_neg e2]
theorem valD_put (kvs : List (Key × D)) (k j : Key) (d : D) : valD (putD kvs k d) j = if k = j then some d else valD kvs j := by
  unfold putD
  rw [valD_any]
  cases c : valD kvs k with
  | none =>
    rw [if_neg (by decide)]
    exact valD_snoc kvs k j d c
  | some x =>
    rw [if_pos (show (some x).isSome = true from rfl), valD_map]
    by_cases e : k = j
    · rw [if_pos e, if_pos e, ← e, c]
      rfl
    · rw [if_neg e, if_neg e]
theorem putD_new {kvs : List (Key × D)} {k : Key} {d : D} (h : valD kvs k = none) : putD kvs k d = kvs ++ [(k, d)] := by
  unfold putD
  rw [valD_any, h]
  exact if_neg (by decide)
theorem putD_len (kvs : List (Key × D)) (k : Key) (d : D) : (putD kvs k d).length ≤ kvs.length + 1 := by
  unfold putD
  split
  · rw [List.length_map]
    omega
  · rw [List.length_append]
    exact Nat.le_refl _
section
variable {O : List Addr} {H : Hp}
theorem RlK.any (k : Key) : ∀ {ws : List (Key × V)} {ds : List (Key × D)}, RlK O H ws ds → (ws.any fun kv => decide (kv.1 = k)) = ds.any fun kv => decide (kv.1 = k)
  | _, _, .nil => rfl
  | _, _, .cons _ t => by rw [List.any_cons, List.any_cons, RlK.any k t]
theorem RlK.val {k : Key} : ∀ {ws : List (Key × V)} {ds : List (Key × D)}, RlK O H ws ds → (valV ws k = none ∧ valD ds k = none) ∨ ∃ v d, valV ws k = some v ∧ valD ds k = some d ∧ Rl O H v d
  | _, _, .nil => .inl ⟨rfl, rfl⟩
  | _, _, .cons (f := f) (v := v) (d := d) h t => by
    by_cases e : f = k
    · exact .inr ⟨v, d, valV_pos e, by rw [valD_cons, if_pos e], h⟩
    · rw [valV_neg e, valD_cons, if_neg e]
      exact RlK.val t
theorem RlK.snoc {k : Key} {v : V} {d : D} (r : Rl O H v d) : ∀ {ws : List (Key × V)} {ds : List (Key × D)}, RlK O H ws ds → RlK O H (ws ++ [(k, v)]) (ds ++ [(k, d)])
  | _, _, .nil => .cons r .nil
  | _, _, .cons h t => .cons h (RlK.snoc r t)
theorem RlK.repl {k : Key} {v : V} {d : D} (r : Rl O H v d) : ∀ {ws : List (Key × V)} {ds : List (Key × D)}, RlK O H ws ds → RlK O H (ws.map fun kv => if kv.1 = k then (kv.1, v) else kv) (ds.map fun kv => if kv.1 = k then (kv.1, d) else kv)
  | _, _, .nil => .nil
  | _, _, .cons (f := f) h t => by
    rw [List.map_cons, List.map_cons]
    by_cases e : f = k
    · rw [if_pos e, if_pos e]
      exact .cons r (RlK.repl r t)
    · rw [if_neg e, if_neg e]
      exact .cons h (RlK.repl r t)
theorem RlK.put {k : Key} {v : V} {d : D} (r : Rl O H v d) {ws : List (Key × V)} {ds : List (Key × D)} (h : RlK O H ws ds) : RlK O H (putK ws k v) (putD ds k d) := by
  unfold putK putD
  rw [h.any k]
  split
  · exact h.repl r
  · exact h.snoc r
theorem RlK.len : ∀ {ws : List (Key × V)} {ds : List (Key × D)}, RlK O H ws ds → ws.length = ds.length
  | _, _, .nil => rfl
  | _, _, .cons _ t => congrArg (· + 1) (RlK.len t)
end
/-- a key as data -/
def keyD : D → Option Key
  | .int i => some (.inl i)
  | .str x => some (.inr x)
  | _ => none
theorem key_rl {O : List Addr} {H : Hp} {v : V} {d : D} {k : Key} (r : Rl O H v d) (h : keyD d = some k) : v = kV k := by
  cases d <;> cases h <;> cases r <;> rfl
section
variable {c : Cn} {Ex : XK} {om : Om} {sl : Sl} {P : E → Om → Prop} {td ty tv tx : TE} {tr : TA} {Pq : Po} {Pg : Program} {w : World}
/-- {} -/
theorem ev_dnew (p : P (.o om.length) (om ++ [some (.d [])])) : EV c tDNewK om sl P := fun σ H O ps s Q k q hq => by
  obtain ⟨s2, g2, r2⟩ := s.newOwnW (u := .dK []) (ds := .d []) hq ⟨[], upd_same, .nil⟩
  exact k _ _ _ _ _ _ g2 s2 r2 p
theorem ev_dget (h : EV c td om sl fun x om1 => ∃ kvs, dat om1 x = some (.dic kvs) ∧ EV c ty om1 sl fun y om2 => dat om2 x = some (.dic kvs) ∧ ∃ d k r, y = .v d ∧ keyD d = some k ∧ valD kvs k = some r ∧ P (.v r) om2) : EV c (tDGet td ty) om sl P := fun σ H O ps s Q k =>
  h σ H O ps s _ fun v H1 O1 ps1 x om1 g1 s1 r1 ⟨kvs, hx, h1⟩ => h1 σ H1 O1 ps1 s1 _ fun u H2 O2 ps2 y om2 g2 s2 r2 ⟨hx2, d, kk, r, hy, hk, hv, p⟩ => by
    subst hy
    obtain ⟨q, ws, rfl, hq, rk⟩ := as_k s2 (r1.go g2) hx2
    have eu := key_rl (show Rl O2 H2 u d from r2) hk
    rcases rk.val (k := kk) with ⟨_, e⟩ | ⟨v', d', e1, e2, e3⟩
    · rw [hv] at e
      cases e
    · rw [hv] at e2
      cases e2
      exact ⟨q, v', rfl, .inl ⟨ws, kk, .inl hq, eu, e1.symm⟩, k v' H2 O2 ps2 (.v r) om2 (g1.trans g2) s2 e3 p⟩
theorem ev_din (h : EV c ty om sl fun y om1 => ∃ d k, y = .v d ∧ keyD d = some k ∧ EV c td om1 sl fun x om2 => ∃ kvs, dat om2 x = some (.dic kvs) ∧ P (.v (.bl (valD kvs k).isSome)) om2) : EV c (tDIn ty td) om sl P := fun σ H O ps s Q k =>
  h σ H O ps s _ fun u H1 O1 ps1 y om1 g1 s1 r1 ⟨d, kk, hy, hk, h1⟩ => h1 σ H1 O1 ps1 s1 _ fun v H2 O2 ps2 x om2 g2 s2 r2 ⟨kvs, hx, p⟩ => by
    subst hy
    obtain ⟨q, ws, rfl, hq, rk⟩ := as_k s2 r2 hx
    have eu := key_rl (show Rl O1 H1 u d from r1) hk
    have es : (valV ws kk).isSome = (valD kvs kk).isSome := by
      rcases rk.val (k := kk) with ⟨e1, e2⟩ | ⟨v', d', e1, e2, e3⟩ <;> rw [e1, e2] <;> rfl
    refine ⟨q, valV ws kk, rfl, .inl ⟨ws, kk, .inl hq, eu, rfl⟩, ?_⟩
    rw [es]
    exact k _ H2 O2 ps2 (.v (.bl _)) om2 (g1.trans g2) s2 (Rl.bl _) p
theorem ev_dget2 (h : EV c td om sl fun x om1 => ∃ kvs, dat om1 x = some (.dic kvs) ∧ EV c ty om1 sl fun y om2 => ∃ d k, y = .v d ∧ keyD d = some k ∧ EV c tx om2 sl fun z om3 => dat om3 x = some (.dic kvs) ∧ ∃ e, z = .v e ∧ P (.v ((valD kvs k).getD e)) om3) : EV c (tDGet2 td ty tx) om sl P := fun σ H O ps s Q k =>
  h σ H O ps s _ fun v H1 O1 ps1 x om1 g1 s1 r1 ⟨kvs, hx, h1⟩ => by
    obtain ⟨q, ws, rfl, hq, rk⟩ := as_k s1 r1 hx
    refine ⟨q, rfl, .inl ⟨ws, .inl hq⟩, h1 σ H1 O1 ps1 s1 _ fun u H2 O2 ps2 y om2 g2 s2 r2 ⟨d, kk, hy, hk, h2⟩ => h2 σ H2 O2 ps2 s2 _ fun z H3 O3 ps3 ez om3 g3 s3 r3 ⟨hx3, e, he, p⟩ => ?_⟩
    subst hy he
    have eu := key_rl (show Rl O2 H2 u d from r2) hk
    obtain ⟨q', ws', e0, hq', rk'⟩ := as_k s3 (r1.go (g2.trans g3)) hx3
    cases e0
    refine ⟨valV ws' kk, .inl ⟨ws', kk, .inl hq', eu, rfl⟩, k _ H3 O3 ps3 (.v _) om3 (g1.trans (g2.trans g3)) s3 ?_ p⟩
    rcases rk'.val (k := kk) with ⟨e1, e2⟩ | ⟨v', d', e1, e2, e3⟩
    · rw [e1, e2]
      exact r3
    · rw [e1, e2]
      exact e3
/-- d[k] = v -/
theorem sv_dput (h : EV c tv om sl fun z om1 => ∃ e, z = .v e ∧ EV c td om1 sl fun x om2 => ∃ i, x = .o i ∧ EV c ty om2 sl fun y om3 => ∃ d k kvs, y = .v d ∧ keyD d = some k ∧ om3[i]? = some (some (.d kvs)) ∧ kvs.length < 1000 ∧ Pq.n (om3.set i (some (.d (putD kvs k e)))) sl) : SV c Ex (sDPut td ty tv) om sl Pq := fun σ H O ps Dn s kn kr kb kc kx =>
  h σ H O ps s _ fun vz H1 O1 ps1 z om1 g1 s1 r1 ⟨e, he, h1⟩ => h1 σ H1 O1 ps1 s1 _ fun vx H2 O2 ps2 x om2 g2 s2 r2 ⟨i, hi, h2⟩ => h2 σ H2 O2 ps2 s2 _ fun vy H3 O3 ps3 y om3 g3 s3 r3 ⟨d, kk, kvs, hy, hk, ho, hl, p⟩ => by
    subst he hi hy
    have eu := key_rl (show Rl O3 H3 vy d from r3) hk
    obtain ⟨q0, rfl, hp⟩ := (r2.go g3 : RE c.F O3 ps3 H3 vx (.o i))
    obtain ⟨q, e1, e2, e3, ws, e4, e5⟩ := s3.own i _ ho
    have eq : q = q0 := Option.some.inj (e1.symm.trans hp)
    subst eq
    have rz : Rl O3 H3 vz e := (show Rl O1 H1 vz e from r1).ext (g2.trans g3).ex
    obtain ⟨s4, g4⟩ := s3.writeW (u := .dK (putK ws kk vz)) (ds' := .d (putD kvs kk e)) ho e1 ⟨_, upd_same, (e5.put rz).ext (ext_write _ e2.1)⟩
    exact ⟨q, _, rfl, .inl ⟨ws, kk, e4, eu, by rw [e5.len]; exact small1000 (Nat.le_of_lt_succ (by omega)), rfl⟩, kn σ _ O3 ps3 _ sl (g1.trans (g2.trans (g3.trans g4))) s4 p⟩
/-! ### sets -/
theorem notC_set {a : Addr} {S : Key → Bool} {n : Nat} : NotC a (some (SetK Pg w a S n)) := by
  refine ⟨fun q z => ?_, fun ps z => (by injection z with z; cases z)⟩
  injection z with z
  unfold SetK LamX.CodeO at z
  injection z with z
  obtain ⟨ob, hob⟩ : ∃ ob : Obj, ob = { cls := .none, data := .fields #[.none, .str q 0] } := ⟨_, rfl⟩
  have hg : Heap.get? ⟨Array.replicate (a + 1) ob, {}⟩ a = some ob := by
    unfold Heap.get?
    have : (Array.replicate (a + 1) ob)[a]? = some ob := by simp
    dsimp only
    rw [this, hob]
  have y := congrFun z ⟨Array.replicate (a + 1) ob, {}⟩
  have y2 : ∃ oc vs t, Heap.get? ⟨Array.replicate (a + 1) ob, {}⟩ a = some oc ∧ oc.data = Data.fields vs ∧ vs[1]? = some (Value.str q t) := ⟨ob, _, 0, hg, by rw [hob], rfl⟩
  rw [← y] at y2
  obtain ⟨o, es, ep, t, ho, _, hd, _⟩ := y2
  rw [hg] at ho
  cases ho
  rw [hob] at hd
  cases hd
def ownS (Pg : Program) (w : World) (ks : List Key) : Own := .h (setO Pg w ks)
theorem ev_set0 (p : P (.o om.length) (om ++ [some (ownS Pg w [])])) : EV c (tCB (rSet0K Pg w) tNil) om sl P := fun σ H O ps s Q k => by
  refine ⟨rfl, fun q hq => ?_⟩
  obtain ⟨s2, g2, r2⟩ := s.newOwnW (u := SetK Pg w q (fun _ => false) 0) (ds := ownS Pg w []) hq ⟨upd_same, notC_set⟩
  exact k _ _ _ _ _ _ g2 s2 r2 p
theorem own_set (s : St c.F c.O0 c.H0 H om σ sl O ps) {i : Nat} {ks : List Key} {v : V} (ho : om[i]? = some (some (ownS Pg w ks))) (r : RE c.F O ps H v (.o i)) : ∃ p, v = .ref p ∧ ps[i]? = some p ∧ H p = some (setO Pg w ks p) := by
  obtain ⟨q0, rfl, hp⟩ := r
  obtain ⟨q, e1, e2, e3, e4⟩ := s.own i _ ho
  have eq : q = q0 := Option.some.inj (e1.symm.trans hp)
  subst eq
  exact ⟨q, rfl, e1, e4.1⟩
def addK (ks : List Key) (k : Key) : List Key := if memK ks k = true then ks else ks ++ [k]
theorem mem_addK {ks : List Key} {k j : Key} : j ∈ addK ks k ↔ j ∈ ks ∨ j = k := by
  unfold addK
  split
  · rename_i h
    exact ⟨.inl, fun z => z.elim id fun e => e ▸ memK_iff.mp h⟩
  · simp
theorem addK_nodup {ks : List Key} {k : Key} (h : ks.Nodup) : (addK ks k).Nodup := by
  unfold addK
  split
  · exact h
  · rename_i e
    rw [List.nodup_append]
    refine ⟨h, by simp, fun a ha b hb => ?_⟩
    rw [List.mem_singleton] at hb
    subst hb
    intro z
    subst z
    exact e (memK_iff.mpr ha)
theorem setO_add {ks : List Key} {k : Key} {a : Addr} : setO Pg w (addK ks k) a = SetK Pg w a (fun j => memK ks j || decide (j = k)) (if memK ks k = true then ks.length else ks.length + 1) := by
  unfold setO
  have e1 : memK (addK ks k) = fun j => memK ks j || decide (j = k) := by
    funext j
    rw [Bool.eq_iff_iff, memK_iff, mem_addK, Bool.or_eq_true, memK_iff, decide_eq_true_eq]
  have e2 : (addK ks k).length = if memK ks k = true then ks.length else ks.length + 1 := by
    unfold addK
    split
    · rfl
    · simp
  rw [e1, e2]
/-- a set's method -/
theorem ev_sm {r : V → List V → Hp → VK → Prop} (h : EV c td om sl fun x om1 => (∃ i ks, x = .o i ∧ om1[i]? = some (some (ownS Pg w ks))) ∧ EA c tr om1 sl fun xs om2 => MV c r om2 sl x xs P) : EV c (tSM Pg w r td tr) om sl P := fun σ H O ps s Q k =>
  h σ H O ps s _ fun v H1 O1 ps1 x om1 g1 s1 r1 ⟨⟨i, ks, hx, ho⟩, h1⟩ => by
    subst hx
    obtain ⟨p, rfl, e1, e2⟩ := own_set s1 ho r1
    refine ⟨⟨p, _, _, rfl, e2⟩, h1 σ H1 O1 ps1 s1 _ fun vs H2 O2 ps2 es om2 g2 s2 r2 m => ?_⟩
    exact m σ H2 O2 ps2 s2 (.ref p) vs (r1.go g2) r2 Q fun z H3 O3 ps3 e3 om3 g3 s3 r3 p => k z H3 O3 ps3 e3 om3 (g1.trans (g2.trans g3)) s3 r3 p
theorem mv_sadd {i : Nat} {ks : List Key} {d : D} {k : Key} (ho : om[i]? = some (some (ownS Pg w ks))) (hk : keyD d = some k) (hl : ks.length < 1000) (p : P (.v .non) (om.set i (some (ownS Pg w (addK ks k))))) : MV c (rSAddK Pg w) om sl (.o i) [.v d] P := fun σ H O ps s v vs r rs Q kk => by
  obtain ⟨x, rfl, rx⟩ := ra1 rs
  obtain ⟨q, rfl, e1, e2⟩ := own_set s ho r
  have h4 : scanBound = 4096 := rfl
  obtain ⟨s2, g2⟩ := s.writeW (u := setO Pg w (addK ks k) q) (ds' := ownS Pg w (addK ks k)) ho e1 ⟨upd_same, notC_set⟩
  refine ⟨q, k, _, _, rfl, by rw [key_rl (show Rl O H x d from rx) hk], e2, by omega, ?_⟩
  rw [← setO_add]
  exact kk _ _ O ps (.v .non) _ g2 s2 Rl.non p
theorem mv_sdis {i : Nat} {ks : List Key} {d : D} {k : Key} (ho : om[i]? = some (some (ownS Pg w ks))) (hn : ks.Nodup) (hk : keyD d = some k) (p : P (.v .non) (om.set i (some (ownS Pg w (delK ks k))))) : MV c (rSDis Pg w) om sl (.o i) [.v d] P := fun σ H O ps s v vs r rs Q kk => by
  obtain ⟨x, rfl, rx⟩ := ra1 rs
  obtain ⟨q, rfl, e1, e2⟩ := own_set s ho r
  obtain ⟨s2, g2⟩ := s.writeW (u := setO Pg w (delK ks k) q) (ds' := ownS Pg w (delK ks k)) ho e1 ⟨upd_same, notC_set⟩
  exact ⟨q, k, ks, rfl, by rw [key_rl (show Rl O H x d from rx) hk], hn, e2, kk _ _ O ps (.v .non) _ g2 s2 Rl.non p⟩
theorem cv_lenS1 {i : Nat} {ks : List Key} (ho : om[i]? = some (some (ownS Pg w ks))) (p : P (.v (.int (ks.length : Int))) om) : CV c (rLenS Pg w) om sl [.o i] P := fun σ H O ps s vs r Q k => by
  obtain ⟨x, rfl, rx⟩ := ra1 r
  obtain ⟨q, rfl, e1, e2⟩ := own_set s ho rx
  exact ⟨q, _, _, rfl, e2, k _ H O ps (.v (.int _)) om (Go.refl ..) s (Rl.int _) p⟩
theorem ov_sin {i : Nat} {ks : List Key} {d : D} {k : Key} {neg : Bool} (ho : om[i]? = some (some (ownS Pg w ks))) (hk : keyD d = some k) (p : P (.v (.bl (if neg then !memK ks k else memK ks k))) om) : OV c (rSInK Pg w neg) om sl (.v d) (.o i) P := fun σ H O ps s v u rv ru Q kk => by
  obtain ⟨q, rfl, e1, e2⟩ := own_set s ho ru
  exact ⟨k, q, _, _, key_rl (show Rl O H v d from rv) hk, rfl, e2, kk _ H O ps (.v (.bl _)) om (Go.refl ..) s (Rl.bl _) p⟩
end
end DL
set_option Elab.async false
set_option linter.all false
set_option maxRecDepth 100000
set_option maxHeartbeats 4000000
/-! calls by name, positional or by keywords; defs that know that nothing is guarded around them -/
namespace HL
open PySem PySem.Spec PyProof.Rows L2
/-- FnOk where nothing is guarded around (repr of containers wants it) -/
structure FnG (P : Program) (w : World) (K : PySem.W.Frag) (mg : Str → Option Value) (base : Heap) (CX : CXT) (k : Nat) (f : Addr) (fd : FuncData) (ps : List Str) (sp : Sp) : Prop where
  len : ∀ vs H Q E, sp vs H Q E → vs.length = ps.length
  run : ∀ (A : Around) (outer : List Env) (s : Shared) (H : Hp) (args : Args) (us : List Value) (vs : List V) (Q : VK) (E : XK), Room k A → A.guards = some [] → Env0 P w K mg base A outer s H → BindsTo s fd args (ps.zip us) → Vals vs us → sp vs H Q E →
    codeAny (model P w) A (.call (.ref f) args) (CR CX outer P w H s Q E) s
theorem _root_.L2.FnOk.toG {P : Program} {w : World} {K : PySem.W.Frag} {mg : Str → Option Value} {base : Heap} {CX : CXT} {k : Nat} {f : Addr} {fd : FuncData} {ps : List Str} {sp : Sp} (F : FnOk P w K mg base CX k f fd ps sp) : FnG P w K mg base CX k f fd ps sp :=
  ⟨F.len, fun A outer s H args us vs Q E hr _ e0 hb r h => F.run A outer s H args us vs Q E hr e0 hb r h⟩
section
variable {P : Program} {w : World} {K : PySem.W.Frag} {mg : Str → Option Value} {base : Heap} {CX : CXT}
/-- a def's promise by its body, nothing guarded around -/
theorem okG {x qual : Str} {st : Stmt} {f : Addr} {fd : FuncData} {N ps : List Str} {k : Nat} {sp : Sp} (F : Fun K x qual st f fd) (S : FnScope N ps (defScope st)) (len : ∀ vs H Q E, sp vs H Q E → vs.length = ps.length)
    (hbody : ∀ (cdv : Value) (A : Around) (outer : List Env) (s : Shared) (H : Hp) (vs : List V) (Q : VK) (E : XK), Room k (A.deeper (envOfC qual (defScope st) s.heap.objs.size f cdv)) → A.guards = some [] → sp vs H Q E →
      ∃ t, PSs (cxOf CX P w K mg base N qual (defScope st) f cdv A outer s H E) (defBody st) t ∧ t { nx := fun _ H' => Q .non H', rt := Q } (L2.start N vs) H) : FnG P w K mg base CX (k + 1) f fd ps sp := by
  obtain ⟨oc, od, kV, doc, pm, an, cdv, ct, osl, rfl, lk, hcd⟩ := F.ex
  refine ⟨len, fun A outer s H args us vs Q E hr hg e0 hb r hsp => ?_⟩
  exact LamX.run_ofS lk hcd S hr e0 hb r (len _ _ _ _ hsp) fun hr' => hbody cdv A outer s H vs Q E hr' hg hsp
/-- a def that may be called by its name, positional or by keywords in the parameters' order -/
structure Ca (P : Program) (w : World) (K : PySem.W.Frag) (mg : Str → Option Value) (base : Heap) (CX : CXT) (k : Nat) (x : Str) (ps : List Str) (sp : Sp) : Prop where
  ex : ∃ (f : Addr) (fd : FuncData), FnOk P w K mg base CX k f fd ps sp ∧ mg x = some (.ref f) ∧ PySem.W.keepIn K (.ref f) = true ∧ Binds K fd ps [] ∧ KBn K fd ps 0 ps (fun _ ws => ws) (fun _ zs => zs)
structure CaG (P : Program) (w : World) (K : PySem.W.Frag) (mg : Str → Option Value) (base : Heap) (CX : CXT) (k : Nat) (x : Str) (ps : List Str) (sp : Sp) : Prop where
  ex : ∃ (f : Addr) (fd : FuncData), FnG P w K mg base CX k f fd ps sp ∧ mg x = some (.ref f) ∧ PySem.W.keepIn K (.ref f) = true ∧ Binds K fd ps []
/-- what binds it: a def of the text without defaults -/
structure DefB (K : PySem.W.Frag) (mg : Str → Option Value) (x : Str) (st : Stmt) (ps : List Str) (f : Addr) (fd : FuncData) : Prop where
  fn : Fun K x x st f fd
  gl : mg x = some (.ref f)
  b : Binds K fd ps []
  kb : KBn K fd ps 0 ps (fun _ ws => ws) (fun _ zs => zs)
theorem ca_of {x : Str} {st : Stmt} {ps N : List Str} {f : Addr} {fd : FuncData} {k : Nat} {sp : Sp} (B : DefB K mg x st ps f fd) (S : FnScope N ps (defScope st)) (len : ∀ vs H Q E, sp vs H Q E → vs.length = ps.length)
    (hbody : ∀ (cdv : Value) (A : Around) (outer : List Env) (s : Shared) (H : Hp) (vs : List V) (Q : VK) (E : XK), Room k (A.deeper (envOfC x (defScope st) s.heap.objs.size f cdv)) → sp vs H Q E →
      ∃ t, PSs (cxOf CX0 P w K mg base N x (defScope st) f cdv A outer s H E).nox (defBody st) t ∧ t { nx := fun _ H' => Q .non H', rt := Q } (L2.start N vs) H) : Ca P w K mg base CX0 (k + 1) x ps sp :=
  ⟨f, fd, B.fn.ok S len hbody, B.gl, B.fn.kp, B.b, B.kb⟩
theorem ca_ofX {x : Str} {st : Stmt} {ps N : List Str} {f : Addr} {fd : FuncData} {k : Nat} {sp : Sp} (B : DefB K mg x st ps f fd) (S : FnScope N ps (defScope st)) (len : ∀ vs H Q E, sp vs H Q E → vs.length = ps.length)
    (hbody : ∀ (cdv : Value) (A : Around) (outer : List Env) (s : Shared) (H : Hp) (vs : List V) (Q : VK) (E : XK), Room k (A.deeper (envOfC x (defScope st) s.heap.objs.size f cdv)) → sp vs H Q E →
      ∃ t, PSs (cxOf (L2.CX P w) P w K mg base N x (defScope st) f cdv A outer s H E) (defBody st) t ∧ t { nx := fun _ H' => Q .non H', rt := Q } (L2.start N vs) H) : Ca P w K mg base (L2.CX P w) (k + 1) x ps sp :=
  ⟨f, fd, B.fn.okX S len hbody, B.gl, B.fn.kp, B.b, B.kb⟩
theorem cag_of {x : Str} {st : Stmt} {ps N : List Str} {f : Addr} {fd : FuncData} {k : Nat} {sp : Sp} (B : DefB K mg x st ps f fd) (S : FnScope N ps (defScope st)) (len : ∀ vs H Q E, sp vs H Q E → vs.length = ps.length)
    (hbody : ∀ (cdv : Value) (A : Around) (outer : List Env) (s : Shared) (H : Hp) (vs : List V) (Q : VK) (E : XK), Room k (A.deeper (envOfC x (defScope st) s.heap.objs.size f cdv)) → A.guards = some [] → sp vs H Q E →
      ∃ t, PSs (cxOf CX0 P w K mg base N x (defScope st) f cdv A outer s H E).nox (defBody st) t ∧ t { nx := fun _ H' => Q .non H', rt := Q } (L2.start N vs) H) : CaG P w K mg base CX0 (k + 1) x ps sp :=
  ⟨f, fd, okG B.fn S len fun cdv A outer s H vs Q E hr hg h => let ⟨t, h1, h2⟩ := hbody cdv A outer s H vs Q E hr hg h; ⟨t, h1.nox, h2⟩, B.gl, B.fn.kp, B.b⟩
theorem CaG.at' {k : Nat} {x : Str} {ps : List Str} {sp : Sp} (c : CaG P w K mg base CX k x ps sp) : ∃ (f : Addr) (fd : FuncData), FnG P w K mg base CX k f fd ps sp ∧ mg x = some (.ref f) := let ⟨f, fd, h, m, _⟩ := c.ex; ⟨f, fd, h, m⟩
end
section
variable {X : Cx} {CX : CXT} {k j : Nat} {x : Str} {ps : List Str} {sp : Sp} {E : XK} {p pos : Pos} {e : Expr} {es : List Expr} {kws : List Keyword} {t : TA}
theorem pe_ca (c : Ca X.prog X.w X.K X.mg X.base CX k x ps sp) (hr : Room j X.A) (hk : k ≤ j) (hx : Passes CX X E) (ha : PA X (e :: es) t) (hg : Gl X x := by rfl)
    (hdb : (x == ("__debug__" : Str)) = false := by decide) (he : starEach (e :: es) X.env = (false, eval e X.env) :: starEach es X.env := by rfl) (hpl : (backTo pos (starEach es X.env)).any (·.1) = false := by rfl) :
    PE X (.Call (.Name x p) (e :: es) [] pos) (tCall sp [] E t) := by
  obtain ⟨f, fd, F, m, kp, b, _⟩ := c.ex
  exact pe_call F (hr.mono hk) hg m kp b .nil hx ha hdb he hpl
theorem pe_caK (c : Ca X.prog X.w X.K X.mg X.base CX k x ps sp) (hr : Room j X.A) (hk : k ≤ j) (hx : Passes CX X E) (hkw : PK X kws t) (hg : Gl X x := by rfl)
    (hall : (backToKw pos (keywordEach kws X.env)).all (·.1.isSome) = true := by rfl) (hks : (backToKw pos (keywordEach kws X.env)).filterMap (·.1) = ps := by rfl)
    (hdb : (x == ("__debug__" : Str)) = false := by decide)
    (hpl : ((backTo pos (starEach [] X.env)).any (·.1) || (backToKw pos (keywordEach kws X.env)).any (·.1.isNone)) = false := by rfl) :
    PE X (.Call (.Name x p) [] kws pos) (tCall sp [] E t) := by
  obtain ⟨f, fd, F, m, kp, _, b⟩ := c.ex
  refine ⟨fun pins s σ H Q I h => ?_⟩
  refine wpAny_Call_Name_kw (ld_glob I hg m ?_ hdb)
  refine PySem.W.callWith_KW0 (h₀ := X.base) I.ok.mod.kin kp hall (thn (hkw.run pos pins s σ H _ I h) fun ws s2 ⟨zs, H2, I2, rz, q2⟩ => ⟨I2.kIn, ?_⟩) hpl
  rw [hks]
  have q3 : sp (zs ++ []) H2 Q E := q2
  rw [List.append_nil] at q3
  exact run_fnN (vs := []) (us := []) F (hr.mono hk) b hx I2 .nil rz rfl (F.len _ _ _ _ q3) q3
theorem pe_caG (c : CaG X.prog X.w X.K X.mg X.base CX k x ps sp) (hr : Room j X.A) (hk : k ≤ j) (hgd : X.A.guards = some []) (hx : Passes CX X E) (ha : PA X (e :: es) t) (hg : Gl X x := by rfl)
    (hdb : (x == ("__debug__" : Str)) = false := by decide) (he : starEach (e :: es) X.env = (false, eval e X.env) :: starEach es X.env := by rfl) (hpl : (backTo pos (starEach es X.env)).any (·.1) = false := by rfl) :
    PE X (.Call (.Name x p) (e :: es) [] pos) (tCall sp [] E t) := by
  obtain ⟨f, fd, F, m, kp, b⟩ := c.ex
  refine ⟨fun pins s σ H Q I h => ?_⟩
  refine wpAny_Call_Name_kw (ld_glob I hg m ?_ hdb)
  refine PySem.W.callWith_K (h₀ := X.base) I.ok.mod.kin kp (thn (ha.run pos pins s σ H _ I h) fun us s1 ⟨vs, H1, I1, r, q⟩ => ⟨I1.kIn, ?_⟩) he hpl
  have q2 : sp (vs ++ []) H1 Q E := q
  rw [List.append_nil] at q2
  have hl : (us ++ []).length = ps.length := by rw [List.append_nil, ← r.length]; exact F.len _ _ _ _ q2
  have hb := b s1 us I1.kIn hl
  rw [List.append_nil] at hb
  refine wpAny_call (codeAny_mono (F.run X.A X.stack s1 H1 ⟨us, []⟩ us vs Q E (hr.mono hk) hgd I1.env0 hb r q2) fun z s' hq => ?_)
  rcases z with e | fl
  · exact hx pins σ H1 s1 e s' I1 hq
  · cases fl <;> first | exact I1.after hq | exact False.elim hq
end
end HL
set_option Elab.async false
set_option linter.all false
set_option maxRecDepth 100000
set_option maxHeartbeats 4000000
/-! own exceptions over any built-in ones: made by position or by keyword -/
namespace EX
open PySem PySem.W PySem.Calls PyProof.Rows PySem.HandSPX
open Builtin Builtin.ObjectAttr
theorem pass_E (self : Value) : refuseLoop self "__setattr__" [.type "Exception", .type "BaseException", .type "object"] = pure () := F.store_Exception.passes self
theorem pass_K (self : Value) : refuseLoop self "__setattr__" [.type "KeyError", .type "LookupError", .type "Exception", .type "BaseException", .type "object"] = pure () := by kernel_rfl
/-- the classes behind a class of ours: own ones, then built-in exceptions among which these things stand -/
structure Ch (B : String) (bm : List Value) : Prop where
  b : bm.contains (.type B) = true
  a : bm.contains (.type "AttributeError") = false
  n : bm.contains (.type "NameError") = false
  o : bm.contains (.type "object") = true
  p : ∀ self, refuseLoop self "__setattr__" bm = pure ()
theorem ch_Y (Y : Addr) : Ch "Exception" [.ref Y, .type "Exception", .type "BaseException", .type "object"] := ⟨rfl, rfl, rfl, rfl, fun self => (refuseLoop_ref ..).trans (pass_E self)⟩
theorem ch_K : Ch "LookupError" [.type "KeyError", .type "LookupError", .type "Exception", .type "BaseException", .type "object"] := ⟨rfl, rfl, rfl, rfl, pass_K⟩
theorem ch_E : Ch "Exception" [.type "Exception", .type "BaseException", .type "object"] := ⟨rfl, rfl, rfl, rfl, pass_E⟩
section
variable {prog : Program} {w : World} {A : Around} {E : Value → Shared → Prop} {R : Result → Shared → Prop} {hp : Heap} {g : Array GenState} {d : Drawn} {t : Nat} {os : OsState}
/-- self.f = v on such an exception without a dict -/
theorem osaG {K : W.Frag} {name : Str} {tk : Tok} {v : Value} {x C : Addr} {fv : Array Value} {cd : ClassData} {B : String} {bm : List Value} (ch : Ch B bm)
    (X : K.In hp) (hx : hp.get? x = some { cls := .ref C, data := .fields fv }) (hcd : W.clsIn K C = some cd) (hm : cd.mro = .ref C :: bm) (hh : cd.hasDict = true) (ha : W.findIn K (.ref C) name = some none)
    (hq : ∀ h' tk' dx, (∀ b o, b ≠ x → hp.get? b = some o → h'.get? b = some o) → hp.objs.size ≤ dx → dx ≠ x → h'.get? x = some { cls := .ref C, dict := some dx, data := .fields fv } →
      h'.Ns1 dx (fun y => if y = name then some v else none) → R (.ok (.ret .none)) ⟨h', g, d, tk', os⟩) :
    codeAny (model prog w) A (.call (.builtin "object.__setattr__") ⟨[.ref x, .str name tk, v], []⟩) R ⟨hp, g, d, t, os⟩ := by
  have I : W.InstAt hp x { cls := .ref C, data := .fields fv } C none := ⟨hx, rfl, rfl, trivial⟩
  have SF := F.store_object
  have ne : cd.mro.isEmpty = false := by rw [hm]; rfl
  have hob : cd.mro.contains (.type "object") = true := by rw [hm, List.contains_cons, ch.o, Bool.or_true]
  have hxs : x ≠ hp.objs.size := Nat.ne_of_lt (Heap.lt_size hx)
  have sub : W.Looks (model prog w) hp (isInstance (.ref x) (.type "object")) true := I.type.andThen (W.looks_mroIn X (by unfold W.mroIn; rw [hcd, Option.bind_some, if_neg (by rw [ne]; decide), hob]))
  refine codeAny_call_builtin SF.slot.plain SF.entry (@W.check_slot (model prog w) _ _ ⟨hp, g, d, t, os⟩ "object.__setattr__" "object" "__setattr__" (.ref x) [.str name tk, v] [] _ SF.kind SF.split sub (SF.args (.ref x) (.str name tk) v) ?_)
  have hmr : W.Looks (model prog w) hp (mroOf (.ref C)) cd.mro := (W.looks_clsIn X hcd).andThen .now
  have L3 : W.Looks (model prog w) hp (storeTaker? none) none := .now
  have hcls : W.Looks (model prog w) hp (classData C) cd := W.looks_clsIn X hcd
  rw [W.osa_eq, refuse_eq]
  refine wpAny_bind (wpAny_bind (I.type.at (wpAny_bind (hmr.at ?_))))
  rw [hm, refuseLoop_ref, ch.p]
  refine wpAny_pure (wpAny_bind (I.type.at (wpAny_bind ((W.looks_findIn X ha).at (wpAny_bind (L3.at ?_))))))
  show wpAny _ _ (storeInOwnDict (.ref x) (.ref C) (.str name tk) name v false) _ _ _
  obtain ⟨nm, bs, mro, ns, qn, hd, sn, sb, ab, col, del⟩ := cd
  dsimp only at hh
  subst hh
  unfold storeInOwnDict ownDictForStores
  repeat (first | with_reducible refine store_in_new ?_ ?_ | with_reducible refine wpAny_loadPart_at hx ?_ | with_reducible refine hcls.at ?_ | wp_step)
  · exact ⟨_, #[], _, (Heap.get?_update_ne _ _ _ _ hxs.symm).trans (Heap.get?_push_at rfl rfl), rfl, fun e he => absurd he (by simp), fun _ => rfl⟩
  · intro h' tk' hn' hs
    have hx₁ : (hp.push { cls := .type "dict", data := .dict #[] }).get? x = some { cls := .ref C, data := .fields fv } := Heap.get?_push_of_some _ hx
    refine hq h' tk' hp.objs.size (fun b o hb ho => ?_) (Nat.le_refl _) hxs.symm ?_ hn'
    · exact (hs.2 b (Nat.ne_of_lt (Heap.lt_size ho))).trans ((Heap.get?_update_ne _ _ _ _ hb).trans (Heap.get?_push_of_some _ ho))
    · exact (hs.2 x hxs).trans (Heap.get?_update_self _ hx₁ rfl)
end
/-! ### type.__call__: BaseException.__new__, then the own __init__; any arguments -/
section
variable {M : Model} {A : Around} {E : Value → Shared → Prop} {h : Heap} {g : Array GenState} {d : Drawn} {t : Nat} {os : OsState}
variable {nm q : Str} {C N : Addr} {bs bm bmB : List Value} {hdct : Bool} {sn : List Str} {sub : List Value} {ab : Bool} {col : Option Bool} {dd : Option Addr} {k0 k1 k2 k3 k5 : Option Value} {B newId initId : String}
theorem check_newK (F : ExcBaseFacts B newId initId bmB) (ch : Ch B bm) {rest : List Value} {n : Str} {v : Value} {kw : List (Str × Value)} (hkw : kw = [] ∨ kw = [(n, v)]) {Q : Unit → Shared → Prop}
    (hC : h.get? C = some (excClassObj nm q C N bs bm hdct sn sub ab col dd k0 k1 k2 k3 k5 newId)) (hq : Q () ⟨h, g, d, t, os⟩) : wpAny M A (checkBuiltinCall newId ⟨.ref C :: rest, kw⟩) Q E ⟨h, g, d, t, os⟩ := by
  have hcont : (Value.ref C :: bm).contains (.type B) = true := by rw [List.contains_cons, ch.b, Bool.or_true]
  have hstar := F.noStar
  rcases hkw with rfl | rfl
  · simp only [checkBuiltinCall, F.newKind, F.newSplit, F.newRow]
    repeat (first | refine wpAny_loadPart_at hC ?_ | (refine wpAny_isSubtype_exc hC ?_; rw [hcont]) | refine wpAny_staticBase_exc hC ?_ | refine wpAny_madeBy_exc hC ?_ | simp only [bne_self_eq_false, Bool.false_eq_true, if_false] | wp_step)
    exact hq
  · simp only [checkBuiltinCall, F.newKind, F.newSplit, F.newRow]
    repeat (first | refine wpAny_loadPart_at hC ?_ | (refine wpAny_isSubtype_exc hC ?_; rw [hcont]) | refine wpAny_staticBase_exc hC ?_ | refine wpAny_madeBy_exc hC ?_ | simp only [bne_self_eq_false, Bool.false_eq_true, if_false] | wp_step)
    exact hq
end
end EX
set_option Elab.async false
set_option linter.all false
set_option maxRecDepth 100000
set_option maxHeartbeats 4000000
namespace EX
open PySem PySem.W PySem.Calls PyProof.Rows PySem.HandSPX
open Builtin Builtin.ObjectAttr
section
variable {prog : Program} {w : World} {A : Around} {E : Value → Shared → Prop} {R : Result → Shared → Prop} {h : Heap} {g : Array GenState} {d : Drawn} {t : Nat} {os : OsState}
variable {nm q : Str} {C N : Addr} {bs bm bmB : List Value} {hdct : Bool} {sn : List Str} {sub : List Value} {ab : Bool} {col : Option Bool} {dd : Option Addr} {k0 k1 k2 k3 k5 : Option Value} {B newId initId : String}
theorem newK (F : ExcBaseFacts B newId initId bmB) (ch : Ch B bm) {rest : List Value} {n : Str} {v : Value} {kw : List (Str × Value)} (hkw : kw = [] ∨ kw = [(n, v)])
    (hC : h.get? C = some (excClassObj nm q C N bs bm hdct sn sub ab col dd k0 k1 k2 k3 k5 newId)) (hq : R (.ok (.ret (.ref (h.objs.size + 1)))) ⟨(h.push (W.kdv_tup rest)).push (excO C h.objs.size), g, d, t, os⟩) (hrest : rest.length ≤ sizeLine) :
    codeAny (model prog w) A (.builtin newId ⟨.ref C :: rest, kw⟩) R ⟨h, g, d, t, os⟩ := by
  have hends := F.ends
  have hcB : (Value.ref C :: bm).contains (.type B) = true := by rw [List.contains_cons, ch.b, Bool.or_true]
  have hcA : (Value.ref C :: bm).contains (.type "AttributeError") = false := by rw [List.contains_cons, ch.a]; rfl
  have hcN : (Value.ref C :: bm).contains (.type "NameError") = false := by rw [List.contains_cons, ch.n]; rfl
  refine codeAny_builtinAt F.entry ?_
  unfold Builtin.«BaseException.__new__»
  refine PySem.wpAt_bind ?_
  show PySem.wpAt _ _ _ (stack >>= _) _ _ _
  refine PySem.wpAt_bind (PySem.wpAt_stack fun p below => PySem.wpAt_of_wpAny ?_)
  wp_walk
  refine PySem.wpAt_of_wpAny ?_
  rw [F.owner]
  repeat (first | with_reducible refine wpAny_madeHere_exc F.canon hC ?_ | with_reducible refine wpAny_loadPart_at hC ?_ | (with_reducible refine wpAny_isSubtype_exc hC ?_; first | rw [hcB] | rw [hcA] | rw [hcN]) | wp_step)
  show R _ _
  rw [Heap.size_push]
  exact hq
theorem type_callK (F : ExcBaseFacts B newId initId bmB) (ch : Ch B bm) {rest : List Value} {n : Str} {v : Value} {kw : List (Str × Value)} (hkw : kw = [] ∨ kw = [(n, v)]) {fI : Addr} {Q : Fin → Shared → Prop}
    (hC : h.get? C = some (excClassObj nm q C N bs bm hdct sn sub ab col dd k0 k1 k2 k3 k5 newId))
    (hi : W.Looks (model prog w) h (typeLookup (.ref C) "__init__") (some (.ref fI))) (hb : ∀ self, W.Looks (model prog w) h (bindSpecial (.ref fI) self) (.ref fI, [self])) (hrest : rest.length ≤ sizeLine)
    (hq : codeAny (model prog w) A (.call (.ref fI) ⟨.ref (h.objs.size + 1) :: rest, kw⟩)
      (fun r s' => match r with | .ok (.ret v) => v = .none ∧ Q (.done (.ret (.ref (h.objs.size + 1)))) s' | .ok _ => False | .error e => E e s')
      ⟨(h.push (W.kdv_tup rest)).push (excO C h.objs.size), g, d, t, os⟩) :
    wpAny (model prog w) A (Builtin.«type.__call__» ⟨.ref C :: rest, kw⟩) Q E ⟨h, g, d, t, os⟩ := by
  repeat (first | with_reducible refine wpAny_loadPart_at hC ?_ | with_reducible refine wpAny_madeBy_exc hC ?_ | wp_step)
  refine codeAny_call_builtin_code (Code.quiet_builtin _ F.quiet) (check_newK F ch hkw hC ?_)
  refine newK F ch hkw hC ?_ hrest
  show wpAny _ _ _ _ _ _
  have k : ∀ b o, h.get? b = some o → ((h.push (W.kdv_tup rest)).push (excO C h.objs.size)).get? b = some o := fun b o e => Heap.get?_push_of_some _ (Heap.get?_push_of_some _ e)
  have hC₁ := k _ _ hC
  have hget : ((h.push (W.kdv_tup rest)).push (excO C h.objs.size)).get? (h.objs.size + 1) = some (excO C h.objs.size) := by heap_get
  have hcC : (Value.ref C :: bm).contains (.ref C) = true := by simp
  have i1 := hi.keeps k
  have b1 := (hb (.ref (h.objs.size + 1))).keeps k
  unfold isInstance
  repeat (first | with_reducible refine wpAny_loadPart_at hget ?_ | (with_reducible refine wpAny_isSubtype_exc hC₁ ?_; rw [hcC]) | wp_step)
  show wpAny _ _ (typeLookup (.ref C) _) _ _ _
  refine i1.at ?_
  refine wpAny_holding (wpAny_bind (b1.at ?_))
  refine wpAny_bind (wpAny_call (codeAny_mono hq fun r s' z => ?_))
  rcases r with e | (v | _ | _ | _) <;> first | exact z | exact z.elim | skip
  obtain ⟨rfl, z⟩ := z
  first
    | exact wpAny_pure (wpAny_pure z)
    | (wp_walk; exact z)
theorem check_type_callK {M : Model} {rest : List Value} {n : Str} {v : Value} {kw : List (Str × Value)} (hkw : kw = [] ∨ kw = [(n, v)]) {Q : Unit → Shared → Prop} (hC : h.get? C = some (excClassObj nm q C N bs bm hdct sn sub ab col dd k0 k1 k2 k3 k5 newId))
    (hq : Q () ⟨h, g, d, t, os⟩) : wpAny M A (checkBuiltinCall "type.__call__" ⟨.ref C :: rest, kw⟩) Q E ⟨h, g, d, t, os⟩ := by
  have f3 := tc_sub
  have hT : (⟨h, g, d, t, os⟩ : Shared).TypeIs (.ref C) "type" := ⟨_, hC, rfl⟩
  rcases hkw with rfl | rfl
  · exact wpAny_check_type_call_sub hC hq
  · simp only [checkBuiltinCall, tc_kind, tc_split]
    repeat (any_goals (first | assumption | with_reducible refine wpAny_loadPart_at hC ?_ | with_reducible refine wpAny_onRaise ?_ | with_reducible refine wpAny_map ?_ | wp_step))
theorem callK (F : ExcBaseFacts B newId initId bmB) (ch : Ch B bm) {rest : List Value} {n : Str} {v : Value} {kw : List (Str × Value)} (hkw : kw = [] ∨ kw = [(n, v)]) {fI : Addr}
    (hC : h.get? C = some (excClassObj nm q C N bs bm hdct sn sub ab col dd k0 k1 k2 k3 k5 newId))
    (hi : W.Looks (model prog w) h (typeLookup (.ref C) "__init__") (some (.ref fI))) (hb : ∀ self, W.Looks (model prog w) h (bindSpecial (.ref fI) self) (.ref fI, [self])) (hrest : rest.length ≤ sizeLine)
    (hq : codeAny (model prog w) (A.under (.builtin "type.__call__" ⟨.ref C :: rest, kw⟩)) (.call (.ref fI) ⟨.ref (h.objs.size + 1) :: rest, kw⟩) (W.InitBack (h.objs.size + 1) R)
      ⟨(h.push (W.kdv_tup rest)).push (excO C h.objs.size), g, d, t, os⟩) :
    codeAny (model prog w) A (.call (.ref C) ⟨rest, kw⟩) R ⟨h, g, d, t, os⟩ := by
  have f1 := tc_lookup
  have f2 := tc_bind (.ref C)
  have hTy : (⟨h, g, d, t, os⟩ : Shared).TypeIs (.ref C) "type" := ⟨_, hC, rfl⟩
  refine codeAny_of_tree ?_
  show wpAny _ _ (callAny (.ref C) _) _ _ _
  repeat (any_goals (first | assumption | with_reducible refine wpAny_loadPart_at hC ?_ | wp_step))
  refine ⟨rfl, ?_⟩
  refine codeAny_call_builtin_at (Code.quiet_builtin _ (by decide +kernel)) entry_typeCall (check_type_callK hkw hC (type_callK F ch hkw hC hi hb hrest ?_))
  refine codeAny_mono hq fun r s' z => ?_
  rcases r with e | (v | _ | _ | _) <;> exact z
end
end EX
set_option Elab.async false
set_option linter.all false
set_option maxRecDepth 100000
set_option maxHeartbeats 4000000
namespace EX
open PySem PySem.W PySem.Calls PyProof.Rows PySem.HandSPX
/-! ### the text of __init__(self, f): self.f = f -/
def inA (f : Str) (p1 p2 : Pos) : Arguments := { posonlyargs := [], args := [{ arg := "self", annotation := none, pos := p1 }, { arg := f, annotation := none, pos := p2 }], vararg := none, kwonlyargs := [], kw_defaults := [], kwarg := none, defaults := [] }
def inB (f : Str) (q1 q2 q3 q4 : Pos) : List Stmt := [.Assign [.Attribute (.Name "self" q1) f q2] (.Name f q3) q4]
def inS (f : Str) : Scope := { kind := .function, names := [(PySem.Str.ofString "self", .local), (f, .local)], isGenerator := false, isCoroutine := false, more := [] }
def F3 (f : Str) : Prop := f = PySem.Str.ofString "at" ∨ f = PySem.Str.ofString "word" ∨ f = PySem.Str.ofString "name"
/-- what the written part says of an own exception class nm at C whose __init__ at fI keeps its argument in f -/
structure XT (K : Frag) (mg : Str → Option Value) (nm f : Str) (C fI : Addr) : Prop where
  f3 : F3 f
  gC : mg nm = some (.ref C)
  ch : ∃ B newId initId bmB bm, ExcBaseFacts B newId initId bmB ∧ Ch B bm ∧ ∃ n q N bs sn sub ab col dd k0 k1 k2 k3 k5, K.lookup C = some (excClassObj n q C N bs bm true sn sub ab col dd k0 k1 k2 k3 k5 newId)
  sa : findIn K (.ref C) "__setattr__" = some (some (.builtin "object.__setattr__"))
  ga : findIn K (.ref C) "__getattribute__" = some (some (.builtin "BaseException.__getattribute__"))
  gg : findIn K (.ref C) "__getattr__" = some none
  noN : findIn K (.ref C) f = some none
  iC : findIn K (.ref C) "__init__" = some (some (.ref fI))
  tC : typeIn K (.ref fI) = some (.type "function")
  kC : keepIn K (.ref C) = true
  exC : subIn K (.ref C) (.type "BaseException") = some true
  tyC : typeIn K (.ref C) = some (.type "type")
  hdC : hasDictIn K C = true
  fn : ∃ (oc : Value) (od : Option Addr) (doc pm : Value) (an : Option Addr) (cdv ct : Value) (osl : Array (Option Value)) (p1 p2 q1 q2 q3 q4 : Pos) (qn : Str),
    K.lookup fI = some ⟨oc, od, .func (fnOf "__init__" qn (inA f p1 p2) (inB f q1 q2 q3 q4) (inS f) .none .none doc pm an cdv ct), osl⟩ ∧ codeIn K cdv qn = true
/-- what __init__ leaves of a fresh exception at x -/
structure IEnd (f : Str) (h h' : Heap) (x C dx t1 : Addr) (v : Value) : Prop where
  keep : ∀ b o, b ≠ x → h.get? b = some o → h'.get? b = some o
  obj : h'.get? x = some { cls := .ref C, dict := some dx, data := .fields #[.ref t1, .none, .none, .none, .bool false, .none] }
  dbig : h.objs.size ≤ dx
  dne : dx ≠ x
  ns : h'.Ns1 dx (fun y => if y = f then some v else none)
/-- a made one -/
structure Made (f : Str) (h h' : Heap) (e C d : Addr) (v : Value) : Prop where
  keep : ∀ b o, h.get? b = some o → h'.get? b = some o
  new : h.objs.size ≤ e
  obj : ∃ oe vs, h'.get? e = some oe ∧ oe.cls = .ref C ∧ oe.dict = some d ∧ oe.data = .fields vs ∧ vs[1]? = some .none
  dbig : h.objs.size ≤ d
  dne : d ≠ e
  ns : h'.Ns1 d (fun y => if y = f then some v else none)
theorem one_size (v : Value) : [v].length ≤ sizeLine := by
  rw [sizeLine_eq]
  exact (by decide : 1 ≤ 16777216)
theorem ldF {M : Model} {s : Shared} {name : Str} {scope : Scope} {L a : Addr} {cd : Value} {m : Str → Option Value} {x : Str} {pos : Pos} {v : Value} {Q : Value → Shared → Prop} {A : Around} {E : Value → Shared → Prop} (hn : s.heap.Ns L m) (hv : m x = some v) (h : Q v s)
    (hk : scope.kind = .function := by rfl) (hl : (envOfC name scope L a cd).kindOf x = some .local := by rfl) (hd : (x == ("__debug__" : Str)) = false := by decide) :
    wpAny M A (eval (.Name x pos) (envOfC name scope L a cd)) Q E s := wpAny_Name (wpAny_loadName_local hk hl hn hv h) hd
section
variable {prog : Program} {w : World} {A : Around} {E : Value → Shared → Prop} {R : Result → Shared → Prop} {s : Shared} {K : Frag} {mg : Str → Option Value} {C fI : Addr} {nm f : Str}
theorem initX (T : XT K mg nm f C fI) {x t0 : Addr} {v : Value} {as : List Value} {kw : List (Str × Value)} (hargs : (as = [v] ∧ kw = []) ∨ (as = [] ∧ kw = [(f, v)])) (X : K.In s.heap) (hlim : s.heap.NoLimit) (hx : s.heap.get? x = some (excO C t0)) (hroom : A.depth < recursionLimit)
    (hq : ∀ h' tk dx, IEnd f s.heap h' x C dx t0 v → R (.ok (.ret .none)) { s with heap := h', toks := tk }) :
    codeAny (model prog w) A (.call (.ref fI) ⟨.ref x :: as, kw⟩) R s := by
  have f3 := T.f3
  obtain ⟨oc, od, doc, pm, an, cdv, ct, osl, p1, p2, q1, q2, q3, q4, qn, ho, hcd⟩ := T.fn
  obtain ⟨B, newId, initId, bmB, bm, FB, ch, n, q, N, bs, sn, sub, ab, col, dd, k0, k1, k2, k3, k5, hC⟩ := T.ch
  have hcl : clsIn K C = some { name := n, bases := bs, mro := .ref C :: bm, ns := N, qualname := q, hasDict := true, slotNames := sn, subclasses := sub, abstract := ab, collection := col, hasDel := false } := by unfold clsIn; rw [hC] <;> rfl
  have bnd : BindsTo s (fnOf "__init__" qn (inA f p1 p2) (inB f q1 q2 q3 q4) (inS f) .none .none doc pm an cdv ct) ⟨.ref x :: as, kw⟩ [("self", .ref x), (f, v)] := by
    rcases hargs with ⟨rfl, rfl⟩ | ⟨rfl, rfl⟩ <;> rcases f3 with rfl | rfl | rfl <;> exact BindsTo.of_eq (by first | rfl | with_unfolding_all rfl)
  rcases f3 with rfl | rfl | rfl <;>
  · refine Att.call_fn (binds := [("self", .ref x), (_, v)]) X hlim ho hcd hroom bnd (by first | rfl | decide | with_unfolding_all rfl) (fun s₁ IC => ?_) rfl rfl rfl
    obtain ⟨h₁, tk₁, rfl⟩ := IC.toInCall.same
    have k : ∀ b o, s.heap.get? b = some o → h₁.get? b = some o := IC.toInCall.keep
    have hn := IC.toInCall.ns
    have X₁ : K.In h₁ := X.keeps k
    have hx₁ := k _ _ hx
    show wpAny _ _ (execs _ _) _ _ _
    refine wpAny_execs_cons (plainObj_wpAny_Assign_Attribute ?_)
    refine ldF (v := v) hn (by first | rfl | with_unfolding_all rfl | kernel_rfl) (ldF (v := .ref x) hn (by first | rfl | with_unfolding_all rfl | kernel_rfl) ?_)
    refine set_plain X₁ (ox := excO C t0) (od := none) ⟨hx₁, rfl, rfl, trivial⟩ T.sa ?_
    refine osaG ch X₁ hx₁ hcl rfl rfl T.noN (fun h₃ tk₃ dx k₃ dn dne hx₃ hn₃ => ?_)
    show wpAny _ _ (execs _ _) _ _ _
    have z : s.heap.objs.size < h₁.objs.size := hn.lt
    exact wpAny_execs_nil (hq h₃ tk₃ dx ⟨fun b o hb e => k₃ b o hb (k b o e), hx₃, Nat.le_of_lt (Nat.lt_of_lt_of_le z dn), dne, hn₃⟩)
theorem madeX (T : XT K mg nm f C fI) {v : Value} {as : List Value} {kw : List (Str × Value)} (hargs : (as = [v] ∧ kw = []) ∨ (as = [] ∧ kw = [(f, v)])) (X : K.In s.heap) (hlim : s.heap.NoLimit) (hroom : A.depth + 1 < recursionLimit)
    (hq : ∀ h' tk e d, Made f s.heap h' e C d v → R (.ok (.ret (.ref e))) { s with heap := h', toks := tk }) :
    codeAny (model prog w) A (.call (.ref C) ⟨as, kw⟩) R s := by
  obtain ⟨B, newId, initId, bmB, bm, FB, ch, n, q, N, bs, sn, sub, ab, col, dd, k0, k1, k2, k3, k5, hC⟩ := T.ch
  obtain ⟨hp, g, dr, tk, os⟩ := s
  have k : ∀ b o, hp.get? b = some o → ((hp.push (kdv_tup as)).push (excO C hp.objs.size)).get? b = some o := fun b o e => Heap.get?_push_of_some _ (Heap.get?_push_of_some _ e)
  have hget : ((hp.push (kdv_tup as)).push (excO C hp.objs.size)).get? (hp.objs.size + 1) = some (excO C hp.objs.size) := by heap_get
  have has : as.length ≤ sizeLine := by
    rcases hargs with ⟨rfl, _⟩ | ⟨rfl, _⟩
    · exact one_size v
    · exact Nat.zero_le _
  have hkw : kw = [] ∨ kw = [(f, v)] := by
    rcases hargs with ⟨_, h⟩ | ⟨_, h⟩
    · exact .inl h
    · exact .inr h
  refine callK FB ch hkw (X _ _ hC) (looks_findIn X T.iC) (fun self => bind_fn X self T.tC) has ?_
  refine initX (s := ⟨(hp.push (kdv_tup as)).push (excO C hp.objs.size), g, dr, tk, os⟩) T hargs (X.keeps k) (hlim.keeps k) hget ?_ fun h' tk' dx ⟨k', hx, dn, dne, hns⟩ => ?_
  · show A.depth + 1 < recursionLimit
    exact hroom
  · have old : ∀ b o, hp.get? b = some o → h'.get? b = some o := fun b o e => k' b o (Nat.ne_of_lt (Nat.lt_succ_of_lt (Heap.lt_size e))) (k b o e)
    have z : hp.objs.size + 1 + 1 ≤ dx := by
      first
        | (simpa only [Heap.size_push] using dn)
        | exact dn
        | (have q := dn; rw [Heap.size_push, Heap.size_push] at q; exact q)
    exact ⟨rfl, hq h' tk' (hp.objs.size + 1) dx ⟨old, Nat.le_succ _, ⟨_, _, hx, rfl, rfl, rfl, rfl⟩, Nat.le_trans (Nat.le_trans (Nat.le_succ _) (Nat.le_succ _)) z, dne, hns⟩⟩
end
end EX
set_option Elab.async false
set_option linter.all false
set_option maxRecDepth 100000
set_option maxHeartbeats 4000000
/-! the rules of own exceptions: made (by position, by name, without arguments), raised, asked for their class, read -/
namespace EX
open PySem PySem.Spec PyProof.Rows L2 DL
theorem relO_f {f0 : Str} {v : V} {v' : Value} (r : RelV v v') (f : Str) : RelO (List.lookup f [(f0, v)]) (if f = f0 then some v' else none) := by
  by_cases hw : f = f0
  · subst hw
    rw [if_pos rfl]
    have q : List.lookup f [(f, v)] = some v := by simp [List.lookup]
    rw [q]
    exact r
  · rw [if_neg hw]
    have qw : (f == f0) = false := by simpa using hw
    have q2 : List.lookup f [(f0, v)] = none := by simp [List.lookup, qw]
    rw [q2]
    trivial
theorem xo_ok {P : Program} {w : World} {H : Hp} {h : Heap} {a : Addr} {cls : Value} {d : Option Addr} {oe : Obj} {vs : Array Value} (e : h.get? a = some oe) (z : Zc cls d oe) (hd : oe.data = .fields vs) : ObjOk P w H h a (XO cls d a) :=
  ⟨⟨oe, vs, e, z, hd⟩, ⟨oe, e⟩, fun _ _ ⟨o, v, q, r⟩ k => ⟨o, v, k o q, r⟩⟩
section
variable {X : Cx} {pins : List (Addr × Obj)} {σ : L2.St} {H : Hp} {s : Shared} {C fI : Addr} {nm fld : Str}
/-- what the making leaves, tracked: the dict, the exception beside -/
theorem made_inv {hp h' : Heap} {g : Array GenState} {dr : Drawn} {tk tk' : Nat} {os : OsState} {e d : Addr} {v : V} {v' : Value} (M : Made fld hp h' e C d v') (I1 : Inv X pins σ H ⟨hp, g, dr, tk, os⟩) (rv : RelV v v') :
    ∃ G' : Heap, (∀ b o, G'.get? b = some o → h'.get? b = some o) ∧ G'.get? e = none ∧ Inv X pins σ (upd H d (.xd [(fld, v)])) ⟨G', g, dr, tk', os⟩ ∧ H d = none ∧ H e = none := by
  have hns := M.ns
  obtain ⟨G', g1, g2⟩ := restrict h' fun b => decide (b ≠ e)
  have gk : ∀ b, b ≠ e → G'.get? b = h'.get? b := fun b hb => g1 b (decide_eq_true hb)
  have ge : G'.get? e = none := g2 e (by simp)
  have old : ∀ b o, hp.get? b = some o → G'.get? b = some o := fun b o q => (gk b (Nat.ne_of_lt (Nat.lt_of_lt_of_le (Heap.lt_size q) M.new))).trans (M.keep b o q)
  have ob : ObjOk X.prog X.w (upd H d (.xd [(fld, v)])) G' d (.xd [(fld, v)]) := ⟨_, hns.at (fun o q => (gk d M.dne).trans q), fun f => relO_f rv f⟩
  have J : Inv X pins σ (upd H d (.xd [(fld, v)])) ⟨G', g, dr, tk', os⟩ := I1.laid (t' := tk') old M.dbig ob
  refine ⟨G', fun b o q => ?_, ge, J, I1.hok.fresh M.dbig, I1.hok.fresh M.new⟩
  by_cases hb : b = e
  · rw [hb, ge] at q
    cases q
  · exact (gk b hb).symm.trans q
/-- X(e), to be raised -/
def tMkX (C : Addr) (fld : Str) (ta : TA) : L2.St → Hp → XK → Prop := fun σ H Q => ta σ H fun vs H1 => ∃ v, vs = [v] ∧ ∀ d, H1 d = none → Q (.ref C) (some d) (upd H1 d (.xd [(fld, v)]))
/-- X(e), a value -/
def tNewX (C : Addr) (fld : Str) (ta : TA) : TE := fun σ H Q => ta σ H fun vs H1 => ∃ v, vs = [v] ∧ ∀ d a, H1 d = none → H1 a = none → a ≠ d → Q (.ref a) (upd (upd H1 d (.xd [(fld, v)])) a (XO (.ref C) (some d) a))
theorem made_end {ta : TA} {Q : VK} {v : V} {v' : Value} (T : XT X.K X.mg nm fld C fI) {k : Nat} (hr : Room k X.A) (hk : 1 ≤ k) (I1 : Inv X pins σ H s) (rv : RelV v v') {as : List Value} {kw : List (Str × Value)} (hargs : (as = [v'] ∧ kw = []) ∨ (as = [] ∧ kw = [(fld, v')]))
    (q : ∀ d a, H d = none → H a = none → a ≠ d → Q (.ref a) (upd (upd H d (.xd [(fld, v)])) a (XO (.ref C) (some d) a))) : wpAny (model X.prog X.w) X.A (call (.ref C) as kw) (EP X pins σ Q) X.xe s := by
  have hlim := I1.nolimit
  obtain ⟨hp, g, dr, tk, os⟩ := s
  refine wpAny_call (madeX T hargs I1.kIn hlim (by have := hr.dp; omega) fun h' tk' e d M => ?_)
  show EP X pins σ Q (.ref e) ⟨h', g, dr, tk', os⟩
  obtain ⟨oe, fv, hoe, hc, hd, hdat, h1⟩ := M.obj
  obtain ⟨G', k1, ge, J, nd, ne⟩ := made_inv (tk' := tk') M I1 rv
  have hn : upd H d (.xd [(fld, v)]) e = none := by
    rw [upd_ne (Ne.symm M.dne)]
    exact ne
  exact ⟨.ref e, _, J.laidN (h' := h') (t' := tk') k1 ge hn (xo_ok hoe ⟨hc, hd⟩ hdat), rfl, q d e nd ne (Ne.symm M.dne)⟩
theorem pe_newX {a : Expr} {ta : TA} {p pos : Pos} {k : Nat} (T : XT X.K X.mg nm fld C fI) (hr : Room k X.A) (hk : 1 ≤ k) (ha : PA X [a] ta) (hg : Gl X nm := by rfl) (hdb : (nm == ("__debug__" : Str)) = false := by decide)
    (he : starEach (a :: []) X.env = (false, eval a X.env) :: starEach [] X.env := by rfl) (hpl : (backTo pos (starEach [] X.env)).any (·.1) = false := by rfl) : PE X (.Call (.Name nm p) [a] [] pos) (tNewX C fld ta) := by
  refine ⟨fun pins s σ H Q I h => ?_⟩
  refine wpAny_Call_Name_kw (ld_glob I hg T.gC ?_ hdb)
  refine PySem.W.callWith_K (h₀ := X.base) I.ok.mod.kin T.kC (thn (ha.run pos pins s σ H _ I h) fun us s1 hh => ?_) he hpl
  obtain ⟨vs, H1, I1, r1, v, ev, q1⟩ := hh
  subst ev
  refine ⟨I1.kIn, ?_⟩
  cases r1 with
  | cons rv rn =>
    cases rn
    exact made_end (ta := ta) T hr hk I1 rv (.inl ⟨rfl, rfl⟩) q1
theorem pe_newXK {ta : TA} {p pos : Pos} {k : Nat} {kws : List Keyword} (T : XT X.K X.mg nm fld C fI) (hr : Room k X.A) (hk : 1 ≤ k) (hkw : PK X kws ta) (hg : Gl X nm := by rfl) (hdb : (nm == ("__debug__" : Str)) = false := by decide)
    (hall : (backToKw pos (keywordEach kws X.env)).all (·.1.isSome) = true := by rfl) (hks : (backToKw pos (keywordEach kws X.env)).filterMap (·.1) = [fld] := by rfl)
    (hpl : ((backTo pos (starEach [] X.env)).any (·.1) || (backToKw pos (keywordEach kws X.env)).any (·.1.isNone)) = false := by rfl) : PE X (.Call (.Name nm p) [] kws pos) (tNewX C fld ta) := by
  refine ⟨fun pins s σ H Q I h => ?_⟩
  refine wpAny_Call_Name_kw (ld_glob I hg T.gC ?_ hdb)
  refine PySem.W.callWith_KW0 (h₀ := X.base) I.ok.mod.kin T.kC hall (thn (hkw.run pos pins s σ H _ I h) fun us s1 hh => ?_) hpl
  obtain ⟨vs, H1, I1, r1, v, ev, q1⟩ := hh
  subst ev
  refine ⟨I1.kIn, ?_⟩
  rw [hks]
  cases r1 with
  | cons rv rn =>
    cases rn
    exact made_end (ta := ta) T hr hk I1 rv (.inr ⟨rfl, rfl⟩) q1
theorem pmk_X {a : Expr} {ta : TA} {p pos : Pos} {k : Nat} (T : XT X.K X.mg nm fld C fI) (hr : Room k X.A) (hk : 1 ≤ k) (ha : PA X [a] ta) (hg : Gl X nm := by rfl) (hdb : (nm == ("__debug__" : Str)) = false := by decide)
    (he : starEach (a :: []) X.env = (false, eval a X.env) :: starEach [] X.env := by rfl) (hpl : (backTo pos (starEach [] X.env)).any (·.1) = false := by rfl) : PMk X (.Call (.Name nm p) [a] [] pos) (tMkX C fld ta) := by
  intro pins s σ H Q I h
  refine wpAny_Call_Name_kw (ld_glob I hg T.gC ?_ hdb)
  refine PySem.W.callWith_K (h₀ := X.base) I.ok.mod.kin T.kC (thn (ha.run pos pins s σ H _ I h) fun us s1 hh => ?_) he hpl
  obtain ⟨vs, H1, I1, r1, v, ev, q1⟩ := hh
  subst ev
  refine ⟨I1.kIn, ?_⟩
  cases r1 with
  | cons rv rn =>
    rename_i v' us'
    cases rn
    show wpAny _ _ (call (.ref C) [v']) _ _ _
    have hlim := I1.nolimit
    obtain ⟨hp, g, dr, tk, os⟩ := s1
    refine wpAny_call (madeX T (.inl ⟨rfl, rfl⟩) I1.kIn hlim (by have := hr.dp; omega) fun h' tk' e d M => ?_)
    show MkP X pins σ Q (.ref e) ⟨h', g, dr, tk', os⟩
    obtain ⟨oe, fv, hoe, hc, hd, hdat, h1⟩ := M.obj
    obtain ⟨G', k1, ge, J, nd, ne⟩ := made_inv (tk' := tk') M I1 rv
    have hn : upd H1 d (.xd [(fld, v)]) e = none := by
      rw [upd_ne (Ne.symm M.dne)]
      exact ne
    exact ⟨e, oe, fv, ⟨G', g, dr, tk', os⟩, _, .ref C, some d, rfl, J, k1, ge, hoe, ⟨hc, hd⟩, hdat, h1, hn, rfl, I1.bare, raises_own T.exC T.tyC, q1 d nd⟩
/-- raise X(e) -/
theorem ps_raiseF {a : Expr} {ta : TA} {W : WX} {p pos pos2 : Pos} {k : Nat} (hc : X.calm = true) (T : XT X.K X.mg nm fld C fI) (hr : Room k X.A) (hk : 1 ≤ k) (tk : Takes X W) (ha : PA X [a] ta) (hg : Gl X nm := by rfl) (hdb : (nm == ("__debug__" : Str)) = false := by decide)
    (he : starEach (a :: []) X.env = (false, eval a X.env) :: starEach [] X.env := by rfl) (hpl : (backTo pos (starEach [] X.env)).any (·.1) = false := by rfl) :
    PS X (.Raise (some (.Call (.Name nm p) [a] [] pos)) none pos2) (tRaiseF fld C W ta) := ps_raise hc tk (pmk_X T hr hk ha hg hdb he hpl)
/-- an own class without own __init__, without arguments -/
structure X0 (K : PySem.W.Frag) (mg : Str → Option Value) (nm : Str) (C : Addr) : Prop where
  gC : mg nm = some (.ref C)
  kC : PySem.W.keepIn K (.ref C) = true
  q : PySem.W.excIn K C [.type "Exception", .type "BaseException", .type "object"] "Exception.__new__" = true
  exC : PySem.W.subIn K (.ref C) (.type "BaseException") = some true
  tyC : PySem.W.typeIn K (.ref C) = some (.type "type")
theorem pe_new0X {p pos : Pos} (T : X0 X.K X.mg nm C) (hg : Gl X nm := by rfl) (hdb : (nm == ("__debug__" : Str)) = false := by decide) : PE X (.Call (.Name nm p) [] [] pos) (fun _ H Q => ∀ a, H a = none → Q (.ref a) (upd H a (XO (.ref C) none a))) := by
  refine ⟨fun pins s σ H Q I h => ?_⟩
  refine wpAny_Call_Name_kw (ld_glob I hg T.gC ?_ hdb)
  refine PySem.W.callWith_K0 I.kIn T.kC ?_
  show wpAny _ _ (call (.ref C) []) _ _ _
  obtain ⟨bm, N, nm, qn, bs, hdct, sn, sub, ab, col, dd, k0, k1, k2, k3, k5, mN, hC, hN, hni, OT⟩ := exc_obj I.kIn T.q
  refine wpAny_call_exc_subT F.excBase_Exception OT hC hN hni (fun h' a hm => ?_) (by show 0 ≤ sizeLine; omega)
  have hn : H a = none := I.hok.gone hm.new
  obtain ⟨t, ht, _, _⟩ := hm.there
  exact ⟨.ref a, upd H a (XO (.ref C) none a), I.laidN hm.keeps hm.new hn (xo_ok ht ⟨rfl, rfl⟩ rfl), rfl, h a hn⟩
theorem pmk_0X {p pos : Pos} (T : X0 X.K X.mg nm C) (hg : Gl X nm := by rfl) (hdb : (nm == ("__debug__" : Str)) = false := by decide) : PMk X (.Call (.Name nm p) [] [] pos) (fun _ H Q => Q (.ref C) none H) := by
  intro pins s σ H Q I h
  refine wpAny_Call_Name_kw (ld_glob I hg T.gC ?_ hdb)
  refine PySem.W.callWith_K0 I.kIn T.kC ?_
  show wpAny _ _ (call (.ref C) []) _ _ _
  obtain ⟨bm, N, nm, qn, bs, hdct, sn, sub, ab, col, dd, k0, k1, k2, k3, k5, mN, hC, hN, hni, OT⟩ := exc_obj I.kIn T.q
  refine wpAny_call_exc_subT F.excBase_Exception OT hC hN hni (fun h' e hm => ?_) (by show 0 ≤ sizeLine; omega)
  exact mk_of I hm (raises_own T.exC T.tyC) h (I.hok.gone hm.new)
theorem ps_raise0 {W : WX} {p pos pos2 : Pos} (hc : X.calm = true) (T : X0 X.K X.mg nm C) (tk : Takes X W) (hg : Gl X nm := by rfl) (hdb : (nm == ("__debug__" : Str)) = false := by decide) :
    PS X (.Raise (some (.Call (.Name nm p) [] [] pos)) none pos2) (fun _ σ H => W (.ref C) none σ H) := ps_raise hc tk (pmk_0X T hg hdb)
/-- isinstance of an own exception -/
def rIsX (K : PySem.W.Frag) : List V → Hp → VK → Prop := fun xs H Q => ∃ (a D : Addr) (d : Option Addr) (c : V) (u : Value) (b : Bool), xs = [.ref a, c] ∧ ClsV c u ∧ ExcC K D ∧ H a = some (XO (.ref D) d a) ∧ (∀ dd, d = some dd → ∃ fs, H dd = some (.xd fs)) ∧ PySem.W.kitOne K (.ref D) u = some b ∧ Q (.bl b) H
theorem xo_at (I : Inv X pins σ H s) {a D : Addr} {d : Option Addr} (h : H a = some (XO (.ref D) d a)) (hd : ∀ dd, d = some dd → ∃ fs, H dd = some (.xd fs)) : ∃ oe od, PySem.W.InstAt s.heap a oe D od ∧ ∀ dd fs, d = some dd → H dd = some (.xd fs) → ∃ (o : Obj) (mA : Str → Option Value), od = some o ∧ (∀ f, PySem.W.lookIn f o = some (mA f)) ∧ ∀ f, RelO (fs.lookup f) (mA f) := by
  obtain ⟨⟨oe, vs, e, ⟨z1, z2⟩, hdat⟩, _, _⟩ := (show ObjOk X.prog X.w H s.heap a (XO (.ref D) d a) from I.hok a _ h)
  have nc : PySem.W.notCls oe = true := by unfold PySem.W.notCls; rw [hdat] <;> rfl
  cases d with
  | none => exact ⟨oe, none, ⟨e, z1, nc, by rw [z2] <;> trivial⟩, fun dd fs q => nomatch q⟩
  | some dd =>
    obtain ⟨fs, q⟩ := hd dd rfl
    obtain ⟨mA, hns, hr⟩ := (show ObjOk X.prog X.w H s.heap dd (.xd fs) from I.hok dd _ q)
    obtain ⟨od, ho, hl⟩ := lookIn_ns hns
    refine ⟨oe, some od, ⟨e, z1, nc, by rw [z2]; exact ho⟩, fun dd' fs' e1 e2 => ?_⟩
    cases e1
    rw [q] at e2
    cases e2
    exact ⟨od, mA, rfl, hl, hr⟩
theorem call_isX : CallR X (.builtin "isinstance") (rIsX X.K) := by
  intro pins s σ H xs us Q I r h
  obtain ⟨a, D, d, c, u, b, rfl, k, C, h1, h2, e, q⟩ := h
  obtain ⟨u1, u2, rfl, r1, r2⟩ := vals2 r
  have e2 := k.eq r2
  subst e2
  cases (show u1 = Value.ref a from r1)
  obtain ⟨oe, od, J, _⟩ := xo_at I h1 h2
  have hcl : (PySem.W.clsIn X.K D).isSome = true := by
    obtain ⟨cd, hc, _⟩ := PySem.W.any_some C.hd
    rw [hc]
    rfl
  exact PySem.W.kia_one (PySem.W.kitx_exc hcl C.hg C.hk C.hs C.ha C.hn C.ht C.hm) I.kIn J e (fun z => nomatch z) fun tk => ⟨.bl b, H, I.tok tk, rfl, q⟩
/-- e.f -/
def tXfX (K : PySem.W.Frag) (f : Str) (te : TE) : TE := fun σ H Q => te σ H fun x H1 => ∃ (a C dd : Addr) (fs : List (Str × V)) (v : V), x = .ref a ∧ XfC K C ∧ PySem.W.findIn K (.ref C) f = some none ∧ H1 a = some (XO (.ref C) (some dd) a) ∧ H1 dd = some (.xd fs) ∧ fs.lookup f = some v ∧ Q v H1
theorem pe_xfX {e : Expr} {te : TE} {pos : Pos} {n : Str} (he : PE X e te) (hb : attributeBase e n X.env (eval e X.env) = eval e X.env := by rfl) : PE X (.Attribute e n pos) (tXfX X.K n te) := by
  refine ⟨fun pins s σ H Q I h => ?_⟩
  refine attr_of hb (thn (he.run pins s σ H _ I h) fun u s1 hh => ?_)
  obtain ⟨x, H1, I1, rx, a, C, dd, fs, v, ex, T, hno, ha, hdd, l, q⟩ := hh
  subst ex
  obtain rfl : u = Value.ref a := rx
  obtain ⟨oe, od, J, hf⟩ := xo_at I1 ha (fun d' e => by cases e; exact ⟨fs, hdd⟩)
  obtain ⟨o, mA, rfl, hl, hr⟩ := hf dd fs rfl hdd
  obtain ⟨u, hu, ru⟩ := RelO.some_of (v := v) (o := mA n) (by rw [← l]; exact hr n)
  exact HandSPX.exc_get I1.kIn J T.ga T.gg T.exC (PySem.W.findObj_own T.hdC hno rfl (by rw [hl, hu])) (handed_of ru) ⟨v, H1, I1.tok _, ru, q⟩
end
end EX
set_option Elab.async false
set_option linter.all false
set_option maxRecDepth 100000
set_option maxHeartbeats 4000000
namespace EX
open PySem PySem.Spec PyProof.Rows L2 DL
theorem pg_tupk {X : Cx} {es : List Expr} {kk : Nat} {pos : Pos} {t : TGs} {n : Nat} {K : PySem.W.Frag} (hK : X.K = K) (hc : X.calm = true) (h : PGs X es t)
    (hn : (assignEach es X.env).length = n := by rfl) (hst : (assignEach es X.env).findIdx? (·.1) = none := by rfl) : PG X (.Tuple es kk pos) (gTup K n t) := by
  subst hK
  exact pg_tup hc h hn hst
section
variable {c : Cn} {Ex : XK} {om : Om} {sl : Sl} {P : DL.E → Om → Prop} {te : TE} {tr : TA}
theorem ev_raw {v : V} (p : P (.v (.raw v)) om) : EV c (tC v) om sl P := fun σ H O ps s Q k => k v H O ps (.v (.raw v)) om (Go.refl ..) s (Rl.raw v) p
theorem ev_newX {C : Addr} {f : Str} (h : EA c tr om sl fun es om1 => ∃ x, es = [.v x] ∧ P (.v (.exc C [(f, x)])) om1) : EV c (tNewX C f tr) om sl P := fun σ H O ps s Q k =>
  h σ H O ps s _ fun vs H1 O1 ps1 es om1 g1 s1 r1 ⟨x, he, p⟩ => by
    subst he
    obtain ⟨v, rfl, rv⟩ := ra1 r1
    refine ⟨v, rfl, fun d a hd ha hne => ?_⟩
    obtain ⟨s2, g2⟩ := s1.new (o := .xd [(f, v)]) hd
    have ha2 : upd H1 d (.xd [(f, v)]) a = none := by
      rw [upd_ne hne]
      exact ha
    obtain ⟨s3, g3⟩ := s2.new (o := XO (.ref C) (some d) a) ha2
    have r3 : Rl O1 (upd (upd H1 d (.xd [(f, v)])) a (XO (.ref C) (some d) a)) v x := Rl.ext (g2.trans g3).ex (show Rl O1 H1 v x from rv)
    refine k _ _ O1 ps1 (.v (.exc C [(f, x)])) om1 (g1.trans (g2.trans g3)) s3 (Rl.exc1 (s1.nin ha) (s1.nin hd) upd_same ?_ (.cons r3 .nil)) p
    rw [upd_ne (Ne.symm hne)]
    exact upd_same
theorem ev_new0X {C : Addr} (p : P (.v (.exc C [])) om) : EV c (fun _ H Q => ∀ a, H a = none → Q (.ref a) (upd H a (XO (.ref C) none a))) om sl P := fun σ H O ps s Q k a ha => by
  obtain ⟨s3, g3⟩ := s.new (o := XO (.ref C) none a) ha
  exact k _ _ O ps (.v (.exc C [])) om g3 s3 (Rl.exc0 (s.nin ha) upd_same) p
theorem exc_at {O : List Addr} {H : Hp} {v : V} {C : Addr} {gs : List (Str × D)} (r : Rl O H v (.exc C gs)) : ∃ a d, v = .ref a ∧ H a = some (XO (.ref C) d a) ∧ (∀ dd, d = some dd → ∃ fs, H dd = some (.xd fs) ∧ RlF O H fs gs) ∧ (d = none → gs = []) := by
  cases r with
  | exc0 ha hr => exact ⟨_, none, rfl, hr, (fun _ z => nomatch z), fun _ => rfl⟩
  | exc1 ha hd hr hq hx => exact ⟨_, some _, rfl, hr, (fun dd z => by cases z; exact ⟨_, hq, hx⟩), fun z => nomatch z⟩
theorem cv_isX {C : Addr} {gs : List (Str × D)} {cl : V} {u : Value} {b : Bool} (hu : ClsV cl u) (hC : ExcC c.K C) (hk : PySem.W.kitOne c.K (.ref C) u = some b) (p : P (.v (.bl b)) om) : CV c (rIsX c.K) om sl [.v (.exc C gs), .v (.raw cl)] P := fun σ H O ps s vs r Q k => by
  obtain ⟨v, w, rfl, rv, rw'⟩ := ra2 r
  cases rw'
  obtain ⟨a, d, rfl, h1, h2, _⟩ := exc_at rv
  exact ⟨a, C, d, cl, u, b, rfl, hu, hC, h1, (fun dd z => let ⟨fs, q, _⟩ := h2 dd z; ⟨fs, q⟩), hk, k _ H O ps (.v (.bl b)) om (Go.refl ..) s (Rl.bl b) p⟩
theorem ev_xfX {f : Str} (h : EV c te om sl fun e om1 => ∃ C gs d, e = .v (.exc C gs) ∧ XfC c.K C ∧ PySem.W.findIn c.K (.ref C) f = some none ∧ gs.lookup f = some d ∧ P (.v d) om1) : EV c (tXfX c.K f te) om sl P := fun σ H O ps s Q k =>
  h σ H O ps s _ fun v H1 O1 ps1 e om1 g1 s1 r1 ⟨C, gs, d, he, hx, hn, hl, p⟩ => by
    subst he
    obtain ⟨a, dd, rfl, h1, h2, h3⟩ := exc_at r1
    cases dd with
    | none =>
      rw [h3 rfl] at hl
      cases hl
    | some dd =>
      obtain ⟨fs, q, hf⟩ := h2 dd rfl
      obtain ⟨w, e1, e2⟩ := RlF.lookup hf hl
      exact ⟨a, C, dd, fs, w, rfl, hx, hn, h1, q, e1, k w H1 O1 ps1 (.v d) om1 g1 s1 e2 p⟩
theorem ev_revL {P : DL.E → Om → Prop} (h : EV c te om sl fun e om1 => ∃ ds, dat om1 e = some (.lst ds) ∧ P (.v (.lst ds.reverse)) om1) : EV c (tRevL c.K te) om sl P := fun σ H O ps s Q k =>
  h σ H O ps s _ fun v H1 O1 ps1 e om1 g1 s1 r1 ⟨ds, hd, p⟩ => by
    obtain ⟨a, vs, rfl, h1, h2⟩ := as_l s1 r1 hd
    refine ⟨a, vs, rfl, sqL h1, fun q hq => ?_⟩
    obtain ⟨s2, g2⟩ := s1.new (o := .lst vs.reverse) hq
    exact k _ _ O1 ps1 (.v (.lst ds.reverse)) om1 (g1.trans g2) s2 (Rl.lst (s1.nin hq) upd_same ((RlA.rev h2).ext g2.ex)) p
end
end EX
set_option Elab.async false
set_option linter.all false
set_option maxRecDepth 100000
set_option maxHeartbeats 4000000
namespace EX
open PySem PySem.Spec PyProof.Rows L2 DL
section
variable {X : Cx} {K : PySem.W.Frag}
theorem op_addUk (hK : X.K = K) : OpR X (binaryOp .Add) (rAddU K) := by
  subst hK
  exact op_addU
theorem op_eqUk (hK : X.K = K) (hu : X.A.units + 64 < cLine) : OpR X (compareOp .Eq) (rEqU K) := by
  subst hK
  exact op_eqU hu
theorem op_neUk (hK : X.K = K) (hu : X.A.units + 64 < cLine) : OpR X (compareOp .NotEq) (rNeU K) := by
  subst hK
  exact op_neU hu
theorem op_inDk (hK : X.K = K) (hu : X.A.units + 65 < cLine) : OpR X (compareOp .In) (rInD K) := by
  subst hK
  exact op_inD hu
theorem op_notInDk (hK : X.K = K) (hu : X.A.units + 65 < cLine) : OpR X (compareOp .NotIn) (rNotInD K) := by
  subst hK
  exact op_notInD hu
theorem ix_seqk (hK : X.K = K) : IxR X (rIx K) := by
  subst hK
  exact ix_seq
theorem sl_Uk (hK : X.K = K) : SlR X (rSlU K) := by
  subst hK
  exact sl_U
theorem cr_lenk (hK : X.K = K) : CallR X (.builtin "len") (rLenU K) := by
  subst hK
  exact cr_len
theorem cr_listk (hK : X.K = K) : CallR X (.type "list") (rListU K) := by
  subst hK
  exact cr_list
theorem cr_tupk (hK : X.K = K) : CallR X (.type "tuple") (rTupU K) := by
  subst hK
  exact cr_tup
theorem cr_sumUk (hK : X.K = K) (hc : X.calm = true) : CallR X (.builtin "sum") (rSumU K) := by
  subst hK
  exact cr_sumU hc
end
end EX
namespace DL
open PySem PySem.Spec PyProof.Rows L2
def rMulU : R2 := fun x y H Q => rI CMulW (fun i j => V.int (i * j)) x y H Q ∨ rRep x y H Q
theorem op_mulU {X : Cx} : OpR X (binaryOp .Mult) rMulU := OpR.or op_mulW op_rep
section
variable {c : Cn} {Ex : XK} {om : Om} {sl : Sl} {P : E → Om → Prop} {x : E}
/-- a step that changes nothing: one more name for where one stands -/
theorem ltb {a b : Nat} (h : Nat.ble (a + 1) b = true) : a < b := Nat.le_of_ble_eq_true h
def itemsOf : D → Option (List D)
  | .lst xs => some xs
  | .str z => some (z.cps.toList.map fun ch => D.str ⟨#[ch]⟩)
  | _ => none
theorem cv_lenU {d : D} {xs : List D} (h : itemsOf d = some xs) (hl : xs.length ≤ 1000) (p : P (.v (.int (xs.length : Int))) om) : CV c (rLenU c.K) om sl [.v d] P := by
  cases d with
  | lst ys =>
    cases h
    exact cv_lenL rfl p
  | str z =>
    cases h
    have e : (z.cps.toList.map fun ch => D.str ⟨#[ch]⟩).length = z.length := by
      rw [List.length_map, Array.length_toList]
      rfl
    rw [e] at p hl
    exact cv_lenS hl p
  | _ => cases h
theorem ov_ixU {d r : D} {xs : List D} {j : Nat} (h : itemsOf d = some xs) (hl : xs.length ≤ 1000) (hj : xs[j]? = some r) (p : P (.v r) om) : OV c (rIx c.K) om sl (.v d) (.v (.int (j : Int))) P := by
  cases d with
  | lst ys =>
    cases h
    exact ov_ixL rfl (atI_n hj) p
  | str z =>
    cases h
    have e : (z.cps.toList.map fun ch => D.str ⟨#[ch]⟩).length = z.length := by
      rw [List.length_map, Array.length_toList]
      rfl
    rw [e] at hl
    rw [List.getElem?_map] at hj
    cases q : z.cps.toList[j]? with
    | none =>
      rw [q] at hj
      cases hj
    | some ch =>
      rw [q] at hj
      cases hj
      exact ov_ixS hl (atI_n q) p
  | _ => cases h
theorem sv_par {i j : Nat} {ta : TA} {Pq : Po} (h : EA c ta om sl fun es om1 => ∃ x y, es = [x, y] ∧ (i < sl.length ∧ j < sl.length) ∧ Pq.n om1 ((sl.set i (some x)).set j (some y))) : SV c Ex (tPar i j ta) om sl Pq := fun σ H O ps Dn s kn kr kb kc kx =>
  h σ H O ps s _ fun vs H1 O1 ps1 es om1 g1 s1 r1 ⟨x, y, he, hij, p⟩ => by
    subst he
    obtain ⟨v, w, rfl, rv, rw'⟩ := ra2 r1
    exact ⟨v, w, rfl, kn _ H1 O1 ps1 om1 _ g1 ((s1.set hij.1 rv).set (by rw [List.length_set]; exact hij.2) rw') p⟩
theorem sv_par3 {i j l : Nat} {ta : TA} {Pq : Po} (h : EA c ta om sl fun es om1 => ∃ x y z, es = [x, y, z] ∧ (i < sl.length ∧ j < sl.length ∧ l < sl.length) ∧ Pq.n om1 (((sl.set i (some x)).set j (some y)).set l (some z))) : SV c Ex (tPar3 i j l ta) om sl Pq := fun σ H O ps Dn s kn kr kb kc kx =>
  h σ H O ps s _ fun vs H1 O1 ps1 es om1 g1 s1 r1 ⟨x, y, z, he, hij, p⟩ => by
    subst he
    cases r1 with
    | @cons u _ vs' _ ru r1 =>
      obtain ⟨v, w, rfl, rv, rw'⟩ := ra2 r1
      exact ⟨u, v, w, rfl, kn _ H1 O1 ps1 om1 _ g1 (((s1.set hij.1 ru).set (by rw [List.length_set]; exact hij.2.1) rv).set (by rw [List.length_set, List.length_set]; exact hij.2.2) rw') p⟩
theorem RlA.rep {O : List Addr} {H : Hp} {vs : List V} {ds : List D} (h : RlA O H vs ds) : ∀ n : Nat, RlA O H (List.replicate n vs).flatten (List.replicate n ds).flatten
  | 0 => .nil
  | n + 1 => by
    rw [List.replicate_succ, List.replicate_succ, List.flatten_cons, List.flatten_cons]
    exact h.app (RlA.rep h n)
theorem ov_repL {x : E} {xs : List D} {n : Nat} (hx : dat om x = some (.lst xs)) (h : xs.length * n ≤ 100000) (hn : (n : Int) < 2 ^ 63) (p : P (.v (.lst (List.replicate n xs).flatten)) om) : OV c rMulU om sl x (.v (.int (n : Int))) P := fun σ H O ps s v w rv rw' Q k => by
  cases rw'
  obtain ⟨a, vs, rfl, h1, h2⟩ := as_l s rv hx
  refine .inr ⟨a, n, vs, rfl, rfl, h1, by omega, hn, by rw [h2.len, Int.toNat_natCast]; exact Nat.le_trans h (by decide), fun q hq => ?_⟩
  rw [Int.toNat_natCast]
  obtain ⟨s2, g2⟩ := s.new (o := .lst (List.replicate n vs).flatten) hq
  exact k _ _ O ps (.v (.lst _)) om g2 s2 (Rl.lst (s.nin hq) upd_same ((RlA.rep h2 n).ext g2.ex)) p
theorem ov_mulI {i j : Int} (h : CMulW i j) (p : P (.v (.int (i * j))) om) : OV c rMulU om sl (.v (.int i)) (.v (.int j)) P := fun σ H O ps s v w rv rw' Q k => .inl (ov_intC (c := c) (C := CMulW) (g := fun i j => i * j) h p σ H O ps s v w rv rw' Q k)
end
end DL
namespace DL
open PySem PySem.Spec PyProof.Rows L2
theorem RlA.ofI {O : List Addr} {H : Hp} : ∀ (ns : List Int), RlA O H (ns.map V.int) (ns.map D.int)
  | [] => .nil
  | n :: ns => .cons (.int n) (RlA.ofI ns)
/-- a slice of a list of ints that stood at the entry -/
theorem lv_raw {c : Cn} {om : Om} {sl : Sl} {P : E → Om → Prop} {a : Addr} {ns : List Int} {lo hi : Option Int} (h : SqL c.K c.H0 a (ns.map V.int)) (hF : c.F = FT.non) (p : P (.v (.lst (cutD (ns.map .int) lo hi))) om) : LV c om sl (.v (.raw (.ref a))) lo hi P := fun σ H O ps s v rv Q k => by
  cases rv
  have kp : ∀ b o, c.H0 b = some o → H b = some o := fun b o e => s.en b o (by rw [hF]; exact fun z => nomatch (show b ∈ ([] : List Addr) from z)) e
  have h' : SqL c.K H a (ns.map V.int) := by
    rcases h with (h | ⟨o, h⟩) | h
    · exact .inl (.inl (kp _ _ h))
    · exact .inl (.inr ⟨o, kp _ _ h⟩)
    · exact .inr h
  refine .inl ⟨a, ns.map V.int, rfl, h', fun q hq => ?_⟩
  obtain ⟨s2, g2⟩ := s.new (o := .lst (cutV (ns.map V.int) lo hi)) hq
  exact k _ _ O ps (.v (.lst (cutD (ns.map .int) lo hi))) om g2 s2 (Rl.lst (s.nin hq) upd_same ((RlA.cut (RlA.ofI ns) lo hi).ext g2.ex)) p
end DL
namespace DL
open PySem PySem.Spec PyProof.Rows L2
theorem et_mono {c : Cn} {om : Om} {sl : Sl} {tt : TT} {PB PB' : Bool → Om → Prop} (h : ET c tt om sl PB) (i : ∀ b om', PB b om' → PB' b om') : ET c tt om sl PB' := fun σ H O ps s Q k => h σ H O ps s Q fun b H' O' ps' om' g s' p => k b H' O' ps' om' g s' (i b om' p)
theorem et_yes {c : Cn} {om : Om} {sl : Sl} {PB : Bool → Om → Prop} (p : PB true om) : ET c tYes om sl PB := fun σ H O ps s Q k => k true H O ps om (Go.refl ..) s p
end DL
set_option Elab.async false
set_option linter.all false
set_option maxRecDepth 100000
set_option maxHeartbeats 4000000
/-! a list of own lists -/
namespace DL
open PySem PySem.Spec PyProof.Rows L2
section
variable {F : FT} {O0 : List Addr} {H0 H : Hp} {om : Om} {σ : L2.St} {sl : Sl} {O ps : List Addr}
/-- an own list is no longer changed -/
theorem St.kill (s : St F O0 H0 H om σ sl O ps) {k : Nat} {ds : List D} (ho : om[k]? = some (some (.l ds))) :
    ∃ O' p vs, ps[k]? = some p ∧ St F O0 H0 H (om.set k none) σ sl O' ps ∧ Go O ps H O' ps H ∧ p ∉ O' ∧ H p = some (.lst vs) ∧ RlA O' H vs ds := by
  obtain ⟨p, vs, e1, e2, e3, e4, e5⟩ := s.ownL ho
  have hf : ∀ {a : Addr}, a ∈ (O.filter fun a => decide (a ≠ p)) ↔ a ∈ O ∧ a ≠ p := fun {a} => by simp [List.mem_filter]
  have x : Ext O H (O.filter fun a => decide (a ≠ p)) H := ⟨fun _ _ _ h => h, fun a ha => .inl (hf.mp ha).1⟩
  have g : Go O ps H (O.filter fun a => decide (a ≠ p)) ps H := ⟨x, fun _ _ h => h⟩
  have hk : k < om.length := (List.getElem?_eq_some_iff.mp ho).1
  refine ⟨_, p, vs, e1, ⟨s.en, fun a ha => s.fo a (hf.mp ha).1, fun a ha => hf.mpr ⟨s.oo a ha, fun z => e2.2 (z ▸ ha)⟩, s.ff, fun a ha => s.al a (hf.mp ha).1, by simp [s.len], fun j es h => ?_, s.inj, s.pa, s.dl, fun j e h => ?_, s.ln, s.tb.sub fun b hb => (hf.mp hb).1⟩, g, fun z => (hf.mp z).2 rfl, e4, e5.ext x⟩
  · by_cases cj : k = j
    · subst cj
      rw [List.getElem?_set_self hk] at h
      cases h
    · rw [List.getElem?_set_ne cj] at h
      obtain ⟨r, g1, g2, g3, g4⟩ := s.own j es h
      exact ⟨r, g1, ⟨hf.mpr ⟨g2.1, fun z => cj (s.inj k j p e1 (z ▸ g1))⟩, g2.2⟩, g3, g4.ext x fun _ h => h⟩
  · obtain ⟨v, h1, h2⟩ := s.slots j e h
    exact ⟨v, h1, h2.go g⟩
theorem St.killAll : ∀ (dss : List (List D)) (pre : Om) {O : List Addr}, St F O0 H0 H (pre ++ dss.map fun ds => some (.l ds)) σ sl O ps →
    ∃ O', St F O0 H0 H (pre ++ dss.map fun _ => none) σ sl O' ps ∧ Go O ps H O' ps H ∧ ∀ (j : Nat) (ds : List D), dss[j]? = some ds → ∃ p vs, ps[pre.length + j]? = some p ∧ p ∉ O' ∧ H p = some (.lst vs) ∧ RlA O' H vs ds
  | [], pre, O, s => ⟨O, s, Go.refl .., fun j ds h => by simp at h⟩
  | ds :: dss, pre, O, s => by
    obtain ⟨O1, p, vs, e1, s1, g1, n1, h1, r1⟩ := s.kill (k := pre.length) (ds := ds) (by simp)
    have eo : (pre ++ (ds :: dss).map fun ds => some (Own.l ds)).set pre.length none = (pre ++ [none]) ++ dss.map fun ds => some (Own.l ds) := by simp [List.set_append]
    rw [eo] at s1
    obtain ⟨O2, s2, g2, k2⟩ := St.killAll dss (pre ++ [none]) s1
    have eo2 : (pre ++ [none]) ++ dss.map (fun _ => (none : Option Own)) = pre ++ (ds :: dss).map fun _ => none := by simp
    rw [eo2] at s2
    refine ⟨O2, s2, g1.trans g2, fun j es h => ?_⟩
    cases j with
    | zero =>
      have h' : ds = es := by simpa using h
      subst h'
      exact ⟨p, vs, e1, g2.ex.out n1 (by rw [h1]; exact fun z => nomatch z), h1, r1.ext g2.ex⟩
    | succ j =>
      obtain ⟨q, ws, z1, z2, z3, z4⟩ := k2 j es (by simpa using h)
      refine ⟨q, ws, ?_, z2, z3, z4⟩
      rw [List.length_append] at z1
      have e : pre.length + (j + 1) = pre.length + [none (α := Own)].length + j := by simp; omega
      rw [e]
      exact z1
end
theorem RlA.ofGet {O : List Addr} {H : Hp} : ∀ {vs : List V} {ds : List D}, vs.length = ds.length → (∀ (i : Nat) (d : D), ds[i]? = some d → ∃ v, vs[i]? = some v ∧ Rl O H v d) → RlA O H vs ds
  | [], [], _, _ => .nil
  | [], _ :: _, e, _ => by simp at e
  | _ :: _, [], e, _ => by simp at e
  | v :: vs, d :: ds, e, h => by
    obtain ⟨w, h1, h2⟩ := h 0 d rfl
    have h1' : v = w := by simpa using h1
    subst h1'
    exact .cons h2 (RlA.ofGet (by simpa using e) fun i d' hd => by
      obtain ⟨w, g1, g2⟩ := h (i + 1) d' (by simpa using hd)
      exact ⟨w, by simpa using g1, g2⟩)
theorem RlA.raws {O : List Addr} {H : Hp} : ∀ {vs : List V} {qs : List Addr}, RlA O H vs (qs.map fun p => D.raw (.ref p)) → vs = qs.map V.ref
  | _, [], .nil => rfl
  | _, q :: qs, .cons h t => by
    cases h
    rw [RlA.raws (qs := qs) t]
    rfl
section
variable {c : Cn} {Ex : XK} {om : Om} {sl : Sl} {P : E → Om → Prop} {Pq : Po} {t : TS}
/-- all rows become data -/
theorem sv_thaw (i : Nat) {dss : List (List D)} (hi : sl[i]? = some (some (.rs dss.length))) (h : SV c Ex t (none :: dss.map fun _ => none) (sl.set i (some (.v (.lst (dss.map .lst))))) Pq) : SV c Ex t (none :: dss.map fun ds => some (.l ds)) sl Pq := fun σ H O ps Dn s kn kr kb kc kx => by
  obtain ⟨O1, s1, g1, k1⟩ := St.killAll dss [none] s
  obtain ⟨v, hv, q, vs, e0, n0, hq, hl, hp⟩ := s.slots i _ hi
  subst e0
  have rq : Rl O1 H (.ref q) (.lst (dss.map .lst)) := by
    refine Rl.lst (g1.ex.out n0 (by rw [hq]; exact fun z => nomatch z)) hq (RlA.ofGet (by rw [hl, List.length_map]) fun j d hd => ?_)
    rw [List.getElem?_map] at hd
    cases c : dss[j]? with
    | none =>
      rw [c] at hd
      cases hd
    | some ds =>
      rw [c] at hd
      cases hd
      obtain ⟨p, ws, z1, z2, z3, z4⟩ := k1 j ds c
      obtain ⟨p', y1, y2⟩ := hp j (List.getElem?_eq_some_iff.mp c).1
      have ep : p = p' := Option.some.inj (z1.symm.trans y1)
      subst ep
      exact ⟨_, y2, Rl.lst z2 z3 z4⟩
  have hil : i < sl.length := (List.getElem?_eq_some_iff.mp hi).1
  have s2 : St c.F c.O0 c.H0 H (none :: dss.map fun _ => none) σ (sl.set i (some (.v (.lst (dss.map .lst))))) O1 ps := by
    have es : σ.set i (some (.ref q)) = σ := by
      apply List.ext_getElem?
      intro j
      by_cases cj : i = j
      · subst cj
        rw [List.getElem?_set_self (by rw [s1.ln]; exact hil)]
        exact hv.symm
      · rw [List.getElem?_set_ne cj]
    have := s1.set (i := i) (v := .ref q) (e := .v (.lst (dss.map .lst))) hil rq
    rw [es] at this
    exact this
  exact h σ H O1 ps Dn s2 (fun σ2 H2 O2 ps2 om2 sl2 g2 s2 p => kn σ2 H2 O2 ps2 om2 sl2 (g1.trans g2) s2 p) (fun v σ2 sl2 H2 O2 ps2 e om2 g2 s2 r p => kr v σ2 sl2 H2 O2 ps2 e om2 (g1.trans g2) s2 r p)
    (fun σ2 H2 O2 ps2 om2 sl2 g2 s2 p => kb σ2 H2 O2 ps2 om2 sl2 (g1.trans g2) s2 p) (fun σ2 H2 O2 ps2 om2 sl2 g2 s2 p => kc σ2 H2 O2 ps2 om2 sl2 (g1.trans g2) s2 p) fun C f x d v H2 H3 O2 ps2 g2 p r hd e => kx C f x d v H2 H3 O2 ps2 (g1.trans g2) p r hd e
/-- one of the rows -/
theorem ov_ixRs {n i : Nat} (hi : i < n) (p : P (.o (1 + i)) om) : OV c (rIx c.K) om sl (.rs n) (.v (.int (i : Int))) P := fun σ H O ps s v w rv rw' Q k => by
  cases rw'
  obtain ⟨q, vs, rfl, n0, hq, hl, hp⟩ := rv
  obtain ⟨p', y1, y2⟩ := hp i hi
  exact .inl ⟨q, vs, i, .ref p', rfl, rfl, sqL hq, atI_n y2, k _ H O ps (.o (1 + i)) om (Go.refl ..) s ⟨p', rfl, y1⟩ p⟩
/-- [[] for x in ..] at the begin of a def -/
theorem ev_lcRows {wi : TI} {i : Nat} (h : WV c wi [] sl fun xs => xs.length ≤ 1000 ∧ P (.rs xs.length) (none :: List.replicate xs.length (some (.l [])))) : EV c (tLc wi (gName i) tYes (tLst tNil) [i]) [] sl P := fun σ H O ps s Q k =>
  h σ H O ps s _ fun J H1 O1 ps1 G Y xs ⟨hx, hP⟩ g1 s1 w hG hY Dl hD => by
    obtain ⟨s2, g2, r2⟩ := s1.newOwn (vs := []) (ds := []) hD .nil
    have lp : ps1 = [] := List.eq_nil_of_length_eq_zero s1.len
    subst lp
    refine lc_it w (fun i H' => ∃ O' qs, Go (Dl :: O1) [Dl] (upd H1 Dl (.lst [])) O' (Dl :: qs) H' ∧ St c.F c.O0 c.H0 H' (some (Own.l (qs.map fun p => D.raw (.ref p))) :: List.replicate i (some (.l []))) σ sl O' (Dl :: qs) ∧ qs.length = i)
      ⟨Dl :: O1, [], Go.refl .., s2, rfl⟩ (fun i H' _ ⟨O', qs, g', _⟩ => hG H' O' (Dl :: qs) (g2.trans g')) ?_ ?_
    · rintro i' v H2 H3 hi ⟨O2, qs, g3, s3, hl⟩ hy
      obtain ⟨d, e1, k2, r⟩ := hY i' H2 O2 (Dl :: qs) v H3 (g2.trans g3) s3.al hi hy
      obtain ⟨s4, g4⟩ := s3.same k2
      refine sets_name i v σ H3 _ ?_
      dsimp only [gName, tYes]
      rw [if_pos rfl]
      refine ⟨Nat.zero_le _, fun q hq => ?_⟩
      obtain ⟨s5, g5, r5⟩ := s4.newOwn (vs := []) (ds := []) hq .nil
      obtain ⟨p0, ws, z1, z2, z3, z4, z5⟩ := s5.ownL (k := 0) (ds := qs.map fun p => D.raw (.ref p)) rfl
      have ep : Dl = p0 := Option.some.inj z1
      subst ep
      have lw := z5.len
      rw [List.length_map] at lw
      obtain ⟨s6, g6⟩ := s5.write (k := 0) (ds' := (qs.map fun p => D.raw (.ref p)) ++ [D.raw (.ref q)]) (vs' := ws ++ [.ref q]) rfl rfl (z5.app (.cons (Rl.raw (.ref q)) .nil))
      refine ⟨ws, z4, by rw [lw, hl]; exact Nat.lt_of_lt_of_le hi (Nat.le_trans hx (by decide)), q :: O2, qs ++ [q], g3.trans (g4.trans (g5.trans g6)), ?_, by simp [hl]⟩
      have eo : ((some (Own.l (qs.map fun p => D.raw (.ref p))) :: List.replicate i' (some (.l []))) ++ [some (Own.l [])]).set 0 (some (Own.l ((qs.map fun p => D.raw (.ref p)) ++ [D.raw (.ref q)]))) = some (Own.l ((qs ++ [q]).map fun p => D.raw (.ref p))) :: List.replicate (i' + 1) (some (.l [])) := by
        rw [List.replicate_succ', List.map_append]
        rfl
      rw [eo] at s6
      exact s6
    · rintro H' ⟨O', qs, g', s', hl⟩
      obtain ⟨O3, p0, vs, e1, s3, g3, n3, h3, r3⟩ := s'.kill (k := 0) (ds := qs.map fun p => D.raw (.ref p)) rfl
      have ep : Dl = p0 := Option.some.inj e1
      subst ep
      have ev := RlA.raws r3
      subst ev
      refine k _ H' O3 (Dl :: qs) (.rs xs.length) _ (g1.trans (g2.trans (g'.trans g3))) s3 ⟨Dl, qs.map V.ref, rfl, n3, h3, by rw [List.length_map, hl], fun j hj => ?_⟩ hP
      have hj' : j < qs.length := by omega
      refine ⟨qs[j], ?_, by rw [List.getElem?_map, List.getElem?_eq_getElem hj']; rfl⟩
      rw [Nat.add_comm 1 j, List.getElem?_cons_succ, List.getElem?_eq_getElem hj']
end
end DL
set_option Elab.async false
set_option linter.all false
set_option maxRecDepth 100000
set_option maxHeartbeats 4000000
/-! enumerate(tuple) -/
namespace EN
open PySem PySem.Spec PyProof.Rows L2
theorem meets1 {v : Value} {o : Obj} {G : Heap → Prop} (B : Begins v o G) :
    Meets (Builtin.«enumerate.__new__» ⟨[.type "enumerate", v], []⟩) (fun _ R s => G s.heap ∧
      R (.ok (.ret (.ref (s.heap.push o).objs.size))) { s with heap := (s.heap.push o).push { cls := .type "enumerate", data := .fields #[.none, .bool false, .ref s.heap.objs.size, rawInt 0, .none, .none] } }) :=
  .of_wp fun prog w A R s h => by
    obtain ⟨hp, g, d, tk, os⟩ := s
    obtain ⟨h1, h⟩ := h
    have sb := sub_enumerate
    have q1 : ∀ {A' : Around} {E : Value → Shared → Prop} {Q : Value → Shared → Prop}, Q (.ref hp.objs.size) ⟨hp.push o, g, d, tk, os⟩ → wpAny (model prog w) A' (pyIter v) Q E ⟨hp, g, d, tk, os⟩ := fun q => B.iter prog w _ _ ⟨hp, g, d, tk, os⟩ _ h1 q
    wp_walk using q1
    refine wpAny_stack_any fun st => wpAny_pure ?_
    split
    · rename_i c _ _ _ _ _
      cases (c == Value.type "enumerate") <;> (wp_walk using q1; exact ⟨_, rfl, h⟩)
    · wp_walk using q1
      exact ⟨_, rfl, h⟩
section
variable {prog : Program} {w : World} {A : Around} {E : Value → Shared → Prop} {s : Shared}
theorem enum1 {v : Value} {o : Obj} {G : Heap → Prop} {Q : Value → Shared → Prop} (B : Begins v o G) (h1 : G s.heap)
    (h : ∀ h', IsEnum h' (s.heap.objs.size + 1) s.heap.objs.size 0 .none → h'.get? s.heap.objs.size = some o → (∀ b u, s.heap.get? b = some u → h'.get? b = some u) → Q (.ref (s.heap.objs.size + 1)) { s with heap := h' }) :
    wpAny (model prog w) A (call (.type "enumerate") [v]) Q E s := by
  refine callType_new F.called_enumerate (by decide) (F.typeCall_enumerate_1 _) (F.newCall_enumerate_1 _) (fun obj => F.args_object_init_2 obj _) F.entry_enumerate_new (meets1 B) ⟨h1, ?_⟩
  have hz : (s.heap.push o).objs.size = s.heap.objs.size + 1 := Heap.size_push ..
  show _ ∧ _
  rw [hz]
  have he : IsEnum ((s.heap.push o).push { cls := .type "enumerate", data := .fields #[.none, .bool false, .ref s.heap.objs.size, rawInt 0, .none, .none] }) (s.heap.objs.size + 1) s.heap.objs.size 0 .none := by
    have e := Heap.get?_push_size (s.heap.push o) (o := { cls := .type "enumerate", data := .fields #[.none, .bool false, .ref s.heap.objs.size, rawInt 0, .none, .none] }) rfl
    rw [hz] at e
    exact e
  exact ⟨⟨_, he, rfl⟩, h _ he (Heap.get?_push_of_some _ (Heap.get?_push_size _ B.free)) fun b u x => Heap.get?_push_of_some _ (Heap.get?_push_of_some _ x)⟩
end
/-- the tuple at a, each item in a new pair -/
def Iett (K : PySem.W.Frag) (a : Addr) : It :=
  ⟨fun i H => ∃ (xs : List V) (x : V), SqT K H a xs ∧ xs[i]? = some x, fun i H v H' => ∃ T x, v = .ref T ∧ H T = none ∧ H' = upd H T (.tup [.int (i : Nat), x]) ∧ ∀ xs, SqT K H a xs → xs[i]? = some x, fun i H => ∃ xs : List V, SqT K H a xs ∧ xs.length ≤ i⟩
theorem turnT {P : Program} {w : World} {K : PySem.W.Frag} {elts : List Expr} {kk : Nat} {tpos : Pos} (a e it : Addr) :
    Turn P w K (.Tuple elts kk tpos) (Iett K a) [e, it] e (fun i h => (∃ old, IsEnum h e it ((i : Nat) : Int) old) ∧ h.IsTupleIter it a i ∧ e ≠ it ∧ a ≠ it ∧ e ≠ a) where
  mem := by simp
  obj := fun i h st b hb => by
    obtain ⟨⟨old, he⟩, ⟨o, ho, _, hd⟩, _⟩ := st
    rcases (show b = e ∨ b = it by simpa using hb) with z | z
    · rw [z]
      exact ⟨_, he, fun v q => nomatch q⟩
    · rw [z]
      exact ⟨o, ho, fun v q => by rw [hd] at q; cases q⟩
  keep := fun i h h' st k => by
    obtain ⟨⟨old, he⟩, hi, n1⟩ := st
    exact ⟨⟨old, k e (by simp) _ he⟩, hi.at fun o q => k it (by simp) o q, n1⟩
  item := by
    intro X hP hw hK hc i pins s σ H E I hf st hg
    subst hP hw hK
    obtain ⟨⟨old, he⟩, hit, n1, n2, n3⟩ := st
    obtain ⟨xs, x, hq, hx⟩ := hg
    obtain ⟨its, rv, p, hz⟩ := I.tuple hq
    obtain ⟨u, hu, ru⟩ := rv.get hx
    have l1 : e < s.heap.objs.size := Heap.lt_size he
    have l2 : it < s.heap.objs.size := by
      obtain ⟨_, q, _⟩ := hit
      exact Heap.lt_size q
    have hlt : i < its.toArray.size := by
      rw [List.size_toArray]
      exact (List.getElem?_eq_some_iff.mp hu).1
    have hA : X.A.in1.handled = none := I.ok.hd hc
    refine wpAny_pyNext_enum_itemD (Draws.tuple hA it a n2 its.toArray) he ⟨hit, p⟩ hlt n1 (by simp [n1, n3]) fun x' h' tk hx' ho st' hT hsz hk => ?_
    have ex : x' = u := by
      have e1 : its[i]? = some x' := by simpa using hx'
      exact Option.some.inj (e1.symm.trans hu)
    subst ex
    refine ⟨_, rfl, wpAny_letOwnedTupleGo_enum (s := { s with heap := h', toks := tk + 1 }) ho fun h'' he' sb => ?_⟩
    have hT2 : h''.get? s.heap.objs.size = some { cls := .type "tuple", data := .seq #[.int i tk, x'] } := (sb.2 _ (Nat.ne_of_gt l1)).trans hT
    have new : ObjOk X.prog X.w (upd H s.heap.objs.size (.tup [.int (i : Nat), x])) h'' s.heap.objs.size (.tup [.int (i : Nat), x]) :=
      ⟨by show 2 ≤ sizeLine; decide, [.int i tk, x'], .cons ⟨_, rfl⟩ (.cons ru .nil), ⟨_, hT2, rfl, _, rfl⟩⟩
    have J : Inv X pins σ (upd H s.heap.objs.size (.tup [.int (i : Nat), x])) { s with heap := h'', toks := tk + 1 } :=
      I.turnedNew (ch := [e, it]) (fun b ob hb q => (sb.2 b (fun z => hb (by simp [z]))).trans (hk b ob (fun z => hb (by simp [z])) (fun z => hb (by simp [z])) q)) hf (Nat.le_refl _) new
    refine ⟨.ref s.heap.objs.size, _, J, rfl, ⟨_, x, rfl, I.hok.fresh (Nat.le_refl _), rfl, fun ys hy => by rw [I.tuple_inj hy hq]; exact hx⟩, ⟨⟨x', ?_⟩, st'.1.at fun o q => (sb.2 it (Ne.symm n1)).trans q, n1, n2, n3⟩, fun b hb => ?_⟩
    · have e1 : ((i + 1 : Nat) : Int) = (i : Int) + 1 := by omega
      rw [e1]
      exact he'
    · have lb : b < s.heap.objs.size := by
        rcases (show b = e ∨ b = it by simpa using hb) with z | z
        · rw [z]; exact l1
        · rw [z]; exact l2
      rw [upd_ne (Nat.ne_of_lt lb)]
      exact (hf b hb).1
  done := by
    intro X hP hw hK hc i pins s σ H E I hf st hg
    subst hP hw hK
    obtain ⟨⟨old, he⟩, hit, n1, n2, n3⟩ := st
    obtain ⟨xs, hq, hx⟩ := hg
    obtain ⟨its, rv, p, hz⟩ := I.tuple hq
    obtain ⟨f0, f1, f2, f3, f4, f5⟩ := hf it (by simp)
    have hA : X.A.in1.handled = none := I.ok.hd hc
    have le := rv.length
    have nx : its.toArray[i]? = none := by
      rw [List.getElem?_toArray]
      exact List.getElem?_eq_none (by omega)
    have D : Draws X.prog X.w X.A.in1 it [it, a] i (fun _ _ => False) (fun j h => j = i ∧ h.IsTupleIter it a i ∧ h.IsTuple a its.toArray) :=
      { live := fun _ _ z => let ⟨o, ho, _⟩ := z.2.1; ⟨o, ho⟩
        frame := fun _ _ _ z hk => ⟨z.1, z.2.1.at fun o q => hk it (by simp) o q, z.2.2.at fun o q => hk a (by simp) o q⟩
        item := fun j _ _ _ hj z _ => absurd z.1 (Nat.ne_of_lt hj)
        done := fun _ _ _ z hE => wpAny_nextOf_tuple_end hA z.2.1 z.2.2 nx hE }
    exact wpAny_pyNext_enum_endD D he ⟨rfl, hit, p⟩ fun h' eb => ⟨rfl, I.turned (t' := s.toks) (fun b o hb q => eb b o hb q) f0 f1 f3 f4 f5⟩
  self := fun A i s Q E st h => by
    obtain ⟨⟨old, he⟩, _⟩ := st
    exact wpAny_pyIter_enum he h
def iEnumT (K : PySem.W.Frag) (ta : TA) : TI := fun σ H R => ta σ H fun vs H1 => ∃ a xs, vs = [.ref a] ∧ SqT K H1 a xs ∧ R (Iett K a) H1
theorem pi_enumT {X : Cx} {e : Expr} {ta : TA} {p pos tpos : Pos} {elts : List Expr} {kk : Nat} (hg : Gl X "enumerate") (hm : X.mg "enumerate" = none) (ha : PA X [e] ta) (hs : starEach [e] X.env = [(false, eval e X.env)] := by rfl) :
    PI X (.Tuple elts kk tpos) (.Call (.Name "enumerate" p) [e] [] pos) (iEnumT X.K ta) := by
  refine ⟨fun pins s σ H R I h => ?_⟩
  refine Call_ (ld_blt I hg hm boot_enumerate (PyProof.Rows.callWith_type1 (thn (ha.run pos pins s σ H _ I h) fun us t ⟨vs, H1, J, r1, q1⟩ => ?_) hs rfl))
  obtain ⟨a, xs, ex, hq, q⟩ := q1
  subst ex
  cases r1 with
  | cons r rr =>
    cases rr
    cases r
    obtain ⟨its, rv, pt, hz⟩ := J.tuple hq
    have la : a < t.heap.objs.size := pt.lt
    refine enum1 (begins_tuple a its.toArray) pt fun h' he hit hk => wpAny_pyIter_enum he ?_
    have J2 : Inv X pins σ H1 { t with heap := h' } := J.kept (t' := t.toks) hk
    refine ⟨t.heap.objs.size + 1, [t.heap.objs.size + 1, t.heap.objs.size], _, _, H1, rfl, J2, turnT a (t.heap.objs.size + 1) t.heap.objs.size, ⟨⟨.none, he⟩, ⟨_, hit, rfl, rfl⟩, Nat.succ_ne_self _, Nat.ne_of_lt la, Nat.ne_of_gt (Nat.lt_succ_of_lt la)⟩, fun b hb => ?_, q⟩
    have lb : t.heap.objs.size ≤ b := by
      rcases (show b = t.heap.objs.size + 1 ∨ b = t.heap.objs.size by simpa using hb) with z | z
      · rw [z]; exact Nat.le_succ _
      · rw [z]; exact Nat.le_refl _
    exact J.fpOk lb (J.hok.fresh lb)
theorem walkT {K : PySem.W.Frag} {a : Addr} {xs : List V} : Walk (Iett K a) xs.length (fun H => SqT K H a xs) (YPair (fun i => some (.int (i : Nat))) (fun i => xs[i]?)) := by
  refine ⟨fun i _ hi q => ⟨xs, xs[i], q, by simp [hi]⟩, fun _ q => ⟨xs, q, Nat.le_refl _⟩, fun i H v H' _ q y => ?_⟩
  obtain ⟨T, x, h1, h2, h3, h4⟩ := y
  exact ⟨T, .int (i : Nat), x, h1, h2, h3, rfl, h4 xs q⟩
end EN
namespace DL
open PySem PySem.Spec PyProof.Rows L2
theorem wv_enumT {c : Cn} {om : Om} {sl : Sl} {tr : TA} {P : List D → Prop} (h : EA c tr om sl fun es om1 => om1 = om ∧ ∃ ds, es = [.v (.tup ds)] ∧ P (enD ds)) : WV c (EN.iEnumT c.K tr) om sl P := fun σ H O ps s R k =>
  h σ H O ps s _ fun vs H1 O1 ps1 es om1 g1 s1 r1 ⟨ho, ds, he, p⟩ => by
    subst he ho
    obtain ⟨v, rfl, rv⟩ := ra1 r1
    obtain ⟨a, vs, rfl, ha, hr, hx⟩ := as_t rv
    refine ⟨a, vs, rfl, sqT hr, k (EN.Iett c.K a) H1 O1 ps1 (fun H => SqT c.K H a vs) (YPair (fun i => some (.int (i : Nat))) (fun i => vs[i]?)) (enD ds) p g1 s1 ?_ (fun H2 O2 ps2 g => sqT (g.ex.rd ha hr)) fun i H2 O2 ps2 v H3 g al hi hy => ?_⟩
    · rw [enD_len, ← hx.len]
      exact EN.walkT
    · rw [enD_len] at hi
      obtain ⟨T, w1, w2, rfl, nT, rfl, e1, e2⟩ := hy
      have hi' : ds[i]? = some ds[i] := List.getElem?_eq_getElem hi
      obtain ⟨w, h1, h2⟩ := (hx.ext g.ex).get hi'
      have ew : w = w2 := Option.some.inj (h1.symm.trans e2)
      subst ew
      have e1' := Option.some.inj e1
      subst e1'
      have kp : ∀ b o, H2 b = some o → upd H2 T (.tup [V.int (i : Nat), w]) b = some o := fun b o z => by
        rw [upd_ne (ne_of_none z nT)]
        exact z
      have x2 : Ext O2 H2 O2 (upd H2 T (.tup [V.int (i : Nat), w])) := ⟨fun b o _ z => kp b o z, fun _ z => .inl z⟩
      refine ⟨_, enD_get hi', kp, Rl.tup (fun z => ?_) (.inl upd_same) (.cons (Rl.int _) (.cons (h2.ext x2) .nil))⟩
      exact al T z nT
end DL
set_option Elab.async false
set_option linter.all false
set_option maxRecDepth 100000
set_option maxHeartbeats 4000000
/-! two for in one comprehension -/
namespace DL
open PySem PySem.Spec PyProof.Rows L2
/-- the inner walk, from the heap as it stands -/
theorem inner_it {J : It} {n : Nat} {G : Hp → Prop} {Y : Nat → Hp → V → Hp → Prop} (w : Walk J n G Y) {g : TG} {tt : TT} {te : TE} {vs : List Nat} {σ : L2.St} {H1 : Hp} {D : Addr} {Qd : Hp → Prop} (Pv : Nat → Hp → Prop) (h0 : Pv 0 H1) (hG : ∀ i H, i ≤ n → Pv i H → G H)
    (hs : ∀ i x H H', i < n → Pv i H → Y i H x H' → g x (wipe σ vs) H' fun σ2 H2 => wipe σ2 vs = wipe σ vs ∧ tt σ2 H2 fun b H3 =>
      if b = true then te σ2 H3 fun y H4 => ∃ acc, H4 D = some (.lst acc) ∧ acc.length < sizeLine ∧ Pv (i + 1) (upd H4 D (.lst (acc ++ [y]))) else Pv (i + 1) H3) (hd : ∀ H, Pv n H → Qd H) :
    ∃ W : Nat → Nat → Hp → Prop, (∃ m, W 0 m H1) ∧ ∀ i m H, W i m H →
      (J.stop i H ∧ Qd H) ∨ (J.go i H ∧ ∃ Nx : Hp → Prop, (∀ H', Nx H' → ∃ m', m' < m ∧ W (i + 1) m' H') ∧ ∀ x H', J.yld i H x H' → g x (wipe σ vs) H' fun σ2 H2 => wipe σ2 vs = wipe σ vs ∧ tt σ2 H2 fun b H3 =>
        if b = true then te σ2 H3 fun y H4 => ∃ acc, H4 D = some (.lst acc) ∧ acc.length < sizeLine ∧ Nx (upd H4 D (.lst (acc ++ [y]))) else Nx H3) := by
  refine ⟨fun i m H => i + m = n ∧ Pv i H, ⟨n, by simp, h0⟩, fun i m H z => ?_⟩
  obtain ⟨e, p⟩ := z
  cases m with
  | zero =>
    have e' : i = n := e
    subst e'
    exact .inl ⟨w.stops H (hG i H (Nat.le_refl _) p), hd H p⟩
  | succ m =>
    have lt : i < n := by omega
    have q := hG i H (Nat.le_of_lt lt) p
    exact .inr ⟨w.goes i H lt q, Pv (i + 1), fun H' p' => ⟨m, Nat.lt_succ_self _, by omega, p'⟩, fun x H' y => hs i x H H' lt p (w.yields i H x H' lt q y)⟩
/-- the outer walk of two -/
theorem outer_it {J : It} {n : Nat} {G : Hp → Prop} {Y : Nat → Hp → V → Hp → Prop} (w : Walk J n G Y) {H0 : Hp} {Qd : Hp → Prop} {St : (V → Hp → (Hp → Prop) → Prop)} (Pv : Nat → Hp → Prop) (h0 : Pv 0 H0) (hG : ∀ i H, i ≤ n → Pv i H → G H)
    (hs : ∀ i x H H', i < n → Pv i H → Y i H x H' → St x H' (Pv (i + 1))) (hd : ∀ H, Pv n H → Qd H) :
    ∃ W : Nat → Nat → Hp → Prop, (∃ m, W 0 m H0) ∧ ∀ i m H, W i m H → (J.stop i H ∧ Qd H) ∨ (J.go i H ∧ ∃ Nx : Hp → Prop, (∀ H', Nx H' → ∃ m', m' < m ∧ W (i + 1) m' H') ∧ ∀ x H', J.yld i H x H' → St x H' Nx) := by
  refine ⟨fun i m H => i + m = n ∧ Pv i H, ⟨n, by simp, h0⟩, fun i m H z => ?_⟩
  obtain ⟨e, p⟩ := z
  cases m with
  | zero =>
    have e' : i = n := e
    subst e'
    exact .inl ⟨w.stops H (hG i H (Nat.le_refl _) p), hd H p⟩
  | succ m =>
    have lt : i < n := by omega
    have q := hG i H (Nat.le_of_lt lt) p
    exact .inr ⟨w.goes i H lt q, Pv (i + 1), fun H' p' => ⟨m, Nat.lt_succ_self _, by omega, p'⟩, fun x H' y => hs i x H H' lt p (w.yields i H x H' lt q y)⟩
section
variable {c : Cn} {om : Om} {sl : Sl} {P : E → Om → Prop}
theorem ev_lc2 {wi wi1 : TI} {g g1 : TG} {tt tt1 : TT} {te : TE} {vs vs1 : List Nat} (hg : Sets g vs) (hg1 : Sets g1 vs1) (h : WV c wi om sl fun xs => ∃ Iv : Nat → List D → Prop, Iv 0 [] ∧
      (∀ i d acc, xs[i]? = some d → Iv i acc → GV c g d (om ++ [some (.l acc)]) (vs.foldr (fun i l => l.set i none) sl) fun om2 sl2 => ET c tt om2 sl2 fun b om3 => om3 = om ++ [some (.l acc)] ∧
        (b = false → Iv (i + 1) acc) ∧ (b = true → WV c wi1 (om ++ [some (.l acc)]) sl2 fun ys => ∃ Jv : Nat → List D → Prop, Jv 0 acc ∧
          (∀ j e acc', ys[j]? = some e → Jv j acc' → GV c g1 e (om ++ [some (.l acc')]) (vs1.foldr (fun i l => l.set i none) sl2) fun om4 sl4 => ET c tt1 om4 sl4 fun b om5 =>
            (b = true → EV c te om5 sl4 fun e om6 => om6 = om ++ [some (.l acc')] ∧ ∃ y, e = .v y ∧ Jv (j + 1) (acc' ++ [y])) ∧ (b = false → om5 = om ++ [some (.l acc')] ∧ Jv (j + 1) acc')) ∧
          (∀ j acc', Jv j acc' → acc'.length < 100000) ∧ ∀ acc', Jv ys.length acc' → Iv (i + 1) acc')) ∧
      ∀ acc, Iv xs.length acc → P (.v (.lst acc)) om) : EV c (tLc2 wi g tt wi1 g1 tt1 te vs vs1) om sl P := fun σ H O ps s Q k =>
  h σ H O ps s _ fun J H1 O1 ps1 G Y xs ⟨Iv, h0, hs, hd⟩ g1' s1 w hG hY Dl hD => by
    obtain ⟨s2, g2, r2⟩ := s1.newOwn (vs := []) (ds := []) hD .nil
    have lp : ps1.length = om.length := s1.len
    have osl : ∀ (i k : Nat), sl[i]? = some (some (.o k)) → k < om.length := fun i k e => by
      obtain ⟨v, _, p, _, e2⟩ := s1.slots i _ e
      rw [← lp]
      exact (List.getElem?_eq_some_iff.mp e2).1
    have osl2 : ∀ (i n : Nat), sl[i]? = some (some (.rs n)) → ∀ j, j < n → 1 + j < om.length := fun i n e j hj => by
      obtain ⟨v, _, q, vs, _, _, _, _, e2⟩ := s1.slots i _ e
      obtain ⟨p, e3, _⟩ := e2 j hj
      rw [← lp]
      exact (List.getElem?_eq_some_iff.mp e3).1
    have eD0 : (ps1 ++ [Dl])[om.length]? = some Dl := by
      rw [← lp]
      simp
    -- what stands between the turns
    refine outer_it w (fun i H' => ∃ O' ps' acc, Go (Dl :: O1) (ps1 ++ [Dl]) (upd H1 Dl (.lst [])) O' ps' H' ∧ St c.F c.O0 c.H0 H' (om ++ [some (.l acc)]) σ sl O' ps' ∧ Iv i acc)
      ⟨Dl :: O1, ps1 ++ [Dl], [], Go.refl .., s2, h0⟩ (fun i H' _ ⟨O', ps', acc, g', _⟩ => hG H' O' ps' (g2.trans g')) ?_ ?_
    · rintro i v H2 H3 hi ⟨O2, ps2, acc, g3, s3, p⟩ hy
      obtain ⟨d, e1, k2, r⟩ := hY i H2 O2 ps2 v H3 (g2.trans g3) s3.al hi hy
      obtain ⟨s4, g4⟩ := s3.same k2
      have back : ∀ {H7 : Hp} {O7 ps7 : List Addr} {acc' : List D} {σ7 : L2.St} {sl7 : Sl}, Go O2 ps2 H2 O7 ps7 H7 → St c.F c.O0 c.H0 H7 (om ++ [some (.l acc')]) σ7 sl7 O7 ps7 → St c.F c.O0 c.H0 H7 (om ++ [some (.l acc')]) σ sl O7 ps7 := fun {H7 O7 ps7 acc' σ7 sl7} g7 s7 =>
        ⟨s7.en, s7.fo, s7.oo, s7.ff, s7.al, s7.len, s7.own, s7.inj, s7.pa, s7.dl, fun i e z => by
          obtain ⟨v, z1, z2⟩ := s3.slots i e z
          exact ⟨v, z1, z2.go g7⟩, s3.ln, s7.tb⟩
      refine hg v σ H3 _ (hs i d acc e1 p (wipe σ vs) H3 O2 ps2 (st_wipe s4 vs) v r _ fun σ5 sl5 s5 h5 => ?_)
      refine h5 σ5 H3 O2 ps2 s5 _ fun b H6 O6 ps6 om6 g6 s6 ⟨ho, hf, ht⟩ => ?_
      subst ho
      cases b with
      | false => exact (if_neg Bool.false_ne_true).mpr ⟨O6, ps6, acc, g3.trans (g4.trans g6), back (g4.trans g6) s6, hf rfl⟩
      | true =>
        refine (if_pos rfl).mpr (ht rfl σ5 H6 O6 ps6 s6 _ fun J1 H7 O7 ps7 G1 Y1 ys ⟨Jv, j0, js, jb, jd⟩ g7 s7 w1 hG1 hY1 => ?_)
        have gT : Go O2 ps2 H2 O7 ps7 H7 := g4.trans (g6.trans g7)
        refine inner_it w1 (fun j H' => ∃ O' ps' acc', Go O7 ps7 H7 O' ps' H' ∧ St c.F c.O0 c.H0 H' (om ++ [some (.l acc')]) σ5 sl5 O' ps' ∧ Jv j acc')
          ⟨O7, ps7, acc, Go.refl .., s7, j0⟩ (fun j H' _ ⟨O', ps', acc', g', _⟩ => hG1 H' O' ps' g') ?_ ?_
        · rintro j v1 Ha Hb hj ⟨Oa, pa, acc', ga, sa, pj⟩ hyj
          obtain ⟨e, z1, k3, r3⟩ := hY1 j Ha Oa pa v1 Hb ga sa.al hj hyj
          obtain ⟨sb, gb⟩ := sa.same k3
          have back1 : ∀ {H8 : Hp} {O8 ps8 : List Addr} {acc2 : List D} {σ8 : L2.St} {sl8 : Sl}, Go Oa pa Ha O8 ps8 H8 → St c.F c.O0 c.H0 H8 (om ++ [some (.l acc2)]) σ8 sl8 O8 ps8 → St c.F c.O0 c.H0 H8 (om ++ [some (.l acc2)]) σ5 sl5 O8 ps8 := fun {H8 O8 ps8 acc2 σ8 sl8} g8 s8 =>
            ⟨s8.en, s8.fo, s8.oo, s8.ff, s8.al, s8.len, s8.own, s8.inj, s8.pa, s8.dl, fun i e z => by
              obtain ⟨v, y1, y2⟩ := sa.slots i e z
              exact ⟨v, y1, y2.go g8⟩, sa.ln, s8.tb⟩
          refine hg1 v1 σ5 Hb _ (js j e acc' z1 pj (wipe σ5 vs1) Hb Oa pa (st_wipe sb vs1) v1 r3 _ fun σ9 sl9 s9 h9 => ?_)
          refine h9 σ9 Hb Oa pa s9 _ fun b Hc Oc pc omc gc sc ⟨ht2, hf2⟩ => ?_
          cases b with
          | true =>
            refine (if_pos rfl).mpr (ht2 rfl σ9 Hc Oc pc sc _ fun y He Oe pe ee ome ge se re ⟨ho, z, he, hz⟩ => ?_)
            subst he ho
            obtain ⟨q, ws, e1, e2, e3, e4, e5⟩ := se.ownL (k := om.length) (ds := acc') (by simp)
            have gg : Go Oa pa Ha Oe pe He := gb.trans (gc.trans ge)
            have eq : q = Dl := Option.some.inj (e1.symm.trans (gg.pre _ _ (ga.pre _ _ (gT.pre _ _ (g3.pre _ _ eD0)))))
            subst eq
            have hw := jb _ _ pj
            obtain ⟨s8, g8⟩ := se.write (ds' := acc' ++ [z]) (vs' := ws ++ [y]) (by simp : (om ++ [some (Own.l acc')])[om.length]? = some (some (Own.l acc'))) e1 (e5.app (.cons (show Rl Oe He y z from re) .nil))
            refine ⟨ws, e4, by rw [e5.len]; exact Nat.lt_of_lt_of_le hw (by decide), Oe, pe, acc' ++ [z], ga.trans (gg.trans g8), ?_, hz⟩
            have es : (om ++ [some (Own.l acc')]).set om.length (some (Own.l (acc' ++ [z]))) = om ++ [some (Own.l (acc' ++ [z]))] := by simp [List.set_append]
            rw [es] at s8
            exact back1 (gg.trans g8) s8
          | false =>
            obtain ⟨ho, hz⟩ := hf2 rfl
            subst ho
            exact (if_neg Bool.false_ne_true).mpr ⟨Oc, pc, acc', ga.trans (gb.trans gc), back1 (gb.trans gc) sc, hz⟩
        · rintro H' ⟨O', ps', acc', g', s', pj⟩
          exact ⟨O', ps', acc', g3.trans (gT.trans g'), back (gT.trans g') s', jd acc' pj⟩
    · rintro H' ⟨O', ps', acc, g', s', p⟩
      have eD : ps'[om.length]? = some Dl := g'.pre _ _ eD0
      obtain ⟨s9, x9, r9⟩ := s'.freeze osl osl2 eD
      have gf : Go O1 ps1 H1 (O'.filter fun a => decide (a ≠ Dl)) (ps'.take om.length) H' := ⟨(g2.trans g').ex.trans x9, fun k q e => by
        have hk : k < om.length := by
          rw [← lp]
          exact (List.getElem?_eq_some_iff.mp e).1
        rw [List.getElem?_take_of_lt hk]
        exact (g2.trans g').pre k q e⟩
      exact k _ H' _ _ (.v (.lst acc)) om (g1'.trans gf) s9 r9 (hd acc p)
end
end DL
set_option Elab.async false
set_option linter.all false
set_option maxRecDepth 100000
set_option maxHeartbeats 4000000
namespace CM
open PySem PySem.Spec PyProof.Rows L2 DL HL
section
variable {P : Program} {w : World} {K : PySem.W.Frag} {mg : Str → Option Value} {base : Heap}
/-! ### _law_draw: a number below what is asked -/
def pre_draw (ds : List D) : Prop := ∃ b : Int, ds = [.int b] ∧ 0 < b ∧ b < 2 ^ 64
def R_draw (ds : List D) (r : D) : Prop := ∃ b i : Int, ds = [.int b] ∧ r = .int i ∧ 0 ≤ i ∧ i < b
abbrev sp_draw : Sp := spN 1 pre_draw R_draw
theorem draw_read {N3 : List Str} {K : PySem.W.Frag} {t : TS} {vs : List V} {H : Hp} {Q : VK} {E : XK} (h : sp_draw vs H Q E)
    (k : ∀ (h a : Addr) (b st : Int) (ns : List Int), h ≠ a → H h = some (.lst [.ref a, .int st]) → H a = some (.lst (ns.map V.int)) → 0 ≤ st → st < 2147483647 → ns.length ≤ 63 → (∀ n ∈ ns, 0 ≤ n ∧ n.toNat < 2 ^ 1048640) → 0 < b → b < 2 ^ 64 →
      (∀ (H' : Hp) (i st' : Int) (ns' : List Int), (∀ c o, c ∉ [h, a] → H c = some o → H' c = some o) → H' h = some (.lst [.ref a, .int st']) → H' a = some (.lst (ns'.map V.int)) → 0 ≤ st' → st' < 2147483647 → ns'.length ≤ 63 → (∀ n ∈ ns', 0 ≤ n ∧ n.toNat < 2 ^ 1048640) → 0 ≤ i → i < b → Q (.int i) H') →
      vs = [.ref h, .int b] → t { nx := fun _ H' => Q .non H', rt := Q } (L2.start N3 [.ref h, .int b]) H) : t { nx := fun _ H' => Q .non H', rt := Q } (L2.start N3 vs) H := by
  obtain ⟨h, a, ws, O, ds, rfl, hl, al, mh, ma, hD, ra, ⟨b, rfl, b0, b1⟩, hQ⟩ := h
  have ew : ws = [.int b] := RlA.ints (ns := [b]) ra
  subst ew
  obtain ⟨st, ns, z2, z3, z4, z5, z6, z7, z8⟩ := hD
  refine k h a b st ns z2 z3 z4 z5 z6 z7 z8 b0 b1 (fun H' i st' ns' q1 q2 q3 q4 q5 q6 q7 q8 q9 => ?_) rfl
  exact hQ _ H' (.int i) q1 ⟨st', ns', z2, q2, q3, q4, q5, q6, q7⟩ (Rl.int i) ⟨b, i, rfl, rfl, q8, q9⟩
theorem dp_ints {K : PySem.W.Frag} {H : Hp} : ∀ ns : List Int, DpAll K H (ns.map V.int) (ns.map PyData.int)
  | [] => .nil
  | n :: ns => .cons (.int n) (dp_ints ns)
theorem can_ints : ∀ ns : List Int, PyData.canLayAll0 (ns.map PyData.int) = true
  | [] => rfl
  | n :: ns => by simp [PyData.canLayAll0, PyData.canLay0, can_ints ns]
theorem dep_ints : ∀ ns : List Int, PyData.depthAll (ns.map PyData.int) = 0
  | [] => rfl
  | n :: ns => by simp [PyData.depthAll, PyData.depth, dep_ints ns]
theorem sh_ints (ns : List Int) : SeqAt.shaped (.list (ns.map PyData.int)) = true := by
  unfold SeqAt.shaped
  simp [PyData.canLay0, can_ints, PyData.depth, dep_ints]
theorem eqv_nil (ns : List Int) : PyData.eqv (.list (ns.map PyData.int)) (.list []) = decide (ns = []) := by
  cases ns <;> simp [PyData.eqv, PyData.eqvAll]
/-! ### _law_pick: one of a list (or a sign of a text) -/
def pre_pick (ds : List D) : Prop := ∃ d xs, ds = [d] ∧ itemsOf d = some xs ∧ 0 < xs.length ∧ xs.length ≤ 1000
def R_pick (ds : List D) (r : D) : Prop := ∀ d xs, ds = [d] → itemsOf d = some xs → r ∈ xs
abbrev sp_pick : Sp := spN 1 pre_pick R_pick
theorem lenN {ar : Nat} {pre : List D → Prop} {R : List D → D → Prop} {vs : List V} {H : Hp} {Q : VK} {Ew : XK} (h : spN ar pre R vs H Q Ew) : vs.length = ar + 1 := by
  obtain ⟨h, a, ws, O, ds, rfl, hl, _⟩ := h
  rw [List.length_cons, hl]
theorem cv_draw {c : Cn} {om : Om} {sl : Sl} {P : DL.E → Om → Prop} {b : Int} (b0 : 0 < b) (b1 : b < 2 ^ 64) (h : ∀ i : Nat, (i : Int) < b → P (.v (.int (i : Int))) om) : CV c (fun vs H Q => sp_draw vs H Q E0) om sl [.l, .v (.int b)] P :=
  cv_N ⟨_, _, rfl, rfl, rfl, ⟨b, rfl, b0, b1⟩, fun r ⟨b', i, e1, e2, h1, h2⟩ => by
    cases e1
    subst e2
    have e := h i.toNat (by omega)
    rw [Int.toNat_of_nonneg h1] at e
    exact e⟩
theorem cv_pick {c : Cn} {om : Om} {sl : Sl} {P : DL.E → Om → Prop} {d : D} {xs : List D} (hx : itemsOf d = some xs) (h0 : 0 < xs.length) (h1 : xs.length ≤ 1000) (h : ∀ r ∈ xs, P (.v r) om) : CV c (fun vs H Q => sp_pick vs H Q E0) om sl [.l, .v d] P :=
  cv_N ⟨_, _, rfl, rfl, rfl, ⟨d, xs, rfl, hx, h0, h1⟩, fun r hr => h r (hr d xs rfl hx)⟩
theorem lenP {ar : Nat} {pre : List D → Prop} {R : List D → D → Prop} {X : List D → Addr → Str → D → Prop} {vs : List V} {H : Hp} {Q : VK} {Ew : XK} (h : spP ar pre R X vs H Q Ew) : vs.length = ar := by
  obtain ⟨O, ds, hl, _⟩ := h
  exact hl
theorem perm_pop {α : Type} {l g : List α} {j : Nat} (h : j < l.length) : (l.eraseIdx j ++ (g ++ [l[j]])).Perm (l ++ g) := by
  have e : l = l.take j ++ l[j] :: l.drop (j + 1) := by
    rw [← List.drop_eq_getElem_cons h, List.take_append_drop]
  rw [List.eraseIdx_eq_take_drop_succ]
  have e2 : l ++ g = l.take j ++ l[j] :: (l.drop (j + 1) ++ g) := by
    have e3 : (l.take j ++ l[j] :: l.drop (j + 1)) ++ g = l.take j ++ l[j] :: (l.drop (j + 1) ++ g) := by rw [List.append_assoc, List.cons_append]
    rw [← e3, ← e]
  rw [e2, ← List.append_assoc]
  refine List.perm_append_comm.trans ?_
  rw [List.singleton_append, List.append_assoc]
  exact List.perm_middle.symm
/-! ### _law_mixed: the same in some order -/
def pre_mixed (ds : List D) : Prop := ∃ xs, ds = [.lst xs] ∧ xs.length ≤ 1000
def R_mixed (ds : List D) (r : D) : Prop := ∀ xs, ds = [.lst xs] → ∃ ys, r = .lst ys ∧ ys.Perm xs
abbrev sp_mixed : Sp := spN 1 pre_mixed R_mixed
/-! ### _law_deal: where draws come from -/
def DealIs (r : D) : Prop := ∃ (ns : List Int) (st : Int), r = .lst [.lst (ns.map .int), .int st] ∧ 0 ≤ st ∧ st < 2147483647 ∧ ns.length ≤ 63 ∧ ∀ n ∈ ns, 0 ≤ n ∧ n.toNat < 2 ^ 1048640
def sp_deal (K : PySem.W.Frag) : Sp := fun vs H Q _ => ∃ (a : Addr) (b : Int) (ns : List Int), vs = [.ref a, .int b] ∧ SqL K H a (ns.map V.int) ∧ 0 ≤ b ∧ b ≤ 50000 ∧ (∀ n ∈ ns, n.natAbs < 2 ^ 1048640) ∧ ∀ v H' r, Same H H' → Rl [] H' v r → DealIs r → Q v H'
theorem cut63 {ns : List Int} : ∃ ms : List Int, cutD (ns.map D.int) none (some 63) = ms.map .int ∧ ms.length ≤ 63 ∧ ∀ m ∈ ms, m ∈ ns := by
  refine ⟨ns.take (HT.sIx ns.length ns.length (some 63)), ?_, ?_, fun m hm => List.mem_of_mem_take hm⟩
  · unfold DL.cutD
    rw [HT.sIx_none, List.length_map, List.drop_zero, Nat.sub_zero, List.map_take]
  · rw [List.length_take]
    have : HT.sIx ns.length ns.length (some 63) ≤ 63 := by
      rw [show (some (63 : Int)) = some ((63 : Nat) : Int) from rfl, HT.sIx_nat]
      exact Nat.min_le_left _ _
    omega
theorem entryD {N : List Str} {vs : List V} {H : Hp} {Q : VK} {E : XK} {t : TS} (hN : 2 ≤ N.length) (h : sp_deal K vs H Q E)
    (b : ∀ (a : Addr) (b : Int) (ns : List Int), SqL K H a (ns.map V.int) → 0 ≤ b → b ≤ 50000 → (∀ n ∈ ns, n.natAbs < 2 ^ 1048640) → SV ⟨FT.non, [], H, K⟩ E t [] (sl0 [.raw (.ref a), .int b] (N.length - 2)) { n := fun _ _ => False, r := fun e om => ∃ d, dat om e = some d ∧ DealIs d }) :
    t { nx := fun _ H' => Q .non H', rt := Q } (L2.start N vs) H := by
  obtain ⟨a, b', ns, rfl, hs, b0, b1, hn, hQ⟩ := h
  have ra : RlA [] H [.ref a, .int b'] [.raw (.ref a), .int b'] := .cons (.raw _) (.cons (.int _) .nil)
  obtain ⟨h1, h2⟩ := start_slots (N := N) ra hN
  have s0 : St FT.non [] H H [] (L2.start N [.ref a, .int b']) (sl0 [.raw (.ref a), .int b'] (N.length - 2)) [] [] := ⟨fun _ _ _ h => h, fun _ h => .inl h, fun _ h => h, (fun b h => nomatch (show b ∈ ([] : List Addr) from h)), (fun _ h => nomatch h), rfl, (fun k ds h => by simp at h), (fun j k p h => by simp at h), (fun k p h => by simp at h), .inl rfl, h2, h1, .inl rfl⟩
  refine b a b' ns hs b0 b1 hn _ H [] [] _ s0 (fun _ _ _ _ _ _ _ _ z => z.elim) (fun v σ' sl' H' O' ps' e om' g s' r ⟨d, hd, p⟩ => hQ v H' d (fun b o e => s'.en b o (fun z => nomatch (show b ∈ ([] : List Addr) from z)) e) (al_sub s' r hd) p) (fun _ _ _ _ _ _ _ _ z => z.elim) (fun _ _ _ _ _ _ _ _ z => z.elim) ?_
  rintro C f x d v H1 H2 O' ps' g ⟨_, p⟩
  exact p.elim
theorem nat_abs_ok {n : Int} (h : n.natAbs < 2 ^ 1048640) : 0 ≤ (n.natAbs : Int) ∧ ((n.natAbs : Int)).toNat < 2 ^ 1048640 := ⟨Int.natCast_nonneg _, by rw [Int.toNat_natCast]; exact h⟩
end
end CM
set_option Elab.async false
set_option linter.all false
set_option maxRecDepth 100000
set_option maxHeartbeats 4000000
namespace L2
open PySem PySem.Spec PyProof.Rows
/-- isinstance(x, (T, U)), the tuple read -/
def rIsiTR (K : PySem.W.Frag) : List V → Hp → VK → Prop := fun xs H Q => ∃ (x : V) (tp : Addr) (cs : List V) (t : Value) (us : List Value) (b : Bool), xs = [x, .ref tp] ∧ Rd H tp (.tup cs) ∧ Paired ClsV cs us ∧ TyX K H x t ∧ PySem.W.kitAny K t us = some b ∧ Q (.bl b) H
theorem call_isiTR {X : Cx} : CallR X (.builtin "isinstance") (rIsiTR X.K) := by
  intro pins s σ H xs us Q I r h
  obtain ⟨x, tp, cs, t, ws, b, rfl, hT, k, ty, e, q⟩ := h
  obtain ⟨u1, u2, rfl, r1, r2⟩ := vals2 r
  cases (show u2 = Value.ref tp from r2)
  obtain ⟨P, Z, p, hx⟩ := kit_of I r1 ty
  obtain ⟨_, its, rv, o, h1, h2, n, h3⟩ := (show ObjOk X.prog X.w H s.heap tp (.tup cs) from Rd.ok hT I.hok)
  have e3 := ClsV.all k rv
  subst e3
  obtain ⟨oc, od, dt, sl⟩ := o
  simp only at h2 h3
  subst h2 h3
  exact PySem.W.kia_tup Z I.kIn p h1 e hx fun tk => ⟨.bl b, H, I.tok tk, rfl, q⟩
end L2
namespace DL
open PySem PySem.Spec PyProof.Rows L2 STX
/-! ### promises with a ghost: at the thing a the arguments are ds a -/
def spG {α : Type} (ar : Nat) (ds : α → List D) (pre : α → Prop) (R : α → D → Prop) (X : α → Addr → Str → D → Prop) : Sp := fun vs H Q E => ∃ a, pre a ∧ spP ar (fun d => d = ds a) (fun _ r => R a r) (fun _ => X a) vs H Q E
def spGN {α : Type} (ar : Nat) (ds : α → List D) (pre : α → Prop) (R : α → D → Prop) : Sp := fun vs H Q E => ∃ a, pre a ∧ spN ar (fun d => d = ds a) (fun _ r => R a r) vs H Q E
def noX {α : Type} : α → Addr → Str → D → Prop := fun _ _ _ _ => False
/-- what a promise wishes of what is raised -/
def Wish (O : List Addr) (H : Hp) (E : XK) (X : Addr → Str → D → Prop) : Prop := ∀ C f x d v H1, Same H H1 → X C f x → Rl O H1 v x → H1 d = none → E (.ref C) (some d) (upd H1 d (.xd [(f, v)]))
section
variable {α : Type} {ar : Nat} {ds : α → List D} {pre : α → Prop} {R : α → D → Prop} {X : α → Addr → Str → D → Prop} {vs : List V} {H : Hp} {Q : VK} {Ex Ew : XK} {K : PySem.W.Frag} {N : List Str} {t : TS} {c : Cn} {om : Om} {sl : Sl} {P : E → Om → Prop} {xs : List E}
theorem lenG (h : spG ar ds pre R X vs H Q Ex) : vs.length = ar := let ⟨_, _, _, _, h, _⟩ := h; h
theorem lenGN (h : spGN ar ds pre R vs H Q Ex) : vs.length = ar + 1 := by
  obtain ⟨a, _, h⟩ := h
  exact CM.lenN h
theorem entryG (hN : ar ≤ N.length) (h : spG ar ds pre R X vs H Q Ex)
    (b : ∀ (O : List Addr) (a : α), (ds a).length = ar → pre a → Wish O H Ex (X a) → SV ⟨FT.non, O, H, K⟩ Ex t [] (sl0 (ds a) (N.length - ar)) { n := fun _ _ => R a .non, r := fun e om => ∃ d, dat om e = some d ∧ R a d, x := X a }) :
    t { nx := fun _ H' => Q .non H', rt := Q } (L2.start N vs) H := by
  obtain ⟨a, hp, h⟩ := h
  have hE : ∃ O, Al O H ∧ RlA O H vs (ds a) ∧ Wish O H Ex (X a) := by
    obtain ⟨O, d, hl, al, ra, rfl, hQ, hE⟩ := h
    exact ⟨O, al, ra, hE⟩
  obtain ⟨O1, d, hl, al, ra, rfl, hQ, hE⟩ := h
  have hl2 : (ds a).length = ar := by rw [← ra.len]; exact hl
  obtain ⟨h1, h2⟩ := start_slots (N := N) ra (by rw [hl]; exact hN)
  rw [hl2] at h1 h2
  have s0 : St FT.non O1 H H [] (L2.start N vs) (sl0 (ds a) (N.length - ar)) O1 [] := ⟨fun _ _ _ h => h, fun _ h => .inl h, fun _ h => h, (fun b h => nomatch (show b ∈ ([] : List Addr) from h)), al, rfl, (fun k ds h => by simp at h), (fun j k p h => by simp at h), (fun k p h => by simp at h), .inl rfl, h2, h1, .inl rfl⟩
  have sm : ∀ {H' : Hp} {om' : Om} {σ' : L2.St} {sl' : Sl} {O' ps' : List Addr}, St FT.non O1 H H' om' σ' sl' O' ps' → Same H H' := fun s b o e => s.en b o (fun z => nomatch (show b ∈ ([] : List Addr) from z)) e
  refine b O1 a hl2 hp hE (L2.start N vs) H O1 [] _ s0 (fun σ' H' O' ps' om' sl' g s' p => hQ _ H' .non (sm s') Rl.non p) (fun v σ' sl' H' O' ps' e om' g s' r ⟨d, hd, p⟩ => hQ v H' d (sm s') (al_sub s' r hd) p) (fun _ _ _ _ _ _ _ _ z => z.elim) (fun _ _ _ _ _ _ _ _ z => z.elim) ?_
  rintro C f x d v H1 H2 O' ps' g ⟨⟨om', σ', sl', s'⟩, p⟩ r hd rfl
  exact hE C f x d v H1 (sm s') p (r.sub s'.oo) hd
theorem entryGN (hN : ar + 1 ≤ N.length) (h : spGN ar ds pre R vs H Q Ex)
    (b : ∀ (F : FT) (O : List Addr) (a : α), (ds a).length = ar → pre a → SV ⟨F, O, H, K⟩ Ex t [] (some .l :: sl0 (ds a) (N.length - (ar + 1))) { n := fun _ _ => R a .non, r := fun e om => ∃ d, dat om e = some d ∧ R a d }) :
    t { nx := fun _ H' => Q .non H', rt := Q } (L2.start N vs) H := by
  obtain ⟨a, hp, h⟩ := h
  refine entryN (K := K) hN h fun F O d hl hd => ?_
  subst hd
  exact b F O a hl hp
theorem cv_G (a : α) (he : unv xs = some (ds a)) (hl : (ds a).length = ar) (hp : pre a) (hx : ∀ C f x, ¬ X a C f x) (h : ∀ r, R a r → P (.v r) om) : CV c (fun vs H Q => spG ar ds pre R X vs H Q Ew) om sl xs P := fun σ H O ps s vs r Q k =>
  ⟨a, hp, cv_P (pre := fun d => d = ds a) (R := fun _ r => R a r) (X := fun _ => X a) ⟨ds a, he, hl, rfl, hx, h⟩ σ H O ps s vs r Q k⟩
theorem cv_GN (a : α) {ys : List E} (hy : xs = .l :: ys) (he : unv ys = some (ds a)) (hl : (ds a).length = ar) (hp : pre a) (h : ∀ r, R a r → P (.v r) om) : CV c (fun vs H Q => spGN ar ds pre R vs H Q Ew) om sl xs P := fun σ H O ps s vs r Q k =>
  ⟨a, hp, cv_N (pre := fun d => d = ds a) (R := fun _ r => R a r) ⟨ys, ds a, hy, he, hl, rfl, h⟩ σ H O ps s vs r Q k⟩
theorem unv_inj {ds ds' : List D} (e : ds.map E.v = ds'.map E.v) : ds = ds' := (List.map_inj_right (f := E.v) (fun a b h => by injection h)).mp e
/-- a call within a def that may raise -/
theorem cv_GW {Y : Addr → Str → D → Prop} (a : α) (hF : c.F = FT.non) (w : Wish c.O0 c.H0 Ew Y) (he : unv xs = some (ds a)) (hl : (ds a).length = ar) (hp : pre a) (hx : ∀ C f x, X a C f x → Y C f x) (h : ∀ r, R a r → P (.v r) om) : CV c (fun vs H Q => spG ar ds pre R X vs H Q Ew) om sl xs P := fun σ H O ps s vs r Q k =>
  ⟨a, hp, cv_PX (pre := fun d => d = ds a) (R := fun _ r => R a r) (X := fun _ => X a) ⟨ds a, he, hl, rfl, h⟩ (fun σ H O ps s ds' e' C f x d v H1 sm hX rv hd =>
    w C f x d v H1 (fun b o e => sm b o (s.en b o (by rw [hF]; exact fun z => nomatch (show b ∈ ([] : List Addr) from z)) e)) (hx C f x hX) (rv.sub s.oo) hd) σ H O ps s vs r Q k⟩
/-! ### calls within a try -/
/-- what the clauses wish, from the slots sl -/
def WishS (c : Cn) (W : WX) (om : Om) (sl : Sl) (Y : Addr → Str → D → Prop) : Prop := ∀ σ H O ps C f x d v, St c.F c.O0 c.H0 H om σ sl O ps → Y C f x → Rl O H v x → H d = none → W (.ref C) (some d) σ (upd H d (.xd [(f, v)]))
def CVS (c : Cn) (sp : Sp) (W : WX) (om : Om) (sl : Sl) (xs : List E) (P : E → Om → Prop) : Prop := ∀ σ H O ps, St c.F c.O0 c.H0 H om σ sl O ps → ∀ vs, RA c.F O ps H vs xs → ∀ Q : VK,
  (∀ v H' O' ps' e om', Go O ps H O' ps' H' → St c.F c.O0 c.H0 H' om' σ sl O' ps' → RE c.F O' ps' H' v e → P e om' → Q v H') → sp vs H Q (WE W σ)
theorem ev_callS {sp : Sp} {W : WX} {tr : TA} (h : EA c tr om sl fun xs om1 => CVS c sp W om1 sl xs P) : EV c (tCallS sp (WE W) tr) om sl P := fun σ H O ps s Q k =>
  h σ H O ps s _ fun vs H1 O1 ps1 es om1 g1 s1 r1 h1 => h1 σ H1 O1 ps1 s1 vs r1 Q fun z H3 O3 ps3 e3 om3 g3 s3 r3 p => k z H3 O3 ps3 e3 om3 (g1.trans g3) s3 r3 p
theorem cvs_G {W : WX} {Y : Addr → Str → D → Prop} (a : α) (w : WishS c W om sl Y) (he : unv xs = some (ds a)) (hl : (ds a).length = ar) (hp : pre a) (hx : ∀ C f x, X a C f x → Y C f x) (h : ∀ r, R a r → P (.v r) om) : CVS c (spG ar ds pre R X) W om sl xs P := fun σ H O ps s vs r Q k => by
  have he' := unv_eq he
  subst he'
  have ra := ra_data r
  refine ⟨a, hp, O, ds a, by rw [ra.len]; exact hl, s.al, ra, rfl, fun v H' r' hs hv hR => ?_, fun C f x d v H1 hs hX rv hd => ?_⟩
  · obtain ⟨s2, g2⟩ := s.same hs
    exact k v H' O ps (.v r') om g2 s2 hv (h r' hR)
  · obtain ⟨s2, g2⟩ := s.same hs
    exact w σ H1 O ps C f x d v s2 (hx C f x hX) rv hd
/-- the state from here on: what stands now is what stood at the entry -/
theorem St.rebase {F : FT} {O0 O : List Addr} {H0 H : Hp} {σ : L2.St} {sl : Sl} (s : St F O0 H0 H [] σ sl O []) : St F O H H [] σ sl O [] :=
  ⟨fun _ _ _ h => h, fun _ h => .inl h, fun _ h => h, fun a ha => ⟨s.oo _ (s.ff a ha).1, s.al a (s.oo _ (s.ff a ha).1)⟩, s.al, rfl, (fun k w h => by simp at h), s.inj, s.pa, s.dl, s.slots, s.ln, s.tb⟩
theorem St.unbase {F : FT} {O0 O O' ps' : List Addr} {H0 H H' : Hp} {om' : Om} {σ σ' : L2.St} {sl sl' : Sl} (s : St F O0 H0 H [] σ sl O []) (s' : St F O H H' om' σ' sl' O' ps') : St F O0 H0 H' om' σ' sl' O' ps' ∧ Go O [] H O' ps' H' := by
  have back : ∀ a, H a = none → a ∉ F → H0 a = none := fun a ha hF => by
    cases e : H0 a with
    | none => rfl
    | some o =>
      rw [s.en a o hF e] at ha
      cases ha
  have nF : ∀ a, H a = none → a ∉ F := fun a ha hF => s.al a (s.oo _ (s.ff a hF).1) ha
  refine ⟨⟨fun b o hb h => s'.en b o hb (s.en b o hb h), fun a ha => ?_, fun a ha => s'.oo a (s.oo a ha), s.ff, s'.al, s'.len, fun k w h => ?_, s'.inj, s'.pa, s'.dl, s'.slots, s'.ln, s'.tb⟩, ⟨⟨fun b o hb h => s'.en b o (fun z => hb (s.oo _ (s.ff b z).1)) h, s'.fo⟩, fun k p h => by simp at h⟩⟩
  · rcases s'.fo a ha with h | h
    · exact s.fo a h
    · exact .inr (back a h (nF a h))
  · obtain ⟨p, h1, h2, h3, h4⟩ := s'.own k w h
    exact ⟨p, h1, ⟨h2.1, fun z => h2.2 (s.oo p z)⟩, back p h3 (nF p h3), h4⟩
/-- try: body  except x as n: suite -/
theorem sv_tryAs {cl : Value} {i : Nat} {ts : Addr → Value → Option Addr → TS} {Wout : WX} {tb : WX → TS} {Y : Addr → Str → D → Prop} {Pq : Po} (hi : i < sl.length) (hc : ∀ C f x, Y C f x → PySem.W.exmOne c.K (.ref C) cl = some true)
    (hb : ∀ (O : List Addr) (H : Hp) (W : WX), WishS ⟨c.F, O, H, c.K⟩ W [] sl Y → SV ⟨c.F, O, H, c.K⟩ Ex (tb W) [] sl Pq)
    (hs : ∀ (O : List Addr) (H : Hp) C f x, Y C f x → ∀ a d, SV ⟨c.F, O, H, c.K⟩ Ex (ts a (.ref C) (some d)) [] (sl.set i (some (.v (.xerr a d [(f, x)])))) { Pq with n := fun om' sl' => Pq.n om' (sl'.set i none), b := fun om' sl' => Pq.b om' (sl'.set i none), c := fun om' sl' => Pq.c om' (sl'.set i none) }) :
    SV c Ex (fun Dn σ H => tb (wAs c.K cl i ts Wout Dn) Dn σ H) [] sl Pq := fun σ H O ps Dn s kn kr kb kc kx => by
  have ep : ps = [] := List.eq_nil_of_length_eq_zero s.len
  subst ep
  have K3 : ∀ {C f x d v H1 H2 O' ps'}, ((∃ om' σ' sl', St c.F O H H1 om' σ' sl' O' ps') ∧ Pq.x C f x) → Rl O' H1 v x → H1 d = none → H2 = upd H1 d (.xd [(f, v)]) → Ex (.ref C) (some d) H2 := fun ⟨⟨om', σ', sl', s'⟩, px⟩ r hd e =>
    let ⟨s2, g2⟩ := s.unbase s'
    kx _ _ _ _ _ _ _ _ _ g2 ⟨⟨_, _, _, s2⟩, px⟩ r hd e
  have W : WishS ⟨c.F, O, H, c.K⟩ (wAs c.K cl i ts Wout Dn) [] sl Y := fun σ2 H2 O2 ps2 C f x d v s2 hY rv hd => by
    refine ⟨true, hc C f x hY, fun _ a ha => ?_, fun z => nomatch z⟩
    obtain ⟨s3, g3⟩ := s2.new (o := .xd [(f, v)]) hd
    have r3 : Rl O2 (upd H2 d (.xd [(f, v)])) (.ref a) (.xerr a d [(f, x)]) := .xerr (s2.nin hd) upd_same (.cons (rv.ext g3.ex) .nil)
    have s4 := s3.set (i := i) (v := .ref a) (e := .v (.xerr a d [(f, x)])) hi r3
    exact hs O H C f x hY a d _ _ O2 ps2 _ s4 (fun σ' H' O' ps' om' sl' _ s' p => let ⟨s5, g5⟩ := s.unbase (s'.forget i none); kn _ H' O' ps' om' _ g5 s5 p)
      (fun v σ' sl' H' O' ps' e om' _ s' r p => let ⟨s5, g5⟩ := s.unbase s'; kr v σ' sl' H' O' ps' e om' g5 s5 r p)
      (fun σ' H' O' ps' om' sl' _ s' p => let ⟨s5, g5⟩ := s.unbase (s'.forget i none); kb _ H' O' ps' om' _ g5 s5 p) (fun σ' H' O' ps' om' sl' _ s' p => let ⟨s5, g5⟩ := s.unbase (s'.forget i none); kc _ H' O' ps' om' _ g5 s5 p)
      fun C f x d v H1 H2 O' ps' _ p r hd e => K3 p r hd e
  exact hb O H _ W σ H O [] Dn s.rebase (fun σ' H' O' ps' om' sl' _ s' p => let ⟨s5, g5⟩ := s.unbase s'; kn σ' H' O' ps' om' sl' g5 s5 p)
    (fun v σ' sl' H' O' ps' e om' _ s' r p => let ⟨s5, g5⟩ := s.unbase s'; kr v σ' sl' H' O' ps' e om' g5 s5 r p)
    (fun σ' H' O' ps' om' sl' _ s' p => let ⟨s5, g5⟩ := s.unbase s'; kb σ' H' O' ps' om' sl' g5 s5 p) (fun σ' H' O' ps' om' sl' _ s' p => let ⟨s5, g5⟩ := s.unbase s'; kc σ' H' O' ps' om' sl' g5 s5 p)
    fun C f x d v H1 H2 O' ps' _ p r hd e => K3 p r hd e
/-- n.f in the suite -/
theorem ev_xf {a C d : Addr} {f : Str} {te : TE} (h : EV c te om sl fun e om1 => ∃ fs x, e = .v (.xerr a d fs) ∧ fs.lookup f = some x ∧ P (.v x) om1) : EV c (tXf a (.ref C) (some d) C f te) om sl P := fun σ H O ps s Q k =>
  h σ H O ps s _ fun v H1 O1 ps1 e om1 g1 s1 r1 ⟨fs, x, he, hl, p⟩ => by
    subst he
    cases r1 with
    | xerr hd hr hx =>
      obtain ⟨w, h1, h2⟩ := RlF.lookup hx hl
      exact ⟨rfl, rfl, d, _, w, rfl, hr, h1, k w H1 O1 ps1 (.v x) om1 g1 s1 h2 p⟩
/-! ### more statements -/
variable {Pq : Po} {te : TE}
/-- x += e -/
theorem sv_augI {g : Int → Int → Int} {i : Nat} {a0 : Int} (hv : sl[i]? = some (some (.v (.int a0)))) (h : EV c te om sl fun e om1 => ∃ b, e = .v (.int b) ∧ Pq.n om1 (sl.set i (some (.v (.int (g a0 b)))))) : SV c Ex (tAug i te (ipI g)) om sl Pq := fun σ H O ps Dn s kn kr kb kc kx => by
  obtain ⟨v, h1, h2⟩ := s.slots i _ hv
  cases h2
  refine ⟨_, h1, h σ H O ps s _ fun w H1 O1 ps1 e om1 g1 s1 r1 ⟨b, he, p⟩ => ?_⟩
  subst he
  cases r1
  exact ⟨a0, b, rfl, rfl, kn _ H1 O1 ps1 om1 _ g1 (s1.set (e := .v (.int (g a0 b))) (List.getElem?_eq_some_iff.mp hv).1 (Rl.int (g a0 b))) p⟩
/-- xs[j] = e, xs an own list -/
theorem sv_setItem {to ti : TE} (h : EV c te om sl fun e om1 => ∃ y, e = .v y ∧ EV c to om1 sl fun x om2 => ∃ k, x = .o k ∧ EV c ti om2 sl fun z om3 => ∃ (n : Int) (j : Nat) (ds : List D), z = .v (.int n) ∧ om3[k]? = some (some (.l ds)) ∧ ixN ds.length n = some j ∧ Pq.n (om3.set k (some (.l (ds.set j y)))) sl) : SV c Ex (tAsg te (gSub to ti rSetL)) om sl Pq := fun σ H O ps Dn s kn kr kb kc kx =>
  h σ H O ps s _ fun v H1 O1 ps1 e om1 g1 s1 r1 ⟨y, he, h1⟩ => h1 σ H1 O1 ps1 s1 _ fun u H2 O2 ps2 x om2 g2 s2 r2 ⟨k, hx, h2⟩ => h2 σ H2 O2 ps2 s2 _ fun z H3 O3 ps3 z' om3 g3 s3 r3 ⟨n, j, ds, hz, ho, hj, p⟩ => by
    subst he hx hz
    cases r3
    obtain ⟨q, ws, rfl, e1, e2, e3⟩ := own_at s3 ho (r2.go g3 : RE c.F O3 ps3 H3 u (.o k))
    have ry : Rl O3 H3 v y := (show Rl O1 H1 v y from r1).ext (g2.trans g3).ex
    obtain ⟨s4, g4⟩ := s3.write ho e1 (e3.set ry j)
    exact ⟨q, ws, n, j, rfl, rfl, e2, by rw [e3.len]; exact hj, kn σ _ O3 ps3 _ sl (g1.trans (g2.trans (g3.trans g4))) s4 p⟩
/-- xs.insert(j, e) -/
theorem mv_insert {k j : Nat} {ds : List D} {y : D} (ho : om[k]? = some (some (.l ds))) (hl : ds.length < 1000) (hj : (j : Int) < 2 ^ 63) (p : P (.v .non) (om.set k (some (.l (ds.take j ++ [y] ++ ds.drop j))))) :
    MV c (fun x vs H Q => ∃ (l : Addr) (xs : List V) (i : Int) (y : V), x = .ref l ∧ vs = [.int i, y] ∧ H l = some (.lst xs) ∧ xs.length < sizeLine ∧ 0 ≤ i ∧ i < 2 ^ 63 ∧ Q .non (upd H l (.lst (xs.take i.toNat ++ [y] ++ xs.drop i.toNat)))) om sl (.o k) [.v (.int (j : Int)), .v y] P := fun σ H O ps s v vs r rs Q kk => by
  obtain ⟨w1, w2, rfl, rw1, rw2⟩ := ra2 rs
  cases rw1
  obtain ⟨q, ws, rfl, e1, e2, e3⟩ := own_at s ho r
  have rn : RlA O H (ws.take j ++ [w2] ++ ws.drop j) (ds.take j ++ [y] ++ ds.drop j) := ((e3.take j).app (.cons (show Rl O H w2 y from rw2) .nil)).app (e3.drop j)
  obtain ⟨s4, g4⟩ := s.write ho e1 rn
  exact ⟨q, ws, (j : Int), w2, rfl, rfl, e2, by rw [e3.len]; exact small1000 (by omega), Int.natCast_nonneg _, hj, by rw [Int.toNat_natCast]; exact kk _ _ O ps (.v .non) _ g4 s4 Rl.non p⟩
end
/-! ### comprehensions over things of one kind -/
section
variable {c : Cn} {Ex : XK} {om : Om} {sl : Sl} {P : E → Om → Prop} {wi : TI} {g : TG} {tt : TT} {te : TE} {vs : List Nat}
/-- [f a for a in as if p a] -/
theorem ev_lcT {α : Type} (inj : α → D) (p : α → Bool) (f : α → D) (hg : Sets g vs) (h : WV c wi om sl fun xs => ∃ (as : List α), xs = as.map inj ∧ as.length < 100000 ∧
      (∀ (i : Nat) (a : α) (acc : List D), as[i]? = some a → GV c g (inj a) (om ++ [some (.l acc)]) (vs.foldr (fun i l => l.set i none) sl) fun om2 sl2 => ET c tt om2 sl2 fun b om3 => om3 = om ++ [some (.l acc)] ∧ b = p a ∧
        (b = true → EV c te om3 sl2 fun e om4 => om4 = om ++ [some (.l acc)] ∧ e = .v (f a))) ∧ P (.v (.lst ((as.filter p).map f))) om) : EV c (tLc wi g tt te vs) om sl P := by
  refine ev_lc hg fun σ H O ps s R k => h σ H O ps s R fun J H1 O1 ps1 G Y xs ⟨as, hx, hl, hb, hd⟩ g1 s1 w hG hY => ?_
  refine k J H1 O1 ps1 G Y xs ⟨fun i acc => acc = ((as.take i).filter p).map f ∧ i ≤ as.length, ⟨rfl, Nat.zero_le _⟩, ?_, ?_, ?_⟩ g1 s1 w hG hY
  · rintro i d acc hi ⟨rfl, hil⟩
    rw [hx, List.getElem?_map] at hi
    cases ha : as[i]? with
    | none =>
      rw [ha] at hi
      cases hi
    | some a =>
      rw [ha] at hi
      cases hi
      have hlt := (List.getElem?_eq_some_iff.mp ha).1
      have et : as.take (i + 1) = as.take i ++ [a] := by
        rw [List.take_succ, ha]
        rfl
      intro σ2 H2 O2 ps2 s2 v r Q kk
      refine hb i a _ ha σ2 H2 O2 ps2 s2 v r Q fun σ3 sl3 s3 h3 => kk σ3 sl3 s3 fun σ4 H4 O4 ps4 s4 Q4 k4 => h3 σ4 H4 O4 ps4 s4 Q4 fun b H5 O5 ps5 om5 g5 s5 ⟨e1, e2, e3⟩ => k4 b H5 O5 ps5 om5 g5 s5 ⟨fun hb => ?_, fun hb => ⟨e1, ?_, hlt⟩⟩
      · exact ev_mono (e3 hb) fun e om' ⟨q1, q2⟩ => ⟨q1, f a, q2, by rw [et, List.filter_append, List.map_append, List.filter_cons, ← e2, hb]; rfl, hlt⟩
      · rw [et, List.filter_append, List.filter_cons, ← e2, hb]
        simp
  · rintro i acc ⟨rfl, hil⟩
    rw [List.length_map]
    refine Nat.lt_of_le_of_lt (Nat.le_trans (List.length_filter_le _ _) ?_) hl
    rw [List.length_take]
    exact Nat.min_le_right _ _
  · rintro acc ⟨rfl, _⟩
    rw [hx, List.length_map, List.take_length]
    exact hd
/-- [some z with R a z for a in as] -/
theorem ev_lcR {α β : Type} (inj : α → D) (injB : β → D) (R : α → β → Prop) (hg : Sets g vs) (h : WV c wi om sl fun xs => ∃ (as : List α), xs = as.map inj ∧ as.length < 100000 ∧
      (∀ (i : Nat) (a : α) (acc : List D), as[i]? = some a → GV c g (inj a) (om ++ [some (.l acc)]) (vs.foldr (fun i l => l.set i none) sl) fun om2 sl2 => EV c te om2 sl2 fun e om4 => om4 = om ++ [some (.l acc)] ∧ ∃ z, e = .v (injB z) ∧ R a z) ∧
      ∀ zs : List β, zs.length = as.length → (∀ (i : Nat) (a : α) (z : β), as[i]? = some a → zs[i]? = some z → R a z) → P (.v (.lst (zs.map injB))) om) : EV c (tLc wi g tYes te vs) om sl P := by
  refine ev_lc hg fun σ H O ps s Rr k => h σ H O ps s Rr fun J H1 O1 ps1 G Y xs ⟨as, hx, hl, hb, hd⟩ g1 s1 w hG hY => ?_
  refine k J H1 O1 ps1 G Y xs ⟨fun i acc => ∃ zs : List β, acc = zs.map injB ∧ zs.length = i ∧ i ≤ as.length ∧ ∀ (j : Nat) (a : α) (z : β), as[j]? = some a → zs[j]? = some z → R a z, ⟨[], rfl, rfl, Nat.zero_le _, fun j a z _ e => by simp at e⟩, ?_, ?_, ?_⟩ g1 s1 w hG hY
  · rintro i d acc hi ⟨zs, rfl, hz, hil, hR⟩
    rw [hx, List.getElem?_map] at hi
    cases ha : as[i]? with
    | none =>
      rw [ha] at hi
      cases hi
    | some a =>
      rw [ha] at hi
      cases hi
      have hlt := (List.getElem?_eq_some_iff.mp ha).1
      intro σ2 H2 O2 ps2 s2 v r Q kk
      refine hb i a _ ha σ2 H2 O2 ps2 s2 v r Q fun σ3 sl3 s3 h3 => kk σ3 sl3 s3 (et_yes ⟨fun _ => ev_mono h3 fun e om' ⟨q1, z, q2, q3⟩ => ⟨q1, _, q2, zs ++ [z], by simp, by simp [hz], hlt, fun j a' z' e1 e2 => ?_⟩, fun z => nomatch z⟩)
      by_cases hj : j < zs.length
      · rw [List.getElem?_append_left hj] at e2
        exact hR j a' z' e1 e2
      · rw [List.getElem?_append_right (by omega)] at e2
        have hj0 : j - zs.length = 0 := by
          have := (List.getElem?_eq_some_iff.mp e2).1
          simp at this
          omega
        rw [hj0] at e2
        cases e2
        have : j = i := by omega
        subst this
        rw [ha] at e1
        cases e1
        exact q3
  · rintro i acc ⟨zs, rfl, hz, hil, _⟩
    rw [List.length_map]
    omega
  · rintro acc ⟨zs, rfl, hz, hil, hR⟩
    rw [hx, List.length_map] at hz
    exact hd zs hz hR
/-- for a in as: body -/
theorem sv_forT {α : Type} (inj : α → D) {t : TS} {Pq : Po} (h : WV c wi om sl fun xs => ∃ (as : List α) (Iv : Nat → Om → Sl → Prop), xs = as.map inj ∧ Iv 0 om sl ∧
      (∀ (i : Nat) (a : α) om' sl', as[i]? = some a → Iv i om' sl' → GV c g (inj a) om' sl' fun om2 sl2 => SV c Ex t om2 sl2 { Pq with n := Iv (i + 1), c := Iv (i + 1), b := Pq.n }) ∧
      ∀ om' sl', Iv as.length om' sl' → Pq.n om' sl') : SV c Ex (tFor wi g t) om sl Pq := by
  refine sv_for fun σ H O ps s R k => h σ H O ps s R fun J H1 O1 ps1 G Y xs ⟨as, Iv, hx, h0, hb, hd⟩ g1 s1 w hG hY => ?_
  refine k J H1 O1 ps1 G Y xs ⟨Iv, h0, fun i d om' sl' hi p => ?_, fun om' sl' p => hd om' sl' (by rw [hx, List.length_map] at p; exact p)⟩ g1 s1 w hG hY
  rw [hx, List.getElem?_map] at hi
  cases ha : as[i]? with
  | none =>
    rw [ha] at hi
    cases hi
  | some a =>
    rw [ha] at hi
    cases hi
    exact hb i a om' sl' ha p
end
end DL
namespace HL
open PySem PySem.Spec PyProof.Rows L2
section
variable {X : Cx} {CX : CXT} {k j : Nat} {x : Str} {ps : List Str} {sp : Sp} {E : L2.St → XK} {p pos : Pos} {e : Expr} {es : List Expr} {t : TA}
theorem pe_caS (c : Ca X.prog X.w X.K X.mg X.base CX k x ps sp) (hr : Room j X.A) (hk : k ≤ j) (hx : ∀ σ, PassesAt CX X σ (E σ)) (ha : PA X (e :: es) t) (hg : Gl X x := by rfl)
    (hdb : (x == ("__debug__" : Str)) = false := by decide) (he : starEach (e :: es) X.env = (false, eval e X.env) :: starEach es X.env := by rfl) (hpl : (backTo pos (starEach es X.env)).any (·.1) = false := by rfl) :
    PE X (.Call (.Name x p) (e :: es) [] pos) (tCallS sp E t) := by
  obtain ⟨f, fd, F, m, kp, b, _⟩ := c.ex
  exact pe_callS F (hr.mono hk) hg m kp b hx ha hdb he hpl
end
end HL
namespace EX
open PySem PySem.Spec PyProof.Rows L2
theorem XT.xf {K : PySem.W.Frag} {mg : Str → Option Value} {nm f : Str} {C fI : Addr} (x : XT K mg nm f C fI) : XfC K C := ⟨x.ga, x.gg, x.exC, x.hdC⟩
end EX
namespace DL
open PySem PySem.Spec PyProof.Rows L2 STX
/-! isinstance of data -/
def tyD : D → Option String
  | .non => some "NoneType"
  | .bl _ => some "bool"
  | .int _ => some "int"
  | .str _ => some "str"
  | .lst _ => some "list"
  | .tup _ => some "tuple"
  | .dic _ => some "dict"
  | _ => none
section
variable {c : Cn} {om : Om} {sl : Sl} {P : E → Om → Prop}
theorem cv_isi {d : D} {T U : String} {b : Bool} (hT : tyD d = some T) (hk : PySem.W.kitOne c.K (.type T) (.type U) = some b) (p : P (.v (.bl b)) om) : CV c (rIsi c.K) om sl [.v d, .v (.raw (.ty U))] P := fun σ H O ps s vs r Q k => by
  obtain ⟨v, w, rfl, r1, r2⟩ := ra2 r
  cases r2
  refine ⟨v, .ty U, .type T, .type U, b, rfl, .ty U, ?_, hk, k _ H O ps (.v (.bl b)) om (Go.refl ..) s (Rl.bl b) p⟩
  cases d <;> cases hT <;> cases r1
  · exact .base .non
  · exact .base (.bl _)
  · exact .base (.int _)
  · exact .base (.str _)
  · rename_i a xs ha hr hx
    exact .base (.lst hr)
  · rename_i a xs ha hr hx
    rcases hr with hr | ⟨o, hr⟩
    · exact .base (.tup hr)
    · exact .fTuple hr
  · rename_i a xs ha hr hx
    exact .base (.dK hr)
end
end DL
namespace DL
open PySem PySem.Spec PyProof.Rows L2 STX
/-- a slice that is the def's own from now on -/
theorem lv_lO {c : Cn} {om : Om} {sl : Sl} {P : E → Om → Prop} {x : E} {ds : List D} {lo hi : Option Int} (hx : dat om x = some (.lst ds)) (p : P (.o om.length) (om ++ [some (.l (cutD ds lo hi))])) : LV c om sl x lo hi P := fun σ H O ps s v rv Q k => by
  obtain ⟨a, vs, rfl, h1, h2⟩ := as_l s rv hx
  refine .inl ⟨a, vs, rfl, sqL h1, fun q hq => ?_⟩
  obtain ⟨s2, g2, r2⟩ := s.newOwn hq (h2.cut lo hi)
  exact k _ _ _ _ _ _ g2 s2 r2 p
/-! ### a loop whose turns make things of their own and leave them behind -/
def inE (n : Nat) : E → Prop
  | .o k => k < n
  | .rs m => m < n
  | _ => True
def ShrS (n : Nat) : Sl → Sl → Prop
  | [], [] => True
  | none :: a, _ :: b => ShrS n a b
  | some e :: a, x :: b => x = some e ∧ inE n e ∧ ShrS n a b
  | _, _ => False
theorem shrS_at {n : Nat} : ∀ {a b : Sl}, ShrS n a b → a.length = b.length ∧ ∀ (i : Nat) (e : E), a[i]? = some (some e) → b[i]? = some (some e) ∧ inE n e
  | [], [], _ => ⟨rfl, fun i e h => by simp at h⟩
  | none :: a, x :: b, h => by
    obtain ⟨h1, h2⟩ := shrS_at (a := a) (b := b) h
    refine ⟨by simp [h1], fun i e hi => ?_⟩
    cases i with
    | zero => simp at hi
    | succ i =>
      simp only [List.getElem?_cons_succ] at hi ⊢
      exact h2 i e hi
  | some e0 :: a, x :: b, ⟨h3, h4, h5⟩ => by
    obtain ⟨h1, h2⟩ := shrS_at (a := a) (b := b) h5
    refine ⟨by simp [h1], fun i e hi => ?_⟩
    cases i with
    | zero =>
      simp only [List.getElem?_cons_zero, Option.some.injEq] at hi ⊢
      exact ⟨h3.trans (congrArg some hi), hi ▸ h4⟩
    | succ i =>
      simp only [List.getElem?_cons_succ] at hi ⊢
      exact h2 i e hi
theorem St.shrink {F : FT} {O0 : List Addr} {H0 H : Hp} {om0 junk : Om} {σ : L2.St} {sl sl0 : Sl} {O ps : List Addr} (s : St F O0 H0 H (om0 ++ junk) σ sl O ps) (h : ShrS om0.length sl0 sl) : St F O0 H0 H om0 σ sl0 O (ps.take om0.length) := by
  obtain ⟨h1, h2⟩ := shrS_at h
  have tk : ∀ (k : Nat) (r : Addr), (ps.take om0.length)[k]? = some r → k < om0.length ∧ ps[k]? = some r := fun k r h => by
    by_cases hk : k < om0.length
    · rw [List.getElem?_take_of_lt hk] at h
      exact ⟨hk, h⟩
    · rw [List.getElem?_eq_none (by rw [List.length_take]; omega)] at h
      cases h
  have kt : ∀ (k : Nat) (r : Addr), k < om0.length → ps[k]? = some r → (ps.take om0.length)[k]? = some r := fun k r hk h => by
    rw [List.getElem?_take_of_lt hk]
    exact h
  refine ⟨s.en, s.fo, s.oo, s.ff, s.al, ?_, fun k w hw => ?_, fun j k r e1 e2 => s.inj j k r (tk j r e1).2 (tk k r e2).2, fun k r e => s.pa k r (tk k r e).2, s.dl, fun i e he => ?_, by rw [h1]; exact s.ln, s.tb⟩
  · rw [List.length_take, s.len, List.length_append]
    omega
  · have hk : k < om0.length := (List.getElem?_eq_some_iff.mp hw).1
    obtain ⟨p, e1, e2, e3, e4⟩ := s.own k w (by rw [List.getElem?_append_left hk]; exact hw)
    exact ⟨p, kt k p hk e1, e2, e3, e4⟩
  · obtain ⟨e1, e2⟩ := h2 i e he
    obtain ⟨v, g1, g2⟩ := s.slots i e e1
    refine ⟨v, g1, ?_⟩
    cases e with
    | v d => exact g2
    | o k =>
      obtain ⟨p, z1, z2⟩ := g2
      exact ⟨p, z1, kt k p e2 z2⟩
    | l => exact g2
    | rs m =>
      obtain ⟨q, vs, z1, z2, z3, z4, z5⟩ := g2
      exact ⟨q, vs, z1, z2, z3, z4, fun i hi => let ⟨p, y1, y2⟩ := z5 i hi; ⟨p, kt _ p (by have : m < om0.length := e2; omega) y1, y2⟩⟩
/-- the state without what was made last -/
def Shr (n : Nat) (Q : Om → Sl → Prop) : Om → Sl → Prop := fun om sl => ∃ om0 junk sl0, om = om0 ++ junk ∧ n ≤ om0.length ∧ ShrS om0.length sl0 sl ∧ Q om0 sl0
theorem sv_forO {c : Cn} {Ex : XK} {om : Om} {sl : Sl} {wi : TI} {g : TG} {t : TS} {Pq : Po} {α : Type} (inj : α → D) (h : WV c wi om sl fun xs => ∃ (as : List α) (Iv : Nat → Om → Sl → Prop), xs = as.map inj ∧ Iv 0 om sl ∧
      (∀ (i : Nat) (a : α) om' sl', as[i]? = some a → Iv i om' sl' → GV c g (inj a) om' sl' fun om2 sl2 => SV c Ex t om2 sl2 { Pq with n := Shr om.length (Iv (i + 1)), c := Shr om.length (Iv (i + 1)), b := Pq.n }) ∧
      ∀ om' sl', Iv as.length om' sl' → Pq.n om' sl') : SV c Ex (tFor wi g t) om sl Pq := fun σ H O ps Dn s kn kr kb kc kx =>
  h σ H O ps s _ fun J H1 O1 ps1 G Y xs ⟨as, Iv, hx, h0, hs, hd⟩ g1 s1 w hG hY => by
    have go : ∀ {O2 ps2 H2 om0}, Go O1 ps1 H1 O2 ps2 H2 → om.length ≤ om0 → Go O1 ps1 H1 O2 (ps2.take om0) H2 := fun {O2 ps2 H2 om0} g hn => ⟨g.ex, fun k p e => by
      have hk : k < om.length := by
        rw [← s1.len]
        exact (List.getElem?_eq_some_iff.mp e).1
      rw [List.getElem?_take_of_lt (by omega)]
      exact g.pre k p e⟩
    refine for_it w (fun i σ' H' => ∃ O' ps' om' sl', Go O1 ps1 H1 O' ps' H' ∧ St c.F c.O0 c.H0 H' om' σ' sl' O' ps' ∧ Iv i om' sl') ⟨O1, ps1, om, sl, Go.refl .., s1, h0⟩ (fun i σ' H' _ ⟨O', ps', om', sl', g', _⟩ => hG H' O' ps' g') ?_ ?_
    · rintro i v σ' H2 H3 hi ⟨O2, ps2, om2, sl2, g2, s2, p⟩ hy
      obtain ⟨d, e1, k2, r⟩ := hY i H2 O2 ps2 v H3 g2 s2.al hi hy
      rw [hx, List.getElem?_map] at e1
      cases ha : as[i]? with
      | none =>
        rw [ha] at e1
        cases e1
      | some a =>
        rw [ha] at e1
        cases e1
        obtain ⟨s3, g3⟩ := s2.same k2
        have gg : Go O ps H O2 ps2 H3 := g1.trans (g2.trans g3)
        have fin : ∀ {σ5 H5 O5 ps5 om5 sl5}, Go O2 ps2 H3 O5 ps5 H5 → St c.F c.O0 c.H0 H5 om5 σ5 sl5 O5 ps5 → Shr om.length (Iv (i + 1)) om5 sl5 → ∃ O' ps' om' sl', Go O1 ps1 H1 O' ps' H5 ∧ St c.F c.O0 c.H0 H5 om' σ5 sl' O' ps' ∧ Iv (i + 1) om' sl' := fun {σ5 H5 O5 ps5 om5 sl5} g5 s5 ⟨om0, junk, sl0, eo, hn, hS, hI⟩ => by
          subst eo
          exact ⟨O5, ps5.take om0.length, om0, sl0, go (g2.trans (g3.trans g5)) hn, s5.shrink hS, hI⟩
        refine hs i a om2 sl2 ha p σ' H3 O2 ps2 s3 v r _ fun σ4 sl4 s4 h4 => ?_
        exact h4 σ4 H3 O2 ps2 _ s4 (fun σ5 H5 O5 ps5 om5 sl5 g5 s5 p5 => fin g5 s5 p5)
          (fun v σ5 sl5 H5 O5 ps5 e om5 g5 s5 r5 p5 => kr v σ5 sl5 H5 O5 ps5 e om5 (gg.trans g5) s5 r5 p5) (fun σ5 H5 O5 ps5 om5 sl5 g5 s5 p5 => kn σ5 H5 O5 ps5 om5 sl5 (gg.trans g5) s5 p5)
          (fun σ5 H5 O5 ps5 om5 sl5 g5 s5 p5 => fin g5 s5 p5) fun C f x d v H5 H6 O5 ps5 g5 p5 r5 hd5 e5 => kx C f x d v H5 H6 O5 ps5 (gg.trans g5) p5 r5 hd5 e5
    · rintro σ' H' ⟨O', ps', om', sl', g', s', p⟩
      have p' : Iv as.length om' sl' := by
        rw [hx, List.length_map] at p
        exact p
      exact kn σ' H' O' ps' om' sl' (g1.trans g') s' (hd om' sl' p')
end DL
namespace DL
open PySem PySem.Spec PyProof.Rows L2 STX
def gNs : List Nat → TGs
  | [] => gNil
  | i :: r => gCons (gName i) (gNs r)
def setAll : Sl → List Nat → List E → Sl
  | sl, i :: is, e :: es => setAll (sl.set i (some e)) is es
  | sl, _, _ => sl
/-- a, b, c, d = e1, e2, e3, e4: a tuple is made on the way -/
theorem sv_asgN {c : Cn} {Ex : XK} {om : Om} {sl : Sl} {tr : TA} {Pq : Po} (is : List Nat) {n : Nat} (hn : is.length = n) (hi : ∀ i ∈ is, i < sl.length) (h : EA c tr om sl fun es om1 => es.length = n ∧ n ≤ 1000 ∧ Pq.n om1 (setAll sl is es)) : SV c Ex (tAsg (tTup tr) (gTup c.K n (gNs is))) om sl Pq := fun σ H O ps Dn s kn kr kb kc kx =>
  h σ H O ps s _ fun vs H1 O1 ps1 es om1 g1 s1 r1 ⟨he, hl, p⟩ => by
    have len : ∀ {vs : List V} {es : List E} {H1 : Hp} {ps1 : List Addr} {O1 : List Addr}, RA c.F O1 ps1 H1 vs es → vs.length = es.length := fun {vs es H1 ps1 O1} r => by
      induction r with
      | nil => rfl
      | cons _ _ ih => simp [ih]
    have lv : vs.length = n := by rw [len r1, he]
    refine ⟨by rw [lv]; exact Nat.le_of_lt (small1000 hl), fun q hq => ?_⟩
    obtain ⟨s2, g2⟩ := s1.new (o := .tup vs) hq
    refine ⟨q, vs, rfl, sqT (.inl upd_same), lv, ?_⟩
    have r2 := ra_go g2 r1
    have go : ∀ (is : List Nat) (vs : List V) (es : List E) (sl2 : Sl) (σ2 : L2.St), is.length = vs.length → (∀ i ∈ is, i < sl2.length) → RA c.F O1 ps1 (upd H1 q (.tup vs)) vs es → True := fun _ _ _ _ _ _ _ _ => trivial
    clear go
    have run : ∀ (is : List Nat) (ws : List V) (fs : List E) (sl2 : Sl) (σ2 : L2.St), is.length = ws.length → (∀ i ∈ is, i < sl2.length) → RA c.F O1 ps1 (upd H1 q (.tup vs)) ws fs → St c.F c.O0 c.H0 (upd H1 q (.tup vs)) om1 σ2 sl2 O1 ps1 → Pq.n om1 (setAll sl2 is fs) →
        gNs is ws σ2 (upd H1 q (.tup vs)) Dn.nx := fun is => by
      induction is with
      | nil =>
        intro ws fs sl2 σ2 hw _ r s3 p3
        cases ws with
        | cons _ _ => simp at hw
        | nil =>
          cases r
          exact ⟨rfl, kn σ2 _ O1 ps1 om1 sl2 (g1.trans g2) s3 p3⟩
      | cons i is ih =>
        intro ws fs sl2 σ2 hw hi r s3 p3
        cases ws with
        | nil => simp at hw
        | cons w ws =>
          cases r with
          | cons rw rs =>
            refine ⟨w, ws, rfl, ?_⟩
            exact ih ws _ _ _ (by simpa using hw) (fun j hj => by rw [List.length_set]; exact hi j (List.mem_cons_of_mem _ hj)) rs (s3.set (hi i List.mem_cons_self) rw) p3
    exact run is vs es sl σ (by rw [hn, lv]) hi r2 s2 p
end DL
namespace EX
open PySem PySem.Spec PyProof.Rows L2 DL
theorem mt_joinUk {X : Cx} {K : PySem.W.Frag} (hK : X.K = K) : MtR X "str.join" (rJoin K) := by
  subst hK
  exact mt_joinU
end EX
namespace DL
open PySem PySem.Spec PyProof.Rows L2 STX
theorem ixN_n {n j : Nat} (hj : j < n) : ixN n (j : Int) = some j := by
  unfold ixN
  rw [if_pos (by omega), if_pos (by omega), Int.toNat_natCast]
theorem not_of {p : Prop} [Decidable p] (h : (!decide p) = true) : ¬ p := by simpa using h
theorem yes_of {p : Prop} [Decidable p] (h : (!decide p) = false) : p := by simpa using h
end DL
namespace DL
open PySem PySem.Spec PyProof.Rows L2 STX
theorem ev_chain {c : Cn} {om : Om} {sl : Sl} {P : E → Om → Prop} {ta tb tc : TE} {r r' : R2} (h : EV c ta om sl fun x om1 => EV c tb om1 sl fun y om2 => OV c r om2 sl x y fun e om3 => ∃ k, e = .v (.bl k) ∧ (k = true → EV c tc om3 sl fun z om4 => OV c r' om4 sl y z P) ∧ (k = false → P (.v (.bl false)) om3)) :
    EV c (tChain r r' ta tb tc) om sl P := fun σ H O ps s Q k =>
  h σ H O ps s _ fun v H1 O1 ps1 x om1 g1 s1 r1 h1 => h1 σ H1 O1 ps1 s1 _ fun w H2 O2 ps2 y om2 g2 s2 r2 h2 => h2 σ H2 O2 ps2 s2 v w (r1.go g2) r2 _ fun z H3 O3 ps3 e om3 g3 s3 r3 ⟨b, he, ht, hf⟩ => by
    subst he
    cases r3
    refine ⟨b, rfl, ?_⟩
    cases b with
    | true =>
      refine (if_pos rfl).mpr ?_
      exact ht rfl σ H3 O3 ps3 s3 _ fun u H4 O4 ps4 f om4 g4 s4 r4 h4 => h4 σ H4 O4 ps4 s4 w u (r2.go (g3.trans g4)) r4 Q fun q H5 O5 ps5 e5 om5 g5 s5 r5 p => k q H5 O5 ps5 e5 om5 ((((g1.trans g2).trans g3).trans g4).trans g5) s5 r5 p
    | false =>
      refine (if_neg Bool.false_ne_true).mpr ?_
      exact k _ H3 O3 ps3 (.v (.bl false)) om3 ((g1.trans g2).trans g3) s3 (Rl.bl false) (hf rfl)
/-! ### objects that are made -/
/-- __init__ at the things a: what it leaves are the fields fs a -/
def spI {α : Type} (ar : Nat) (ds : α → List D) (pre : α → Prop) (C : Addr) (fs : α → List (Str × D)) : Sp := fun vs H Q _ => ∃ (a : α) (H0 : Hp) (x dx : Addr) (O : List Addr) (ws : List V), vs = .ref x :: ws ∧ ws.length = ar ∧ H = upd (upd H0 dx (.own x)) x (.ins C dx []) ∧ H0 x = none ∧ H0 dx = none ∧ dx ≠ x ∧ Al O H0 ∧ RlA O H0 ws (ds a) ∧ pre a ∧
  ∀ H' gs, Same H0 H' → H' x = some (.ins C dx gs) → RlF O H' gs (fs a) → Q .non H'
section
variable {α : Type} {ar : Nat} {ds : α → List D} {pre : α → Prop} {C : Addr} {fs : α → List (Str × D)} {c : Cn} {Ex : XK} {om : Om} {sl : Sl} {P : E → Om → Prop} {t : TS} {tr : TA} {te : TE} {Pq : Po}
theorem lenI {vs : List V} {H : Hp} {Q : VK} {E : XK} (h : spI ar ds pre C fs vs H Q E) : vs.length = ar + 1 := by
  obtain ⟨a, H0, x, dx, O, ws, rfl, hl, _⟩ := h
  rw [List.length_cons, hl]
theorem ev_make {Ew : XK} (h : EA c tr om sl fun es om1 => ∃ a, unv es = some (ds a) ∧ (ds a).length = ar ∧ pre a ∧ P (.v (.obj C (fs a))) om1) : EV c (tMake C (spI ar ds pre C fs) [] Ew tr) om sl P := fun σ H O ps s Q k =>
  h σ H O ps s _ fun vs H1 O1 ps1 es om1 g1 s1 r1 ⟨a, he, hl, hp, p⟩ x dx hx hdx hne => by
    have he' := unv_eq he
    subst he'
    have ra := ra_data r1
    refine ⟨a, H1, x, dx, O1, vs, by rw [List.append_nil], by rw [ra.len]; exact hl, rfl, hx, hdx, hne, s1.al, ra, hp, fun H' gs hs hg hr => ⟨rfl, ?_⟩⟩
    obtain ⟨s2, g2⟩ := s1.same hs
    exact k (.ref x) H' O1 ps1 (.v (.obj C (fs a))) om1 (g1.trans g2) s2 (.obj (s1.nin hx) hg hr) p
theorem entryI {K : PySem.W.Frag} {N : List Str} {vs : List V} {H : Hp} {Q : VK} (hN : ar + 1 ≤ N.length) (h : spI ar ds pre C fs vs H Q Ex)
    (b : ∀ (O : List Addr) (H0 : Hp) (dx : Addr) (a : α), (ds a).length = ar → pre a → SV ⟨FT.non, O, H0, K⟩ Ex t [some (.i C dx [])] (some (.o 0) :: sl0 (ds a) (N.length - (ar + 1))) { n := fun om _ => om[0]? = some (some (.i C dx (fs a))) }) :
    t { nx := fun _ H' => Q .non H', rt := Q } (L2.start N vs) H := by
  obtain ⟨a, H0, x, dx, O, ws, rfl, hl, rfl, hx, hdx, hne, al, ra, hp, hQ⟩ := h
  have hl2 : (ds a).length = ar := by rw [← ra.len]; exact hl
  cases N with
  | nil => simp at hN
  | cons nm N =>
    obtain ⟨h1, h2⟩ := start_slots (N := N) ra (by rw [hl]; simpa using hN)
    rw [hl2] at h1 h2
    have est : L2.start (nm :: N) (V.ref x :: ws) = some (V.ref x) :: L2.start N ws := by simp [L2.start]
    have esz : (nm :: N).length - (ar + 1) = N.length - ar := by simp
    rw [est]
    have nO : ∀ {y : Addr}, H0 y = none → y ∉ O := fun {y} hy z => al y z hy
    have kp : ∀ b o, H0 b = some o → upd (upd H0 dx (.own x)) x (.ins C dx []) b = some o := fun b o e => by
      rw [upd_ne (ne_of_none e hx), upd_ne (ne_of_none e hdx)]
      exact e
    have ex : Ext O H0 (x :: O) (upd (upd H0 dx (.own x)) x (.ins C dx [])) := ⟨fun b o _ e => kp b o e, fun p hp => (List.mem_cons.mp hp).elim (fun e => .inr (e ▸ hx)) .inl⟩
    have s0 : St FT.non O H0 (upd (upd H0 dx (.own x)) x (.ins C dx [])) [some (.i C dx [])] (some (V.ref x) :: L2.start N ws) (some (.o 0) :: sl0 (ds a) (N.length - ar)) (x :: O) [x] := by
      refine ⟨fun b o _ e => kp b o e, fun b hb => (List.mem_cons.mp hb).elim (fun e => .inr (e ▸ hx)) .inl, fun b hb => List.mem_cons_of_mem _ hb, (fun b hb => nomatch (show b ∈ ([] : List Addr) from hb)), fun b hb => ?_, rfl, fun k w e => ?_, fun j k p e1 e2 => ?_, fun k p e => ?_, .inl rfl, fun i e he => ?_, by simp [h1], .inl rfl⟩
      · rcases List.mem_cons.mp hb with e | e
        · rw [e, upd_same]
          exact fun z => nomatch z
        · intro z
          cases e2 : H0 b with
          | none => exact al b e e2
          | some o =>
            rw [kp b o e2] at z
            cases z
      · cases k with
        | zero =>
          have e' : Own.i C dx [] = w := by simpa using e
          subst e'
          exact ⟨x, rfl, ⟨List.mem_cons_self, nO hx⟩, hx, [], upd_same, .nil⟩
        | succ k => simp at e
      · cases j with
        | zero =>
          cases k with
          | zero => rfl
          | succ k => simp at e2
        | succ j => simp at e1
      · cases k with
        | zero =>
          have e' : x = p := by simpa using e
          subst e'
          rw [upd_same]
          exact fun z => nomatch z
        | succ k => simp at e
      · cases i with
        | zero =>
          have e' := Option.some.inj (Option.some.inj he)
          rw [← e']
          exact ⟨.ref x, rfl, x, rfl, rfl⟩
        | succ j =>
          obtain ⟨v, z1, z2⟩ := h2 j e (by simpa using he)
          refine ⟨v, by simpa using z1, ?_⟩
          cases e with
          | v d => exact Rl.ext ex z2
          | o k =>
            obtain ⟨p, _, e⟩ := z2
            simp at e
          | l =>
            obtain ⟨_, _, z, _⟩ := z2
            cases z
          | rs n =>
            obtain ⟨q, ws, y1, y2, y3, y4, y5⟩ := z2
            refine ⟨q, ws, y1, ex.out y2 (by rw [y3]; exact fun z => nomatch z), ex.keep _ _ y2 y3, y4, fun i hi => ?_⟩
            obtain ⟨p, e, _⟩ := y5 i hi
            simp at e
    have q := b O H0 dx a hl2 hp
    rw [esz] at q
    refine q _ _ (x :: O) [x] _ s0 (fun σ' H' O' ps' om' sl' g s' p => ?_) (fun v σ' sl' H' O' ps' e om' g s' r p => p.elim) (fun _ _ _ _ _ _ _ _ z => z.elim) (fun _ _ _ _ _ _ _ _ z => z.elim) ?_
    · obtain ⟨y, e1, e2, e3, gs, e4, e5⟩ := s'.own 0 _ p
      have ey : y = x := Option.some.inj (e1.symm.trans (g.pre 0 x rfl))
      subst ey
      exact hQ H' gs (fun b o e => s'.en b o (fun z => nomatch (show b ∈ ([] : List Addr) from z)) e) e4 (e5.sub s'.oo)
    · rintro C f x d v H1 H2 O' ps' g ⟨_, p⟩
      exact p.elim
def putFD (f : Str) (d : D) : List (Str × D) → List (Str × D)
  | [] => [(f, d)]
  | (g, x) :: r => if g = f then (g, d) :: r else (g, x) :: putFD f d r
theorem RlF.put {O : List Addr} {H : Hp} {f : Str} {v : V} {d : D} (h : Rl O H v d) : ∀ {gs : List (Str × V)} {fs : List (Str × D)}, RlF O H gs fs → RlF O H (putF f v gs) (putFD f d fs)
  | _, _, .nil => .cons h .nil
  | _, _, .cons (f := g) q t => by
    unfold putF putFD
    split
    · exact .cons h t
    · exact .cons q (RlF.put h t)
theorem RlF.len {O : List Addr} {H : Hp} : ∀ {gs : List (Str × V)} {fs : List (Str × D)}, RlF O H gs fs → gs.length = fs.length
  | _, _, .nil => rfl
  | _, _, .cons _ t => congrArg (· + 1) (RlF.len t)
/-- self.f = e -/
theorem sv_fldO {f : Str} {ta : TE} (h : EV c te om sl fun e om1 => ∃ y, e = .v y ∧ EV c ta om1 sl fun x om2 => ∃ k C dx gs, x = .o k ∧ om2[k]? = some (some (.i C dx gs)) ∧ Cls c.K C ∧ NoAttr c.K C f ∧ gs.length < 1000 ∧ Pq.n (om2.set k (some (.i C dx (putFD f y gs)))) sl) : SV c Ex (sFld c.K ta te f) om sl Pq := fun σ H O ps Dn s kn kr kb kc kx =>
  h σ H O ps s _ fun v H1 O1 ps1 e om1 g1 s1 r1 ⟨y, he, h1⟩ => h1 σ H1 O1 ps1 s1 _ fun u H2 O2 ps2 x om2 g2 s2 r2 ⟨k, C, dx, gs, hx, ho, hc, hn, hl, p⟩ => by
    subst he hx
    obtain ⟨q0, rfl, hp⟩ := r2
    obtain ⟨q, e1, e2, e3, ws, e4, e5⟩ := s2.own k _ ho
    have eq : q = q0 := Option.some.inj (e1.symm.trans hp)
    subst eq
    have ry : Rl O2 H2 v y := (show Rl O1 H1 v y from r1).ext g2.ex
    obtain ⟨s3, g3⟩ := s2.writeW (u := .ins C dx (putF f v ws)) (ds' := .i C dx (putFD f y gs)) ho e1 ⟨_, upd_same, (e5.put ry).ext (ext_write _ e2.1)⟩
    exact ⟨q, C, dx, ws, rfl, e4, hc, hn, by rw [e5.len]; exact hl, kn σ _ O2 ps2 _ sl (g1.trans (g2.trans g3)) s3 p⟩
/-- isinstance(x, (T, U)) -/
theorem cv_isiT2 {d : D} {T U1 U2 : String} {b : Bool} (hT : tyD d = some T) (hk : PySem.W.kitAny c.K (.type T) [.type U1, .type U2] = some b) (p : P (.v (.bl b)) om) : CV c (rIsiTR c.K) om sl [.v d, .v (.tup [.raw (.ty U1), .raw (.ty U2)])] P := fun σ H O ps s vs r Q k => by
  obtain ⟨v, w, rfl, r1, r2⟩ := ra2 r
  cases r2 with
  | @tup tp cs _ ha hr hx =>
    cases hx with
    | cons q1 hx =>
      cases q1
      cases hx with
      | cons q2 hx =>
        cases q2
        cases hx
        refine ⟨v, tp, _, .type T, [.type U1, .type U2], b, rfl, hr, .cons (.ty U1) (.cons (.ty U2) .nil), ?_, hk, k _ H O ps (.v (.bl b)) om (Go.refl ..) s (Rl.bl b) p⟩
        cases d <;> cases hT <;> cases r1
        · exact .base .non
        · exact .base (.bl _)
        · exact .base (.int _)
        · exact .base (.str _)
        · rename_i a xs ha hr hx
          exact .base (.lst hr)
        · rename_i a xs ha hr hx
          rcases hr with hr | ⟨o, hr⟩
          · exact .base (.tup hr)
          · exact .fTuple hr
        · rename_i a xs ha hr hx
          exact .base (.dK hr)
/-- in: a text in a tuple of texts -/
theorem inV_strs (x : Str) : ∀ ys : List Str, inV (.str x) (ys.map V.str) = decide (x ∈ ys)
  | [] => rfl
  | y :: ys => by
    have ih := inV_strs x ys
    unfold inV at ih ⊢
    rw [List.map_cons, List.any_cons, ih]
    have e : eqV (V.str y) (V.str x) = decide (x = y) := by
      show (y == x) = _
      by_cases z : x = y
      · simp [z]
      · have z' : ¬ y = x := fun w => z w.symm
        simp [z, z']
    rw [e]
    simp [List.mem_cons]
theorem ov_inTS {x : Str} {ys : List Str} (p : P (.v (.bl (decide (x ∈ ys)))) om) : OV c (rIn c.K false) om sl (.v (.str x)) (.v (.tup (ys.map .str))) P := fun σ H O ps s v w rv rw' Q k => by
  cases rv
  obtain ⟨q, vs, rfl, h1, h2, h3⟩ := as_t (show Rl O H w (.tup (ys.map .str)) from rw')
  have ev := RlA.strs h3
  subst ev
  refine ⟨q, _, rfl, .inr (sqT h2), rfl, by rw [List.all_eq_true]; intro z hz; obtain ⟨y, _, rfl⟩ := List.mem_map.mp hz; rfl, ?_⟩
  rw [inV_strs]
  exact k _ H O ps (.v (.bl _)) om (Go.refl ..) s (Rl.bl _) p
end
end DL
namespace HL
open PySem PySem.Spec PyProof.Rows L2
/-- a class that may be called -/
structure CaC (P : Program) (w : World) (K : PySem.W.Frag) (mg : Str → Option Value) (base : Heap) (CX : CXT) (k : Nat) (x : Str) (C : Addr) (ps : List Str) (sp : Sp) : Prop where
  ex : ∃ (f : Addr) (fd : FuncData), Mk K C f ∧ FnOk P w K mg base CX k f fd ps sp ∧ mg x = some (.ref C) ∧ Binds K fd ps []
theorem pe_mk {X : Cx} {CX : CXT} {k j : Nat} {x : Str} {C : Addr} {ps : List Str} {sp : Sp} {E : XK} {p pos : Pos} {e : Expr} {es : List Expr} {t : TA} (c : CaC X.prog X.w X.K X.mg X.base CX k x C ps sp) (hr : Room j X.A) (hk : k + 1 ≤ j) (hx : Passes CX X E) (ha : PA X (e :: es) t) (hg : Gl X x := by rfl)
    (hdb : (x == ("__debug__" : Str)) = false := by decide) (he : starEach (e :: es) X.env = (false, eval e X.env) :: starEach es X.env := by rfl) (hpl : (backTo pos (starEach es X.env)).any (·.1) = false := by rfl) :
    PE X (.Call (.Name x p) (e :: es) [] pos) (tMake C sp [] E t) := by
  obtain ⟨f, fd, M, F, m, b⟩ := c.ex
  exact pe_make M F (hr.mono hk) hg m b .nil hx ha hdb he hpl
theorem pe_globE {X : Cx} {x : Str} {v : V} {pos : Pos} (hg : Gl X x) (hm : ∃ u, X.mg x = some u ∧ RelV v u) (hd : (x == ("__debug__" : Str)) = false := by decide) : PE X (.Name x pos) (tC v) := by
  obtain ⟨u, h, r⟩ := hm
  exact pe_glob hg h r hd
end HL
namespace DL
open PySem PySem.Spec PyProof.Rows L2 STX
theorem cv_set0 {c : Cn} {om : Om} {sl : Sl} {P : E → Om → Prop} {Pg : Program} {w : World} (p : P (.o om.length) (om ++ [some (ownS Pg w [])])) : CV c (rSet0K Pg w) om sl [] P := fun σ H O ps s vs r Q k => by
  cases r
  exact ev_set0 (Pg := Pg) (w := w) p σ H O ps s Q k
end DL
namespace DL
open PySem PySem.Spec PyProof.Rows L2 STX
theorem ov_notN {c : Cn} {om : Om} {sl : Sl} {P : E → Om → Prop} {x : D} {b : Bool} (h : ∀ (O : List Addr) (H : Hp) (v : V), Rl O H v x → (!decide (v = .non)) = b) (p : P (.v (.bl b)) om) : OV c (fun x y H Q => y = .non ∧ Q (.bl (!decide (x = .non))) H) om sl (.v x) (.v .non) P := fun σ H O ps s v w rv rw' Q k => by
  cases rw'
  have e := h O H v rv
  refine ⟨rfl, ?_⟩
  rw [e]
  exact k _ H O ps (.v (.bl b)) om (Go.refl ..) s (Rl.bl _) p
end DL
set_option Elab.async false
set_option linter.all false
set_option maxRecDepth 100000
set_option maxHeartbeats 4000000
local macro_rules | `(tactic| walk_at "n1") => `(tactic| first
  | ((with_reducible refine' DL.ev_var ?hh ?_); (case hh => rfl))
  | with_reducible refine DL.ev_int ?_ | with_reducible refine DL.ev_str ?_ | with_reducible refine DL.ev_bl ?_ | with_reducible refine DL.ev_non ?_
  | with_reducible refine DL.ev_op ?_ | with_reducible refine DL.ev_un ?_ | with_reducible refine DL.ev_cb ?_ | with_reducible refine DL.ev_call ?_
  | with_reducible refine DL.ea_nil ?_ | with_reducible refine DL.ea_cons ?_
  | ((with_reducible refine DL.et_test ?_)) | ((with_reducible refine DL.et_B ?_)) | with_reducible refine DL.et_and ?_ | with_reducible refine DL.et_or ?_ | with_reducible refine DL.et_not ?_
  | with_reducible refine DL.ev_andV ?_ | with_reducible refine DL.ev_orV ?_ | with_reducible refine DL.ev_notV ?_
  | with_reducible refine DL.ev_tup ?_ | with_reducible refine DL.ev_sl ?_ | with_reducible refine DL.eo_none ?_ | with_reducible refine DL.eo_some ?_
  | with_reducible refine DL.ev_bm ?_ | with_reducible refine DL.ev_bm0 ?_ | with_reducible refine DL.ev_m0 ?_ | with_reducible refine DL.ev_m1 ?_ | with_reducible refine DL.ev_sm ?_
  | with_reducible refine DL.sv_seq ?_ | with_reducible refine DL.sv_next ?_ | with_reducible refine DL.sv_set ?_ | with_reducible refine DL.sv_drop ?_ | with_reducible refine DL.sv_ret ?_
  | with_reducible refine DL.cv_set0 ?_ | with_reducible refine DL.ev_dnew ?_ | with_reducible refine DL.ev_dget ?_ | with_reducible refine DL.ev_din ?_ | with_reducible refine DL.sv_dput ?_ | with_reducible refine DL.sv_setItem ?_ | with_reducible refine DL.ev_xf ?_
  | with_reducible refine DL.uv_int ?_
  | with_reducible refine DL.ov_int ?_ | with_reducible refine DL.ov_cmp ?_ | with_reducible refine DL.ov_addI ?_ | with_reducible refine DL.ov_eqI ?_ | with_reducible refine DL.ov_neI ?_ | with_reducible refine DL.ov_eqS ?_ | with_reducible refine DL.ov_neS ?_
  | with_reducible refine DL.cv_max2 ?_ | with_reducible refine DL.cv_min2 ?_ | with_reducible refine DL.cv_abs ?_ | with_reducible refine DL.cv_int ?_ | with_reducible refine DL.cv_lenT ?_ | with_reducible refine DL.cv_tupT ?_)
local macro_rules | `(tactic| walk_at "d1") => `(tactic| first | walk_at "n1" | with_reducible refine DL.ev_if ?_ | with_reducible refine DL.sv_if ?_)
local macro_rules | `(tactic| walk_at "d0") => `(tactic| (dsimp only [L2.cxOf, L2.Cx.nox, L2.Cx.wish, DL.sl0, List.map, List.length, Nat.reduceAdd, Nat.reduceSub, List.replicate, List.append_nil, List.cons_append, List.nil_append]))
local macro_rules | `(tactic| walk_at "d") => `(tactic| repeat (first | walk_at "d1" | (with_reducible refine ⟨_, rfl, ?_⟩) | (with_reducible refine ⟨Nat.le_of_ble_eq_true rfl, ?_⟩)))
local macro_rules | `(tactic| walk_at "n") => `(tactic| repeat (first | walk_at "n1" | (with_reducible refine ⟨_, rfl, ?_⟩) | (with_reducible refine ⟨Nat.le_of_ble_eq_true rfl, ?_⟩)))
local macro_rules | `(tactic| walk_at "s") => `(tactic| dsimp only [List.set, List.foldr, List.append_nil, List.nil_append, List.cons_append, List.length, Nat.reduceAdd])
namespace K01
open PySem PySem.Spec PyProof.Rows L2 DL HL CM STX
def topS (i : Nat) : Stmt := PySem.Challenge.pw_staysdeep_k01_yards_and_standings.main.body.getD i (.Pass ⟨0, 0, 0, 0⟩)
abbrev s__law_heap : Stmt := topS 25
theorem sc__law_heap : FnScope ["script", "base", "cells", "stir", "cell"] ["script", "base"] (defScope s__law_heap) := ⟨rfl, rfl, rfl, by decide +kernel, rfl, by decide +kernel, by decide +kernel⟩
abbrev s__law_draw : Stmt := topS 26
theorem sc__law_draw : FnScope ["heap", "many", "rest"] ["heap", "many"] (defScope s__law_draw) := ⟨rfl, rfl, rfl, by decide +kernel, rfl, by decide +kernel, by decide +kernel⟩
abbrev s__law_pick : Stmt := topS 27
theorem sc__law_pick : FnScope ["heap", "some"] ["heap", "some"] (defScope s__law_pick) := ⟨rfl, rfl, rfl, by decide +kernel, rfl, by decide +kernel, by decide +kernel⟩
abbrev s__law_mixed : Stmt := topS 28
theorem sc__law_mixed : FnScope ["heap", "some", "turn", "left", "found"] ["heap", "some"] (defScope s__law_mixed) := ⟨rfl, rfl, rfl, by decide +kernel, rfl, by decide +kernel, by decide +kernel⟩
abbrev s__law_names : Stmt := topS 29
theorem sc__law_names : FnScope ["heap", "many", "letters", "stem", "even", "at", "place", "first", "found", "sign", "rest", "turn"] ["heap", "many"] (defScope s__law_names) := ⟨rfl, rfl, rfl, by decide +kernel, rfl, by decide +kernel, by decide +kernel⟩
abbrev s__law_heights : Stmt := topS 30
theorem sc__law_heights : FnScope ["heap", "many", "top", "turn"] ["heap"] (defScope s__law_heights) := ⟨rfl, rfl, rfl, by decide +kernel, rfl, by decide +kernel, by decide +kernel⟩
abbrev s__law_laid : Stmt := topS 31
theorem sc__law_laid : FnScope ["heap", "heights", "names", "rows", "name", "row", "height", "at"] ["heap", "heights", "names"] (defScope s__law_laid) := ⟨rfl, rfl, rfl, by decide +kernel, rfl, by decide +kernel, by decide +kernel⟩
abbrev s__law_many : Stmt := topS 32
theorem sc__law_many : FnScope ["heap", "heights", "most", "total"] ["heap", "heights", "most"] (defScope s__law_many) := ⟨rfl, rfl, rfl, by decide +kernel, rfl, by decide +kernel, by decide +kernel⟩
/-- what the top leaves of the built-ins -/
structure Tx (K : PySem.W.Frag) (mg : Str → Option Value) : Prop where
  z_len : mg "len" = none
  z_range : mg "range" = none
  z_int : mg "int" = none
  z_list : mg "list" = none
  z_tuple : mg "tuple" = none
  z_sum : mg "sum" = none
  z_max : mg "max" = none
  z_min : mg "min" = none
  z_abs : mg "abs" = none
  z_repr : mg "repr" = none
  z_isinstance : mg "isinstance" = none
  z_enumerate : mg "enumerate" = none
  z_all : mg "all" = none
  z_str : mg "str" = none
  z_set : mg "set" = none
  z_bool : mg "bool" = none
  z_sorted : mg "sorted" = none
section
variable {P : Program} {w : World} {K : PySem.W.Frag} {mg : Str → Option Value} {base : Heap}
theorem c__law_draw {f : Addr} {fd : FuncData} (T : Tx K mg) (B : DefB K mg "_law_draw" s__law_draw ["heap", "many"] f fd) : Ca P w K mg base CX0 1 "_law_draw" ["heap", "many"] sp_draw := by
  refine ca_of B sc__law_draw (fun vs H Q E h => ?_) (fun cdv A outer s H vs Q E hr h => ⟨_, (pss_cons (ps_while PassesOwn.never (PW.pt (pw_and (pt_cmpR (op_neU hr.units) (pe_ix ix_seq (pv 0) pe_int (fun _ _ => rfl)) (pe_lst pa_nil) (by first | exact nomark _ | rfl)) (pw_and1 (pt_cmpR (op_eqU hr.units) (pe_ix ix_seq (pe_ix ix_seq (pv 0) pe_int (fun _ _ => rfl)) (pe_un un_neg pe_int) (fun _ _ => rfl)) pe_int (by first | exact nomark _ | rfl)))))
     (pss_one (ps_expr (pe_bm0 PySem.F.plainAttrs_list PySem.F.slot_list_pop PySem.F.type_list_pop mt_pop (pe_ix ix_seq (pv 0) pe_int (fun _ _ => rfl))))))
    (pss_cons (ps_if (pt_cmpR (op_neU hr.units) (pe_ix ix_seq (pv 0) pe_int (fun _ _ => rfl)) (pe_lst pa_nil) (by first | exact nomark _ | rfl))
     (pss_cons (ps_set (i := 2) sc__law_draw.nd rfl (by first | exact Or.inl rfl | exact Or.inr rfl) (pe_callTy cr_int (by rfl) T.z_int (by decide +kernel) (pa_cons (pe_bm0 PySem.F.plainAttrs_list PySem.F.slot_list_pop PySem.F.type_list_pop mt_pop (pe_ix ix_seq (pv 0) pe_int (fun _ _ => rfl))) pa_nil)))
     (pss_cons (ps_expr (pe_bm PySem.F.plainAttrs_list PySem.F.slot_list_append PySem.F.type_list_append mt_append (pe_ix ix_seq (pv 0) pe_int (fun _ _ => rfl)) (pa_cons (pe_op op_fdivW (pv 2) (pv 1)) pa_nil)))
     (pss_one (ps_ret (pe_op op_mod (pv 2) (pv 1))))))
     pss_nil)
    (pss_cons (ps_asg (pe_op op_mod (pe_callTy cr_int (by rfl) T.z_int (by decide +kernel) (pa_cons (pe_op op_addU (pe_op op_mulU (pe_ix ix_seq (pv 0) pe_int (fun _ _ => rfl)) pe_int) pe_int) pa_nil)) pe_int) (pg_sub (pv 0) pe_int set_list))
    (pss_one (ps_ret (pe_op op_mod (pe_callTy cr_int (by rfl) T.z_int (by decide +kernel) (pa_cons (pe_op op_fdivW (pe_ix ix_seq (pv 0) pe_int (fun _ _ => rfl)) pe_int) pa_nil)) (pv 1))))))), draw_read (N3 := ["heap", "many", "rest"]) (K := K) h fun h a b st ns hne hh ha st0 st1 len big b0 b1 q _ => ?_⟩)
  · obtain ⟨h, a, ws, O, ds, rfl, hl, _⟩ := h
    show (_ :: ws).length = 2
    rw [List.length_cons, hl]
  · dsimp only [cxOf]
    have kp : ∀ {H1 : Hp} {p c : Addr} {o u : HO}, H1 p = none → H1 c = some o → upd H1 p u c = some o := fun {H1 p c o u} n e => by
      rw [upd_ne (ne_of_none e n)]
      exact e
    -- what stands: the deal with the rest ns'
    refine ⟨fun m σ H' => σ = [some (.ref h), some (.int b), none] ∧ ∃ ns' : List Int, m = ns'.length ∧ (∀ c o, c ∉ [h, a] → H c = some o → H' c = some o) ∧ H' h = some (.lst [.ref a, .int st]) ∧ H' a = some (.lst (ns'.map V.int)) ∧ ns'.length ≤ 63 ∧ ∀ n ∈ ns', 0 ≤ n ∧ n.toNat < 2 ^ 1048640,
      ⟨_, rfl, ns, rfl, fun _ _ _ z => z, hh, ha, len, big⟩, ?_⟩
    rintro m σ H1 ⟨rfl, ns', rfl, k1, k2, k3, k4, k5⟩
    -- heap[0] != [] at any heap that bears the deal
    have test : ∀ {H2 : Hp} {Q2 : V → Hp → Prop}, (∀ c o, c ∉ [h, a] → H c = some o → H2 c = some o) → H2 h = some (.lst [.ref a, .int st]) → H2 a = some (.lst (ns'.map V.int)) →
        (∀ H3 : Hp, (∀ c o, c ∉ [h, a] → H c = some o → H3 c = some o) → H3 h = some (.lst [.ref a, .int st]) → H3 a = some (.lst (ns'.map V.int)) → Q2 (.bl (!decide (ns' = []))) H3) →
        tOp (rNeU K) (tOp (rIx K) (tVar 0) (tC (.int 0))) (tLst tNil) [some (.ref h), some (.int b), none] H2 Q2 := fun {H2 Q2} w1 w2 w3 w4 => by
      refine ⟨.ref h, rfl, .inl ⟨h, [.ref a, .int st], 0, .ref a, rfl, rfl, sqL w2, rfl, ?_⟩⟩
      refine ⟨Nat.zero_le _, fun p hp => .inr ⟨.list (ns'.map PyData.int), .list [], .lst (sqL (kp hp w3)) (dp_ints ns'), .lst (sqL upd_same) .nil, sh_ints ns', rfl, ?_⟩⟩
      rw [eqv_nil]
      exact w4 _ (fun c o hc e => kp hp (w1 c o hc e)) (kp hp w2) (kp hp w3)
    refine test k1 k2 k3 fun H2 j1 j2 j3 => ⟨_, rfl, ?_⟩
    by_cases e0 : ns' = []
    · rw [decide_eq_true e0]
      refine iteF (iteF ?_)
      -- the rest: heap[0] is empty
      refine test j1 j2 j3 fun H3 i1 i2 i3 => ⟨_, rfl, ?_⟩
      rw [decide_eq_true e0]
      refine iteF ?_
      have m1 : 0 ≤ (st * 48271 + 11) % 2147483647 := Int.emod_nonneg _ (by decide)
      have m2 : (st * 48271 + 11) % 2147483647 < 2147483647 := Int.emod_lt_of_pos _ (by decide)
      refine ⟨.ref h, rfl, .inl ⟨h, [.ref a, .int st], 1, .int st, rfl, rfl, sqL i2, rfl, ?_⟩⟩
      refine .inl ⟨st, 48271, rfl, rfl, wide_mul (a := 31) (b := 31) (by omega) (by decide) (by decide) (by decide) (by decide), ?_⟩
      refine .inl ⟨_, _, rfl, rfl, .inl ⟨_, rfl, ?_⟩⟩
      refine ⟨_, _, rfl, rfl, (by show (0 : Int) < 2147483647; decide), ?_⟩
      refine ⟨.ref h, rfl, h, [.ref a, .int st], 1, 1, rfl, rfl, i2, rfl, ?_⟩
      have i2' : upd H3 h (.lst [.ref a, .int ((st * 48271 + 11) % 2147483647)]) h = some (.lst [.ref a, .int ((st * 48271 + 11) % 2147483647)]) := upd_same
      refine ⟨.ref h, rfl, .inl ⟨h, [.ref a, .int ((st * 48271 + 11) % 2147483647)], 1, .int ((st * 48271 + 11) % 2147483647), rfl, rfl, sqL i2', rfl, ?_⟩⟩
      refine ⟨_, _, rfl, rfl, wide_div (b := 10) (by decide) (by decide) (by decide) (by decide), .inl ⟨_, rfl, ?_⟩⟩
      refine ⟨.int b, rfl, _, _, rfl, rfl, b0, ?_⟩
      refine q _ _ ((st * 48271 + 11) % 2147483647) ns' (fun c o hc e => ?_) i2' ?_ m1 m2 k4 k5 (Int.emod_nonneg _ (by omega)) (Int.emod_lt_of_pos _ b0)
      · rw [upd_ne (fun z => hc (by rw [z]; simp))]
        exact i1 c o hc e
      · rw [upd_ne hne.symm]
        exact i3
    · rw [decide_eq_false e0]
      obtain ⟨ms, n, rfl⟩ : ∃ ms n, ns' = ms ++ [n] := ⟨ns'.dropLast, ns'.getLast e0, (List.dropLast_concat_getLast e0).symm⟩
      have hat : atI ((ms ++ [n]).map V.int) (-1) = some (.int n) := by
        rw [List.map_append]
        exact atI_last _ _
      have hlast : ((ms ++ [n]).map V.int)[((ms ++ [n]).map V.int).length - 1]? = some (.int n) := by simp
      have hdl : ((ms ++ [n]).map V.int).dropLast = ms.map V.int := by simp
      have bn := k5 n (by simp)
      have bms : ∀ z ∈ ms, 0 ≤ z ∧ z.toNat < 2 ^ 1048640 := fun z hz => k5 z (by simp [hz])
      have lms : ms.length + 1 ≤ 63 := by simpa using k4
      refine iteT ?_
      refine ⟨.ref h, rfl, .inl ⟨h, [.ref a, .int st], 0, .ref a, rfl, rfl, sqL j2, rfl, ?_⟩⟩
      refine ⟨1, rfl, .inl ⟨a, _, -1, .int n, rfl, rfl, sqL j3, hat, ?_⟩⟩
      refine .inl ⟨rfl, _, rfl, ?_⟩
      by_cases n0 : n = 0
      · subst n0
        refine iteT ?_
        refine ⟨fun σ' H' => _, fun σ' H' z => z, ?_⟩
        refine ⟨.ref h, rfl, .inl ⟨h, [.ref a, .int st], 0, .ref a, rfl, rfl, sqL j2, rfl, ?_⟩⟩
        refine ⟨.inl ⟨rfl, _, sqL j3⟩, a, _, _, rfl, rfl, j3, hlast, ?_⟩
        rw [hdl]
        refine ⟨ms.length, by simp, rfl, ms, rfl, fun c o hc e => ?_, ?_, upd_same, by omega, bms⟩
        · rw [upd_ne (fun z => hc (by rw [z]; simp))]
          exact j1 c o hc e
        · rw [upd_ne hne]
          exact j2
      · have nz : decide (V.int n = V.int 0) = false := decide_eq_false fun z => n0 (V.int.inj z)
        rw [nz]
        refine iteF ?_
        -- the rest: heap[0] has n at its end
        refine test j1 j2 j3 fun H3 i1 i2 i3 => ⟨_, rfl, ?_⟩
        rw [decide_eq_false e0]
        refine iteT ?_
        refine ⟨.ref h, rfl, .inl ⟨h, [.ref a, .int st], 0, .ref a, rfl, rfl, sqL i2, rfl, ?_⟩⟩
        refine ⟨.inl ⟨rfl, _, sqL i3⟩, a, _, _, rfl, rfl, i3, hlast, .inl ⟨n, rfl, ?_⟩⟩
        rw [hdl]
        have i2' : upd H3 a (.lst (ms.map V.int)) h = some (.lst [.ref a, .int st]) := by
          rw [upd_ne hne]
          exact i2
        refine ⟨.ref h, rfl, .inl ⟨h, [.ref a, .int st], 0, .ref a, rfl, rfl, sqL i2', rfl, ?_⟩⟩
        refine ⟨.inl ⟨rfl, _, sqL upd_same⟩, .int n, rfl, .int b, rfl, _, _, rfl, rfl, wide_div (b := 64) b0 (by omega) (by decide) (by decide), ?_⟩
        refine ⟨a, _, _, rfl, rfl, upd_same, by rw [List.length_map]; exact small1000 (by omega), ?_⟩
        refine ⟨.int n, rfl, .int b, rfl, _, _, rfl, rfl, b0, ?_⟩
        rw [upd_upd]
        have bq : 0 ≤ n / b ∧ (n / b).toNat < 2 ^ 1048640 := ⟨Int.ediv_nonneg bn.1 (by omega), Nat.lt_of_le_of_lt (by
          have := Int.ediv_le_self b bn.1
          omega) bn.2⟩
        refine q _ _ st (ms ++ [n / b]) (fun c o hc e => ?_) ?_ ?_ st0 st1 (by simpa using lms) (fun z hz => ?_) (Int.emod_nonneg _ (by omega)) (Int.emod_lt_of_pos _ b0)
        · rw [upd_ne (fun z => hc (by rw [z]; simp))]
          exact i1 c o hc e
        · rw [upd_ne hne]
          exact i2
        · rw [upd_same, List.map_append]
          rfl
        · rcases List.mem_append.mp hz with y | y
          · exact bms z y
          · rw [List.mem_singleton.mp y]
            exact bq
theorem c__law_pick {f : Addr} {fd : FuncData} (T : Tx K mg) (c__law_draw : Ca P w K mg base CX0 1 "_law_draw" ["heap", "many"] sp_draw) (B : DefB K mg "_law_pick" s__law_pick ["heap", "some"] f fd) : Ca P w K mg base CX0 2 "_law_pick" ["heap", "some"] sp_pick := by
  refine ca_of B sc__law_pick (fun vs H Q E h => lenN h) (fun cdv A outer s H vs Q E hr h => ⟨_, (pss_one (ps_ret (pe_ix ix_seq (pv 1) (pe_ca c__law_draw hr (by first | decide | (simp only [Nat.add_eq]; omega)) pass0 (pa_cons (pv 0) (pa_cons (pe_callB cr_len (by rfl) T.z_len (by decide +kernel) (pa_cons (pv 1) pa_nil)) pa_nil))) (fun _ _ => rfl)))), entryN (K := K) (by decide) h fun F O ds hl hp => ?_⟩)
  obtain ⟨d, xs, rfl, hd, h0, h1⟩ := hp
  walk_at "d0"
  walk_at "d"
  refine cv_lenU hd h1 ?_
  walk_at "d"
  refine cv_draw (by omega) (by omega) fun i hi => ?_
  have hi' : xs[i]? = some (xs[i]'(by omega)) := List.getElem?_eq_getElem _
  refine ov_ixU hd h1 hi' ⟨_, rfl, fun d' xs' e1 e2 => ?_⟩
  cases e1
  have e3 : xs = xs' := Option.some.inj (hd.symm.trans e2)
  subst e3
  exact List.getElem_mem _
theorem c__law_mixed {f : Addr} {fd : FuncData} (T : Tx K mg) (c__law_draw : Ca P w K mg base CX0 1 "_law_draw" ["heap", "many"] sp_draw) (B : DefB K mg "_law_mixed" s__law_mixed ["heap", "some"] f fd) : Ca P w K mg base CX0 2 "_law_mixed" ["heap", "some"] sp_mixed := by
  refine ca_of B sc__law_mixed (fun vs H Q E h => lenN h) (fun cdv A outer s H vs Q E hr h => ⟨_, (pss_cons (ps_par (i := 3) (j := 4) (by rfl) sc__law_mixed.nd rfl rfl (by decide) rfl rfl (pa_cons (pe_callTy cr_list (by rfl) T.z_list (by decide +kernel) (pa_cons (pv 1) pa_nil)) (pa_cons (pe_lst pa_nil) pa_nil)) (by rfl))
    (pss_cons (ps_for PassesOwn.never rfl (pi_range1 (by rfl) T.z_range (pa_cons (pe_callB cr_len (by rfl) T.z_len (by decide +kernel) (pa_cons (pv 3) pa_nil)) pa_nil)) (pg_name (i := 2) sc__law_mixed.nd rfl (by first | exact Or.inl rfl | exact Or.inr rfl))
     (pss_one (ps_expr (pe_bm PySem.F.plainAttrs_list PySem.F.slot_list_append PySem.F.type_list_append mt_append (pv 4) (pa_cons (pe_bm PySem.F.plainAttrs_list PySem.F.slot_list_pop PySem.F.type_list_pop mt_popAt (pv 3) (pa_cons (pe_ca c__law_draw hr (by first | decide | (simp only [Nat.add_eq]; omega)) pass0 (pa_cons (pv 0) (pa_cons (pe_callB cr_len (by rfl) T.z_len (by decide +kernel) (pa_cons (pv 3) pa_nil)) pa_nil))) pa_nil)) pa_nil)))))
    (pss_one (ps_ret (pv 4))))), entryN (K := K) (by decide) h fun F O ds hl hp => ?_⟩)
  obtain ⟨xs, rfl, hx⟩ := hp
  walk_at "d0"
  walk_at "d"
  refine sv_par ?_
  walk_at "d"
  refine cv_listLO rfl ?_
  walk_at "d"
  refine ev_lstO ?_
  walk_at "d"
  refine ⟨_, _, rfl, ⟨ltb rfl, ltb rfl⟩, ?_⟩
  -- the loop: what is left and what is found are together what was given
  refine sv_seq (sv_for (wv_range1 ?_))
  walk_at "d"
  refine cv_lenL rfl ?_
  walk_at "d"
  refine ⟨rfl, _, rfl, by omega, by omega, fun i om' sl' => ∃ l g t, om' = [some (.l l), some (.l g)] ∧ sl' = [some .l, some (.v (.lst xs)), t, some (.o 0), some (.o 1)] ∧ (l ++ g).Perm xs ∧ l.length + i = xs.length,
    ⟨xs, [], _, rfl, rfl, by simp, rfl⟩, ?_, ?_⟩
  · rintro i d om' sl' hd ⟨l, g, t, rfl, rfl, hp, hl⟩
    have hi : i < xs.length := by
      have := (List.getElem?_eq_some_iff.mp hd).1
      rw [rgD_len] at this
      omega
    have hg : l.length + g.length = xs.length := by
      have := hp.length_eq
      rw [List.length_append] at this
      exact this
    refine gv_name ⟨ltb rfl, ?_⟩
    dsimp only [List.set]
    walk_at "d"
    refine ⟨⟨g, rfl⟩, ?_⟩
    walk_at "d"
    refine ⟨⟨l, rfl⟩, ?_⟩
    walk_at "d"
    refine cv_lenL rfl ?_
    walk_at "d"
    refine cv_draw (by omega) (by omega) fun j hj => ?_
    walk_at "d"
    have hj' : l[j]? = some (l[j]'(by omega)) := List.getElem?_eq_getElem _
    refine mv_popAt rfl (by omega) hj' ?_
    walk_at "d"
    refine mv_append rfl (by omega) ?_
    refine ⟨_, _, _, rfl, rfl, ?_, ?_⟩
    · refine List.Perm.trans ?_ hp
      exact perm_pop (by omega)
    · rw [List.length_eraseIdx_of_lt (by omega)]
      omega
  · rintro om' sl' ⟨l, g, t, rfl, rfl, hp, hl⟩
    walk_at "d"
    rw [rgD_len] at hl
    have l0 : l = [] := List.eq_nil_of_length_eq_zero (by omega)
    subst l0
    intro xs' e
    cases e
    exact ⟨g, rfl, by simpa using hp⟩
theorem c__law_heap {f : Addr} {fd : FuncData} (T : Tx K mg) (B : DefB K mg "_law_heap" s__law_heap ["script", "base"] f fd) : Ca P w K mg base CX0 1 "_law_heap" ["script", "base"] (sp_deal K) := by
  refine ca_of B sc__law_heap (fun vs H Q E h => ?_) (fun cdv A outer s H vs Q E hr h => ⟨_, (pss_cons (ps_setLc (i := 2) (own := [("cell", 4)]) rfl sc__law_heap.nd rfl rfl (sw_true rfl rfl rfl (by decide +kernel)) (pi_list (pe_slice sl_U (pv 0) po_none (po_some pe_int))) (blkOk_by (N := ["script", "base", "cells", "stir", "cell"]) (sc := defScope s__law_heap) (by decide +kernel)) (fun _ _ _ _ _ => (pg_name (i := 4) sc__law_heap.nd rfl (by first | exact Or.inl rfl | exact Or.inr rfl))) (fun _ _ _ _ _ => pts_nil) (fun _ _ _ _ _ => (pe_callB cr_abs (by rfl) T.z_abs (by decide +kernel) (pa_cons (pe_callTy cr_int (by rfl) T.z_int (by decide +kernel) (pa_cons (pv 4) pa_nil)) pa_nil))))
    (pss_cons (ps_set (i := 3) sc__law_heap.nd rfl (by first | exact Or.inl rfl | exact Or.inr rfl) (pe_op op_addU pe_int (pe_op op_mulU pe_int (pv 1))))
    (pss_cons (ps_for PassesOwn.never rfl (pi_list (pv 2)) (pg_name (i := 4) sc__law_heap.nd rfl (by first | exact Or.inl rfl | exact Or.inr rfl))
     (pss_one (ps_set (i := 3) sc__law_heap.nd rfl (by first | exact Or.inl rfl | exact Or.inr rfl) (pe_op op_mod (pe_callTy cr_int (by rfl) T.z_int (by decide +kernel) (pa_cons (pe_op op_addU (pe_op op_addU (pe_op op_mulU (pv 3) pe_int) (pe_op op_mod (pv 4) pe_int)) pe_int) pa_nil)) pe_int))))
    (pss_one (ps_ret (pe_lst (pa_cons (pe_revL (pe_lc (own := [("cell", 4)]) rfl sc__law_heap.nd (pi_list (pv 2)) (blkOk_by (N := ["script", "base", "cells", "stir", "cell"]) (sc := defScope s__law_heap) (by decide +kernel)) (fun _ _ _ _ _ => (pg_name (i := 4) sc__law_heap.nd rfl (by first | exact Or.inl rfl | exact Or.inr rfl))) (fun _ _ _ _ _ => (pts_one (pt_cmpR op_ge (pv 4) (pe_op op_pow pe_int pe_int) (by first | exact nomark _ | rfl)))) (fun _ _ _ _ _ => (pv 4)))) (pa_cons (pv 3) pa_nil)))))))), entryD (K := K) (by decide) h fun a b ns hs b0 b1 hn => ?_⟩)
  · obtain ⟨a, b, ns, rfl, _⟩ := h
    rfl
  · walk_at "d0"
    refine sv_seq (sv_set (ev_lc (sets_name 4) (wv_list (ds := []) ?_)))
    walk_at "d"
    refine lv_raw hs rfl ?_
    obtain ⟨ms, em, lm, hm⟩ := cut63 (ns := ns)
    rw [em]
    refine ⟨rfl, _, rfl, fun i acc => ∃ qs : List Int, acc = qs.map .int ∧ qs.length = i ∧ i ≤ ms.length ∧ ∀ q ∈ qs, 0 ≤ q ∧ q.toNat < 2 ^ 1048640, ⟨[], rfl, rfl, Nat.zero_le _, fun _ z => nomatch z⟩, ?_, ?_, ?_⟩
    · rintro i d acc hd ⟨qs, rfl, hi, hi2, hq⟩
      have hlt := (List.getElem?_eq_some_iff.mp hd).1
      rw [List.length_map] at hlt
      rw [List.getElem?_map, List.getElem?_eq_getElem hlt] at hd
      cases hd
      refine gv_name ⟨ltb rfl, ?_⟩
      dsimp only [List.set, List.foldr]
      refine et_yes ⟨fun _ => ?_, fun z => nomatch z⟩
      walk_at "d"
      refine ⟨rfl, _, rfl, qs ++ [(ms[i].natAbs : Int)], by simp, by simp [hi], by omega, fun z hz => ?_⟩
      rcases List.mem_append.mp hz with y | y
      · exact hq z y
      · rw [List.mem_singleton.mp y]
        exact nat_abs_ok (hn _ (hm _ (List.getElem_mem hlt)))
    · rintro i acc ⟨qs, rfl, hi, hi2, hq⟩
      rw [List.length_map]
      omega
    · rintro acc ⟨qs, rfl, hi, hi2, hq⟩
      rw [List.length_map] at hi
      have lq : qs.length ≤ 63 := by omega
      clear hi hi2 em lm hm hs hn
      refine ⟨ltb rfl, ?_⟩
      dsimp only [List.set]
      refine sv_seq (sv_set ?_)
      walk_at "d"
      refine ov_mulI (wide_mul (a := 10) (b := 17) (by decide) (by omega) (by decide) (by decide) (by decide)) ?_
      walk_at "d"
      dsimp only [List.set]
      refine sv_for (wv_list (ds := []) ?_)
      walk_at "d"
      refine ⟨rfl, _, rfl, fun i om' sl' => ∃ (mix : Int) (x : Option DL.E), om' = [] ∧ sl' = [some (.v (.raw (.ref a))), some (.v (.int b)), some (.v (.lst (qs.map .int))), some (.v (.int mix)), x] ∧ 0 ≤ mix ∧ mix < 2147483647, ⟨_, _, rfl, rfl, by omega, by omega⟩, ?_, ?_⟩
      · rintro i d om' sl' hd ⟨mix, x, rfl, rfl, x0, x1⟩
        have hlt := (List.getElem?_eq_some_iff.mp hd).1
        rw [List.length_map] at hlt
        rw [List.getElem?_map, List.getElem?_eq_getElem hlt] at hd
        cases hd
        refine gv_name ⟨ltb rfl, ?_⟩
        dsimp only [List.set]
        walk_at "d"
        refine ov_mulI (wide_mul (a := 31) (b := 31) (by omega) (by decide) (by decide) (by decide) (by decide)) ?_
        walk_at "d"
        refine ov_intC (by decide) ?_
        walk_at "d"
        refine ov_intC (by decide) ?_
        refine ⟨ltb rfl, _, _, rfl, rfl, ?_, ?_⟩
        · exact Int.emod_nonneg _ (by decide)
        · exact Int.emod_lt_of_pos _ (by decide)
      · rintro om' sl' ⟨mix, x, rfl, rfl, x0, x1⟩
        walk_at "d"
        refine ev_lst ?_
        walk_at "d"
        refine EX.ev_revL (ev_lc (sets_name 4) (wv_list (ds := []) ?_))
        walk_at "d"
        refine ⟨rfl, _, rfl, fun i acc => ∃ rs : List Int, acc = rs.map .int ∧ rs.length ≤ i ∧ i ≤ qs.length ∧ ∀ q ∈ rs, 0 ≤ q ∧ q.toNat < 2 ^ 1048640, ⟨[], rfl, Nat.le_refl _, Nat.zero_le _, fun _ z => nomatch z⟩, ?_, ?_, ?_⟩
        · rintro i d acc hd ⟨rs, rfl, hi, hi2, hr⟩
          have hlt := (List.getElem?_eq_some_iff.mp hd).1
          rw [List.length_map] at hlt
          rw [List.getElem?_map, List.getElem?_eq_getElem hlt] at hd
          cases hd
          refine gv_name ⟨ltb rfl, ?_⟩
          dsimp only [List.set, List.foldr]
          walk_at "d"
          refine ov_intC ⟨by decide, by decide, by decide⟩ ?_
          walk_at "d"
          refine ⟨fun _ => ?_, fun _ => ⟨rfl, rs, rfl, by omega, by omega, hr⟩⟩
          walk_at "d"
          refine ⟨rfl, _, rfl, rs ++ [qs[i]], by simp, by simp; omega, by omega, fun z hz => ?_⟩
          rcases List.mem_append.mp hz with y | y
          · exact hr z y
          · rw [List.mem_singleton.mp y]
            exact hq _ (List.getElem_mem hlt)
        · rintro i acc ⟨rs, rfl, hi, hi2, hr⟩
          rw [List.length_map]
          omega
        · rintro acc ⟨rs, rfl, hi, hi2, hr⟩
          rw [List.length_map] at hi
          walk_at "d"
          refine ⟨rs.reverse, mix, ?_, x0, x1, by rw [List.length_reverse]; omega, fun n hn => hr n (List.mem_reverse.mp hn)⟩
          rw [List.map_reverse]
end
end K01
set_option Elab.async false
set_option linter.all false
set_option maxRecDepth 100000
set_option maxHeartbeats 4000000
namespace HL
open PySem PySem.Spec PyProof.Rows L2
/-- try .. except x as n, by its parts -/
def tTryAs (K : PySem.W.Frag) (c : Value) (i : Nat) (tb : WX → TS) (ts : Addr → Value → Option Addr → TS) (Wout : WX) : TS := fun D σ H => tb (wAs K c i ts Wout D) D σ H
section
variable {X : Cx} {x n : Str} {c : Value} {i : Nat} {body suite : List Stmt} {b₀ : Stmt} {np pos pos' : Pos} {tb : WX → TS} {ts : Addr → Value → Option Addr → TS} {Wout : WX}
theorem ps_tryT (hs : X.stack = X.env :: X.outer) (hf : X.env.frame = some X.env.locals) (hN : X.N.Nodup) (hi : X.N[i]? = some n) (hln : X.env.kindOf n = some .local) (hc : Names X x c) (tk : Takes X Wout)
    (hb : ∀ (W : WX) (pn : List (Addr × Obj)) (xe : Value → Shared → Prop), Takes (X.tr pn xe) W → PassesOwn (model X.prog X.w) X.A X.env xe → PSs (X.tr pn xe) body (tb W)) (hsu : ∀ (a : Addr) (oe : Obj) (cls : Value) (d : Option Addr) (pn : List (Addr × Obj)), Zc cls d oe → (∃ vs, oe.data = .fields vs) → PSs (X.suite a ((a, oe) :: pn)) (b₀ :: suite) (ts a cls d)) :
    PS X (.Try body [.ExceptHandler (some (.Name x np)) (some n) (b₀ :: suite) pos'] [] [] pos) (tTryAs X.K c i tb ts Wout) := ps_try_as hs hf hN hi hln hc tk hb hsu
end
end HL
namespace DL
open PySem PySem.Spec PyProof.Rows L2 STX HL
theorem sv_tryT {c : Cn} {Ex : XK} {sl : Sl} {cl : Value} {i : Nat} {ts : Addr → Value → Option Addr → TS} {Wout : WX} {tb : WX → TS} {Pq : Po} (Y : Addr → Str → D → Prop) (hi : i < sl.length) (hc : ∀ C f x, Y C f x → PySem.W.exmOne c.K (.ref C) cl = some true)
    (hb : ∀ (O : List Addr) (H : Hp) (W : WX), WishS ⟨c.F, O, H, c.K⟩ W [] sl Y → SV ⟨c.F, O, H, c.K⟩ Ex (tb W) [] sl Pq)
    (hs : ∀ (O : List Addr) (H : Hp) C f x, Y C f x → ∀ a d, SV ⟨c.F, O, H, c.K⟩ Ex (ts a (.ref C) (some d)) [] (sl.set i (some (.v (.xerr a d [(f, x)])))) { Pq with n := fun om' sl' => Pq.n om' (sl'.set i none), b := fun om' sl' => Pq.b om' (sl'.set i none), c := fun om' sl' => Pq.c om' (sl'.set i none) }) :
    SV c Ex (tTryAs c.K cl i tb ts Wout) [] sl Pq := sv_tryAs hi hc hb hs
end DL
set_option Elab.async false
set_option linter.all false
set_option maxRecDepth 100000
set_option maxHeartbeats 4000000
/-! max of a tuple, min of a list; keywords in the parameters' order turned round; a call that never raises -/
namespace LR
open PySem PySem.Spec PyProof.Rows PySem.SeqAt
section
variable {prog : Program} {w : World} {A : Around} {E : Value → Shared → Prop} {s : Shared}
theorem max_tupG {a : Addr} {its : List Value} {ns : List Int} {Q : Value → Shared → Prop} (hh : A.handled = none) (ht : s.heap.IsTuple a its.toArray) (hi : IntsAre its ns) (hne : 0 < ns.length)
    (h : ∀ h' tk M t', (∀ b o, s.heap.get? b = some o → h'.get? b = some o) → M ∈ ns → (∀ y, y ∈ ns → y ≤ M) → Q (.int M t') { s with heap := h', toks := tk }) : wpAny (model prog w) A (call (.builtin "max") [.ref a]) Q E s := by
  obtain ⟨xs, ex⟩ := hi.allInts.items
  have hn : numsOf (intItems xs).toList = ns := ex ▸ hi.numsOf
  rw [nums_intItems] at hn
  subst hn
  rw [ex] at ht
  have hsz : 0 < xs.size := by simpa using hne
  refine call_max_walk (wpAny_pyIter_tuple ht ?_)
  have hlt : a < s.heap.objs.size := by obtain ⟨o, ho, _⟩ := ht; exact Heap.lt_size ho
  refine ⟨_, _, _, _, _, _, _, rfl, Walks.tuple (A := A.in1) hh s.heap.objs.size a (Nat.ne_of_lt hlt) (intItems xs), ⟨⟨_, Heap.get?_push_size _ rfl, rfl, rfl⟩, ht.push _⟩, fun b hb => ?_, by simpa [intItems] using hsz, CmpOf.ints_gt (numAt xs) (fun _ _ => intItems_at), fun v h' tk hP hk => ?_⟩
  · rw [Heap.size_push]
    rcases List.mem_cons.mp hb with z | z
    · rw [z]; exact Nat.lt_succ_self _
    · rw [List.mem_singleton.mp z]; exact Nat.lt_succ_of_lt hlt
  · have hP' : (intItems xs)[argBest (fun i j => decide (numAt xs i > numAt xs j)) (xs.size - 1)]? = some v := by simpa [intItems] using hP
    obtain ⟨t, rfl⟩ := intItems_at hP'
    obtain ⟨h1, h2⟩ := argBest_gt (numAt xs) (xs.size - 1)
    refine h h' tk _ t (fun b o e => hk b o (fun z => by
      rw [List.mem_singleton.mp z] at e
      exact Nat.lt_irrefl _ (Heap.lt_size e)) (Heap.get?_push_of_some _ e)) ?_ fun y hy => ?_
    · rw [numAt_eq]; exact PySem.getD_mem (by rw [List.length_map, Array.length_toList]; omega)
    · obtain ⟨j, hj, rfl⟩ := mem_getD hy
      rw [List.length_map, Array.length_toList] at hj
      rw [← numAt_eq]; exact h2 j (by omega)
end
end LR
namespace DL
open PySem PySem.Spec PyProof.Rows L2 STX HL
section
variable {c : Cn} {om : Om} {sl : Sl} {x : E} {P : E → Om → Prop}
def rMaxT (K : PySem.W.Frag) : List V → Hp → VK → Prop := fun vs H Q => ∃ (a : Addr) (ns : List Int), vs = [V.ref a] ∧ SqT K H a (ns.map V.int) ∧ 0 < ns.length ∧ ∀ m, m ∈ ns → (∀ y, y ∈ ns → y ≤ m) → Q (.int m) H
theorem cr_maxT {X : Cx} (hc : X.calm = true) : CallR X (.builtin "max") (rMaxT X.K) := by
  intro pins s σ H vs us Q I r h
  obtain ⟨a, ns, rfl, hs, hne, q⟩ := h
  obtain ⟨its, rv, ht, _⟩ := I.tuple hs
  rw [Vals.ref1 r]
  exact LR.max_tupG (I.ok.hd hc) (by obtain ⟨o, h1, h2, n, h3⟩ := ht; exact ⟨o, h1, h2, n, h3⟩) rv.ints hne fun h' tk m t' hk h1 h2 => ⟨.int _, H, I.kept hk, ⟨_, rfl⟩, q m h1 h2⟩
theorem cv_maxT {ns : List Int} (h0 : 0 < ns.length) (p : ∀ m, m ∈ ns → (∀ y, y ∈ ns → y ≤ m) → P (.v (.int m)) om) : CV c (rMaxT c.K) om sl [.v (.tup (ns.map .int))] P := fun σ H O ps s vs r Q k => by
  obtain ⟨v, rfl, rv⟩ := ra1 r
  obtain ⟨a, ws, rfl, na, h1, h2⟩ := as_t rv
  rw [h2.ints] at h1
  exact ⟨a, ns, rfl, sqT h1, h0, fun m m1 m2 => k _ H O ps (.v (.int m)) om (Go.refl ..) s (Rl.int _) (p m m1 m2)⟩
theorem cv_minL {ns : List Int} (hx : dat om x = some (.lst (ns.map .int))) (h0 : 0 < ns.length) (p : ∀ m, m ∈ ns → (∀ y, y ∈ ns → m ≤ y) → P (.v (.int m)) om) : CV c (rMin c.K) om sl [x] P := fun σ H O ps s vs r Q k => by
  obtain ⟨v, rfl, rv⟩ := ra1 r
  obtain ⟨a, ws, rfl, h1, h2⟩ := as_l s rv hx
  rw [h2.ints] at h1
  exact ⟨a, ns, rfl, sqL h1, h0, fun m m1 m2 => k _ H O ps (.v (.int m)) om (Go.refl ..) s (Rl.int _) (p m m1 m2)⟩
end
end DL
namespace HL
open PySem PySem.Spec PyProof.Rows L2
section
variable {P : Program} {w : World} {K : PySem.W.Frag} {mg : Str → Option Value} {base : Heap} {CX : CXT}
/-- a def that may also be called by keywords in the parameters' order turned round -/
structure CaR (P : Program) (w : World) (K : PySem.W.Frag) (mg : Str → Option Value) (base : Heap) (CX : CXT) (k : Nat) (x : Str) (ps : List Str) (sp : Sp) : Prop where
  ex : ∃ (f : Addr) (fd : FuncData), FnOk P w K mg base CX k f fd ps sp ∧ mg x = some (.ref f) ∧ PySem.W.keepIn K (.ref f) = true ∧ KBn K fd ps 0 ps.reverse (fun _ ws => ws.reverse) (fun _ zs => zs.reverse)
theorem fn_of {x : Str} {st : Stmt} {ps N : List Str} {f : Addr} {fd : FuncData} {k : Nat} {sp : Sp} (B : DefB K mg x st ps f fd) (S : FnScope N ps (defScope st)) (len : ∀ vs H Q E, sp vs H Q E → vs.length = ps.length)
    (hbody : ∀ (cdv : Value) (A : Around) (outer : List Env) (s : Shared) (H : Hp) (vs : List V) (Q : VK) (E : XK), Room k (A.deeper (envOfC x (defScope st) s.heap.objs.size f cdv)) → sp vs H Q E →
      ∃ t, PSs (cxOf CX0 P w K mg base N x (defScope st) f cdv A outer s H E).nox (defBody st) t ∧ t { nx := fun _ H' => Q .non H', rt := Q } (L2.start N vs) H) : FnOk P w K mg base CX0 (k + 1) f fd ps sp := B.fn.ok S len hbody
theorem fn_ofX {x : Str} {st : Stmt} {ps N : List Str} {f : Addr} {fd : FuncData} {k : Nat} {sp : Sp} (B : DefB K mg x st ps f fd) (S : FnScope N ps (defScope st)) (len : ∀ vs H Q E, sp vs H Q E → vs.length = ps.length)
    (hbody : ∀ (cdv : Value) (A : Around) (outer : List Env) (s : Shared) (H : Hp) (vs : List V) (Q : VK) (E : XK), Room k (A.deeper (envOfC x (defScope st) s.heap.objs.size f cdv)) → sp vs H Q E →
      ∃ t, PSs (cxOf (L2.CX P w) P w K mg base N x (defScope st) f cdv A outer s H E) (defBody st) t ∧ t { nx := fun _ H' => Q .non H', rt := Q } (L2.start N vs) H) : FnOk P w K mg base (L2.CX P w) (k + 1) f fd ps sp := B.fn.okX S len hbody
theorem ca_fn {x : Str} {st : Stmt} {ps : List Str} {f : Addr} {fd : FuncData} {k : Nat} {sp : Sp} (B : DefB K mg x st ps f fd) (F : FnOk P w K mg base CX k f fd ps sp) : Ca P w K mg base CX k x ps sp := ⟨f, fd, F, B.gl, B.fn.kp, B.b, B.kb⟩
theorem car_fn {x : Str} {st : Stmt} {ps : List Str} {f : Addr} {fd : FuncData} {k : Nat} {sp : Sp} (B : DefB K mg x st ps f fd) (R : KBn K fd ps 0 ps.reverse (fun _ ws => ws.reverse) (fun _ zs => zs.reverse)) (F : FnOk P w K mg base CX k f fd ps sp) : CaR P w K mg base CX k x ps sp := ⟨f, fd, F, B.gl, B.fn.kp, R⟩
theorem passNever {X : Cx} : Passes (L2.CX X.prog X.w) X E0 := fun _ _ _ _ _ _ _ ⟨_, _, _, _, _, _, _, _, _, _, _, _, z⟩ => z.elim
end
def tCallR (m : Nat) (sp : Sp) (E : XK) (tk : TA) : TE := fun σ H Q => tk σ H fun zs H2 => zs.length = m ∧ sp zs.reverse H2 Q E
section
variable {X : Cx} {CX : CXT} {k j : Nat} {x : Str} {ps : List Str} {sp : Sp} {E : XK} {p pos : Pos} {kws : List Keyword} {t : TA}
theorem pe_caR (c : CaR X.prog X.w X.K X.mg X.base CX k x ps sp) (hr : Room j X.A) (hk : k ≤ j) (hx : Passes CX X E) (hkw : PK X kws t) (hg : Gl X x := by rfl)
    (hall : (backToKw pos (keywordEach kws X.env)).all (·.1.isSome) = true := by rfl) (hks : (backToKw pos (keywordEach kws X.env)).filterMap (·.1) = ps.reverse := by rfl)
    (hdb : (x == ("__debug__" : Str)) = false := by decide)
    (hpl : ((backTo pos (starEach [] X.env)).any (·.1) || (backToKw pos (keywordEach kws X.env)).any (·.1.isNone)) = false := by rfl) :
    PE X (.Call (.Name x p) [] kws pos) (tCallR ps.length sp E t) := by
  obtain ⟨f, fd, F, m, kp, b⟩ := c.ex
  refine ⟨fun pins s σ H Q I h => ?_⟩
  refine wpAny_Call_Name_kw (ld_glob I hg m ?_ hdb)
  refine PySem.W.callWith_KW0 (h₀ := X.base) I.ok.mod.kin kp hall (thn (hkw.run pos pins s σ H _ I h) fun ws s2 ⟨zs, H2, I2, rz, l2, q2⟩ => ⟨I2.kIn, ?_⟩) hpl
  rw [hks]
  exact run_fnN (vs := []) (us := []) F (hr.mono hk) b hx I2 .nil rz rfl (l2.trans (List.length_reverse ..).symm) q2
end
end HL
namespace DL
open PySem PySem.Spec PyProof.Rows L2 STX HL
theorem ra_len {F O ps H} : ∀ {vs : List V} {xs : List E}, RA F O ps H vs xs → vs.length = xs.length
  | _, _, .nil => rfl
  | _, _, .cons _ r => congrArg (· + 1) (ra_len r)
theorem ra_app {F O ps H} : ∀ {vs : List V} {xs : List E} {ws : List V} {ys : List E}, RA F O ps H vs xs → RA F O ps H ws ys → RA F O ps H (vs ++ ws) (xs ++ ys)
  | _, _, _, _, .nil, b => b
  | _, _, _, _, .cons a r, b => .cons a (ra_app r b)
theorem ra_rev {F O ps H} : ∀ {vs : List V} {xs : List E}, RA F O ps H vs xs → RA F O ps H vs.reverse xs.reverse
  | _, _, .nil => .nil
  | _, _, .cons a r => by
    rw [List.reverse_cons, List.reverse_cons]
    exact ra_app (ra_rev r) (.cons a .nil)
theorem ev_callR {c : Cn} {om : Om} {sl : Sl} {m : Nat} {sp : Sp} {Ew : XK} {tr : TA} {P : E → Om → Prop} (h : EA c tr om sl fun xs om1 => xs.length = m ∧ CV c (fun vs H Q => sp vs H Q Ew) om1 sl xs.reverse P) : EV c (tCallR m sp Ew tr) om sl P := fun σ H O ps s Q k =>
  h σ H O ps s _ fun vs H1 O1 ps1 es om1 g1 s1 r1 ⟨hm, h1⟩ => ⟨(ra_len r1).trans hm, h1 σ H1 O1 ps1 s1 vs.reverse (ra_rev r1) Q fun z H3 O3 ps3 e3 om3 g3 s3 r3 p => k z H3 O3 ps3 e3 om3 (g1.trans g3) s3 r3 p⟩
end DL
set_option Elab.async false
set_option linter.all false
set_option maxRecDepth 100000
set_option maxHeartbeats 4000000
/-! a dict that is data, walked key by key while it is locked -/
namespace DL
open PySem PySem.Spec PyProof.Rows L2 STX HL
mutual
def ndD : D → Bool
  | .lst xs => ndA xs
  | .tup xs => ndA xs
  | .ftp xs => ndA xs
  | .obj _ fs => ndF fs
  | .dic _ => false
  | .exc _ _ => false
  | .xerr _ _ _ => false
  | _ => true
def ndA : List D → Bool
  | [] => true
  | x :: r => ndD x && ndA r
def ndF : List (Str × D) → Bool
  | [] => true
  | x :: r => ndD x.2 && ndF r
end
mutual
/-- data without dicts when a dict is locked -/
theorem Rl.lock {O : List Addr} {H H' : Hp} (e : ∀ b o, H b = some o → (∀ ws, o ≠ .dK ws) → H' b = some o) : ∀ {v : V} {d : D}, ndD d = true → Rl O H v d → Rl O H' v d
  | _, _, _, .non => .non
  | _, _, _, .bl b => .bl b
  | _, _, _, .int i => .int i
  | _, _, _, .str x => .str x
  | _, _, _, .raw v => .raw v
  | _, .lst ds, n, .lst ha hr hx => .lst ha (e _ _ hr (fun _ z => nomatch z)) (RlA.lock e (by unfold ndD at n; exact n) hx)
  | _, .tup ds, n, .tup ha hr hx => .tup ha (hr.elim (fun h => .inl (e _ _ h (fun _ z => nomatch z))) (fun ⟨o, h⟩ => .inr ⟨o, e _ _ h (fun _ z => nomatch z)⟩)) (RlA.lock e (by unfold ndD at n; exact n) hx)
  | _, .ftp ds, n, .ftp ha hr hd hx => .ftp ha (e _ _ hr (fun _ z => nomatch z)) hd (RlA.lock e (by unfold ndD at n; exact n) hx)
  | _, .obj C gs, n, .obj ha hr hx => .obj ha (e _ _ hr (fun _ z => nomatch z)) (RlF.lock e (by unfold ndD at n; exact n) hx)
  | _, _, n, .exc0 ha hr => by unfold ndD at n; cases n
  | _, _, n, .exc1 ha hd hr hq hx => by unfold ndD at n; cases n
  | _, _, n, .dic ha hr hx => by unfold ndD at n; cases n
  | _, _, n, .xerr ha hr hx => by unfold ndD at n; cases n
theorem RlA.lock {O : List Addr} {H H' : Hp} (e : ∀ b o, H b = some o → (∀ ws, o ≠ .dK ws) → H' b = some o) : ∀ {vs : List V} {ds : List D}, ndA ds = true → RlA O H vs ds → RlA O H' vs ds
  | _, _, _, .nil => .nil
  | _, d :: ds, n, .cons h t => by
    unfold ndA at n
    have := Bool.and_eq_true_iff.mp n
    exact .cons (Rl.lock e this.1 h) (RlA.lock e this.2 t)
theorem RlF.lock {O : List Addr} {H H' : Hp} (e : ∀ b o, H b = some o → (∀ ws, o ≠ .dK ws) → H' b = some o) : ∀ {vs : List (Str × V)} {ds : List (Str × D)}, ndF ds = true → RlF O H vs ds → RlF O H' vs ds
  | _, _, _, .nil => .nil
  | _, d :: ds, n, .cons h t => by
    unfold ndF at n
    have := Bool.and_eq_true_iff.mp n
    exact .cons (Rl.lock e this.1 h) (RlF.lock e this.2 t)
end
mutual
/-- data when what was locked is so no longer -/
theorem Rl.free {O : List Addr} {H H' : Hp} (e : ∀ b o, H b = some o → (∀ od ws, o ≠ .frz od (.dK ws)) → H' b = some o) : ∀ {v : V} {d : D}, Rl O H v d → Rl O H' v d
  | _, _, .non => .non
  | _, _, .bl b => .bl b
  | _, _, .int i => .int i
  | _, _, .str x => .str x
  | _, _, .raw v => .raw v
  | _, _, .lst ha hr hx => .lst ha (e _ _ hr (fun _ _ z => nomatch z)) (RlA.free e hx)
  | _, _, .tup ha hr hx => .tup ha (hr.elim (fun h => .inl (e _ _ h (fun _ _ z => nomatch z))) (fun ⟨o, h⟩ => .inr ⟨o, e _ _ h (fun _ _ z => by injection z with z1 z2; cases z2)⟩)) (RlA.free e hx)
  | _, _, .ftp ha hr hd hx => .ftp ha (e _ _ hr (fun _ _ z => by injection z with z1 z2; cases z2)) hd (RlA.free e hx)
  | _, _, .obj ha hr hx => .obj ha (e _ _ hr (fun _ _ z => nomatch z)) (RlF.free e hx)
  | _, _, .exc0 ha hr => .exc0 ha (e _ _ hr (fun _ _ z => nomatch z))
  | _, _, .exc1 ha hd hr hq hx => .exc1 ha hd (e _ _ hr (fun _ _ z => nomatch z)) (e _ _ hq (fun _ _ z => nomatch z)) (RlF.free e hx)
  | _, _, .dic ha hr hx => .dic ha (e _ _ hr (fun _ _ z => nomatch z)) (RlK.free e hx)
  | _, _, .xerr ha hr hx => .xerr ha (e _ _ hr (fun _ _ z => nomatch z)) (RlF.free e hx)
theorem RlA.free {O : List Addr} {H H' : Hp} (e : ∀ b o, H b = some o → (∀ od ws, o ≠ .frz od (.dK ws)) → H' b = some o) : ∀ {vs : List V} {ds : List D}, RlA O H vs ds → RlA O H' vs ds
  | _, _, .nil => .nil
  | _, _, .cons h t => .cons (Rl.free e h) (RlA.free e t)
theorem RlF.free {O : List Addr} {H H' : Hp} (e : ∀ b o, H b = some o → (∀ od ws, o ≠ .frz od (.dK ws)) → H' b = some o) : ∀ {vs : List (Str × V)} {ds : List (Str × D)}, RlF O H vs ds → RlF O H' vs ds
  | _, _, .nil => .nil
  | _, _, .cons h t => .cons (Rl.free e h) (RlF.free e t)
theorem RlK.free {O : List Addr} {H H' : Hp} (e : ∀ b o, H b = some o → (∀ od ws, o ≠ .frz od (.dK ws)) → H' b = some o) : ∀ {vs : List (Key × V)} {ds : List (Key × D)}, RlK O H vs ds → RlK O H' vs ds
  | _, _, .nil => .nil
  | _, _, .cons h t => .cons (Rl.free e h) (RlK.free e t)
end
def ndK : List (Key × D) → Bool
  | [] => true
  | x :: r => ndD x.2 && ndK r
theorem RlK.lock {O : List Addr} {H H' : Hp} (e : ∀ b o, H b = some o → (∀ ws, o ≠ .dK ws) → H' b = some o) : ∀ {vs : List (Key × V)} {ds : List (Key × D)}, ndK ds = true → RlK O H vs ds → RlK O H' vs ds
  | _, _, _, .nil => .nil
  | _, d :: ds, n, .cons h t => by
    unfold ndK at n
    have := Bool.and_eq_true_iff.mp n
    exact .cons (Rl.lock e this.1 h) (RlK.lock e this.2 t)
/-- a locked dict: it stands at d, with the pairs kvs -/
def Fz (c : Cn) (d : Addr) (kvs : List (Key × D)) : Prop := ∃ (od : Obj) (ws : List (Key × V)) (O : List Addr), c.H0 d = some (.frz od (.dK ws)) ∧ d ∉ O ∧ d ∉ c.F ∧ (∀ a ∈ c.F, a ∈ O) ∧ (∀ a ∈ c.O0, a ∈ O) ∧ (∀ a ∈ O, a ∈ c.O0 ∨ c.H0 a = none) ∧ RlK O c.H0 ws kvs
section
variable {c : Cn} {om : Om} {sl : Sl}
theorem Fz.at {d : Addr} {kvs : List (Key × D)} (f : Fz c d kvs) : ∃ (od : Obj) (ws : List (Key × V)), ∀ {σ : L2.St} {H : Hp} {O ps : List Addr} {om : Om} {sl : Sl}, DL.St c.F c.O0 c.H0 H om σ sl O ps → H d = some (.frz od (.dK ws)) ∧ RlK O H ws kvs := by
  obtain ⟨od, ws, O', h1, h2, h3, h4, h5, h6, h7⟩ := f
  refine ⟨od, ws, fun {σ H O ps om sl} s => ⟨s.en d _ h3 h1, h7.ext ⟨fun b o hb ho => s.en b o (fun z => hb (h4 b z)) ho, fun p hp => ?_⟩⟩⟩
  rcases s.fo p hp with y | y
  · exact .inl (h5 p y)
  · exact .inr y
/-- what may stand in a slot while a dict is locked -/
def keptE : E → Bool
  | .v d => ndD d
  | .l => true
  | .o _ => true
  | _ => false
def keptO : Own → Bool
  | .l ds => ndA ds
  | .d kvs => ndK kvs
  | _ => false
theorem ev_lock {t : TE} {P : E → Om → Prop} {j : Nat} {kvs : List (Key × D)} (hj : sl[j]? = some (some (.v (.dic kvs)))) (sl' : Addr → Sl)
    (hsl : ∀ d (i : Nat) (e : E), (sl' d)[i]? = some (some e) → (i = j ∧ e = .v (.raw (.ref d))) ∨ (sl[i]? = some (some e) ∧ keptE e = true)) (hln : ∀ d, (sl' d).length = sl.length)
    (hkv : ndK kvs = true) (hom : ∀ (k : Nat) (w : Own), om[k]? = some (some w) → keptO w = true)
    (h : ∀ (H0 : Hp) (d : Addr), Fz ⟨c.F, c.O0, H0, c.K⟩ d kvs → EV ⟨c.F, c.O0, H0, c.K⟩ t om (sl' d) fun e om1 => om1 = om ∧ ∃ D, e = .v D ∧ P (.v D) om) : EV c (tLockE t) om sl P := fun σ H O ps s Q k => by
  obtain ⟨v, hv, rv⟩ := s.slots j _ hj
  cases rv with
  | @dic d ws _ hd hH hk =>
    refine ⟨d, .dK ws, hH, trivial, fun od => ?_⟩
    have fO : ∀ a ∈ c.F, a ∈ O := fun a ha => s.oo a (s.ff a ha).1
    have dF : d ∉ c.F := fun z => hd (fO d z)
    have lk : ∀ b o, H b = some o → (∀ ws, o ≠ .dK ws) → (upd H d (.frz od (.dK ws))) b = some o := fun b o e n => by
      by_cases hb : b = d
      · rw [hb, hH] at e
        exact absurd (Option.some.inj e).symm (n ws)
      · rw [upd_ne hb]
        exact e
    have lk2 : ∀ b o, b ≠ d → H b = some o → (upd H d (.frz od (.dK ws))) b = some o := fun b o hb e => by rw [upd_ne hb]; exact e
    have back : ∀ b, (upd H d (.frz od (.dK ws))) b = none → H b = none := fun b e => by
      by_cases hb : b = d
      · rw [hb, upd_same] at e
        cases e
      · rwa [upd_ne hb] at e
    obtain ⟨H0, eH0⟩ : ∃ H0 : Hp, ∀ b, (H0 b = (upd H d (.frz od (.dK ws))) b ∧ ¬ (b ∈ O ∧ b ∉ c.O0)) ∨ (H0 b = none ∧ b ∈ O ∧ b ∉ c.O0) := by
      classical
      refine ⟨fun b => if b ∈ O ∧ b ∉ c.O0 then none else (upd H d (.frz od (.dK ws))) b, fun b => ?_⟩
      by_cases z : b ∈ O ∧ b ∉ c.O0
      · exact .inr ⟨if_pos z, z⟩
      · exact .inl ⟨if_neg z, z⟩
    have h0d : H0 d = some (.frz od (.dK ws)) := by
      rcases eH0 d with ⟨e, _⟩ | ⟨_, z, _⟩
      · rw [e, upd_same]
      · exact absurd z hd
    have h0O : ∀ b, b ∉ O → H0 b = (upd H d (.frz od (.dK ws))) b := fun b hb => by
      rcases eH0 b with ⟨e, _⟩ | ⟨_, z, _⟩
      · exact e
      · exact absurd z hb
    have h00 : ∀ b ∈ c.O0, H0 b = (upd H d (.frz od (.dK ws))) b := fun b hb => by
      rcases eH0 b with ⟨e, _⟩ | ⟨_, _, z⟩
      · exact e
      · exact absurd hb z
    have h0n : ∀ b, b ∈ O → b ∉ c.O0 → H0 b = none := fun b h1 h2 => by
      rcases eH0 b with ⟨_, z⟩ | ⟨e, _⟩
      · exact absurd ⟨h1, h2⟩ z
      · exact e
    have h0s : ∀ b o, H0 b = some o → (upd H d (.frz od (.dK ws))) b = some o := fun b o e => by
      rcases eH0 b with ⟨e1, _⟩ | ⟨e1, _⟩
      · rw [← e1]; exact e
      · rw [e1] at e; cases e
    have own1 : ∀ {p : Addr} {w : Own}, p ∈ O → keptO w = true → OwnAt O H p w → OwnAt O (upd H d (.frz od (.dK ws))) p w := fun {p w} hp hw ho => by
      have pd : p ≠ d := fun z => hd (z ▸ hp)
      cases w with
      | l ds =>
        obtain ⟨vs, h1, h2⟩ := ho
        exact ⟨vs, lk2 _ _ pd h1, RlA.lock lk hw h2⟩
      | d kv =>
        obtain ⟨vs, h1, h2⟩ := ho
        exact ⟨vs, lk2 _ _ pd h1, RlK.lock lk hw h2⟩
      | h f => cases hw
      | i C dx fs => cases hw
    have s1 : DL.St c.F c.O0 H0 (upd H d (.frz od (.dK ws))) om σ (sl' d) O ps := by
      refine ⟨fun b o _ e => h0s b o e, fun a ha => ?_, s.oo, fun a ha => ⟨(s.ff a ha).1, ?_⟩, fun a ha => ?_, s.len, fun k w hk => ?_, s.inj, fun k p hp => ?_, ?_, fun i e he => ?_, ?_, ?_⟩
      · by_cases z : a ∈ c.O0
        · exact .inl z
        · exact .inr (h0n a ha z)
      · rw [h00 a (s.ff a ha).1]
        exact fun z => s.al a (fO a ha) (back a z)
      · exact fun z => s.al a ha (back a z)
      · obtain ⟨p, e1, e2, e3, e4⟩ := s.own k w hk
        exact ⟨p, e1, e2, h0n p e2.1 e2.2, own1 e2.1 (hom k w hk) e4⟩
      · exact fun z => s.pa k p hp (back p z)
      · rcases s.dl with z | ⟨h, a, st, ns, e1, e2, e3, e4, e5⟩
        · exact .inl z
        · have m1 : h ∈ c.F := show h ∈ c.F.a by rw [e1]; exact List.mem_cons_self ..
          have m2 : a ∈ c.F := show a ∈ c.F.a by rw [e1]; exact List.mem_cons_of_mem _ (List.mem_cons_self ..)
          exact .inr ⟨h, a, st, ns, e1, e2, lk2 _ _ (fun z => dF (z ▸ m1)) e3, lk2 _ _ (fun z => dF (z ▸ m2)) e4, e5⟩
      · rcases hsl d i e he with ⟨rfl, rfl⟩ | ⟨h1, h2⟩
        · exact ⟨_, hv, .raw _⟩
        · obtain ⟨v, e1, e2⟩ := s.slots i e h1
          refine ⟨v, e1, ?_⟩
          cases e with
          | v D => exact Rl.lock lk h2 e2
          | l => exact e2
          | o k => exact e2
          | rs n => cases h2
      · rw [hln]
        exact s.ln
      · rcases s.tb with z | ⟨t1, t2⟩
        · exact .inl z
        refine TbOk.step (.inr ⟨t1, t2⟩) (fun b o _ e ⟨q, eo⟩ => lk b o e fun ws z => ?_) (fun q hq => ?_) fun b hb => .inl ⟨hb, upd_ne fun z => hd (z ▸ hb)⟩
        · rw [eo] at z
          unfold LamX.CodeO at z
          cases z
        · refine upd_ne fun z => ?_
          obtain ⟨ps', g1, _⟩ := t1 q hq
          rw [z, hH] at g1
          cases g1
    have fz : Fz ⟨c.F, c.O0, H0, c.K⟩ d kvs := ⟨od, ws, O, h0d, hd, dF, fO, s.oo, fun a ha => by
      by_cases z : a ∈ c.O0
      · exact .inl z
      · exact .inr (h0n a ha z), (RlK.lock lk hkv hk).ext ⟨fun b o hb e => (h0O b hb).trans e, fun p hp => .inl hp⟩⟩
    refine h H0 d fz σ _ O ps s1 _ fun v H' O' ps' e om' g s' r ⟨ho, D, eD, p⟩ => ?_
    subst ho eD
    have h'd : H' d = some (.frz od (.dK ws)) := s'.en d _ dF h0d
    have fr : ∀ b o, H' b = some o → (∀ od ws, o ≠ .frz od (.dK ws)) → (upd H' d (.dK ws)) b = some o := fun b o e n => by
      by_cases hb : b = d
      · rw [hb, h'd] at e
        exact absurd (Option.some.inj e).symm (n _ _)
      · rw [upd_ne hb]
        exact e
    have fr2 : ∀ b o, b ≠ d → H' b = some o → (upd H' d (.dK ws)) b = some o := fun b o hb e => by rw [upd_ne hb]; exact e
    have nn : ∀ b, H' b ≠ none → (upd H' d (.dK ws)) b ≠ none := fun b e => by
      by_cases hb : b = d
      · rw [hb, upd_same]
        exact (fun z => nomatch z)
      · rw [upd_ne hb]
        exact e
    have dO' : d ∉ O' := g.ex.out hd (by rw [upd_same]; exact (fun z => nomatch z))
    have kp : ∀ b o, b ∉ O → H b = some o → (upd H' d (.dK ws)) b = some o := fun b o hb e => by
      by_cases hbd : b = d
      · rw [hbd, hH] at e
        rw [hbd, upd_same]
        exact e
      · exact fr2 b o hbd (g.ex.keep b o hb (lk2 b o hbd e))
    have g2 : Go O ps H O' ps' (upd H' d (.dK ws)) := ⟨⟨kp, fun p hp => by
      rcases g.ex.sub p hp with y | y
      · exact .inl y
      · exact .inr (back p y)⟩, g.pre⟩
    have s2 : DL.St c.F c.O0 c.H0 (upd H' d (.dK ws)) om' σ sl O' ps' := by
      refine ⟨fun b o hF e => ?_, fun a ha => ?_, s'.oo, s.ff, fun a ha => nn a (s'.al a ha), s'.len, fun k w hk => ?_, s'.inj, fun k p hp => nn p (s'.pa k p hp), ?_, fun i e he => ?_, s.ln, ?_⟩
      · have eH := s.en b o hF e
        by_cases hbd : b = d
        · rw [hbd, hH] at eH
          rw [hbd, upd_same]
          exact eH
        · refine fr2 b o hbd (s'.en b o hF ?_)
          rcases eH0 b with ⟨e1, _⟩ | ⟨_, z1, z2⟩
          · show H0 b = some o
            rw [e1]
            exact lk2 b o hbd eH
          · rcases s.fo b z1 with y | y
            · exact absurd y z2
            · rw [y] at e
              cases e
      · rcases g.ex.sub a ha with y | y
        · exact s.fo a y
        · have hn := back a y
          cases q : c.H0 a with
          | none => exact .inr rfl
          | some o =>
            by_cases hF : a ∈ c.F
            · exact .inl (s.ff a hF).1
            · rw [s.en a o hF q] at hn
              cases hn
      · obtain ⟨p, e1, e2, e3, e4⟩ := s'.own k w hk
        have pd : p ≠ d := fun z => dO' (z ▸ e2.1)
        refine ⟨p, e1, e2, ?_, ?_⟩
        · cases q : c.H0 p with
          | none => rfl
          | some o =>
            exfalso
            rcases s'.fo p e2.1 with y | y
            · exact e2.2 y
            · rcases eH0 p with ⟨e1, _⟩ | ⟨_, z1, z2⟩
              · rw [show H0 p = none from y] at e1
                have hn := back p e1.symm
                by_cases hF : p ∈ c.F
                · exact e2.2 (s.ff p hF).1
                · rw [s.en p o hF q] at hn
                  cases hn
              · rcases s.fo p z1 with y2 | y2
                · exact z2 y2
                · rw [y2] at q
                  cases q
        · cases w with
          | l ds =>
            obtain ⟨vs, h1, h2⟩ := e4
            exact ⟨vs, fr2 _ _ pd h1, RlA.free fr h2⟩
          | d kv =>
            obtain ⟨vs, h1, h2⟩ := e4
            exact ⟨vs, fr2 _ _ pd h1, RlK.free fr h2⟩
          | h f => exact ⟨fr2 _ _ pd e4.1, e4.2⟩
          | i C dx fs =>
            obtain ⟨vs, h1, h2⟩ := e4
            exact ⟨vs, fr2 _ _ pd h1, RlF.free fr h2⟩
      · rcases s'.dl with z | ⟨h, a, st, ns, e1, e2, e3, e4, e5⟩
        · exact .inl z
        · have m1 : h ∈ c.F := show h ∈ c.F.a by rw [show c.F.a = _ from e1]; exact List.mem_cons_self ..
          have m2 : a ∈ c.F := show a ∈ c.F.a by rw [show c.F.a = _ from e1]; exact List.mem_cons_of_mem _ (List.mem_cons_self ..)
          exact .inr ⟨h, a, st, ns, e1, e2, fr2 _ _ (fun z => dF (z ▸ m1)) e3, fr2 _ _ (fun z => dF (z ▸ m2)) e4, e5⟩
      · obtain ⟨v, e1, e2⟩ := s.slots i e he
        exact ⟨v, e1, e2.go g2⟩
      · rcases s'.tb with z | ⟨t1, t2⟩
        · exact .inl z
        refine TbOk.step (.inr ⟨t1, t2⟩) (fun b o _ e ⟨q, eo⟩ => fr b o e fun od u z => ?_) (fun q hq => ?_) fun b hb => .inl ⟨hb, upd_ne fun z => dO' (z ▸ hb)⟩
        · rw [eo] at z
          unfold LamX.CodeO at z
          cases z
        · refine upd_ne fun z => ?_
          obtain ⟨ps', g1, _⟩ := t1 q hq
          rw [z, h'd] at g1
          cases g1
    exact ⟨h'd, k v _ O' ps' (.v D) om' g2 s2 (show Rl O' _ v D from Rl.free fr r) p⟩
/-- its keys -/
def keyDD : Key → D
  | .inl i => .int i
  | .inr x => .str x
theorem key_get {O : List Addr} {H : Hp} : ∀ {ws : List (Key × V)} {kvs : List (Key × D)}, RlK O H ws kvs → ws.map (·.1) = kvs.map (·.1)
  | _, _, .nil => rfl
  | _, _, .cons _ t => by rw [List.map_cons, List.map_cons, key_get t]
theorem wv_keys {d : Addr} {j : Nat} {kvs : List (Key × D)} {P : List D → Prop} (f : Fz c d kvs) (hj : sl[j]? = some (some (.v (.raw (.ref d))))) (p : P (kvs.map fun kv => keyDD kv.1)) : WV c (iKeys (tVar j)) om sl P := fun σ H O ps s R k => by
  obtain ⟨od, ws, fa⟩ := f.at
  obtain ⟨v, hv, rv⟩ := s.slots j _ hj
  cases rv
  have hk := key_get (fa s).2
  have hl : ws.length = kvs.length := by
    have := congrArg List.length hk
    rwa [List.length_map, List.length_map] at this
  refine ⟨_, hv, d, od, rfl, .inl ⟨ws, (fa s).1, ?_⟩⟩
  have hlen : (kvs.map fun kv => keyDD kv.1).length = ws.length := by rw [List.length_map, hl]
  refine k (Itk d od ws) H O ps (fun H => H d = some (.frz od (.dK ws))) (fun i H x H' => H' = H ∧ ∃ k v, ws[i]? = some (k, v) ∧ x = kV k) _ p (Go.refl ..) s (by rw [hlen]; exact walk_keys) (fun H2 O2 ps2 g => g.ex.keep _ _ (fun z => ?_) (fa s).1) fun i H2 O2 ps2 v H3 g al hi hy => ?_
  · rcases s.fo d z with y | y
    · obtain ⟨_, _, O', h1, h2, h3, h4, h5, _⟩ := f
      exact h2 (h5 d y)
    · obtain ⟨_, _, O', h1, _⟩ := f
      rw [h1] at y
      cases y
  · obtain ⟨rfl, kk, u, e1, rfl⟩ := hy
    have e2 : (kvs.map (·.1))[i]? = some kk := by rw [← hk, List.getElem?_map, e1]; rfl
    rw [List.getElem?_map] at e2
    obtain ⟨kv, e3, rfl⟩ := Option.map_eq_some_iff.mp e2
    refine ⟨keyDD kv.1, by rw [List.getElem?_map, e3]; rfl, fun _ _ z => z, ?_⟩
    cases kv.1 with
    | inl i => exact Rl.int i
    | inr x => exact Rl.str x
theorem ev_dgetF {d : Addr} {j : Nat} {kvs : List (Key × D)} {ty : TE} {P : E → Om → Prop} (f : Fz c d kvs) (hj : sl[j]? = some (some (.v (.raw (.ref d)))))
    (h : EV c ty om sl fun y om2 => ∃ D k r, y = .v D ∧ keyD D = some k ∧ valD kvs k = some r ∧ P (.v r) om2) : EV c (tDGet (tVar j) ty) om sl P := fun σ H O ps s Q k => by
  obtain ⟨od, ws, fa⟩ := f.at
  obtain ⟨v, hv, rv⟩ := s.slots j _ hj
  cases rv
  refine ⟨_, hv, h σ H O ps s _ fun u H2 O2 ps2 y om2 g2 s2 r2 ⟨D, kk, r, hy, hk, hvl, p⟩ => ?_⟩
  subst hy
  have eu := key_rl (show Rl O2 H2 u D from r2) hk
  rcases (fa s2).2.val (k := kk) with ⟨_, e⟩ | ⟨v', d', e1, e2, e3⟩
  · rw [hvl] at e
    cases e
  · rw [hvl] at e2
    cases e2
    exact ⟨d, v', rfl, .inl ⟨ws, kk, .inr ⟨od, (fa s2).1⟩, eu, e1.symm⟩, k v' H2 O2 ps2 (.v r) om2 g2 s2 e3 p⟩
end
end DL
set_option Elab.async false
set_option linter.all false
set_option maxRecDepth 100000
set_option maxHeartbeats 4000000
/-! sorted of a list of alike data -/
namespace DL
open PySem PySem.Spec PyProof.Rows L2 STX HL
def leD (a b : D) : Bool := PySem.W.dataLe false D.py a b
def rSortedD (K : PySem.W.Frag) : List V → Hp → VK → Prop := fun vs H Q => ∃ (a : Addr) (bs : List (V × D)), vs = [V.ref a] ∧ SqL K H a (bs.map (·.1)) ∧ (∀ b ∈ bs, Dp K H b.1 b.2.py) ∧ PySem.W.AllAlike (bs.map fun b => b.2.py) ∧ PySem.W.Sortable (bs.map fun b => b.2.py) ∧ bs.length ≤ 1000 ∧ (∀ b ∈ bs, b.2.py.depth ≤ 40) ∧
  ∀ p, H p = none → Q (.ref p) (upd H p (.lst ((bs.mergeSort fun x y => leD x.2 y.2).map (·.1))))
theorem vals_each : ∀ {bs : List (V × D)} {its : List Value}, Vals (bs.map (·.1)) its → PySem.W.EachIs (fun v b => RelV b.1 v) its bs
  | [], _, h => by
    cases h
    exact .nil
  | b :: bs, _, h => by
    cases h with
    | cons h t => exact .cons h (vals_each t)
theorem each_vals : ∀ {bs : List (V × D)} {its : List Value}, PySem.W.EachIs (fun v b => RelV b.1 v) its bs → Vals (bs.map (·.1)) its
  | _, _, .nil => .nil
  | _, _, .cons h t => .cons h (each_vals t)
theorem each_reads {X : Cx} {pins : List (Addr × Obj)} {s : Shared} {σ : L2.St} {H : Hp} (I : Inv X pins σ H s) : ∀ {bs : List (V × D)} {its : List Value}, (∀ b ∈ bs, Dp X.K H b.1 b.2.py) → Vals (bs.map (·.1)) its → PySem.W.EachIs (fun v b => ∃ as, Reads s.heap v b.2.py as) its bs
  | [], _, _, h => by
    cases h
    exact .nil
  | b :: bs, _, hd, h => by
    cases h with
    | cons h t => exact .cons (Dp.reads I _ _ _ (hd b (List.mem_cons_self ..)) h) (each_reads I (fun x hx => hd x (List.mem_cons_of_mem _ hx)) t)
theorem cr_sortedD {X : Cx} (hu : X.A.units + 64 < cLine) : CallR X (.builtin "sorted") (rSortedD X.K) := by
  intro pins s σ H vs us Q I r h
  obtain ⟨a, bs, rfl, hs, hd, hal, hk, hl, hdp, q⟩ := h
  obtain ⟨its, rv, hli, hz⟩ := I.list hs
  rw [Vals.ref1 r]
  have hL : bs.length ≤ sizeLine := Nat.le_trans hl (by decide)
  refine PySem.W.sorted_data (R := fun v b => RelV b.1 v) (enc := fun b : V × D => b.2.py) (bs := bs) hli.isList (vals_each rv) (each_reads I hd rv) hal hk hL (fun b hb => ?_) fun out ho eo => ?_
  · have := hdp b hb
    omega
  · obtain ⟨ep, he'⟩ := PyProof.Rows.sortedAll_at s.heap its out.toArray
    have rv2 := each_vals eo
    refine ⟨.ref _, upd H (s.heap.objs.size + 1) (.lst ((bs.mergeSort fun x y => leD x.2 y.2).map (·.1))), I.laid (t' := s.toks) (fun _ _ => PyProof.Rows.sortedAll_old) (Nat.le_succ _) ⟨?_, out, ep, rv2, he'⟩, rfl, q _ (I.hok.fresh (Nat.le_succ _))⟩
    rw [List.length_map, List.length_mergeSort]
    exact hL
theorem rla_zip {O : List Addr} {H : Hp} : ∀ {vs : List V} {ds : List D}, RlA O H vs ds → ∃ bs : List (V × D), vs = bs.map (·.1) ∧ ds = bs.map (·.2) ∧ ∀ b ∈ bs, Rl O H b.1 b.2
  | _, _, .nil => ⟨[], rfl, rfl, fun b h => nomatch h⟩
  | v :: _, d :: _, .cons h t => by
    obtain ⟨bs, e1, e2, e3⟩ := rla_zip t
    refine ⟨(v, d) :: bs, by rw [List.map_cons, e1], by rw [List.map_cons, e2], fun b hb => ?_⟩
    rcases List.mem_cons.mp hb with y | y
    · rw [y]
      exact h
    · exact e3 b y
theorem zip_rla {O : List Addr} {H : Hp} : ∀ {bs : List (V × D)}, (∀ b ∈ bs, Rl O H b.1 b.2) → RlA O H (bs.map (·.1)) (bs.map (·.2))
  | [], _ => .nil
  | b :: bs, h => .cons (h b (List.mem_cons_self ..)) (zip_rla fun x hx => h x (List.mem_cons_of_mem _ hx))
section
variable {c : Cn} {om : Om} {sl : Sl} {x : E} {P : E → Om → Prop}
theorem cv_sortedD {ds : List D} (hx : dat om x = some (.lst ds)) (hal : PySem.W.AllAlike (ds.map D.py)) (hk : PySem.W.Sortable (ds.map D.py)) (hl : ds.length ≤ 1000) (hok : ∀ d ∈ ds, d.ok = true ∧ d.py.depth ≤ 40) (p : P (.v (.lst (ds.mergeSort leD))) om) : CV c (rSortedD c.K) om sl [x] P := fun σ H O ps s vs r Q k => by
  obtain ⟨v, rfl, rv⟩ := ra1 r
  obtain ⟨a, ws, rfl, h1, h2⟩ := as_l s rv hx
  obtain ⟨bs, rfl, rfl, h3⟩ := rla_zip h2
  rw [List.map_map] at hal hk
  rw [List.length_map] at hl
  refine ⟨a, bs, rfl, sqL h1, fun b hb => (h3 b hb).dp (hok b.2 (List.mem_map_of_mem hb)).1, hal, hk, hl, fun b hb => (hok b.2 (List.mem_map_of_mem hb)).2, fun q hq => ?_⟩
  have e : (bs.mergeSort fun x y => leD x.2 y.2).map (·.2) = (bs.map (·.2)).mergeSort leD := List.map_mergeSort fun _ _ _ _ => rfl
  obtain ⟨s2, g2⟩ := s.new (o := .lst ((bs.mergeSort fun x y => leD x.2 y.2).map (·.1))) hq
  have r2 : RlA O H ((bs.mergeSort fun x y => leD x.2 y.2).map (·.1)) ((bs.mergeSort fun x y => leD x.2 y.2).map (·.2)) := zip_rla fun b hb => h3 b (List.mem_mergeSort.mp hb)
  rw [e] at r2
  exact k _ _ O ps (.v (.lst ((bs.map (·.2)).mergeSort leD))) om g2 s2 (Rl.lst (s.nin hq) upd_same (r2.ext g2.ex)) p
end
end DL
set_option Elab.async false
set_option linter.all false
set_option maxRecDepth 100000
set_option maxHeartbeats 4000000
/-! names as lists of codes -/
namespace NM
open PySem PySem.Spec PyProof.Rows L2 DL
def mkS (z : List Nat) : Str := ⟨z.toArray⟩
theorem mkS_cps (z : List Nat) : (mkS z).cps.toList = z := by simp [mkS]
theorem mkS_len (z : List Nat) : (mkS z).length = z.length := by
  show (mkS z).cps.size = _
  simp [mkS]
theorem mkS_inj {a b : List Nat} (h : mkS a = mkS b) : a = b := by
  rw [← mkS_cps a, h, mkS_cps]
theorem mkS_app (a b : List Nat) : mkS a ++ mkS b = mkS (a ++ b) := by
  show (⟨_⟩ : Str) = _
  unfold mkS
  congr 1
  simp
theorem join_mkS : ∀ zs : List (List Nat), Str.join Str.empty (zs.map mkS) = mkS zs.flatten
  | [] => rfl
  | [z] => by simp [Str.join, mkS]
  | z :: y :: r => by
    have ih := join_mkS (y :: r)
    rw [List.map_cons] at ih
    rw [List.map_cons, List.map_cons, join_cons_cons, ih]
    have e : mkS z ++ Str.empty = mkS z := by
      have h0 : Str.empty = mkS [] := rfl
      rw [h0, mkS_app, List.append_nil]
    rw [e, mkS_app]
    rfl
abbrev chD (c : Nat) : D := .str (mkS [c])
def Codes (z : List Nat) : Prop := ∀ c ∈ z, 97 ≤ c ∧ c ≤ 122
def NameOk (y : Str) : Prop := 1 ≤ y.length ∧ y.length ≤ 8 ∧ Codes y.cps.toList
theorem letters_at : ∀ j, j < 26 → (PySem.Str.ofString "abcdefghijklmnopqrstuvwxyz").cps.toList[j]? = some (97 + j) := by decide
theorem letters_mem : ∀ z ∈ (PySem.Str.ofString "abcdefghijklmnopqrstuvwxyz").cps.toList, 97 ≤ z ∧ z ≤ 122 := by decide
theorem sum_one : ∀ l : List Nat, ((l.map fun c => mkS [c]).map (·.length)).sum = l.length
  | [] => rfl
  | c :: l => by
    rw [List.map_cons, List.map_cons, List.sum_cons, sum_one l, mkS_len, List.length_cons, List.length_cons]
    show 1 + _ = _
    omega
theorem flat_one : ∀ l : List Nat, (l.map fun c => [c]).flatten = l
  | [] => rfl
  | c :: l => by
    rw [List.map_cons, List.flatten_cons, flat_one l]
    rfl
theorem join_one (l : List Nat) : Txt.join (PySem.Str.ofString "") (l.map fun c => mkS [c]) = mkS l := by
  have e : Txt.join (PySem.Str.ofString "") (l.map fun c => mkS [c]) = Str.join Str.empty ((l.map fun c => [c]).map mkS) := by
    rw [List.map_map]
    exact PySem.StrLaws.glued_eq_join Str.empty _
  rw [e, join_mkS, flat_one]
theorem codes_take {z : List Nat} {n : Nat} (h : Codes z) : Codes (z.take n) := fun c hc => h c (List.mem_of_mem_take hc)
theorem codes_app {y z : List Nat} (h : Codes y) (g : Codes z) : Codes (y ++ z) := fun c hc => (List.mem_append.mp hc).elim (h c) (g c)
theorem codes_set {z : List Nat} {n c : Nat} (h : Codes z) (hc : 97 ≤ c ∧ c ≤ 122) : Codes (z.set n c) := fun x hx => by
  rcases List.mem_or_eq_of_mem_set hx with y | y
  · exact h x y
  · rw [y]
    exact hc
/-- the names of the law's timetables: the letter at the place p tells the number up to 26, the one at q the rest -/
def Nmd (n p q first second : Nat) (zs : List (List Nat)) : Prop := ∀ (i : Nat) (z : List Nat), zs[i]? = some z → 1 ≤ z.length ∧ z.length ≤ 8 ∧ Codes z ∧ z[p]? = some (97 + (first + 5 * i) % 26) ∧ (26 < n → z[q]? = some (97 + (second + i / 26) % 26))
theorem nmd_nodup {n p q first second : Nat} {zs : List (List Nat)} (hl : zs.length ≤ n) (hn : n ≤ 600) (h : Nmd n p q first second zs) : zs.Nodup := by
  rw [List.nodup_iff_pairwise_ne, List.pairwise_iff_getElem]
  intro i j hi hj hij e
  obtain ⟨_, _, _, a1, a2⟩ := h i _ (List.getElem?_eq_getElem hi)
  obtain ⟨_, _, _, b1, b2⟩ := h j _ (List.getElem?_eq_getElem hj)
  rw [e, b1] at a1
  have m26 : (first + 5 * i) % 26 = (first + 5 * j) % 26 := by
    injection a1 with a1
    omega
  by_cases c : 26 < n
  · have a3 := a2 c
    rw [e, b2 c] at a3
    injection a3 with a3
    omega
  · omega
theorem names_of {n p q first second : Nat} {zs : List (List Nat)} (hl : zs.length ≤ n) (hn : n ≤ 600) (h : Nmd n p q first second zs) : (zs.map mkS).Nodup ∧ ∀ y ∈ zs.map mkS, NameOk y := by
  refine ⟨?_, fun y hy => ?_⟩
  · have := nmd_nodup hl hn h
    rw [List.nodup_iff_pairwise_ne] at this ⊢
    exact (List.pairwise_map).mpr (this.imp fun hne e => hne (mkS_inj e))
  · obtain ⟨z, hz, rfl⟩ := List.mem_map.mp hy
    obtain ⟨i, hi, ez⟩ := List.getElem_of_mem hz
    obtain ⟨h1, h2, h3, _⟩ := h i z (by rw [List.getElem?_eq_getElem hi, ez])
    exact ⟨by rw [mkS_len]; exact h1, by rw [mkS_len]; exact h2, by rw [mkS_cps]; exact h3⟩
end NM
set_option Elab.async false
set_option linter.all false
set_option maxRecDepth 100000
set_option maxHeartbeats 4000000
/-! plain data: what may be compared and shown -/
namespace DX
open PySem PySem.Spec PyProof.Rows L2 DL NM
/-- no dict, no object; at most n deep, shown in at most b signs -/
def Tw (n b : Nat) (d : D) : Prop := d.ok = true ∧ d.py.canLay0 = true ∧ d.py.showable = true ∧ d.py.hasDict = false ∧ d.py.depth ≤ n ∧ d.py.shown.length ≤ b
theorem Tw.up {n m b e : Nat} {d : D} (h : Tw n b d) (hm : n ≤ m) (he : b ≤ e) : Tw m e d :=
  ⟨h.1, h.2.1, h.2.2.1, h.2.2.2.1, Nat.le_trans h.2.2.2.2.1 hm, Nat.le_trans h.2.2.2.2.2 he⟩
theorem tw_non : Tw 0 4 .non := ⟨rfl, rfl, rfl, rfl, Nat.le_refl _, by decide⟩
theorem tw_bl (b : Bool) : Tw 0 5 (.bl b) := by
  cases b <;> exact ⟨rfl, rfl, rfl, rfl, Nat.le_refl _, by decide⟩
theorem tw_int {i : Int} (h : i.natAbs < 10 ^ 20) : Tw 0 21 (.int i) := by
  refine ⟨rfl, rfl, ?_, rfl, Nat.le_refl _, ?_⟩
  · show decide (i.natAbs.log2 < 1920) = true
    refine decide_eq_true ?_
    by_cases h0 : i.natAbs = 0
    · rw [h0]
      decide
    · exact (Nat.log2_lt h0).mpr (Nat.lt_of_lt_of_le h (by decide))
  · show (Str.ofString (toString i)).length ≤ 21
    rw [PySem.ofString_length]
    exact int_text_length_le10 (a := i) (k := 20) (by decide) h
theorem tw_str {x : Str} (h : ∀ c ∈ x.cps.toList, c < 128) : Tw 0 (10 * x.length + 2) (.str x) := by
  refine ⟨rfl, ?_, rfl, rfl, Nat.le_refl _, ?_⟩
  · show x.cps.all (· < 0x110000) = true
    rw [← Array.all_toList, List.all_eq_true]
    intro c hc
    have := h c hc
    exact decide_eq_true (by omega)
  · exact StrLaws.reprText_len x fun c hc => Nat.lt_of_lt_of_le (h c hc) (by decide)
theorem tw_name {x : Str} (h : NameOk x) : Tw 0 82 (.str x) := by
  obtain ⟨h1, h2, h3⟩ := h
  exact (tw_str fun c hc => by have := h3 c hc; omega).up (Nat.le_refl _) (by omega)
theorem tw_all {n b : Nat} : ∀ {xs : List D}, (∀ x ∈ xs, Tw n b x) → D.okA xs = true ∧ PyData.canLayAll0 (D.pyA xs) = true ∧ PyData.showableAll (D.pyA xs) = true ∧ PyData.hasDictAll (D.pyA xs) = false ∧ PyData.depthAll (D.pyA xs) ≤ n ∧ ((PyData.shownAll (D.pyA xs)).map (·.length)).sum ≤ xs.length * b ∧ (PyData.shownAll (D.pyA xs)).length = xs.length
  | [], _ => ⟨rfl, rfl, rfl, rfl, Nat.zero_le _, Nat.zero_le _, rfl⟩
  | x :: xs, h => by
    obtain ⟨h1, h0, h2, h3, h4, h5⟩ := h x List.mem_cons_self
    obtain ⟨g1, g0, g2, g3, g4, g5, g6⟩ := tw_all (n := n) (b := b) (xs := xs) fun y hy => h y (List.mem_cons_of_mem _ hy)
    refine ⟨?_, ?_, ?_, ?_, ?_, ?_, ?_⟩
    · unfold D.okA
      rw [h1, g1]
      rfl
    · unfold D.pyA PyData.canLayAll0
      rw [h0, g0]
      rfl
    · unfold D.pyA PyData.showableAll
      rw [h2, g2]
      rfl
    · unfold D.pyA PyData.hasDictAll
      rw [h3, g3]
      rfl
    · unfold D.pyA PyData.depthAll
      exact Nat.max_le.mpr ⟨h4, g4⟩
    · unfold D.pyA PyData.shownAll
      rw [List.map_cons, List.sum_cons, List.length_cons, Nat.add_mul, Nat.one_mul]
      omega
    · unfold D.pyA PyData.shownAll
      rw [List.length_cons, List.length_cons, g6]
theorem tw_lst {n b : Nat} {xs : List D} (h : ∀ x ∈ xs, Tw n b x) : Tw (n + 1) (xs.length * b + 2 * xs.length + 3) (.lst xs) := by
  obtain ⟨g1, g0, g2, g3, g4, g5, g6⟩ := tw_all h
  have e := listText_len_le (PyData.shownAll (D.pyA xs))
  rw [g6] at e
  refine ⟨by unfold D.ok; exact g1, by unfold D.py PyData.canLay0; exact g0, by unfold D.py PyData.showable; exact g2, by unfold D.py PyData.hasDict; exact g3, by unfold D.py PyData.depth; omega, ?_⟩
  unfold D.py PyData.shown
  omega
theorem tw_tup {n b : Nat} {xs : List D} (h : ∀ x ∈ xs, Tw n b x) : Tw (n + 1) (xs.length * b + 2 * xs.length + 3) (.tup xs) := by
  obtain ⟨g1, g0, g2, g3, g4, g5, g6⟩ := tw_all h
  have e := tupleText_len_le (PyData.shownAll (D.pyA xs))
  rw [g6] at e
  refine ⟨by unfold D.ok; exact g1, by unfold D.py PyData.canLay0; exact g0, by unfold D.py PyData.showable; exact g2, by unfold D.py PyData.hasDict; exact g3, by unfold D.py PyData.depth; omega, ?_⟩
  unfold D.py PyData.shown
  omega
theorem Tw.fits {n b : Nat} {d : D} (h : Tw n b d) (hn : n ≤ 40) (hb : b ≤ 16777216) : d.fits :=
  ⟨h.1, h.2.2.1, h.2.2.2.1, Nat.le_trans h.2.2.2.2.1 hn, Nat.le_trans h.2.2.2.2.2 (by rw [sizeLine_eq]; exact hb)⟩
theorem Tw.shaped {n b : Nat} {d : D} (h : Tw n b d) (hn : n ≤ 64) : SeqAt.shaped d.py = true := by
  unfold SeqAt.shaped
  rw [h.2.1, decide_eq_true (Nat.le_trans h.2.2.2.2.1 hn)]
  rfl
theorem Tw.refl {n b : Nat} {d : D} (h : Tw n b d) : PyData.eqv d.py d.py = true := SeqAt.eqv_refl d.py h.2.1
theorem eqv_nilD (ds : List D) : PyData.eqv (D.lst ds).py (D.lst []).py = ds.isEmpty := by
  cases ds <;> simp [D.py, D.pyA, PyData.eqv, PyData.eqvAll]
theorem tw_nil : Tw 1 3 (.lst []) := tw_lst (n := 0) (b := 0) fun x hx => by simp at hx
section
variable {c : Cn} {om : Om} {sl : Sl} {P : E → Om → Prop} {x y : E}
/-- == of plain data -/
theorem ov_eqT {n b m e : Nat} {d f : D} (hx : dat om x = some d) (hy : dat om y = some f) (h1 : Tw n b d) (h2 : Tw m e f) (hn : n ≤ 64) (hm : m ≤ 64) (p : P (.v (.bl (PyData.eqv d.py f.py))) om) : OV c (rEqU c.K) om sl x y P :=
  ov_eqD hx hy h1.1 h2.1 (h1.shaped hn) (h2.shaped hm) p
theorem ov_neT {n b m e : Nat} {d f : D} (hx : dat om x = some d) (hy : dat om y = some f) (h1 : Tw n b d) (h2 : Tw m e f) (hn : n ≤ 64) (hm : m ≤ 64) (p : P (.v (.bl (!PyData.eqv d.py f.py))) om) : OV c (rNeU c.K) om sl x y P :=
  ov_neD hx hy h1.1 h2.1 (h1.shaped hn) (h2.shaped hm) p
/-- the same on both sides -/
theorem ov_neSame {n b : Nat} {d : D} (hx : dat om x = some d) (hy : dat om y = some d) (h1 : Tw n b d) (hn : n ≤ 64) (p : P (.v (.bl false)) om) : OV c (rNeU c.K) om sl x y P :=
  ov_neT hx hy h1 h1 hn hn (by rw [h1.refl]; exact p)
theorem ov_eqSame {n b : Nat} {d : D} (hx : dat om x = some d) (hy : dat om y = some d) (h1 : Tw n b d) (hn : n ≤ 64) (p : P (.v (.bl true)) om) : OV c (rEqU c.K) om sl x y P :=
  ov_eqT hx hy h1 h1 hn hn (by rw [h1.refl]; exact p)
/-- xs != [] -/
theorem ov_neNil {n b : Nat} {ds : List D} (hx : dat om x = some (.lst ds)) (hy : dat om y = some (.lst [])) (h1 : Tw n b (.lst ds)) (hn : n ≤ 64) (p : P (.v (.bl (!ds.isEmpty))) om) : OV c (rNeU c.K) om sl x y P :=
  ov_neT hx hy h1 tw_nil hn (by decide) (by rw [eqv_nilD]; exact p)
theorem ov_eqNil {n b : Nat} {ds : List D} (hx : dat om x = some (.lst ds)) (hy : dat om y = some (.lst [])) (h1 : Tw n b (.lst ds)) (hn : n ≤ 64) (p : P (.v (.bl ds.isEmpty)) om) : OV c (rEqU c.K) om sl x y P :=
  ov_eqT hx hy h1 tw_nil hn (by decide) (by rw [eqv_nilD]; exact p)
theorem cv_reprT {n b : Nat} {d : D} (hx : dat om x = some d) (h : Tw n b d) (hn : n ≤ 40) (hb : b ≤ 16777216) (p : P (.v (.str d.py.shown)) om) : CV c (LR.rRepr c.K) om sl [x] P := cv_repr hx (h.fits hn hb) p
end
end DX
set_option Elab.async false
set_option linter.all false
set_option maxRecDepth 100000
set_option maxHeartbeats 4000000
/-! timetables -/
namespace TT
open PySem PySem.Spec PyProof.Rows L2 DL NM DX
/-- a coming (true) or a going of a box -/
abbrev Ev := Bool × Str
abbrev evD (e : Ev) : D := .tup [.str (if e.1 = true then PySem.Str.ofString "in" else PySem.Str.ofString "out"), .str e.2]
def delS (l : List Str) (b : Str) : List Str := l.filter fun x => !decide (x = b)
def stepS (l : List Str) (e : Ev) : List Str := if e.1 = true then l ++ [e.2] else delS l e.2
def thereOf (evs : List Ev) : List Str := evs.foldl stepS []
def cameOf (evs : List Ev) : List Str := (evs.filter (·.1)).map (·.2)
def StepOk (room : Nat) (pre : List Ev) (e : Ev) : Prop := NameOk e.2 ∧ (e.1 = true → e.2 ∉ cameOf pre ∧ (thereOf pre).length < room) ∧ (e.1 = false → e.2 ∈ thereOf pre)
def TtOk (room : Nat) (evs : List Ev) : Prop := ∀ (i : Nat) (e : Ev), evs[i]? = some e → StepOk room (evs.take i) e
theorem thereOf_snoc (evs : List Ev) (e : Ev) : thereOf (evs ++ [e]) = stepS (thereOf evs) e := by
  unfold thereOf
  rw [List.foldl_append]
  rfl
theorem cameOf_snoc (evs : List Ev) (e : Ev) : cameOf (evs ++ [e]) = if e.1 = true then cameOf evs ++ [e.2] else cameOf evs := by
  unfold cameOf
  rw [List.filter_append, List.map_append, List.filter_cons]
  by_cases h : e.1 = true
  · rw [if_pos h, if_pos h]
    rfl
  · rw [if_neg h, if_neg h]
    simp
theorem ttOk_nil (room : Nat) : TtOk room [] := fun i e h => by simp at h
theorem ttOk_snoc {room : Nat} {evs : List Ev} {e : Ev} (h : TtOk room evs) (s : StepOk room evs e) : TtOk room (evs ++ [e]) := fun i x hx => by
  by_cases c : i < evs.length
  · rw [List.getElem?_append_left c] at hx
    rw [List.take_append_of_le_length (by omega)]
    exact h i x hx
  · rw [List.getElem?_append_right (by omega)] at hx
    have i0 : i - evs.length = 0 := by
      have := (List.getElem?_eq_some_iff.mp hx).1
      simp at this
      omega
    rw [i0] at hx
    cases hx
    have : i = evs.length := by
      omega
    subst this
    rw [List.take_left']
    · exact s
    · rfl
theorem TtOk.take {room : Nat} {evs : List Ev} (h : TtOk room evs) (n : Nat) : TtOk room (evs.take n) := fun i e he => by
  have hi : i < n := by
    have := (List.getElem?_eq_some_iff.mp he).1
    rw [List.length_take] at this
    omega
  rw [List.getElem?_take_of_lt hi] at he
  rw [List.take_take, Nat.min_eq_left (by omega)]
  exact h i e he
theorem delS_sub {l : List Str} {b x : Str} (h : x ∈ delS l b) : x ∈ l := (List.mem_filter.mp h).1
theorem mem_delS {l : List Str} {b x : Str} : x ∈ delS l b ↔ x ∈ l ∧ x ≠ b := by
  unfold delS
  rw [List.mem_filter]
  constructor
  · rintro ⟨h, e⟩
    exact ⟨h, fun z => by rw [decide_eq_true z] at e; cases e⟩
  · rintro ⟨h, e⟩
    exact ⟨h, by rw [decide_eq_false e]; rfl⟩
/-- what holds of each state -/
structure TtInv (room : Nat) (evs : List Ev) : Prop where
  there : (thereOf evs).Nodup
  came : (cameOf evs).Nodup
  sub : ∀ b ∈ thereOf evs, b ∈ cameOf evs
  names : ∀ b ∈ cameOf evs, NameOk b
  room : (thereOf evs).length ≤ room
theorem inv_nil (room : Nat) : TtInv room [] := ⟨List.nodup_nil, List.nodup_nil, (fun b h => by cases h), (fun b h => by cases h), Nat.zero_le _⟩
theorem inv_snoc {room : Nat} {evs : List Ev} {e : Ev} (h : TtInv room evs) (s : StepOk room evs e) : TtInv room (evs ++ [e]) := by
  obtain ⟨s1, s2, s3⟩ := s
  refine ⟨?_, ?_, ?_, ?_, ?_⟩
  · rw [thereOf_snoc]
    unfold stepS
    split
    · rename_i c
      rw [List.nodup_append]
      refine ⟨h.there, by simp, fun a ha b hb z => ?_⟩
      rw [List.mem_singleton] at hb
      subst hb
      subst z
      exact (s2 c).1 (h.sub _ ha)
    · exact h.there.filter _
  · rw [cameOf_snoc]
    split
    · rename_i c
      rw [List.nodup_append]
      refine ⟨h.came, by simp, fun a ha b hb z => ?_⟩
      rw [List.mem_singleton] at hb
      subst hb
      subst z
      exact (s2 c).1 ha
    · exact h.came
  · rw [thereOf_snoc, cameOf_snoc]
    unfold stepS
    intro b hb
    split
    · rename_i c
      rw [if_pos c] at hb
      rw [List.mem_append] at hb ⊢
      exact hb.imp (h.sub b) id
    · rename_i c
      rw [if_neg c] at hb
      exact h.sub b (delS_sub hb)
  · rw [cameOf_snoc]
    intro b hb
    split at hb
    · rcases List.mem_append.mp hb with hb | hb
      · exact h.names b hb
      · rw [List.mem_singleton.mp hb]
        exact s1
    · exact h.names b hb
  · rw [thereOf_snoc]
    unfold stepS
    split
    · rename_i c
      rw [List.length_append]
      exact (s2 c).2
    · exact Nat.le_trans (List.length_filter_le _ _) h.room
theorem ttOk_inv {room : Nat} : ∀ (n : Nat) {evs : List Ev}, evs.length = n → TtOk room evs → TtInv room evs
  | 0, evs, hn, h => by
    have : evs = [] := List.eq_nil_of_length_eq_zero hn
    subst this
    exact inv_nil room
  | n + 1, evs, hn, h => by
    have he : evs[n]? = some (evs[n]'(by omega)) := List.getElem?_eq_getElem _
    have e : evs = evs.take n ++ [evs[n]'(by omega)] := by
      rw [List.take_append_getElem, List.take_of_length_le (by omega)]
    have i1 := ttOk_inv n (by rw [List.length_take]; omega) (h.take n)
    have := inv_snoc i1 (h n _ he)
    rw [← e] at this
    exact this
theorem TtOk.inv {room : Nat} {evs : List Ev} (h : TtOk room evs) : TtInv room evs := ttOk_inv _ rfl h
/-- a list without doubles, less what stands at one place -/
theorem erase_delS : ∀ {l : List Str} {j : Nat} {b : Str}, l.Nodup → l[j]? = some b → l.eraseIdx j = delS l b
  | x :: l, 0, b, hn, h => by
    have e : x = b := by simpa using h
    subst e
    have hx := (List.nodup_cons.mp hn).1
    rw [List.eraseIdx_cons_zero]
    unfold delS
    rw [List.filter_cons, if_neg (by rw [decide_eq_true rfl]; exact fun z => nomatch z)]
    exact (List.filter_eq_self.mpr fun y hy => by
      have ne : ¬ y = x := fun z => hx (z ▸ hy)
      rw [decide_eq_false ne]
      rfl).symm
  | x :: l, j + 1, b, hn, h => by
    have hb : l[j]? = some b := by simpa using h
    have hn' := List.nodup_cons.mp hn
    have ne : ¬ x = b := fun z => hn'.1 (z ▸ List.mem_of_getElem? hb)
    rw [List.eraseIdx_cons_succ, erase_delS hn'.2 hb]
    unfold delS
    rw [List.filter_cons, if_pos (by rw [decide_eq_false ne]; rfl)]
theorem tw_ev {e : Ev} (h : NameOk e.2) : Tw 1 175 (evD e) := by
  have h1 := tw_name h
  have h2 : Tw 0 82 (D.str (if e.1 = true then PySem.Str.ofString "in" else PySem.Str.ofString "out")) := by
    split
    · exact (tw_str (by decide)).up (Nat.le_refl _) (by decide)
    · exact (tw_str (by decide)).up (Nat.le_refl _) (by decide)
  refine (tw_tup (n := 0) (b := 82) fun x hx => ?_).up (Nat.le_refl _) (by show 2 * 82 + 2 * 2 + 3 ≤ 175; decide)
  rcases List.mem_cons.mp hx with y | y
  · rw [y]
    exact h2
  · rw [List.mem_singleton.mp y]
    exact h1
/-! the numbers of free places -/
def stepF (c : Int) (e : Ev) : Int := if e.1 = true then c - 1 else c + 1
def freesFrom (c : Int) : List Ev → List Int
  | [] => []
  | e :: r => stepF c e :: freesFrom (stepF c e) r
def freesOf (room : Int) (evs : List Ev) : List Int := room :: freesFrom room evs
theorem freesFrom_snoc : ∀ (evs : List Ev) (c : Int) (e : Ev), freesFrom c (evs ++ [e]) = freesFrom c evs ++ [stepF (evs.foldl stepF c) e]
  | [], c, e => rfl
  | x :: r, c, e => by
    rw [List.cons_append]
    show stepF c x :: freesFrom (stepF c x) (r ++ [e]) = _
    rw [freesFrom_snoc r]
    rfl
theorem freesFrom_len : ∀ (evs : List Ev) (c : Int), (freesFrom c evs).length = evs.length
  | [], _ => rfl
  | _ :: r, c => congrArg (· + 1) (freesFrom_len r _)
theorem freesOf_len (room : Int) (evs : List Ev) : (freesOf room evs).length = evs.length + 1 := by
  unfold freesOf
  rw [List.length_cons, freesFrom_len]
theorem freesOf_snoc (room : Int) (evs : List Ev) (e : Ev) : freesOf room (evs ++ [e]) = freesOf room evs ++ [stepF (evs.foldl stepF room) e] := by
  unfold freesOf
  rw [freesFrom_snoc]
  rfl
theorem frees_last : ∀ (evs : List Ev) (c : Int), ∃ l, freesOf c evs = l ++ [evs.foldl stepF c]
  | [], c => ⟨[], rfl⟩
  | e :: r, c => by
    obtain ⟨l, h⟩ := frees_last r (stepF c e)
    refine ⟨c :: l, ?_⟩
    show c :: (stepF c e :: freesFrom (stepF c e) r) = _
    have h' : stepF c e :: freesFrom (stepF c e) r = l ++ [r.foldl stepF (stepF c e)] := h
    rw [h']
    rfl
end TT
set_option Elab.async false
set_option linter.all false
set_option maxRecDepth 100000
set_option maxHeartbeats 4000000
/-! the stretches of a row of numbers -/
namespace RO
open PySem PySem.Spec PyProof.Rows L2 DL NM DX TT
abbrev rwD (r : Int × Int) : D := .tup [.int r.1, .int r.2]
def rowStep (c : Int) (found : List (Int × Int)) (q : Int × Nat) : List (Int × Int) :=
  if q.1 ≤ c then (match found.getLast? with
    | some r => if r.2 = (q.2 : Int) - 1 then found.dropLast ++ [(r.1, (q.2 : Int))] else found ++ [((q.2 : Int), (q.2 : Int))]
    | none => [((q.2 : Int), (q.2 : Int))]) else found
def rowsTo (counts : List Int) (c : Int) (n : Nat) : List (Int × Int) := (counts.zipIdx.take n).foldl (rowStep c) []
def rowsOf (counts : List Int) (c : Int) : List (Int × Int) := rowsTo counts c counts.length
theorem zip_get {l : List Int} {n : Nat} {x : Int} (h : l[n]? = some x) : l.zipIdx[n]? = some (x, n) := by
  rw [List.getElem?_zipIdx, h]
  simp
theorem rowsTo_succ {counts : List Int} {c : Int} {n : Nat} {x : Int} (h : counts[n]? = some x) : rowsTo counts c (n + 1) = rowStep c (rowsTo counts c n) (x, n) := by
  unfold rowsTo
  rw [List.take_succ, zip_get h, List.foldl_append]
  rfl
theorem rowStep_no {c : Int} {found : List (Int × Int)} {x : Int} {n : Nat} (h : ¬ x ≤ c) : rowStep c found (x, n) = found := if_neg h
theorem rowStep_nil {c : Int} {x : Int} {n : Nat} (h : x ≤ c) : rowStep c [] (x, n) = [((n : Int), (n : Int))] := if_pos h
theorem rowStep_on {c : Int} {fr : List (Int × Int)} {r : Int × Int} {x : Int} {n : Nat} (h : x ≤ c) (e : r.2 = (n : Int) - 1) : rowStep c (fr ++ [r]) (x, n) = fr ++ [(r.1, (n : Int))] := by
  unfold rowStep
  rw [if_pos h, List.getLast?_concat]
  dsimp only
  rw [if_pos e, List.dropLast_concat]
theorem rowStep_new {c : Int} {fr : List (Int × Int)} {r : Int × Int} {x : Int} {n : Nat} (h : x ≤ c) (e : ¬ r.2 = (n : Int) - 1) : rowStep c (fr ++ [r]) (x, n) = fr ++ [r] ++ [((n : Int), (n : Int))] := by
  unfold rowStep
  rw [if_pos h, List.getLast?_concat]
  dsimp only
  rw [if_neg e]
/-- up to n: what the rows are -/
structure RInv (counts : List Int) (c : Int) (n : Nat) (rows : List (Int × Int)) : Prop where
  apart : rows.Pairwise fun a b => a.2 + 1 < b.1
  row : ∀ r ∈ rows, 0 ≤ r.1 ∧ r.1 ≤ r.2 ∧ r.2 < (n : Int) ∧ ∀ (i : Nat) (x : Int), r.1 ≤ (i : Int) → (i : Int) ≤ r.2 → counts[i]? = some x → x ≤ c
  all : ∀ (i : Nat) (x : Int), i < n → counts[i]? = some x → x ≤ c → ∃ r ∈ rows, r.1 ≤ (i : Int) ∧ (i : Int) ≤ r.2
theorem rinv {counts : List Int} {c : Int} : ∀ n, n ≤ counts.length → RInv counts c n (rowsTo counts c n)
  | 0, _ => ⟨List.Pairwise.nil, (fun r h => nomatch h), fun i x h => by omega⟩
  | n + 1, hn => by
    have ih := rinv (counts := counts) (c := c) n (by omega)
    have hx : counts[n]? = some (counts[n]'(by omega)) := List.getElem?_eq_getElem _
    generalize counts[n]'(by omega) = x at hx
    rw [rowsTo_succ hx]
    by_cases h : x ≤ c
    · rcases List.eq_nil_or_concat (rowsTo counts c n) with e | ⟨fr, r, e⟩
      · rw [e] at ih ⊢
        rw [rowStep_nil h]
        refine ⟨List.pairwise_singleton .., fun r hr => ?_, fun i y hi hy hc => ?_⟩
        · rw [List.mem_singleton.mp hr]
          refine ⟨by omega, by omega, by show (n : Int) < _; omega, fun i y h1 h2 hy => ?_⟩
          have : i = n := by
            have h1' : (n : Int) ≤ i := h1
            have h2' : (i : Int) ≤ n := h2
            omega
          subst this
          rw [hx] at hy
          cases hy
          exact h
        · by_cases c : i = n
          · exact ⟨_, List.mem_singleton.mpr rfl, by show (n : Int) ≤ i; omega, by show (i : Int) ≤ n; omega⟩
          · obtain ⟨r, hr, _⟩ := ih.all i y (by omega) hy hc
            cases hr
      · have e' : rowsTo counts c n = fr ++ [r] := by simpa using e
        rw [e'] at ih ⊢
        have hr := ih.row r (by simp)
        have hp := List.pairwise_append.mp ih.apart
        by_cases on : r.2 = (n : Int) - 1
        · rw [rowStep_on h on]
          refine ⟨?_, fun q hq => ?_, fun i y hi hy hc => ?_⟩
          · rw [List.pairwise_append]
            refine ⟨hp.1, List.pairwise_singleton .., fun a ha b hb => ?_⟩
            rw [List.mem_singleton.mp hb]
            exact hp.2.2 a ha r (by simp)
          · rcases List.mem_append.mp hq with hq | hq
            · have := ih.row q (by simp [hq])
              exact ⟨this.1, this.2.1, by omega, this.2.2.2⟩
            · rw [List.mem_singleton.mp hq]
              refine ⟨hr.1, by show r.1 ≤ (n : Int); omega, by show (n : Int) < _; omega, fun i y h1 h2 hy => ?_⟩
              by_cases c : i = n
              · subst c
                rw [hx] at hy
                cases hy
                exact h
              · exact hr.2.2.2 i y h1 (by have h2' : (i : Int) ≤ n := h2; omega) hy
          · by_cases c : i = n
            · exact ⟨(r.1, (n : Int)), by simp, by show r.1 ≤ (i : Int); omega, by show (i : Int) ≤ n; omega⟩
            · obtain ⟨q, hq, h1, h2⟩ := ih.all i y (by omega) hy hc
              rcases List.mem_append.mp hq with hq | hq
              · exact ⟨q, by simp [hq], h1, h2⟩
              · rw [List.mem_singleton.mp hq] at h1 h2
                exact ⟨(r.1, (n : Int)), by simp, h1, by show (i : Int) ≤ n; omega⟩
        · rw [rowStep_new h on]
          refine ⟨?_, fun q hq => ?_, fun i y hi hy hc => ?_⟩
          · rw [List.pairwise_append]
            refine ⟨ih.apart, List.pairwise_singleton .., fun a ha b hb => ?_⟩
            rw [List.mem_singleton.mp hb]
            show a.2 + 1 < (n : Int)
            rcases List.mem_append.mp ha with ha | ha
            · have := hp.2.2 a ha r (by simp)
              omega
            · rw [List.mem_singleton.mp ha]
              omega
          · rcases List.mem_append.mp hq with hq | hq
            · have := ih.row q hq
              exact ⟨this.1, this.2.1, by omega, this.2.2.2⟩
            · rw [List.mem_singleton.mp hq]
              refine ⟨by show (0 : Int) ≤ n; omega, by show (n : Int) ≤ n; omega, by show (n : Int) < _; omega, fun i y h1 h2 hy => ?_⟩
              have : i = n := by
                have h1' : (n : Int) ≤ i := h1
                have h2' : (i : Int) ≤ n := h2
                omega
              subst this
              rw [hx] at hy
              cases hy
              exact h
          · by_cases c : i = n
            · exact ⟨((n : Int), (n : Int)), by simp, by show (n : Int) ≤ i; omega, by show (i : Int) ≤ n; omega⟩
            · obtain ⟨q, hq, h1, h2⟩ := ih.all i y (by omega) hy hc
              exact ⟨q, List.mem_append_left _ hq, h1, h2⟩
    · rw [rowStep_no h]
      refine ⟨ih.apart, fun r hr => ?_, fun i y hi hy hc => ?_⟩
      · have := ih.row r hr
        exact ⟨this.1, this.2.1, by omega, this.2.2.2⟩
      · by_cases e : i = n
        · subst e
          rw [hx] at hy
          cases hy
          exact absurd hc h
        · exact ih.all i y (by omega) hy hc
theorem rows_inv (counts : List Int) (c : Int) : RInv counts c counts.length (rowsOf counts c) := rinv _ (Nat.le_refl _)
theorem rowsTo_len {counts : List Int} {c : Int} : ∀ n, n ≤ counts.length → (rowsTo counts c n).length ≤ n
  | 0, _ => Nat.le_refl _
  | n + 1, hn => by
    have ih := rowsTo_len (counts := counts) (c := c) n (by omega)
    have hx : counts[n]? = some (counts[n]'(by omega)) := List.getElem?_eq_getElem _
    generalize counts[n]'(by omega) = x at hx
    rw [rowsTo_succ hx]
    by_cases h : x ≤ c
    · rcases List.eq_nil_or_concat (rowsTo counts c n) with e | ⟨fr, r, e⟩
      · rw [e, rowStep_nil h]
        exact Nat.succ_le_succ (Nat.zero_le _)
      · have e' : rowsTo counts c n = fr ++ [r] := by simpa using e
        rw [e'] at ih ⊢
        rw [List.length_append] at ih
        by_cases on : r.2 = (n : Int) - 1
        · rw [rowStep_on h on, List.length_append]
          show _ + 1 ≤ _
          have : fr.length + 1 ≤ n := ih
          omega
        · rw [rowStep_new h on, List.length_append, List.length_append]
          show _ + 1 + 1 ≤ _
          have : fr.length + 1 ≤ n := ih
          omega
    · rw [rowStep_no h]
      omega
theorem rowsOf_len (counts : List Int) (c : Int) : (rowsOf counts c).length ≤ counts.length := rowsTo_len _ (Nat.le_refl _)
/-- just one of a list without twins -/
theorem one_of {α : Type} {p : α → Bool} {R : α → α → Prop} (hR : ∀ a b, R a b → p a = true → p b = true → False) : ∀ {l : List α}, l.Pairwise R → (∃ a ∈ l, p a = true) → (l.filter p).length = 1
  | x :: l, h, ⟨a, ha, hp⟩ => by
    have h' := List.pairwise_cons.mp h
    by_cases e : p x = true
    · rw [List.filter_cons, if_pos e]
      have : l.filter p = [] := List.filter_eq_nil_iff.mpr fun b hb hpb => hR x b (h'.1 b hb) e hpb
      rw [this]
      rfl
    · rw [List.filter_cons, if_neg e]
      refine one_of hR h'.2 ⟨a, ?_, hp⟩
      rcases List.mem_cons.mp ha with y | y
      · rw [y] at hp
        exact absurd hp e
      · exact y
/-- each stretch lies within just one of a greater cover -/
theorem rows_within {counts : List Int} {c : Int} {r : Int × Int} (hr : r ∈ rowsOf counts c) : ((rowsOf counts (c + 1)).filter fun q => decide (q.1 ≤ r.1) && decide (r.2 ≤ q.2)).length = 1 := by
  have i1 := rows_inv counts c
  have i2 := rows_inv counts (c + 1)
  obtain ⟨r0, r1, r2, r3⟩ := i1.row r hr
  obtain ⟨f, hf⟩ : ∃ f : Nat, r.1 = f := ⟨r.1.toNat, by omega⟩
  have at_ : ∀ i : Nat, (i : Int) < counts.length → ∃ x, counts[i]? = some x := fun i hi => ⟨counts[i]'(by omega), List.getElem?_eq_getElem _⟩
  obtain ⟨x, hx⟩ := at_ f (by omega)
  have xc := r3 f x (by omega) (by omega) hx
  obtain ⟨q, hq, q1, q2⟩ := i2.all f x (by omega) hx (by omega)
  refine one_of (R := fun a b => a.2 + 1 < b.1) (fun a b hab ha hb => ?_) i2.apart ⟨q, hq, ?_⟩
  · simp only [Bool.and_eq_true, decide_eq_true_eq] at ha hb
    omega
  · simp only [Bool.and_eq_true, decide_eq_true_eq]
    refine ⟨by omega, ?_⟩
    by_cases z : r.2 ≤ q.2
    · exact z
    · obtain ⟨m, hm⟩ : ∃ m : Nat, q.2 + 1 = m := ⟨(q.2 + 1).toNat, by omega⟩
      obtain ⟨y, hy⟩ := at_ m (by omega)
      have yc := r3 m y (by omega) (by omega) hy
      obtain ⟨p, hp, p1, p2⟩ := i2.all m y (by omega) hy (by omega)
      have ne : q ≠ p := fun e => by
        subst e
        omega
      have hq' := i2.row q hq
      have hp' := i2.row p hp
      have ord : ∀ (l : List (Int × Int)), l.Pairwise (fun a b => a.2 + 1 < b.1) → q ∈ l → p ∈ l → q.2 + 1 < p.1 ∨ p.2 + 1 < q.1 := fun l => by
        induction l with
        | nil => exact fun _ h => nomatch h
        | cons a l ih =>
          intro hl h1 h2
          have hl' := List.pairwise_cons.mp hl
          rcases List.mem_cons.mp h1 with e1 | e1 <;> rcases List.mem_cons.mp h2 with e2 | e2
          · exact absurd (e1.trans e2.symm) ne
          · exact .inl (e1 ▸ hl'.1 p e2)
          · exact .inr (e2 ▸ hl'.1 q e1)
          · exact ih hl'.2 e1 e2
      rcases ord _ i2.apart hq hp with h | h
      · omega
      · omega
/-- as many stretches as comings after which just so many places are free -/
def cross (counts : List Int) (c : Int) (i : Nat) : Bool := decide (counts[i + 1]? = some c) && decide (counts[i]? = some (c + 1))
theorem rows_cross {counts : List Int} {c : Int} (h0 : ∀ x, counts[0]? = some x → c < x) (hs : ∀ (i : Nat) (x y : Int), counts[i]? = some x → counts[i + 1]? = some y → y = x - 1 ∨ y = x + 1) : ∀ n, n + 1 ≤ counts.length → (rowsTo counts c (n + 1)).length = ((List.range n).filter (cross counts c)).length
  | 0, hn => by
    have hx : counts[0]? = some (counts[0]'(by omega)) := List.getElem?_eq_getElem _
    rw [rowsTo_succ hx, rowStep_no (by have := h0 _ hx; omega)]
    rfl
  | n + 1, hn => by
    have ih := rows_cross h0 hs n (by omega)
    have hx : counts[n]? = some (counts[n]'(by omega)) := List.getElem?_eq_getElem _
    have hy : counts[n + 1]? = some (counts[n + 1]'(by omega)) := List.getElem?_eq_getElem _
    generalize counts[n]'(by omega) = x at hx
    generalize counts[n + 1]'(by omega) = y at hy
    have st := hs n x y hx hy
    have inv := rinv (counts := counts) (c := c) (n + 1) (by omega)
    rw [rowsTo_succ hy, List.range_succ, List.filter_append, List.length_append, ← ih]
    have ec : cross counts c n = (decide (y = c) && decide (x = c + 1)) := by
      unfold cross
      rw [hx, hy]
      simp
    rw [List.filter_cons, ec]
    by_cases h : y ≤ c
    · rcases List.eq_nil_or_concat (rowsTo counts c (n + 1)) with e | ⟨fr, r, e⟩
      · rw [e] at inv
        have nx : ¬ x ≤ c := fun z => by
          obtain ⟨r, hr, _⟩ := inv.all n x (by omega) hx z
          cases hr
        rw [e, rowStep_nil h, decide_eq_true (show y = c by omega), decide_eq_true (show x = c + 1 by omega)]
        rfl
      · have e' : rowsTo counts c (n + 1) = fr ++ [r] := by simpa using e
        rw [e'] at inv ⊢
        have hr := inv.row r (by simp)
        by_cases on : r.2 = ((n + 1 : Nat) : Int) - 1
        · have xc := hr.2.2.2 n x (by omega) (by omega) hx
          rw [rowStep_on h on, decide_eq_false (show ¬ x = c + 1 by omega), Bool.and_false, if_neg (by decide), List.length_append, List.length_append]
          rfl
        · have nx : ¬ x ≤ c := fun z => by
            obtain ⟨q, hq, q1, q2⟩ := inv.all n x (by omega) hx z
            rcases List.mem_append.mp hq with hq | hq
            · have hp := (List.pairwise_append.mp inv.apart).2.2 q hq r (by simp)
              have := (inv.row q (by simp [hq])).2.2.1
              omega
            · rw [List.mem_singleton.mp hq] at q1 q2
              omega
          rw [rowStep_new h on, decide_eq_true (show y = c by omega), decide_eq_true (show x = c + 1 by omega)]
          simp
    · rw [rowStep_no h, decide_eq_false (show ¬ y = c by omega), Bool.false_and, if_neg (by decide)]
      rfl
/-! rows of states of a timetable -/
theorem frees_at : ∀ (evs : List Ev) (c : Int) (i : Nat) (x y : Int), (freesOf c evs)[i]? = some x → (freesOf c evs)[i + 1]? = some y → y = x - 1 ∨ y = x + 1
  | [], c, i, x, y, h1, h2 => by
    have := (List.getElem?_eq_some_iff.mp h2).1
    simp [freesOf, freesFrom] at this
  | e :: r, c, 0, x, y, h1, h2 => by
    have h1' : c = x := by simpa [freesOf, freesFrom] using h1
    have h2' : stepF c e = y := by simpa [freesOf, freesFrom] using h2
    unfold stepF at h2'
    split at h2' <;> omega
  | e :: r, c, i + 1, x, y, h1, h2 => by
    have h1' : (freesOf (stepF c e) r)[i]? = some x := by simpa [freesOf, freesFrom] using h1
    have h2' : (freesOf (stepF c e) r)[i + 1]? = some y := by simpa [freesOf, freesFrom] using h2
    exact frees_at r _ i x y h1' h2'
end RO
set_option Elab.async false
set_option linter.all false
set_option maxRecDepth 100000
set_option maxHeartbeats 4000000
/-! who came when, and went when -/
namespace BK
open PySem PySem.Spec PyProof.Rows L2 DL HL CM STX NM DX TT RO
abbrev SpT := Str × Int × Int
def spD (t : SpT) : D := .tup [.str t.1, .int t.2.1, .int t.2.2]
def stepB (N : Int) (l : List SpT) (p : Ev × Nat) : List SpT := if p.1.1 = true then l ++ [(p.1.2, (p.2 : Int) + 1, N)] else l.map fun t => if t.1 = p.1.2 then (t.1, t.2.1, (p.2 : Int)) else t
def spansTo (N : Int) (evs : List Ev) (n : Nat) : List SpT := (evs.zipIdx.take n).foldl (stepB N) []
def spansOf (evs : List Ev) : List SpT := spansTo evs.length evs evs.length
theorem spans_zero (N : Int) (evs : List Ev) : spansTo N evs 0 = [] := rfl
theorem spans_succ {N : Int} {evs : List Ev} {n : Nat} {e : Ev} (h : evs[n]? = some e) : spansTo N evs (n + 1) = stepB N (spansTo N evs n) (e, n) := by
  have hz : evs.zipIdx[n]? = some (e, n) := by
    rw [List.getElem?_zipIdx, h]
    simp
  unfold spansTo
  rw [List.take_succ, hz, List.foldl_append]
  rfl
theorem spans_in {N : Int} {evs : List Ev} {n : Nat} {b : Str} (h : evs[n]? = some (true, b)) : spansTo N evs (n + 1) = spansTo N evs n ++ [(b, (n : Int) + 1, N)] := by
  rw [spans_succ h]
  exact if_pos rfl
theorem spans_out {N : Int} {evs : List Ev} {n : Nat} {b : Str} (h : evs[n]? = some (false, b)) : spansTo N evs (n + 1) = (spansTo N evs n).map fun t => if t.1 = b then (t.1, t.2.1, (n : Int)) else t := by
  rw [spans_succ h]
  exact if_neg (fun z => nomatch z)
theorem take_snoc {evs : List Ev} {n : Nat} {e : Ev} (h : evs[n]? = some e) : evs.take (n + 1) = evs.take n ++ [e] := by
  rw [List.take_succ, h]
  rfl
theorem spans_names {N : Int} {evs : List Ev} : ∀ n, n ≤ evs.length → (spansTo N evs n).map (·.1) = cameOf (evs.take n)
  | 0, _ => rfl
  | n + 1, hn => by
    have ih := spans_names (N := N) (evs := evs) n (by omega)
    have hlt : n < evs.length := by omega
    have he : evs[n]? = some (evs[n]'hlt) := List.getElem?_eq_getElem _
    generalize evs[n]'hlt = e at he
    rw [take_snoc he, cameOf_snoc]
    obtain ⟨w, b⟩ := e
    cases w with
    | true =>
      rw [spans_in he, List.map_append, ih]
      rfl
    | false =>
      rw [spans_out he, List.map_map, if_neg (fun z => nomatch z), ← ih]
      refine List.map_congr_left fun t _ => ?_
      show (if t.1 = b then (t.1, t.2.1, (n : Int)) else t).1 = t.1
      split <;> rfl
theorem spans_len {N : Int} {evs : List Ev} {n : Nat} (hn : n ≤ evs.length) : (spansTo N evs n).length ≤ n := by
  have h := congrArg List.length (spans_names (N := N) n hn)
  rw [List.length_map] at h
  rw [h]
  unfold cameOf
  rw [List.length_map]
  refine Nat.le_trans (List.length_filter_le _ _) ?_
  rw [List.length_take]
  omega
theorem spans_bd {evs : List Ev} : ∀ n, n ≤ evs.length → ∀ t ∈ spansTo (evs.length : Int) evs n, 1 ≤ t.2.1 ∧ t.2.1 ≤ evs.length ∧ 0 ≤ t.2.2 ∧ t.2.2 ≤ evs.length
  | 0, _, t, ht => by cases ht
  | n + 1, hn, t, ht => by
    have ih := spans_bd (evs := evs) n (by omega)
    have hlt : n < evs.length := by omega
    have he : evs[n]? = some (evs[n]'hlt) := List.getElem?_eq_getElem _
    generalize evs[n]'hlt = e at he
    obtain ⟨w, b⟩ := e
    cases w with
    | true =>
      rw [spans_in he] at ht
      rcases List.mem_append.mp ht with y | y
      · exact ih t y
      · rw [List.mem_singleton.mp y]
        dsimp only
        omega
    | false =>
      rw [spans_out he] at ht
      obtain ⟨u, hu, rfl⟩ := List.mem_map.mp ht
      have := ih u hu
      by_cases c : u.1 = b
      · rw [if_pos c]
        dsimp only
        omega
      · rw [if_neg c]
        exact this
/-! ### order -/
def leT (t u : SpT) : Bool := leD (spD t) (spD u)
def leS (x y : Str) : Bool := leD (.str x) (.str y)
theorem leD_le : PySem.W.TotalLe leD := PySem.W.sortLe_total _ false _
theorem leS_eq (x y : Str) : leS x y = decide (x.cps.toList ≤ y.cps.toList) := congrFun (congrFun (PySem.W.dataLe_str (fun z : Str => z)) x) y
theorem leS_anti {x y : Str} (h1 : leS x y = true) (h2 : leS y x = true) : x = y := by
  rw [leS_eq] at h1 h2
  have e := List.le_antisymm (of_decide_eq_true h1) (of_decide_eq_true h2)
  obtain ⟨a⟩ := x
  obtain ⟨b⟩ := y
  have : a = b := Array.toList_inj.mp e
  rw [this]
theorem leT_S {t u : SpT} (h : leT t u = true) : leS t.1 u.1 = true := by
  have h1 : (!PySem.W.dataLt (PyData.tuple [.str u.1, .int u.2.1, .int u.2.2]) (PyData.tuple [.str t.1, .int t.2.1, .int t.2.2])) = true := by
    have e : ∀ x : SpT, (spD x).py = PyData.tuple [.str x.1, .int x.2.1, .int x.2.2] := fun x => by
      unfold spD
      simp only [D.py, D.pyA]
    have h' : (!PySem.W.dataLt (spD u).py (spD t).py) = true := h
    rw [e, e] at h'
    exact h'
  rw [PySem.W.dataLt_tuple, PySem.W.dataLt_cons (by simp [PySem.W.alike])] at h1
  rw [leS_eq]
  by_cases c : u.1 = t.1
  · rw [c]
    exact decide_eq_true (List.le_refl _)
  · have c' : PyData.eqv (.str u.1) (.str t.1) = false := by
      simp [PyData.eqv, c]
    rw [c', if_neg (by decide), PySem.W.dataLt_str] at h1
    have h2 : ¬ u.1.cps.toList < t.1.cps.toList := fun z => by
      rw [decide_eq_true z] at h1
      cases h1
    exact decide_eq_true (List.not_lt.mp h2)
/-- boxes of sorted rows, picked, are the sorted picked boxes -/
theorem picked {l : List SpT} (p : SpT → Bool) : ((l.mergeSort leT).filter p).map (fun t => D.str t.1) = ((l.filter p).map fun t => D.str t.1).mergeSort leD := by
  have e1 : ((l.filter p).map fun t => D.str t.1).mergeSort leD = (((l.filter p).map (·.1)).mergeSort leS).map D.str := by
    have : ((l.filter p).map fun t => D.str t.1) = ((l.filter p).map (·.1)).map D.str := by rw [List.map_map]; rfl
    rw [this]
    exact (List.map_mergeSort (f := D.str) (r := leS) (s := leD) fun _ _ _ _ => rfl).symm
  have e2 : ((l.mergeSort leT).filter p).map (fun t => D.str t.1) = (((l.mergeSort leT).filter p).map (·.1)).map D.str := by rw [List.map_map]; rfl
  rw [e1, e2]
  congr 1
  have s1 : (((l.mergeSort leT).filter p).map (·.1)).Pairwise fun x y => leS x y = true := by
    have h := List.pairwise_mergeSort (le := leT) (fun a b c h1 h2 => leD_le.trans _ _ _ h1 h2) (fun a b => by
      rcases leD_le.total (spD a) (spD b) with y | y
      · exact Bool.or_eq_true_iff.mpr (.inl y)
      · exact Bool.or_eq_true_iff.mpr (.inr y)) l
    rw [List.pairwise_map]
    exact (h.filter p).imp fun h => leT_S h
  have s2 : (((l.filter p).map (·.1)).mergeSort leS).Pairwise fun x y => leS x y = true := List.pairwise_mergeSort (le := leS) (fun a b c h1 h2 => leD_le.trans (.str a) (.str b) (.str c) h1 h2) (fun a b => by
      rcases leD_le.total (.str a) (.str b) with y | y
      · exact Bool.or_eq_true_iff.mpr (.inl y)
      · exact Bool.or_eq_true_iff.mpr (.inr y)) _
  have pm : (((l.mergeSort leT).filter p).map (·.1)).Perm (((l.filter p).map (·.1)).mergeSort leS) := (((List.mergeSort_perm l leT).filter p).map _).trans (List.mergeSort_perm _ leS).symm
  exact pm.eq_of_pairwise (fun a b _ _ h1 h2 => leS_anti h1 h2) s1 s2
end BK
set_option Elab.async false
set_option linter.all false
set_option maxRecDepth 100000
set_option maxHeartbeats 4000000
/-! heights, standings, boxes laid in rows: plain data -/
namespace SG
open PySem PySem.Spec PyProof.Rows L2 DL NM DX STX
def HsOk (hs : List Int) : Prop := 3 ≤ hs.length ∧ hs.length ≤ 12 ∧ ∀ h ∈ hs, 1 ≤ h ∧ h ≤ 12
theorem sum_ge : ∀ {hs : List Int}, (∀ h ∈ hs, 1 ≤ h ∧ h ≤ 12) → (hs.length : Int) ≤ hs.sum ∧ hs.sum ≤ 12 * (hs.length : Int)
  | [], _ => ⟨Int.le_refl _, Int.le_refl _⟩
  | h :: hs, a => by
    have h1 := a h List.mem_cons_self
    have h2 := sum_ge (hs := hs) fun x hx => a x (List.mem_cons_of_mem _ hx)
    rw [List.sum_cons, List.length_cons]
    omega
theorem HsOk.sum {hs : List Int} (h : HsOk hs) : 3 ≤ hs.sum ∧ hs.sum ≤ 144 := by
  have := sum_ge h.2.2
  have h1 := h.1
  have h2 := h.2.1
  omega
theorem map_int_inj : ∀ {a b : List Int}, a.map D.int = b.map D.int → a = b
  | [], [], _ => rfl
  | [], _ :: _, e => nomatch e
  | _ :: _, [], e => nomatch e
  | x :: a, y :: b, e => by
    injection e with e1 e2
    rw [D.int.inj e1, map_int_inj e2]
theorem map_str_inj : ∀ {a b : List Str}, a.map D.str = b.map D.str → a = b
  | [], [], _ => rfl
  | [], _ :: _, e => nomatch e
  | _ :: _, [], e => nomatch e
  | x :: a, y :: b, e => by
    injection e with e1 e2
    rw [D.str.inj e1, map_str_inj e2]
theorem sum_le_flat : ∀ {hs : List Int} {rows : List (List Str)}, rows.length = hs.length → (∀ (j : Nat) (row : List Str) (h : Int), rows[j]? = some row → hs[j]? = some h → h ≤ (row.length : Int)) → hs.sum ≤ (rows.flatten.length : Int)
  | [], [], _, _ => Int.le_refl _
  | [], _ :: _, e, _ => nomatch e
  | _ :: _, [], e, _ => nomatch e
  | h :: hs, r :: rows, e, a => by
    have h1 := a 0 r h rfl rfl
    have h2 := sum_le_flat (hs := hs) (rows := rows) (by simpa using e) fun j row h y z => a (j + 1) row h (by simpa using y) (by simpa using z)
    rw [List.sum_cons, List.flatten_cons, List.length_append]
    omega
theorem flat_set {x : Str} : ∀ {rows : List (List Str)} {j : Nat} {row : List Str}, rows[j]? = some row → (rows.set j (row ++ [x])).flatten.Perm (rows.flatten ++ [x])
  | [], _, _, e => by simp at e
  | r :: rows, 0, row, e => by
    have e' : r = row := by simpa using e
    subst e'
    rw [List.set_cons_zero, List.flatten_cons, List.flatten_cons, List.append_assoc, List.append_assoc]
    exact List.Perm.append_left _ List.perm_append_comm
  | r :: rows, j + 1, row, e => by
    rw [List.set_cons_succ, List.flatten_cons, List.flatten_cons, List.append_assoc]
    exact List.Perm.append_left _ (flat_set (by simpa using e))
abbrev rowsD (rows : List (List Str)) : List (List D) := rows.map fun row => row.map D.str
def LaidOk (hs : List Int) (ns : List Str) (rows : List (List Str)) : Prop := rows.length = hs.length ∧ rows.flatten.Perm ns ∧ ∀ (j : Nat) (row : List Str) (h : Int), rows[j]? = some row → hs[j]? = some h → (row.length : Int) ≤ h
abbrev stD (rows : List (List Str)) : D := .tup (rows.map fun row => .tup (row.map .str))
def keysS (l : List Str) : List Key := l.map .inr
theorem mem_keysS {l : List Str} {b : Str} : (Sum.inr b : Key) ∈ keysS l ↔ b ∈ l := by
  unfold keysS
  rw [List.mem_map]
  exact ⟨fun ⟨x, h, e⟩ => by cases e; exact h, fun h => ⟨b, h, rfl⟩⟩
theorem memK_keysS {l : List Str} {b : Str} : memK (keysS l) (.inr b) = decide (b ∈ l) := by
  rw [Bool.eq_iff_iff, memK_iff, mem_keysS, decide_eq_true_eq]
theorem addK_keysS {l : List Str} {b : Str} (h : b ∉ l) : addK (keysS l) (.inr b) = keysS (l ++ [b]) := by
  unfold addK
  rw [memK_keysS, decide_eq_false h, if_neg (by decide)]
  unfold keysS
  rw [List.map_append]
  rfl
theorem keysS_nodup {l : List Str} (h : l.Nodup) : (keysS l).Nodup := by
  rw [List.nodup_iff_pairwise_ne] at h ⊢
  exact List.pairwise_map.mpr (h.imp fun hne e => hne (Sum.inr.inj e))
theorem take_snoc {α : Type} {l : List α} {i : Nat} {a : α} (h : l[i]? = some a) : l.take (i + 1) = l.take i ++ [a] := by
  rw [List.take_succ, h]
  rfl
theorem zip_at {α : Type} {l : List α} {i : Nat} {a : α} {j : Nat} (h : l.zipIdx[i]? = some (a, j)) : l[i]? = some a ∧ j = i := by
  rw [List.getElem?_zipIdx] at h
  cases c : l[i]? with
  | none =>
    rw [c] at h
    cases h
  | some x =>
    rw [c] at h
    simp at h
    exact ⟨by rw [h.1], h.2.symm⟩
theorem sort_strs {l : List Str} : PySem.W.AllAlike ((l.map D.str).map D.py) ∧ PySem.W.Sortable ((l.map D.str).map D.py) ∧ ∀ d ∈ l.map D.str, d.ok = true ∧ d.py.depth ≤ 40 := by
  refine ⟨?_, ?_, ?_⟩
  · rw [List.map_map]
    exact PySem.W.AllAlike.of fun x y => by simp [D.py, PySem.W.alike]
  · rw [List.map_map]
    exact PySem.W.Sortable.others fun x => ⟨by simp [D.py], fun xs => by simp [D.py]⟩
  · intro d hd
    obtain ⟨t, _, rfl⟩ := List.mem_map.mp hd
    exact ⟨by simp [D.ok], by simp [D.py, PyData.depth]⟩

/-! ### standings -/
abbrev Rws := List (List Str)
def StOk (hs : List Int) (rows : Rws) : Prop := rows.length = hs.length ∧ (∀ (j : Nat) (row : List Str) (h : Int), rows[j]? = some row → hs[j]? = some h → (row.length : Int) ≤ h) ∧ rows.flatten.Nodup ∧ ∀ y ∈ rows.flatten, NameOk y
theorem flat_le : ∀ {hs : List Int} {rows : Rws}, rows.length = hs.length → (∀ (j : Nat) (row : List Str) (h : Int), rows[j]? = some row → hs[j]? = some h → (row.length : Int) ≤ h) → (rows.flatten.length : Int) ≤ hs.sum
  | [], [], _, _ => Int.le_refl _
  | [], _ :: _, e, _ => nomatch e
  | _ :: _, [], e, _ => nomatch e
  | h :: hs, r :: rows, e, a => by
    have h1 := a 0 r h rfl rfl
    have h2 := flat_le (hs := hs) (rows := rows) (by simpa using e) fun j row h y z => a (j + 1) row h (by simpa using y) (by simpa using z)
    rw [List.sum_cons, List.flatten_cons, List.length_append]
    omega
theorem StOk.le {hs : List Int} {rows : Rws} (h : StOk hs rows) : (rows.flatten.length : Int) ≤ hs.sum := flat_le h.1 h.2.1
theorem StOk.len {hs : List Int} {rows : Rws} (ho : HsOk hs) (h : StOk hs rows) : rows.flatten.length ≤ 144 := by
  have := h.le
  have := ho.sum
  omega
theorem StOk.row {hs : List Int} {rows : Rws} (ho : HsOk hs) (h : StOk hs rows) {row : List Str} (hr : row ∈ rows) : row.length ≤ 12 := by
  obtain ⟨j, hj, e⟩ := List.getElem_of_mem hr
  have hl : j < hs.length := by rw [← h.1]; exact hj
  have := h.2.1 j row hs[j] (by rw [List.getElem?_eq_getElem hj, e]) (List.getElem?_eq_getElem hl)
  have := ho.2.2 _ (List.getElem_mem hl)
  omega
theorem split_at {α : Type} {l : List α} {i : Nat} {a : α} (h : l[i]? = some a) : l = l.take i ++ (a :: l.drop (i + 1)) := by
  obtain ⟨hi, e⟩ := List.getElem?_eq_some_iff.mp h
  have := (List.take_append_drop i l).symm
  rwa [List.drop_eq_getElem_cons hi, e] at this
theorem flat_at {rows : Rws} {i j : Nat} {row : List Str} {y : Str} (h : rows[i]? = some row) (hy : row[j]? = some y) : rows.flatten = ((rows.take i).flatten ++ row.take j) ++ (y :: (row.drop (j + 1) ++ (rows.drop (i + 1)).flatten)) := by
  have e1 := split_at h
  have e2 := split_at hy
  have : rows.flatten = (rows.take i).flatten ++ (row ++ (rows.drop (i + 1)).flatten) := by
    rw [e1, List.flatten_append, List.flatten_cons]
    rw [← e1]
  rw [this, List.append_assoc]
  congr 1
  conv => lhs; rw [e2]
  simp
theorem fresh_at {rows : Rws} (nd : rows.flatten.Nodup) {i j : Nat} {row : List Str} {y : Str} (h : rows[i]? = some row) (hy : row[j]? = some y) : y ∉ (rows.take i).flatten ++ row.take j ∧ ((rows.take i).flatten ++ row.take j).length < rows.flatten.length := by
  have e := flat_at h hy
  constructor
  · rw [e] at nd
    intro z
    exact (List.nodup_append.mp nd).2.2 y z y (List.mem_cons_self ..) rfl
  · rw [e, List.length_append (as := (rows.take i).flatten ++ row.take j), List.length_cons]
    omega
theorem all_yes {α : Type} (l : List α) : (l.map fun _ => true).all id = true := by
  induction l with
  | nil => rfl
  | cons x l ih => rw [List.map_cons, List.all_cons, ih]; rfl
theorem getD_all (hs : List Int) : ((List.range hs.length).map fun i => hs.getD i 0) = hs := by
  refine List.ext_getElem (by simp) fun i h1 h2 => ?_
  rw [List.getElem_map, List.getElem_range, List.getD_eq_getElem?_getD, List.getElem?_eq_getElem h2]
  rfl
theorem sum_but : ∀ (hs : List Int) (st : Nat) (h : Int), hs[st]? = some h → (((List.range hs.length).filter fun i => !decide (i = st)).map fun i => hs.getD i 0).sum = hs.sum - h
  | [], _, _, e => by simp at e
  | x :: hs, 0, h, e => by
    have e' : x = h := by simpa using e
    subst e'
    rw [List.length_cons, List.range_succ_eq_map, List.filter_cons]
    simp only [decide_true, Bool.not_true, Bool.false_eq_true, if_false]
    rw [List.filter_map, List.map_map, List.filter_eq_self.mpr fun a _ => by simp]
    have : ((fun i => (x :: hs).getD i 0) ∘ Nat.succ) = fun i => hs.getD i 0 := funext fun i => by simp
    rw [this, getD_all, List.sum_cons]
    omega
  | x :: hs, st + 1, h, e => by
    have ih := sum_but hs st h (by simpa using e)
    rw [List.length_cons, List.range_succ_eq_map, List.filter_cons]
    have z : (!decide (0 = st + 1)) = true := by simp
    rw [if_pos z, List.filter_map, List.map_cons, List.map_map, List.sum_cons]
    have e1 : ((fun i => !decide (i = st + 1)) ∘ Nat.succ) = fun i => !decide (i = st) := funext fun i => by simp
    have e2 : ((fun i => (x :: hs).getD i 0) ∘ Nat.succ) = fun i => hs.getD i 0 := funext fun i => by simp
    rw [e1, e2, ih, List.sum_cons]
    simp
    omega
end SG
namespace DL
open PySem PySem.Spec PyProof.Rows L2 DX
theorem ov_neSS {c : Cn} {om : Om} {sl : Sl} {P : DL.E → Om → Prop} {x y : Str} (h : x = y) (p : P (.v (.bl false)) om) : OV c (rNeU c.K) om sl (.v (.str x)) (.v (.str y)) P := by
  refine ov_neS ?_
  rw [decide_eq_true h]
  exact p
end DL
set_option Elab.async false
set_option linter.all false
set_option maxRecDepth 100000
set_option maxHeartbeats 4000000
namespace K01
open PySem PySem.Spec PyProof.Rows L2 DL HL CM STX SG
section
variable {P : Program} {w : World} {K : PySem.W.Frag} {mg : Str → Option Value} {base : Heap}
/-! ### _law_heights -/
abbrev sp_heights : Sp := spGN 0 (fun _ : Unit => []) (fun _ => True) fun _ r => ∃ hs : List Int, r = .lst (hs.map .int) ∧ HsOk hs
theorem mem_ints {r : D} {ns : List Int} (h : r ∈ ns.map D.int) : ∃ n ∈ ns, r = .int n := by
  obtain ⟨n, h1, h2⟩ := List.mem_map.mp h
  exact ⟨n, h1, h2.symm⟩
theorem flat_rep {t : Int} : ∀ n : Nat, (List.replicate n [D.int t]).flatten = (List.replicate n t).map D.int
  | 0 => rfl
  | n + 1 => by
    rw [List.replicate_succ, List.flatten_cons, flat_rep n]
    rfl
theorem c__law_heights {f : Addr} {fd : FuncData} (T : Tx K mg) (c__law_draw : Ca P w K mg base CX0 1 "_law_draw" ["heap", "many"] sp_draw) (c__law_pick : Ca P w K mg base CX0 2 "_law_pick" ["heap", "some"] sp_pick)
    (B : DefB K mg "_law_heights" s__law_heights ["heap"] f fd) : Ca P w K mg base CX0 3 "_law_heights" ["heap"] sp_heights := by
  refine ca_of B sc__law_heights (fun vs H Q E h => lenGN h) (fun cdv A outer s H vs Q E hr h => ⟨_, (pss_cons (ps_set (i := 1) sc__law_heights.nd rfl (by first | exact Or.inl rfl | exact Or.inr rfl) (pe_ca c__law_pick hr (by first | decide | (simp only [Nat.add_eq]; omega)) pass0 (pa_cons (pv 0) (pa_cons (pe_lst (pa_cons pe_int (pa_cons pe_int (pa_cons pe_int (pa_cons pe_int (pa_cons pe_int (pa_cons pe_int (pa_cons pe_int (pa_cons pe_int pa_nil))))))))) pa_nil))))
    (pss_cons (ps_set (i := 2) sc__law_heights.nd rfl (by first | exact Or.inl rfl | exact Or.inr rfl) (pe_ca c__law_pick hr (by first | decide | (simp only [Nat.add_eq]; omega)) pass0 (pa_cons (pv 0) (pa_cons (pe_lst (pa_cons pe_int (pa_cons pe_int (pa_cons pe_int (pa_cons pe_int (pa_cons pe_int (pa_cons pe_int pa_nil))))))) pa_nil))))
    (pss_cons (ps_if (pt_cmpR (op_eqU hr.units) (pe_ca c__law_draw hr (by first | decide | (simp only [Nat.add_eq]; omega)) pass0 (pa_cons (pv 0) (pa_cons pe_int pa_nil))) pe_int (by first | exact nomark _ | rfl))
     (pss_one (ps_ret (pe_op op_mulU (pe_lst (pa_cons (pv 2) pa_nil)) (pv 1))))
     pss_nil)
    (pss_one (ps_ret (pe_lc (own := [("turn", 3)]) rfl sc__law_heights.nd (pi_range1 (by rfl) T.z_range (pa_cons (pv 1) pa_nil)) (blkOk_by (N := ["heap", "many", "top", "turn"]) (sc := defScope s__law_heights) (by decide +kernel)) (fun _ _ _ _ _ => (pg_name (i := 3) sc__law_heights.nd rfl (by first | exact Or.inl rfl | exact Or.inr rfl))) (fun _ _ _ _ _ => pts_nil) (fun _ _ _ _ _ => (pe_op (EX.op_addUk (K := K) rfl) pe_int (pe_ca c__law_draw hr (by first | decide | (simp only [Nat.add_eq]; omega)) pass0 (pa_cons (pv 0) (pa_cons (pv 2) pa_nil))))))))))), entryGN (K := K) (by decide) h fun F O u hl hp => ?_⟩)
  walk_at "d0"
  walk_at "d"
  refine ev_lst ?_
  walk_at "d"
  refine cv_pick rfl (by decide) (by decide) fun r hr => ?_
  obtain ⟨m, hm, rfl⟩ := mem_ints (ns := [3, 3, 3, 4, 4, 5, 6, 12]) hr
  have m1 : 3 ≤ m ∧ m ≤ 12 := by
    simp at hm
    omega
  refine ⟨ltb rfl, ?_⟩
  dsimp only [List.set]
  walk_at "d"
  refine ev_lst ?_
  walk_at "d"
  refine cv_pick rfl (by decide) (by decide) fun r hr => ?_
  obtain ⟨t, ht, rfl⟩ := mem_ints (ns := [2, 3, 3, 4, 5, 12]) hr
  have t1 : 2 ≤ t ∧ t ≤ 12 := by
    simp at ht
    omega
  refine ⟨ltb rfl, ?_⟩
  dsimp only [List.set]
  walk_at "d"
  refine cv_draw (by decide) (by decide) fun i hi => ?_
  walk_at "d"
  obtain ⟨n, rfl⟩ : ∃ n : Nat, m = n := ⟨m.toNat, by omega⟩
  refine ⟨fun _ => ?_, fun _ => ?_⟩
  · walk_at "d"
    refine ev_lst ?_
    walk_at "d"
    refine ov_repL rfl ?_ (by omega) ?_
    · simp
      omega
    · rw [flat_rep]
      exact ⟨_, rfl, _, rfl, by simp; omega, by simp; omega, fun h hh => by rw [(List.mem_replicate.mp hh).2]; omega⟩
  · walk_at "d"
    refine ev_lc (sets_name 3) (wv_range1 ?_)
    walk_at "d"
    refine ⟨rfl, _, rfl, by omega, by omega, fun i acc => ∃ hs : List Int, acc = hs.map .int ∧ hs.length = i ∧ i ≤ n ∧ ∀ h ∈ hs, 1 ≤ h ∧ h ≤ 12, ⟨[], rfl, rfl, by omega, by simp⟩, ?_, ?_, ?_⟩
    · rintro i d acc hd ⟨hs, rfl, rfl, hi, hb⟩
      have hi2 := (List.getElem?_eq_some_iff.mp hd).1
      rw [rgD_len] at hi2
      refine gv_name ⟨ltb rfl, ?_⟩
      dsimp only [List.set, List.foldr]
      refine et_yes ⟨fun _ => ?_, fun z => nomatch z⟩
      walk_at "d"
      refine cv_draw (by omega) (by omega) fun j hj => ?_
      walk_at "d"
      refine ⟨rfl, _, rfl, hs ++ [1 + (j : Int)], by simp, by simp, by omega, fun h hh => ?_⟩
      rcases List.mem_append.mp hh with y | y
      · exact hb h y
      · rw [List.mem_singleton.mp y]
        omega
    · rintro i acc ⟨hs, rfl, rfl, hi, hb⟩
      simp
      omega
    · rintro acc ⟨hs, rfl, hl, hi, hb⟩
      rw [rgD_len] at hl
      exact ⟨_, rfl, hs, rfl, by omega, by omega, hb⟩
/-! ### _law_many -/
abbrev sp_many : Sp := spGN 2 (fun p : List Int × Nat => [.lst (p.1.map .int), .int (p.2 : Int)]) (fun p => HsOk p.1) fun p r => ∃ m : Nat, r = .int (m : Int) ∧ m ≤ p.2 ∧ (m : Int) ≤ p.1.sum
theorem c__law_many {f : Addr} {fd : FuncData} (T : Tx K mg) (c__law_draw : Ca P w K mg base CX0 1 "_law_draw" ["heap", "many"] sp_draw) (c__law_pick : Ca P w K mg base CX0 2 "_law_pick" ["heap", "some"] sp_pick)
    (B : DefB K mg "_law_many" s__law_many ["heap", "heights", "most"] f fd) : Ca P w K mg base CX0 3 "_law_many" ["heap", "heights", "most"] sp_many := by
  refine ca_of B sc__law_many (fun vs H Q E h => lenGN h) (fun cdv A outer s H vs Q E hr h => ⟨_, (pss_cons (ps_set (i := 3) sc__law_many.nd rfl (by first | exact Or.inl rfl | exact Or.inr rfl) (pe_callB (cr_sumU rfl) (by rfl) T.z_sum (by decide +kernel) (pa_cons (pv 1) pa_nil)))
    (pss_one (ps_ret (pe_callB (cr_min2 rfl) (by rfl) T.z_min (by decide +kernel) (pa_cons (pv 2) (pa_cons (pe_ca c__law_pick hr (by first | decide | (simp only [Nat.add_eq]; omega)) pass0 (pa_cons (pv 0) (pa_cons (pe_lst (pa_cons pe_int (pa_cons (pv 3) (pa_cons (pe_op op_sub (pv 3) pe_int) (pa_cons (pe_op op_sub (pv 3) pe_int) (pa_cons (pe_ca c__law_draw hr (by first | decide | (simp only [Nat.add_eq]; omega)) pass0 (pa_cons (pv 0) (pa_cons (pe_op op_addU (pv 3) pe_int) pa_nil))) (pa_cons (pe_ca c__law_draw hr (by first | decide | (simp only [Nat.add_eq]; omega)) pass0 (pa_cons (pv 0) (pa_cons (pe_op op_addU (pv 3) pe_int) pa_nil))) pa_nil))))))) pa_nil))) pa_nil)))))), entryGN (K := K) (by decide) h fun F O p hl ho => ?_⟩)
  obtain ⟨hs, t⟩ := p
  dsimp only at ho ⊢
  obtain ⟨s3, s144⟩ := ho.sum
  obtain ⟨tot, et⟩ : ∃ n : Nat, hs.sum = (n : Int) := ⟨hs.sum.toNat, by omega⟩
  walk_at "d0"
  walk_at "d"
  refine cv_sumL rfl ?_
  rw [et]
  rw [et] at s3 s144
  refine ⟨ltb rfl, ?_⟩
  dsimp only [List.set]
  walk_at "d"
  refine ev_lst ?_
  walk_at "d"
  refine cv_draw (by omega) (by omega) fun i hi => ?_
  walk_at "d"
  refine cv_draw (by omega) (by omega) fun j hj => ?_
  walk_at "d"
  refine cv_pick rfl (ltb rfl) (Nat.le_of_ble_eq_true rfl) fun r hr => ?_
  obtain ⟨m, rfl, hm⟩ : ∃ m : Nat, r = .int (m : Int) ∧ (m : Int) ≤ (tot : Int) := by
    simp only [List.mem_cons, List.not_mem_nil, or_false] at hr
    rcases hr with rfl | rfl | rfl | rfl | rfl | rfl
    · exact ⟨0, rfl, by omega⟩
    · exact ⟨tot, rfl, by omega⟩
    · exact ⟨tot - 1, congrArg D.int (by omega), by omega⟩
    · exact ⟨tot - 2, congrArg D.int (by omega), by omega⟩
    · exact ⟨i, rfl, by omega⟩
    · exact ⟨j, rfl, by omega⟩
  walk_at "d"
  exact ⟨min t m, congrArg D.int (by omega), by omega, by omega⟩
end
end K01
set_option Elab.async false
set_option linter.all false
set_option maxRecDepth 100000
set_option maxHeartbeats 4000000
/-! set(xs), xs a list or a tuple of ints and texts: the def's own set of its members -/
namespace SX
open PySem PySem.Spec PyProof.Rows L2 DL STX
/-- the members in the order in which they are met -/
def dk (ks : List Key) : List Key := ks.foldl addK []
theorem dk_snoc (ks : List Key) (k : Key) : dk (ks ++ [k]) = addK (dk ks) k := by
  unfold dk
  rw [List.foldl_append]
  rfl
theorem dk_nodup (ks : List Key) : (dk ks).Nodup := by
  have go : ∀ (l acc : List Key), acc.Nodup → (l.foldl addK acc).Nodup := fun l => by
    induction l with
    | nil => exact fun _ h => h
    | cons k l ih => exact fun acc h => ih _ (addK_nodup h)
  exact go ks [] List.nodup_nil
theorem mem_dk {ks : List Key} {j : Key} : j ∈ dk ks ↔ j ∈ ks := by
  have go : ∀ (l acc : List Key), j ∈ l.foldl addK acc ↔ j ∈ acc ∨ j ∈ l := fun l => by
    induction l with
    | nil => exact fun acc => by simp
    | cons k l ih => exact fun acc => by rw [List.foldl_cons, ih, mem_addK, List.mem_cons, or_assoc]
  have := go ks []
  unfold dk
  rw [this]
  simp
theorem dk_len (ks : List Key) : (dk ks).length ≤ ks.length := by
  have go : ∀ (l acc : List Key), (l.foldl addK acc).length ≤ acc.length + l.length := fun l => by
    induction l with
    | nil => exact fun acc => Nat.le_refl _
    | cons k l ih =>
      intro acc
      have h1 := ih (addK acc k)
      have h2 : (addK acc k).length ≤ acc.length + 1 := by
        unfold addK
        split
        · omega
        · rw [List.length_append, List.length_singleton]; exact Nat.le_refl _
      rw [List.foldl_cons, List.length_cons]
      omega
  have := go ks []
  simpa [dk] using this
theorem dk_self {ks : List Key} (h : ks.Nodup) : dk ks = ks := by
  have go : ∀ (l acc : List Key), (acc ++ l).Nodup → l.foldl addK acc = acc ++ l := fun l => by
    induction l with
    | nil => exact fun acc _ => by simp
    | cons k l ih =>
      intro acc hn
      have hk : k ∉ acc := fun z => (List.nodup_append.mp hn).2.2 k z k List.mem_cons_self rfl
      have e : addK acc k = acc ++ [k] := by
        unfold addK
        rw [if_neg (by rw [memK_iff]; exact hk)]
      rw [List.foldl_cons, e, ih _ (by simpa using hn)]
      simp
  simpa [dk] using go ks [] (by simpa using h)
theorem addK_of (ks : List Key) (k : Key) : (∀ j, (memK ks j || decide (j = k)) = memK (addK ks k) j) ∧ (if memK ks k = true then ks.length else ks.length + 1) = (addK ks k).length := by
  constructor
  · intro j
    rw [Bool.eq_iff_iff, memK_iff, mem_addK, Bool.or_eq_true, memK_iff, decide_eq_true_eq]
  · unfold addK
    split
    · rfl
    · rw [List.length_append]; rfl
section
variable {prog : Program} {w : World}
/-- each key is met and laid -/
theorem fill_loop {A : Around} {R : Result → Shared → Prop} {I Z : Addr} {fp wr : List Addr} {G : Array GenState → Array GenState → Prop} {n : Nat} {P : Nat → Value → Prop} {St : Nat → Shared → Prop} (W : WalksS prog w A.in1 I fp wr G n P St) (zf : Z ∉ fp)
    (ks : List Key) (kl : ks.length = n) (nb : n + 1 < scanBound) (kv : ∀ i v, P i v → ∃ k, ks[i]? = some k ∧ (mixKind prog w).is k v = true ∧ v.scannable = true) :
    ∀ (m i : Nat) (s₀ : Shared), i + m = n → St i s₀ → s₀.heap.SetOf (mixKind prog w) Z (memK (dk (ks.take i))) (dk (ks.take i)).length →
      (∀ s₁, Moved (Z :: wr) G s₀ s₁ → s₁.heap.SetOf (mixKind prog w) Z (memK (dk ks)) (dk ks).length → R (.ok (.ret .none)) s₁) →
      codeAny (model prog w) A (.builtin "set.update.loop" ⟨[.ref Z, .ref I], []⟩) R s₀ := by
  have zw : Z ∉ wr := fun q => zf (W.sub _ q)
  have up : ∀ b ∈ wr, b ∈ Z :: wr := fun b q => List.mem_cons_of_mem _ q
  intro m
  induction m with
  | zero =>
    intro i s₀ im st so fin
    obtain rfl : i = n := by omega
    refine codeAny_builtin F.entry_set_update_loop ?_
    rw [Around.under_plainId F.plain_set_update_loop _]
    refine (wpAny_bind (W.done s₀ _ _ st fun s₁ mv => ?_) : wpAny _ A.in1 (pyNext (.ref I) >>= _) _ _ s₀)
    show wpAny _ A.in1 (ret Value.none) _ _ s₁
    refine wpAny_pure (fin s₁ (mv.mono up) ?_)
    rw [List.take_of_length_le (Nat.le_of_eq kl)] at so
    obtain ⟨o, es, ep, t, at_, rest⟩ := so
    exact ⟨o, es, ep, t, mv.heap Z _ zw at_, rest⟩
  | succ m ih =>
    intro i s₀ im st so fin
    refine codeAny_builtin F.entry_set_update_loop ?_
    rw [Around.under_plainId F.plain_set_update_loop _]
    refine (wpAny_bind (W.item i s₀ _ _ (by omega) st fun v s₁ pv st1 mv => ?_) : wpAny _ A.in1 (pyNext (.ref I) >>= _) _ _ s₀)
    obtain ⟨k, ek, vk, sk⟩ := kv i v pv
    have so1 : s₁.heap.SetOf (mixKind prog w) Z (memK (dk (ks.take i))) (dk (ks.take i)).length := by
      obtain ⟨o, es, ep, t, at_, rest⟩ := so
      exact ⟨o, es, ep, t, mv.heap Z _ zw at_, rest⟩
    have few : (dk (ks.take i)).length + 1 < scanBound := by
      have h1 := dk_len (ks.take i)
      rw [List.length_take] at h1
      omega
    refine (wpAny_bind (wpAny_holding ?_) : wpAny _ A.in1 (holding [v] (setAdd Z v) >>= _) _ _ s₁)
    refine wpAny_holding (wpAny_bind ((mixKind prog w).pyHash (k := k) vk ?_))
    refine wpAny_setAddHashed_of (knd := mixKind prog w) (s := { s₁ with toks := s₁.toks + 1 }) vk sk so1 few fun h₁ but so2 => ?_
    have so3 : h₁.SetOf (mixKind prog w) Z (memK (dk (ks.take (i + 1)))) (dk (ks.take (i + 1))).length := by
      rw [List.take_succ, ek]
      show h₁.SetOf (mixKind prog w) Z (memK (dk (ks.take i ++ [k]))) (dk (ks.take i ++ [k])).length
      rw [dk_snoc]
      obtain ⟨a1, a2⟩ := addK_of (dk (ks.take i)) k
      rw [show (fun j => memK (dk (ks.take i)) j || decide (j = k)) = memK (addK (dk (ks.take i)) k) from funext a1, a2] at so2
      exact so2
    refine wpAny_pure ⟨plainId_quiet F.plain_set_update_loop _, ih (i + 1) _ (by omega) (W.frame _ s₁ _ _ st1 (Nat.le_succ _) fun b bf o e => ?_) so3 fun s₂ mv2 so4 => ?_⟩
    · exact (but.2 b (fun q => zf (q ▸ bf))).trans e
    · refine fin s₂ (Moved.trans W.gtrans ((mv.mono up).then_heap (Nat.le_succ _) fun b o bf e => ?_) mv2) so4
      exact (but.2 b (fun q => bf (q ▸ List.mem_cons_self))).trans e
/-- a new set object -/
def bare (led : Bool) : Obj := { cls := .type "set", dict := none, data := .set #[] 0 (.fresh 0 0 led) }
local macro_rules | `(tactic| walk_at "go") => `(tactic| repeat (any_goals (first | assumption | wp_step)))
theorem call_set_seq {T iT : String} {A : Around} {E : Value → Shared → Prop} {s : Shared} {l : Addr} {items : Array Value} {ks : List Key} {Q : Value → Shared → Prop} {ol : Obj} {nl : Nat} (hh : A.handled = none) (ob : s.heap.get? l = some ol) (oc : ol.cls = .type T) (od : ol.data = .seq items nl)
    (sub1 : isSubtype (.type T) (.type "set") = pure false) (sub2 : isSubtype (.type T) (.type "frozenset") = pure false) (nd : (Value.type T == Value.type "dict") = false)
    (pit : ∀ {B : Around} {F : Value → Shared → Prop} {s₁ : Shared} {Q : Value → Shared → Prop}, s₁.heap.get? l = some ol → Q (.ref s₁.heap.objs.size) { s₁ with heap := s₁.heap.push { cls := .type iT, data := .fields #[.ref l, .int 0 0] } } → wpAny (model prog w) B (pyIter (.ref l)) Q F s₁)
    (wk : ∀ {B : Around} (I : Addr), B.handled = none → l ≠ I → ∃ St, WalksS prog w B I [I, l] [I] (fun a b => b = a) items.size (fun i v => items[i]? = some v) St ∧ ∀ s₁ : Shared, s₁.heap.get? I = some { cls := .type iT, data := .fields #[.ref l, .int 0 0] } → s₁.heap.get? l = some ol → St 0 s₁)
    (kl : ks.length = items.size) (nb : items.size + 1 < scanBound) (kv : ∀ (i : Nat) (v : Value), items[i]? = some v → ∃ k, ks[i]? = some k ∧ (mixKind prog w).is k v = true ∧ v.scannable = true)
    (fin : ∀ (h₁ : Heap) (tk : Nat), h₁.SetOf (mixKind prog w) s.heap.objs.size (memK (dk ks)) (dk ks).length → (∀ b o, b < s.heap.objs.size → s.heap.get? b = some o → h₁.get? b = some o) → Q (.ref s.heap.objs.size) { s with heap := h₁, toks := tk }) :
    wpAny (model prog w) A (call (.type "set") [.ref l]) Q E s := by
  obtain ⟨c, tl, hmro⟩ := PySem.F.called_set.mro
  have f1 := PySem.F.called_set.made
  have f2 := PySem.F.called_set.sub
  refine wpAny_call (codeAny_of_tree ?_)
  change wpAny _ _ (callAny (.type "set") _) _ _ _
  refine wpAny_pure ⟨Code.quiet_builtin (id := "type.__call__") _ (by decide +kernel), codeAny_builtin PySem.F.entry_type_call ?_⟩
  rw [Around.under_plain (weight_type_call_type "set" [.ref l] []) rfl]
  have f3 := PySem.F.called_set.notType
  have f4 := PySem.F.called_set.canCreate
  have f5 := PySem.F.typeCall_set_1 (.ref l)
  walk_at "go"
  refine codeAny_mono (code_set_new_1 (.ref l) (E := E) (Q₁ := fun x s₁ => ∃ led, x = .ref s.heap.objs.size ∧ s₁ = { s with heap := s.heap.push (bare led) }) fun led => ⟨led, rfl, rfl⟩) fun r s₁ hr => ?_
  cases r with
  | error e => exact hr
  | ok fl =>
    cases fl with
    | ret x =>
      obtain ⟨led, rfl, rfl⟩ := hr
      have gS : (s.heap.push (bare led)).get? s.heap.objs.size = some (bare led) := Heap.get?_push_size _ rfl
      have tS : Shared.TypeIs { s with heap := s.heap.push (bare led) } (.ref s.heap.objs.size) "set" := ⟨_, gS, rfl⟩
      have f6 := PySem.F.called_set.init.lookup
      have f7 := PySem.F.called_set.init.bind (.ref s.heap.objs.size)
      walk_at "go"
      refine codeAny_mono (codeAny_call_builtin (R := wants (fun r s₂ => r = .none ∧ ∃ h₁ tk, s₂ = { s with heap := h₁, toks := tk } ∧ h₁.SetOf (mixKind prog w) s.heap.objs.size (memK (dk ks)) (dk ks).length ∧
          ∀ b o, b < s.heap.objs.size → s.heap.get? b = some o → h₁.get? b = some o) E) PySem.F.called_set.init.plain PySem.F.entry_set_init (check_set_init_1 tS ?_)) fun r₂ s₂ hr₂ => ?_
      · obtain ⟨kc, kd, kdat, ksl⟩ := ol
        simp only at oc od
        subst oc od
        have gl : (s.heap.push (bare led)).get? l = some { cls := .type T, dict := kd, data := .seq items nl, slots := ksl } := Heap.get?_push_of_some _ ob
        unfold Builtin.«set.__init__» noKeywords Builtin.Frozenset.updateFrom
        generalize hPI : pyIter = PI
        wp_walk
        subst hPI
        refine pit gl (wpAny_bind (wpAny_runValue ?_))
        have lS := Heap.lt_size ob
        have z1 : (s.heap.push (bare led)).objs.size = s.heap.objs.size + 1 := size_push' _ _
        obtain ⟨St, W, st0⟩ := wk (B := A.in1.in1.in1) (s.heap.push (bare led)).objs.size (by simp [hh]) (by rw [z1]; exact Nat.ne_of_lt (Nat.lt_succ_of_lt lS))
        refine fill_loop W (by rw [z1]; simp only [List.mem_cons, List.not_mem_nil, or_false, not_or]; exact ⟨Nat.ne_of_lt (Nat.lt_succ_self _), Nat.ne_of_gt lS⟩) ks kl nb kv items.size 0 _ (by omega) (st0 _ (Heap.get?_push_size _ rfl) (Heap.get?_push_of_some _ gl)) ?_ fun s' mv so => ?_
        · refine ⟨bare led, #[], 0, .fresh 0 0 led, Heap.get?_push_of_some _ gS, ⟨rfl, rfl, rfl⟩, rfl, (fun e he => by simp at he), (fun k => ?_), (by decide), rfl, rfl⟩
          rw [memK_iff, mem_dk]
          simp
        · obtain ⟨h', g', d', tk', os'⟩ := s'
          obtain rfl : g' = s.gens := mv.gens
          obtain rfl : d' = s.drawn := mv.drawn
          obtain rfl : os' = s.os := mv.os
          show wpAny _ _ _ _ _ _
          refine wpAny_pure ?_
          change wpAny _ _ (ret Value.none) _ _ _
          refine wpAny_pure ⟨rfl, h', tk', rfl, so, fun b o bl e => ?_⟩
          refine mv.heap b o ?_ (Heap.get?_push_of_some _ (Heap.get?_push_of_some _ e))
          rw [z1]
          simp only [List.mem_cons, List.not_mem_nil, or_false, not_or]
          exact ⟨Nat.ne_of_lt bl, Nat.ne_of_lt (Nat.lt_succ_of_lt bl)⟩
      · cases r₂ with
        | error e => exact hr₂
        | ok fl₂ =>
          cases fl₂ with
          | ret r =>
            obtain ⟨rfl, h₁, tk, rfl, so, keep⟩ := hr₂
            walk_at "go"
            exact fin _ _ so keep
          | _ => exact hr₂.elim
    | _ => exact hr.elim
end
section
variable {X : Cx}
def rSetOf (Pg : Program) (w : World) (K : PySem.W.Frag) : List V → Hp → VK → Prop := fun vs H Q => ∃ (l : Addr) (ks : List Key), vs = [.ref l] ∧ (SqL K H l (ks.map kV) ∨ SqT K H l (ks.map kV)) ∧ ks.length ≤ 1000 ∧ ∀ p, H p = none → Q (.ref p) (upd H p (setO Pg w (dk ks) p))
theorem vals_at : ∀ {xs : List V} {us : List Value} {i : Nat} {u : Value}, Vals xs us → us[i]? = some u → ∃ x, xs[i]? = some x ∧ RelV x u
  | _, _, _, _, .nil, e => by simp at e
  | _, _, 0, _, .cons r _, e => by
    simp at e
    subst e
    exact ⟨_, rfl, r⟩
  | _, _, i + 1, u, .cons _ t, e => by
    obtain ⟨x, h1, h2⟩ := vals_at (i := i) (u := u) t (by simpa using e)
    exact ⟨x, by simpa using h1, h2⟩
theorem keys_at {ks : List Key} {its : List Value} (r : Vals (ks.map kV) its) : ∀ (i : Nat) (v : Value), its.toArray[i]? = some v → ∃ k, ks[i]? = some k ∧ (mixKind X.prog X.w).is k v = true ∧ v.scannable = true := fun i v e => by
  obtain ⟨x, hx, rx⟩ := vals_at r (by simpa using e)
  rw [List.getElem?_map] at hx
  cases q : ks[i]? with
  | none => rw [q] at hx; cases hx
  | some k =>
    rw [q] at hx
    cases hx
    exact ⟨k, rfl, kV_is rx, key_scan rx⟩
theorem cr_setOf (hc : X.calm = true) : CallR X (.type "set") (rSetOf X.prog X.w X.K) := by
  intro pins s σ H vs us Q I r h
  obtain ⟨l, ks, rfl, hq, hl, q⟩ := h
  obtain ⟨u, rfl, ru⟩ := r.one
  obtain rfl : u = Value.ref l := ru
  have done : ∀ (h₁ : Heap) (tk : Nat), h₁.SetOf (mixKind X.prog X.w) s.heap.objs.size (memK (dk ks)) (dk ks).length → (∀ b o, b < s.heap.objs.size → s.heap.get? b = some o → h₁.get? b = some o) →
      EP X pins σ Q (.ref s.heap.objs.size) { s with heap := h₁, toks := tk } := fun h₁ tk so keep =>
    ⟨.ref _, upd H s.heap.objs.size (setO X.prog X.w (dk ks) s.heap.objs.size), I.laid (t' := tk) (fun b o e => keep b o (Heap.lt_size e) e) (Nat.le_refl _) (setK_new so), rfl, q _ (I.hok.fresh (Nat.le_refl _))⟩
  rcases hq with hq | hq
  · obtain ⟨its, rv, pl, hz⟩ := I.list hq
    have hs : ks.length = its.toArray.size := by rw [List.size_toArray, ← rv.length, List.length_map]
    obtain ⟨o, ho, oc, n, od⟩ := pl.isList
    refine call_set_seq (T := "list") (iT := "list_iterator") (ks := ks) (I.ok.hd hc) ho oc od PySem.F.sub_list_set PySem.F.sub_list_frozenset (by decide) (fun e q => wpAny_pyIter_list ⟨o, e, oc, n, od⟩ q)
      (fun I' hh ne => ⟨_, (Walks.list hh I' l ne its.toArray).toS, fun s₁ e1 e2 => ⟨⟨_, e1, rfl, rfl⟩, ⟨o, e2, oc, n, od⟩⟩⟩) hs (by unfold scanBound; omega) (keys_at rv) done
  · obtain ⟨its, rv, pl, hz⟩ := I.tuple hq
    have hs : ks.length = its.toArray.size := by rw [List.size_toArray, ← rv.length, List.length_map]
    obtain ⟨o, ho, oc, n, od⟩ := id pl
    refine call_set_seq (T := "tuple") (iT := "tuple_iterator") (ks := ks) (I.ok.hd hc) ho oc od PySem.F.sub_tuple_set PySem.F.sub_tuple_frozenset (by decide) (fun e q => wpAny_pyIter_tuple ⟨o, e, oc, n, od⟩ q)
      (fun I' hh ne => ⟨_, (Walks.tuple hh I' l ne its.toArray).toS, fun s₁ e1 e2 => ⟨⟨_, e1, rfl, rfl⟩, ⟨o, e2, oc, n, od⟩⟩⟩) hs (by unfold scanBound; omega) (keys_at rv) done
end
end SX
namespace DL
open PySem PySem.Spec PyProof.Rows L2 STX SX SG
section
variable {c : Cn} {Ex : XK} {om : Om} {sl : Sl} {P : E → Om → Prop} {x : E} {Pg : Program} {w : World}
theorem kV_strs (ys : List Str) : (keysS ys).map kV = ys.map V.str := by
  unfold keysS
  rw [List.map_map]
  rfl
theorem cv_setL {ys : List Str} (hx : dat om x = some (.lst (ys.map .str))) (hl : ys.length ≤ 1000) (p : P (.o om.length) (om ++ [some (ownS Pg w (dk (keysS ys)))])) : CV c (rSetOf Pg w c.K) om sl [x] P := fun σ H O ps s vs r Q k => by
  obtain ⟨v, rfl, rv⟩ := ra1 r
  obtain ⟨a, ws, rfl, h1, h2⟩ := as_l s rv hx
  rw [h2.strs] at h1
  refine ⟨a, keysS ys, rfl, .inl (by rw [kV_strs]; exact sqL h1), by unfold keysS; rw [List.length_map]; exact hl, fun q hq => ?_⟩
  obtain ⟨s2, g2, r2⟩ := s.newOwnW (u := setO Pg w (dk (keysS ys)) q) (ds := ownS Pg w (dk (keysS ys))) hq ⟨upd_same, notC_set⟩
  exact k _ _ _ _ _ _ g2 s2 r2 p
theorem cv_setT {ys : List Str} (hl : ys.length ≤ 1000) (p : P (.o om.length) (om ++ [some (ownS Pg w (dk (keysS ys)))])) : CV c (rSetOf Pg w c.K) om sl [.v (.tup (ys.map .str))] P := fun σ H O ps s vs r Q k => by
  obtain ⟨v, rfl, rv⟩ := ra1 r
  obtain ⟨a, ws, rfl, na, h1, h2⟩ := as_t rv
  rw [h2.strs] at h1
  refine ⟨a, keysS ys, rfl, .inr (by rw [kV_strs]; exact sqT h1), by unfold keysS; rw [List.length_map]; exact hl, fun q hq => ?_⟩
  obtain ⟨s2, g2, r2⟩ := s.newOwnW (u := setO Pg w (dk (keysS ys)) q) (ds := ownS Pg w (dk (keysS ys))) hq ⟨upd_same, notC_set⟩
  exact k _ _ _ _ _ _ g2 s2 r2 p
end
end DL
set_option Elab.async false
set_option linter.all false
set_option maxRecDepth 100000
set_option maxHeartbeats 4000000
/-! sets of ints and texts whose table rises, so that they can be walked: made by a comprehension, sorted -/
namespace SC
open PySem PySem.Spec PyProof.Rows L2 DL STX SX
/-- the key of a laid value -/
def kOf (e : Int × Value) : Key := match e.2 with | .int i _ => .inl i | .str x _ => .inr x | _ => .inl 0
def Laid (P : Program) (w : World) (e : Int × Value) : Prop := ∃ k : Key, (mixKind P w).is k e.2 = true ∧ e.1 = (mixKind P w).hash k
theorem is_key {P : Program} {w : World} {k : Key} {v : Value} {n : Int} (h : (mixKind P w).is k v = true) : kOf (n, v) = k ∧ v.scannable = true := by
  rcases keyIs_shape h with ⟨i, t, rfl, rfl⟩ | ⟨x, t, rfl, rfl⟩
  · exact ⟨rfl, rfl⟩
  · exact ⟨rfl, rfl⟩
/-- the set at a of the keys ks -/
structure SetC0 (P : Program) (w : World) (ks : List Key) (o : Obj) (es : Array (Int × Value)) (ep : Nat) (t : SetTable) : Prop where
  ex : o.ExactSet
  da : o.data = .set es ep t
  laid : ∀ e ∈ es.toList, Laid P w e
  pm : (es.toList.map kOf).Perm ks
  nd : ks.Nodup
  few : es.size < scanBound
  fits : t.fits es.size = true
  ris : Ris t.place.toList
  led : w.params.followText "set-order" = true ∨ t.led = true
def SetC (P : Program) (w : World) (h : Heap) (a : Addr) (ks : List Key) : Prop := ∃ o es ep t, h.get? a = some o ∧ SetC0 P w ks o es ep t
section
variable {P : Program} {w : World} {h h' : Heap} {a : Addr} {ks : List Key}
theorem SetC.keep (R : SetC P w h a ks) (k : ∀ o, h.get? a = some o → h'.get? a = some o) : SetC P w h' a ks := by
  obtain ⟨o, es, ep, t, ho, r⟩ := R
  exact ⟨o, es, ep, t, k o ho, r⟩
theorem laid_is {e : Int × Value} (g : Laid P w e) {k : Key} : (mixKind P w).is k e.2 = true ↔ kOf e = k := by
  obtain ⟨j, hj, _⟩ := g
  have e1 : kOf e = j := (is_key (n := e.1) hj).1
  exact ⟨fun q => by rw [e1]; exact (mixKind P w).inj e.2 j k hj q, fun q => by rw [← q, e1]; exact hj⟩
theorem laid_mem {l : List (Int × Value)} (g : ∀ e ∈ l, Laid P w e) {k : Key} : k ∈ l.map kOf ↔ ∃ e ∈ l, (mixKind P w).is k e.2 = true := by
  rw [List.mem_map]
  exact ⟨fun ⟨e, he, q⟩ => ⟨e, he, (laid_is (g e he)).mpr q⟩, fun ⟨e, he, q⟩ => ⟨e, he, (laid_is (g e he)).mp q⟩⟩
theorem laid_elems {l : List (Int × Value)} (g : ∀ e ∈ l, Laid P w e) : ElemsOf (mixKind P w) l := fun e he => by
  obtain ⟨k, q1, q2⟩ := g e he
  exact ⟨⟨k, q1, q2⟩, (is_key (n := e.1) q1).2⟩
theorem SetC.setOf (R : SetC P w h a ks) : h.SetOf (mixKind P w) a (memK ks) ks.length := by
  obtain ⟨o, es, ep, t, ho, r⟩ := R
  refine ⟨o, es, ep, t, ho, r.ex, r.da, laid_elems r.laid, fun k => ?_, r.few, r.fits, ?_⟩
  · rw [memK_iff, ← r.pm.mem_iff]
    exact laid_mem r.laid
  · rw [← r.pm.length_eq, List.length_map, Array.length_toList]
end
section
variable {P : Program} {w : World} {A : Around} {E : Value → Shared → Prop} {s : Shared} {a : Addr} {ks : List Key}
theorem put_tail {gw : Bool → Sem Unit} (quiet : ∀ (b : Bool) (s₁ : Shared) (F : Unit → Shared → Prop), F () s₁ → wpAny (model P w) A (gw b) F E s₁)
    {o : Obj} {es : Array (Int × Value)} {ep : Nat} {t : SetTable} (ho : s.heap.get? a = some o) (hd : o.data = .set es ep t) {js : List Key} {fs : Array (Int × Value)} {u : SetTable}
    (new : ∀ ep', SetC0 P w js { o with data := .set fs ep' u } fs ep' u) {dummy : Bool} {R : Option Bool → Shared → Prop}
    (fin : ∀ h', Heap.SameBut a s.heap h' → SetC P w h' a js → R (some true) { s with heap := h' }) :
    wpAny (model P w) A (do
        storeSet a fs u
        if (!dummy && u.tooFull) = true then do
            gw (relayAll u fs (SetTable.grown fs.size)).2.2
            storeSet a (relayAll u fs (SetTable.grown fs.size)).1 (relayAll u fs (SetTable.grown fs.size)).2.1
            pure (some true)
          else pure (some true)) R E s := by
  have N := new 0
  refine wpAny_bind (wpAny_storeSet_of ho hd ?_ (fits_of_scanBound N.few))
  have o1 := store_at (es' := fs) (t' := u) ho hd
  have b1 := Heap.SameBut.update s.heap a (Obj.putSet fs u)
  split
  · have q1 := relayAll_perm u fs (SetTable.grown fs.size)
    have q2 := relayAll_fits u fs (SetTable.grown fs.size)
    have q3 := relayAll_ris u fs (SetTable.grown fs.size)
    have q4 := relayAll_led u fs (SetTable.grown fs.size)
    obtain ⟨Z, eZ⟩ : ∃ Z, relayAll u fs (SetTable.grown fs.size) = Z := ⟨_, rfl⟩
    rw [eZ] at q1 q2 q3 q4 ⊢
    obtain ⟨gs, v, gave⟩ := Z
    dsimp only at q1 q2 q3 q4 ⊢
    have sz : gs.size = fs.size := by rw [← Array.length_toList, q1.length_eq, Array.length_toList]
    have few : gs.size < scanBound := sz ▸ N.few
    refine wpAny_bind (quiet _ _ _ ?_)
    refine wpAny_bind (wpAny_storeSet_of o1 rfl ?_ (fits_of_scanBound few))
    have o2 := store_at (es' := gs) (t' := v) o1 rfl
    refine wpAny_pure (fin _ (b1.trans (Heap.SameBut.update _ a _)) ⟨_, gs, _, v, o2, N.ex, rfl, fun e he => N.laid e (q1.mem_iff.mp he), (q1.map kOf).trans N.pm, N.nd, few, q2, q3, ?_⟩)
    exact N.led.imp id fun z => by rw [q4]; exact z
  · exact wpAny_pure (fin _ b1 ⟨_, fs, _, u, o1, new _⟩)
theorem add_hashed {k : Key} {x : Value} {Q : Bool → Shared → Prop} (hk : (mixKind P w).is k x = true) (R : SetC P w s.heap a ks) (room : ks.length + 1 < scanBound)
    (fin : ∀ h' b, Heap.SameBut a s.heap h' → SetC P w h' a (addK ks k) → Q b { s with heap := h' }) : wpAny (model P w) A (setAddHashed a x ((mixKind P w).hash k)) Q E s := by
  obtain ⟨o, es, ep, t, ho, r⟩ := R
  have sc : x.scannable = true := (is_key (n := 0) hk).2
  have el : ElemsOf (mixKind P w) es.toList := laid_elems r.laid
  have n : es.size = ks.length := by rw [← r.pm.length_eq, List.length_map, Array.length_toList]
  unfold setAddHashed setAddHashedIn
  refine wpAny_holding (wpAny_bind (wpAny_setState_of ho r.da r.fits ?_))
  dsimp only
  rw [byScan_of sc r.few el]
  simp only [↓reduceIte]
  unfold setAddByScan
  refine wpAny_bind ?_
  refine wpAny_bind (wpAny_rule ?_)
  refine wpAny_bind (wpAny_setScan_of hk ho r.da r.fits el ?_)
  cases hf : List.findIdx? (fun e => (mixKind P w).is k e.2) es.toList with
  | some j =>
    dsimp only
    obtain ⟨hj, pj, _⟩ := List.findIdx?_eq_some_iff_getElem.mp hf
    have mem : k ∈ ks := r.pm.mem_iff.mp ((laid_mem r.laid).mpr ⟨es.toList[j], List.getElem_mem hj, pj⟩)
    refine wpAny_pure (wpAny_pure (fin s.heap _ (Heap.SameBut.refl a s.heap) ?_))
    have e1 : addK ks k = ks := by
      unfold addK
      rw [if_pos (memK_iff.mpr mem)]
    rw [e1]
    exact ⟨o, es, ep, t, ho, r⟩
  | none =>
    dsimp only
    have mem : k ∉ ks := fun z => by
      obtain ⟨e, he, q⟩ := (laid_mem r.laid).mp (r.pm.mem_iff.mpr z)
      have y := List.findIdx?_eq_none_iff.mp hf e he
      rw [q] at y
      cases y
    have e1 : addK ks k = ks ++ [k] := by
      unfold addK
      rw [if_neg (fun z => mem (memK_iff.mp z))]
    rw [e1] at fin
    have gone : ∀ (b : Bool) {s₁ : Shared} {F : Unit → Shared → Prop}, F () s₁ → wpAny (model P w) A (match b with | true => rule "set.scan.the-table-gave-way" | false => pure ()) F E s₁ := by
      intro b s₁ F q
      cases b
      · exact wpAny_pure q
      · exact wpAny_rule q
    have l1 := layNew_perm t es ((mixKind P w).hash k) x
    have l2 := layNew_fits t es ((mixKind P w).hash k) x
    have l3 := layNew_ris t es ((mixKind P w).hash k) x r.ris
    have l4 := layNew_led t es ((mixKind P w).hash k) x
    obtain ⟨Z, eZ⟩ : ∃ Z, layNew t es ((mixKind P w).hash k) x = Z := ⟨_, rfl⟩
    rw [eZ] at l1 l2 l3 l4 ⊢
    obtain ⟨fs, u, dummy, gave⟩ := Z
    dsimp only at l1 l2 l3 l4 ⊢
    rw [Array.toList_push] at l1
    have pc : fs.toList.Perm (((mixKind P w).hash k, x) :: es.toList) := l1.trans (List.perm_append_singleton _ _)
    have pk : (fs.toList.map kOf).Perm (ks ++ [k]) := by
      have q := (pc.map kOf).trans (List.Perm.cons _ r.pm)
      rw [(is_key (n := (mixKind P w).hash k) hk).1] at q
      exact q.trans (List.perm_append_singleton _ _).symm
    have sz : fs.size = ks.length + 1 := by
      have := pk.length_eq
      rw [List.length_map, Array.length_toList, List.length_append, List.length_singleton] at this
      exact this
    have few : fs.size < scanBound := sz ▸ room
    have led : w.params.followText "set-order" = true ∨ u.led = true := r.led.imp id fun z => by rw [l4]; exact z
    have nd : (ks ++ [k]).Nodup := List.nodup_append.mpr ⟨r.nd, by simp, fun b hb c hc z => mem (by rw [List.mem_singleton] at hc; rw [← hc, ← z]; exact hb)⟩
    have all : ∀ e ∈ fs.toList, Laid P w e := fun e he => by
      rcases List.mem_cons.mp (pc.mem_iff.mp he) with z | z
      · rw [z]
        exact ⟨k, hk, rfl⟩
      · exact r.laid e z
    refine wpAny_bind (gone _ ?_)
    have nx : ∀ u', u'.fits fs.size = true → Ris u'.place.toList → (w.params.followText "set-order" = true ∨ u'.led = true) → ∀ ep', SetC0 P w (ks ++ [k]) { o with data := .set fs ep' u' } fs ep' u' := fun u' a1 a2 a3 ep' =>
      ⟨r.ex, rfl, all, pk, nd, few, a1, a2, a3⟩
    split
    · refine wpAny_bind ?_
      rw [hashByValue_scannable 8 sc]
      refine wpAny_pure ?_
      refine put_tail ?_ ho r.da (nx _ ?_ ?_ ?_) ?_
      · intro b s₁ F q
        cases b
        · first | exact wpAny_pure q | exact wpAny_rule q
        · first | exact wpAny_pure q | exact wpAny_rule q
      · first | exact l2 | (split <;> first | exact l2 | exact SetTable.fits_plain_off l2)
      · first | exact l3 | (split <;> exact l3)
      · first | exact led | (split <;> exact led)
      · intro h' sb z
        dsimp only
        exact wpAny_pure (fin h' _ sb z)
    · refine wpAny_bind (wpAny_pure ?_)
      simp only [↓reduceIte]
      refine put_tail ?_ ho r.da (nx _ l2 l3 led) ?_
      · intro b s₁ F q
        cases b
        · first | exact wpAny_pure q | exact wpAny_rule q
        · first | exact wpAny_pure q | exact wpAny_rule q
      · intro h' sb z
        dsimp only
        exact wpAny_pure (fin h' _ sb z)
/-- found.add(x) -/
theorem add_at {k : Key} {x : Value} {Q : Value → Shared → Prop} (hk : (mixKind P w).is k x = true) (R : SetC P w s.heap a ks) (room : ks.length + 1 < scanBound)
    (fin : ∀ h', Heap.SameBut a s.heap h' → SetC P w h' a (addK ks k) → Q .none { s with heap := h', toks := s.toks + 1 }) : wpAny (model P w) A (call (.builtin "set.add") [.ref a, x]) Q E s := by
  refine wpAny_call_entry F.slot_set_add R.setOf.typeIs F.entry_set_add ?_ (F.args_set_add_2 _ _)
  unfold Builtin.«set.add» Builtin.Frozenset.oneOther
  simp only [List.isEmpty_nil, bind_assoc]
  unfold Builtin.Frozenset.addrOf setAdd
  refine wpAny_bind (wpAny_pure ?_)
  try dsimp only
  refine wpAny_bind (wpAny_pure ?_)
  try dsimp only
  refine wpAny_bind (wpAny_holding (wpAny_bind ((mixKind P w).pyHash hk ?_)))
  refine add_hashed (s := { s with toks := s.toks + 1 }) hk R room fun h' b sb z => ?_
  change wpAny _ _ (ret Value.none) _ _ _
  exact wpAny_pure ⟨_, rfl, fin h' sb z⟩
theorem setC_fresh {h : Heap} : SetC P w (h.push { cls := .type "set", dict := none, data := .set #[] 0 (.fresh 0 0 (!w.params.followText "set-order")) }) h.objs.size [] := by
  refine ⟨_, #[], 0, _, Heap.get?_push_size _ rfl, ⟨rfl, rfl, rfl⟩, rfl, fun e he => by simp at he, by simp, List.nodup_nil, by decide, by rfl, List.Pairwise.nil, ?_⟩
  cases w.params.followText "set-order"
  · exact .inr rfl
  · exact .inl rfl
end
/-- as a tracked thing -/
def setCO (P : Program) (w : World) (ks : List Key) (a : Addr) : HO := .ext fun h => SetC P w h a ks
theorem setCO_new {w : World} {P : Program} {H : Hp} {h : Heap} {a : Addr} {ks : List Key} (R : SetC P w h a ks) : ObjOk P w H h a (setCO P w ks a) := by
  have ⟨o, _, _, _, ho, _⟩ := R
  exact ⟨R, ⟨o, ho⟩, fun h1 h2 p k => SetC.keep p k⟩
section
variable {X : Cx}
theorem setCO_get {pins : List (Addr × Obj)} {σ : L2.St} {H : Hp} {s : Shared} {a : Addr} {ks : List Key} (I : Inv X pins σ H s) (ha : H a = some (setCO X.prog X.w ks a)) : SetC X.prog X.w s.heap a ks := (I.hok a _ ha).1
theorem addC_ok {pins : List (Addr × Obj)} {σ : L2.St} {H : Hp} {s : Shared} {E : Value → Shared → Prop} {D : Addr} {ks : List Key} {k : Key} {x : Value} {Q : Value → Shared → Prop} (I : Inv X pins σ H s) (hD : H D = some (setCO X.prog X.w ks D)) (hx : RelV (kV k) x)
    (room : ks.length + 1 < scanBound) (fin : ∀ s', Inv X pins σ (upd H D (setCO X.prog X.w (addK ks k) D)) s' → Q .none s') : wpAny (model X.prog X.w) X.A (call (.builtin "set.add") [.ref D, x]) Q E s := by
  refine add_at (kV_is hx) (setCO_get I hD) room fun h' sb new => ?_
  have he : ∃ u, h'.get? D = some u := by
    have ⟨o, _, _, _, ho, _⟩ := new
    exact ⟨o, ho⟩
  exact fin _ (I.write (e := D) (t' := s.toks + 1) (by rw [hD]; trivial) (.inl rfl) (fun b u hb hu => (sb.2 b hb).trans hu) he (setCO_new new))
end
/-! ### sorted -/
def leS (x y : Str) : Bool := PySem.W.dataLe false PyData.str x y
theorem strs_each : ∀ {ys : List Str} {vs : List Value}, Vals (ys.map V.str) vs → PySem.W.EachIs (fun v y => RelV (V.str y) v) vs ys
  | [], _, h => by
    cases h
    exact .nil
  | y :: ys, _, h => by
    cases h with
    | cons a b => exact .cons a (strs_each b)
theorem each_strs : ∀ {ys : List Str} {vs : List Value}, PySem.W.EachIs (fun v y => RelV (V.str y) v) vs ys → Vals (ys.map V.str) vs
  | _, _, .nil => .nil
  | _, _, .cons a b => .cons a (each_strs b)
theorem strs_reads {h : Heap} {a : Addr} : ∀ {ys : List Str} {vs : List Value}, Vals (ys.map V.str) vs → PySem.W.EachIs (fun v y => ∃ as, Reads h v (PyData.str y) as ∧ a ∉ as) vs ys
  | [], _, h => by
    cases h
    exact .nil
  | y :: ys, _, h => by
    cases h with
    | cons q b =>
      obtain ⟨t, rfl⟩ := q
      exact .cons ⟨[], .str _ _, fun z => nomatch z⟩ (strs_reads b)
theorem out_strs {P : Program} {w : World} {l : List Str} : ∀ {es : List (Int × Value)} {vs : List Value}, (∀ e ∈ es, Laid P w e) → (∀ e ∈ es, ∃ y ∈ l, kOf e = .inr y) → (∀ v ∈ vs, v ∈ es.map (·.2)) → ∃ ys : List Str, Vals (ys.map V.str) vs ∧ ∀ n : Int, vs.map (fun v => kOf (n, v)) = ys.map .inr
  | _, [], _, _, _ => ⟨[], .nil, fun _ => rfl⟩
  | es, v :: vs, g, hk, hv => by
    obtain ⟨ys, h1, h2⟩ := out_strs g hk fun u hu => hv u (List.mem_cons_of_mem _ hu)
    obtain ⟨e, he, rfl⟩ := List.mem_map.mp (hv v List.mem_cons_self)
    obtain ⟨y, hy, ey⟩ := hk e he
    have q : keyIs (.inr y) e.2 = true := (laid_is (g e he)).mpr ey
    rcases keyIs_shape q with ⟨i, t, z, _⟩ | ⟨x, t, z, zz⟩
    · cases z
    · cases z
      refine ⟨y :: ys, ?_, fun n => ?_⟩
      · rw [zz]
        exact .cons ⟨t, rfl⟩ h1
      · rw [List.map_cons, List.map_cons, h2 n, zz]
        rfl
def rSortedC (Pg : Program) (w : World) : List V → Hp → VK → Prop := fun vs H Q => ∃ (a : Addr) (l : List Str), vs = [V.ref a] ∧ H a = some (setCO Pg w (l.map .inr) a) ∧ l.length ≤ 1000 ∧
  ∀ (bs : List Str) (p : Addr), bs.Perm l → H p = none → Q (.ref p) (upd H p (.lst ((bs.mergeSort leS).map V.str)))
theorem cr_sortedC {X : Cx} (hc : X.calm = true) (hu : X.A.units + 64 < cLine) : CallR X (.builtin "sorted") (rSortedC X.prog X.w) := by
  intro pins s σ H vs us Q I r h
  obtain ⟨a, l, rfl, ha, hl, q⟩ := h
  obtain ⟨o, es, ep, t, ho, R⟩ := setCO_get I ha
  rw [Vals.ref1 r]
  refine Calls.call_function_entry kind_sorted plain_sorted entry_sorted (args_sorted1 _) ?_
  unfold Builtin.«sorted»
  refine wpAny_bind (m := checkCount "sorted" 1 1 _) (wpAny_pure ?_)
  refine wpAny_bind (collect_set (A := X.A.in1) (I.ok.hd hc) ⟨o, ho, R.ex.1, R.da⟩ R.fits R.few R.ris R.led fun s1 vs k1 hz g1 o1 pm => ?_)
  obtain ⟨bs, v1, v2⟩ := out_strs (l := l) R.laid (fun e he => by
    have := R.pm.mem_iff.mp (List.mem_map.mpr ⟨e, he, rfl⟩)
    obtain ⟨y, hy, e2⟩ := List.mem_map.mp this
    exact ⟨y, hy, e2.symm⟩) fun v hv => pm.mem_iff.mp hv
  have len : vs.length = bs.length := by
    have := congrArg List.length (v2 0)
    rwa [List.length_map, List.length_map] at this
  have pb : bs.Perm l := by
    have p1 : (vs.map fun v => kOf (0, v)).Perm (l.map Sum.inr) := by
      have := pm.map fun v => kOf (0, v)
      rw [List.map_map] at this
      exact this.trans R.pm
    rw [v2 0] at p1
    have p2 := p1.map fun k : Key => match k with | .inr y => y | .inl _ => Str.empty
    rw [List.map_map, List.map_map] at p2
    simpa [Function.comp_def] using p2
  have few : bs.length ≤ 1000 := by rw [pb.length_eq]; exact hl
  have L : bs.length ≤ sizeLine := Nat.le_trans few (by decide)
  refine wpAny_bind (wpAny_newList ?_ (by rw [len]; exact L))
  have oL : (s1.heap.push (seqObj "list" vs.toArray 0)).get? s1.heap.objs.size = some (seqObj "list" vs.toArray 0) := Heap.get?_push_size _ rfl
  refine wpAny_bind (wpAny_holding (PySem.W.list_sort_data (s := { s1 with heap := s1.heap.push (seqObj "list" vs.toArray 0) }) (enc := PyData.str) (R := fun v y => RelV (V.str y) v) oL (strs_each v1) (strs_reads v1) ?_ ?_ L ?_ fun out ho eo => ?_))
  · exact PySem.W.AllAlike.of fun x y => by simp [PySem.W.alike]
  · exact PySem.W.Sortable.others fun x => ⟨by simp, fun xs => by simp⟩
  · intro b hb
    have : (PyData.str b).depth = 0 := by simp [PyData.depth]
    rw [this]
    show X.A.units + 1 + 1 + 0 < cLine
    omega
  · obtain ⟨c, hc2⟩ := sortedHeap_at (vs := vs) (out := out.toArray) oL
    have v3 := each_strs eo
    have keep : ∀ b u, s.heap.get? b = some u → (sortedHeap (s1.heap.push (seqObj "list" vs.toArray 0)) s1.heap.objs.size vs out.toArray).get? b = some u := fun b u e => by
      have q := k1 b u e
      have lt := Heap.lt_size q
      rw [sortedHeap_old (Nat.ne_of_lt lt) (by rw [size_push']; exact Nat.lt_succ_of_lt lt)]
      exact Heap.get?_push_of_some _ q
    have nH : H s1.heap.objs.size = none := I.hok.fresh hz
    have ol : ((bs.mergeSort leS).map V.str).length ≤ sizeLine := by rw [List.length_map, List.length_mergeSort]; exact L
    refine wpAny_pure ⟨_, rfl, ?_⟩
    have J : Inv X pins σ (upd H s1.heap.objs.size (.lst ((bs.mergeSort leS).map V.str))) { s with heap := sortedHeap (s1.heap.push (seqObj "list" vs.toArray 0)) s1.heap.objs.size vs out.toArray, gens := s1.gens, drawn := s1.drawn, toks := s1.toks } :=
      I.call (ch := []) (Un.laid keep hz nH) (I.hok.laid keep hz ⟨ol, out, c, v3, hc2⟩) (by rw [g1]; exact I.bare) (fun _ z => nomatch z)
    have e : ({ s1 with heap := sortedHeap (s1.heap.push (seqObj "list" vs.toArray 0)) s1.heap.objs.size vs out.toArray } : Shared) = { s with heap := sortedHeap (s1.heap.push (seqObj "list" vs.toArray 0)) s1.heap.objs.size vs out.toArray, gens := s1.gens, drawn := s1.drawn, toks := s1.toks } := by
      cases s1
      cases s
      cases o1
      rfl
    rw [e]
    exact ⟨.ref _, _, J, rfl, q bs _ pb nH⟩
end SC
set_option Elab.async false
set_option linter.all false
set_option maxRecDepth 100000
set_option maxHeartbeats 4000000
/-! set comprehensions of keys -/
namespace SC
open PySem PySem.Spec PyProof.Rows L2 DL STX SX PpSet
section
variable {X : Cx}
/-- a set comprehension of keys; D is the new set -/
def tSc (P : Program) (w : World) (wj : TI) (gg : TG) (tf : TT) (tu : TE) (vs : List Nat) : TE := fun σ H Q => wj σ H fun J0 H1 => ∀ D, H1 D = none → ∃ W : Nat → Nat → Hp → Prop, (∃ m, W 0 m (upd H1 D (setCO P w [] D))) ∧ ∀ i m H, W i m H →
  (J0.stop i H ∧ Q (.ref D) H) ∨ (J0.go i H ∧ ∃ Ny : Hp → Prop, (∀ H', Ny H' → ∃ m', m' < m ∧ W (i + 1) m' H') ∧ ∀ x H', J0.yld i H x H' → gg x (wipe σ vs) H' fun σ2 G2 => wipe σ2 vs = wipe σ vs ∧ tf σ2 G2 fun b G3 =>
    if b = true then tu σ2 G3 fun y G4 => ∃ (c : Key) (ks : List Key), y = kV c ∧ G4 D = some (setCO P w ks D) ∧ ks.length + 1 < scanBound ∧ Ny (upd G4 D (setCO P w (addK ks c) D)) else Ny G3)
theorem sc_core {qq0 : List (Addr × Obj)} {s : Shared} {σ : L2.St} {H : Hp} {Q : VK} {el0 tg0 it0 : Expr} {if0 : List Expr} {sco : Scope} {ow : List (PySem.Str × Nat)} {pos pos' : Pos} {wj : TI} {gg : TG} {tf : TT} {tu : TE} {us0 : Option (Value → Sem Unit)} {Q0 : Value → Shared → Prop}
    (hc : X.calm = true) (hN : X.N.Nodup) (I : Inv X qq0 σ H s) (hi : PI X tg0 it0 wj) (ok : BlkOk X.N X.env.scope sco ow)
    (hg : ∀ (s : Shared) (H : Hp) (C : Addr) (cl : List (PySem.Str × Addr)) (fq : List Addr), PG (X.blk s H sco (compEnvC sco cl C X.env) fq) tg0 gg) (ht : ∀ (s : Shared) (H : Hp) (C : Addr) (cl : List (PySem.Str × Addr)) (fq : List Addr), PTs (X.blk s H sco (compEnvC sco cl C X.env) fq) if0 tf)
    (he : ∀ (s : Shared) (H : Hp) (C : Addr) (cl : List (PySem.Str × Addr)) (fq : List Addr), PE (X.blk s H sco (compEnvC sco cl C X.env) fq) el0 tu) (hs : ∀ x, foldedSetIterable it0 X.env x = pure x)
    (h : tSc X.prog X.w wj gg tf tu (ow.map (·.2)) σ H Q)
    (hR0 : ∀ D C s' m H', Inv X qq0 σ H' s' → Q (.ref D) H' → s'.heap.Ns C m → FpOk X qq0 H' C → compPost (model X.prog X.w) X.A X.xe us0 Q0 (.ref D) C (.ok .next) s') :
    wpAny (model X.prog X.w) X.A (comprehension (.SetComp el0 [⟨tg0, it0, if0, 0⟩] sco pos) sco X.env pos' (newSet (.type "set")) false (eval it0 X.env) us0) Q0 X.xe s := by
  have hfr : ∀ y ∈ sco.names, y.2 = .free → ∃ c, X.env.cells.lookup y.1 = some c := fun y hy e => by
    rcases ok.free y hy e with k | k
    · exact I.ok.has _ (.inl k)
    · exact I.ok.has _ (.inr k)
  refine wpAny_comprehension_free (use := us0) rfl hs (closure_ok hfr) ok.kind (fun y hy e => by rw [ok.uniq y hy, e])
    (thn (hi.run qq0 s σ H _ I h) fun xv u1 hx => thn hx fun itv u2 h2 => ?_)
  obtain ⟨it, fq, tm0, J0, G2, e, J2, T0, sv2, f2, q⟩ := h2
  subst e
  refine newSet_ok (newEnv_comp ?_)
  generalize hD : u2.heap.objs.size = D
  have hD1 : G2 D = none := J2.hok.fresh (Nat.le_of_eq hD)
  obtain ⟨W, ⟨m0, w0⟩, trn⟩ := q D hD1
  -- the new list
  generalize hs3 : ({ u2 with heap := u2.heap.push { cls := .type "set", dict := none, data := .set #[] 0 (.fresh 0 0 (!X.w.params.followText "set-order")) } } : Shared) = u3
  have J3 : Inv X qq0 σ (upd G2 D (setCO X.prog X.w [] D)) u3 := by
    rw [← hs3]
    refine J2.laid (t' := u2.toks) (fun b o e => Heap.get?_push_of_some _ e) (Nat.le_of_eq hD) ?_
    rw [← hD]
    exact setCO_new setC_fresh
  have h3 : u3.heap = u2.heap.push { cls := .type "set", dict := none, data := .set #[] 0 (.fresh 0 0 (!X.w.params.followText "set-order")) } := by rw [← hs3]
  have sz : ∀ b ∈ fq, b < u2.heap.objs.size := fun b hb => by
    obtain ⟨o, e, _⟩ := T0.obj _ _ sv2 b hb
    exact Heap.lt_size e
  have f3 : ∀ b ∈ fq, FpOk X qq0 (upd G2 D (setCO X.prog X.w [] D)) b ∧ b < u3.heap.objs.size := fun b hb => by
    have hlt := sz b hb
    refine ⟨⟨?_, (f2 b hb).2⟩, by rw [h3, Heap.size_push]; exact Nat.lt_succ_of_lt hlt⟩
    rw [upd_ne (by rw [← hD]; exact Nat.ne_of_lt hlt)]
    exact (f2 b hb).1
  have sv3 : tm0 0 u3.heap := T0.keep _ _ _ sv2 fun b _ o e => by rw [h3]; exact Heap.get?_push_of_some _ e
  have J4 := block_start J3 ok hN f3
  have pg0 := hg u3 (upd G2 D (setCO X.prog X.w [] D)) u3.heap.objs.size (cellsFrom (u3.heap.objs.size + 1) sco.names (cloFrom X.env.cells sco.names [])) fq
  have pt0 := ht u3 (upd G2 D (setCO X.prog X.w [] D)) u3.heap.objs.size (cellsFrom (u3.heap.objs.size + 1) sco.names (cloFrom X.env.cells sco.names [])) fq
  have pe0 := he u3 (upd G2 D (setCO X.prog X.w [] D)) u3.heap.objs.size (cellsFrom (u3.heap.objs.size + 1) sco.names (cloFrom X.env.cells sco.names [])) fq
  show codeAny _ _ (.compStart (.SetComp el0 [⟨tg0, it0, if0, 0⟩] sco pos) 0 (.ref it) (.ref D) (compEnvC sco (cellsFrom (u3.heap.objs.size + 1) sco.names (cloFrom X.env.cells sco.names [])) u3.heap.objs.size X.env)) (compPost (model X.prog X.w) X.A X.xe us0 Q0 (.ref D) u3.heap.objs.size) { u3 with heap := pushCells (u3.heap.push { cls := .type "dict", data := .dict #[] }) sco.names }
  have nfp : ∀ b ∈ fq, (upd G2 D (setCO X.prog X.w [] D)) b = none := fun b hb => (f3 b hb).1.1
  generalize hce : compEnvC sco (cellsFrom (u3.heap.objs.size + 1) sco.names (cloFrom X.env.cells sco.names [])) u3.heap.objs.size X.env = cc at J4 pg0 pt0 pe0 ⊢
  have cL : cc.locals = u3.heap.objs.size := by subst hce; rfl
  generalize hH3 : upd G2 D (setCO X.prog X.w [] D) = G3 at J3 J4 pg0 pt0 pe0 w0 nfp f3
  generalize hs4 : ({ u3 with heap := pushCells (u3.heap.push { cls := .type "dict", data := .dict #[] }) sco.names } : Shared) = u4 at J4 ⊢
  have sv4 : tm0 0 u4.heap := T0.keep _ _ _ sv3 fun b _ o e => by rw [← hs4]; exact pushCells_keeps _ _ _ _ (Heap.get?_push_of_some _ e)
  have sta : ∀ {σ' : L2.St} {H' : Hp} {s' : Shared}, Inv (X.blk u3 G3 sco cc fq) [] σ' H' s' → (∀ b ∈ fq, H' b = none) → ∀ b ∈ fq, FpOk (X.blk u3 G3 sco cc fq) [] H' b := fun {σ' H' s'} J' hn b hb =>
    ⟨hn b hb, (J'.ok.exf b hb).1, J'.ok.exfs b hb, .inl hb, fun x c e => (J'.ok.exf b hb).2 x c e, fun p hp => absurd (show p ∈ ([] : List (Addr × Obj)) ++ [] from hp) (by simp)⟩
  have lp0 : codeAny (model X.prog X.w) X.A (.compLoop (.SetComp el0 [⟨tg0, it0, if0, 0⟩] sco pos) 0 (.ref it) (.ref D) cc) (compPost (model X.prog X.w) X.A X.xe us0 Q0 (.ref D) u3.heap.objs.size) u4 := by
    refine compLoopS_any (fun n s' => ∃ i H', Inv (X.blk u3 G3 sco cc fq) [] (wipe σ (ow.map (·.2))) H' s' ∧ tm0 i s'.heap ∧ (∀ b ∈ fq, H' b = none) ∧ W i n H') ?_ m0 ⟨0, G3, J4, sv4, nfp, w0⟩
    rintro n u5 ⟨i, G5, J5, sv5, n5, w5⟩
    rcases trn i n G5 w5 with ⟨stop, qq⟩ | ⟨go, Ny, hNy, step⟩
    · have td := T0.done (X.blk u3 G3 sco cc fq) rfl rfl rfl hc i [] u5 _ G5 (fun _ _ => False) J5 (sta J5 n5) sv5 stop
      refine thnF td fun r u6 ⟨hr, J6⟩ => ?_
      subst hr
      -- back in the def's context
      have J7 : Inv X qq0 σ G5 u6 := J3.call' (ch := fq) J6.os J6.base J6.hok J6.bare fun b hb => ⟨(f3 b hb).1.2.2.2.1, (f3 b hb).1.2.1, (f3 b hb).1.2.2.2.2.1, (f3 b hb).1.2.2.2.2.2⟩
      have nC : G5 u3.heap.objs.size = none := by
        have z : G5 cc.locals = none := J6.free
        rw [cL] at z
        exact z
      obtain ⟨m, hn, _⟩ := J6.loc
      have hn : u6.heap.Ns cc.locals m := hn
      rw [cL] at hn
      exact hR0 D u3.heap.objs.size u6 m G5 J7 qq hn (J3.fpOk (Nat.le_refl _) nC)
    · have ti := T0.item (X.blk u3 G3 sco cc fq) rfl rfl rfl hc i [] u5 _ G5 (fun _ _ => False) J5 (sta J5 n5) sv5 go
      refine thnF ti fun r u6 ⟨u, hr, h6⟩ => ?_
      subst hr
      refine thnF h6 fun _ u7 ⟨x, G7, J7, r7, y7, sv7, n7⟩ => ?_
      have I7' := J7.pinned (sta J7 n7) (T0.obj _ _ sv7)
      refine thnF (pg0.run _ u7 _ G7 x u _ I7' r7 (step x G7 y7)) fun _ u8 ⟨σ8, G8, J8, hw8, q8⟩ => ?_
      refine thnF (pt0.run _ u8 σ8 G8 _ J8 q8) fun b u9 ⟨G9, J9, q9⟩ => ?_
      -- the turn's end
      have fin : ∀ {s' : Shared} {H' : Hp}, Inv (X.blk u3 G3 sco cc fq) ([] ++ pinsAt fq u7.heap) σ8 H' s' → Ny H' → ∃ m, m < n ∧ ∃ i H', Inv (X.blk u3 G3 sco cc fq) [] (wipe σ (ow.map (·.2))) H' s' ∧ tm0 i s'.heap ∧ (∀ b ∈ fq, H' b = none) ∧ W i m H' := fun {s' H'} J' nx => by
        obtain ⟨m', hm, w'⟩ := hNy H' nx
        have pin' : ∀ b ∈ fq, ∀ o, u7.heap.get? b = some o → s'.heap.get? b = some o ∧ H' b = none := fun b hb o e =>
          let z := J'.pin (b, o) (List.mem_append_right _ (List.mem_append_right _ (mem_pinsAt hb e)))
          ⟨z.1, z.2.1⟩
        have hl : (wipe σ (ow.map (·.2))).length = σ8.length := by rw [← hw8, wipe_length]
        refine ⟨m', hm, i + 1, H', (J'.unpinned (pins := [])).weak hl (fun j v e => ?_), T0.keep _ _ _ sv7 fun b hb o e => (pin' b hb o e).1, fun b hb => ?_, w'⟩
        · rw [← hw8] at e
          exact (wipe_some e).1
        · obtain ⟨o, e, _⟩ := T0.obj _ _ sv7 b hb
          exact (pin' b hb o e).2
      cases b with
      | false =>
        simp only [Bool.false_eq_true, if_false] at q9 ⊢
        exact fin J9 q9
      | true =>
        simp only [if_true] at q9 ⊢
        refine thnF (pe0.run _ u9 σ8 G9 _ J9 q9) fun z u10 ⟨yv, G10, J10, r10, cb, S0, ey, hD10, hz10, nx⟩ => ?_
        subst ey
        exact addC_ok (X := X.blk u3 G3 sco cc fq) J10 hD10 r10 hz10 fun u11 J11 => fin J11 nx
  exact codeAny_compStart_set lp0 (T0.self X.A 0 _ _ _ sv4 lp0)
/-- as a value -/
theorem pe_sc {el0 tg0 it0 : Expr} {if0 : List Expr} {sco : Scope} {ow : List (PySem.Str × Nat)} {pos : Pos} {wj : TI} {gg : TG} {tf : TT} {tu : TE} (hc : X.calm = true) (hN : X.N.Nodup) (hi : PI X tg0 it0 wj) (ok : BlkOk X.N X.env.scope sco ow)
    (hg : ∀ (s : Shared) (H : Hp) (C : Addr) (cl : List (PySem.Str × Addr)) (fq : List Addr), PG (X.blk s H sco (compEnvC sco cl C X.env) fq) tg0 gg) (ht : ∀ (s : Shared) (H : Hp) (C : Addr) (cl : List (PySem.Str × Addr)) (fq : List Addr), PTs (X.blk s H sco (compEnvC sco cl C X.env) fq) if0 tf)
    (he : ∀ (s : Shared) (H : Hp) (C : Addr) (cl : List (PySem.Str × Addr)) (fq : List Addr), PE (X.blk s H sco (compEnvC sco cl C X.env) fq) el0 tu) (hs : ∀ x, foldedSetIterable it0 X.env x = pure x := by intro _; rfl) :
    PE X (.SetComp el0 [⟨tg0, it0, if0, 0⟩] sco pos) (tSc X.prog X.w wj gg tf tu (ow.map (·.2))) := by
  refine ⟨fun qq0 s σ H Q I h => ?_⟩
  rw [eval_SetComp]
  refine sc_core hc hN I hi ok hg ht he hs h fun D C s' m H' J' q hn f => ⟨m, hn, fun h'' sb => ?_⟩
  obtain ⟨f0, f1, f2, f3, f4, f5⟩ := f
  exact ⟨.ref D, H', J'.turned (t' := s'.toks) (fun b o hb e => (sb.2 b hb).trans e) f0 f1 f3 f4 f5, rfl, q⟩
end

end SC
set_option Elab.async false
set_option linter.all false
set_option maxRecDepth 100000
set_option maxHeartbeats 4000000
/-! a op b op c op d -/
namespace HL
open PySem PySem.Spec PyProof.Rows L2
def tChain3 (r r' r'' : R2) (ta tb tc td : TE) : TE := fun σ H Q => ta σ H fun x H1 => tb σ H1 fun y H2 => r x y H2 fun z H3 => ∃ k, z = .bl k ∧
  (if k = true then tc σ H3 fun w' H4 => r' y w' H4 fun z2 H5 => ∃ k2, z2 = .bl k2 ∧ (if k2 = true then td σ H5 fun v' H6 => r'' w' v' H6 Q else Q (.bl false) H5) else Q (.bl false) H3)
theorem pt_chain3 {X : Cx} {a b c d : Expr} {ta tb tc td : TE} {pos : Pos} {op op' op'' : CmpOp} {r r' r'' : R2} (ho : OpR X (compareOp op) r) (ho' : OpR X (compareOp op') r') (ho'' : OpR X (compareOp op'') r'') (ha : PE X a ta) (hb : PE X b tb) (hc : PE X c tc) (hd : PE X d td)
    (hm : lastMarks [op, op', op''] [b, c, d] = false := by with_unfolding_all rfl) : PT X (.Compare a [op, op', op''] [b, c, d] pos) (tTest (tChain3 r r' r'' ta tb tc td)) := by
  refine ⟨fun pins s σ H Q I h => ?_⟩
  refine isTrue_chain (thn (ha.run pins s σ H _ I h) fun v s1 ⟨x, H1, I1, r1, q1⟩ => test_link (thn (hb.run pins s1 σ H1 _ I1 q1) fun u s2 ⟨y, H2, I2, r2, q2⟩ =>
    thn (ho pins s2 σ H2 x y v u _ I2 r1 r2 q2) fun d s3 ⟨z, H3, I3, r3, k, e, q3⟩ => ?_)) hm
  subst e
  cases r3
  refine wpAny_truthy_bool ?_
  cases k with
  | false =>
    obtain ⟨k', e', q'⟩ := q3
    cases e'
    exact ite_ff ⟨H3, I3, q'⟩
  | true =>
    refine ite_tt (test_link (thn (hc.run pins s3 σ H3 _ I3 q3) fun w' s4 ⟨z', H4, I4, r4, q4⟩ => thn (ho' pins s4 σ H4 y z' u w' _ I4 r2 r4 q4) fun d' s5 ⟨z2, H5, I5, r5, k2, e2, q5⟩ => ?_))
    subst e2
    cases r5
    refine wpAny_truthy_bool ?_
    cases k2 with
    | false =>
      obtain ⟨k', e', q'⟩ := q5
      cases e'
      exact ite_ff ⟨H5, I5, q'⟩
    | true =>
      refine ite_tt (test_last (thn (hd.run pins s5 σ H5 _ I5 q5) fun w2 s6 ⟨z6, H6, I6, r6, q6⟩ => thn (ho'' pins s6 σ H6 z' z6 w' w2 _ I6 r4 r6 q6) fun d6 s7 ⟨z7, H7, I7, r7, k7, e7, q7⟩ => ?_))
      subst e7
      cases r7
      exact wpAny_truthy_bool ⟨H7, I7, q7⟩
end HL
namespace DL
open PySem PySem.Spec PyProof.Rows L2 STX HL
theorem ev_chain3 {c : Cn} {om : Om} {sl : Sl} {P : E → Om → Prop} {ta tb tc td : TE} {r r' r'' : R2} (h : EV c ta om sl fun x om1 => EV c tb om1 sl fun y om2 => OV c r om2 sl x y fun e om3 => ∃ k, e = .v (.bl k) ∧ (k = true → EV c tc om3 sl fun z om4 => OV c r' om4 sl y z fun e5 om5 => ∃ k2, e5 = .v (.bl k2) ∧ (k2 = true → EV c td om5 sl fun z6 om6 => OV c r'' om6 sl z z6 P) ∧ (k2 = false → P (.v (.bl false)) om5)) ∧ (k = false → P (.v (.bl false)) om3)) :
    EV c (tChain3 r r' r'' ta tb tc td) om sl P := fun σ H O ps s Q k =>
  h σ H O ps s _ fun v H1 O1 ps1 x om1 g1 s1 r1 h1 => h1 σ H1 O1 ps1 s1 _ fun w H2 O2 ps2 y om2 g2 s2 r2 h2 => h2 σ H2 O2 ps2 s2 v w (r1.go g2) r2 _ fun z H3 O3 ps3 e om3 g3 s3 r3 ⟨b, he, ht, hf⟩ => by
    subst he
    cases r3
    refine ⟨b, rfl, ?_⟩
    cases b with
    | true =>
      refine (if_pos rfl).mpr ?_
      refine ht rfl σ H3 O3 ps3 s3 _ fun u H4 O4 ps4 f om4 g4 s4 r4 h4 => h4 σ H4 O4 ps4 s4 w u (r2.go (g3.trans g4)) r4 _ fun q H5 O5 ps5 e5 om5 g5 s5 r5 ⟨b2, he2, ht2, hf2⟩ => ?_
      subst he2
      cases r5
      refine ⟨b2, rfl, ?_⟩
      cases b2 with
      | true =>
        refine (if_pos rfl).mpr ?_
        exact ht2 rfl σ H5 O5 ps5 s5 _ fun u6 H6 O6 ps6 f6 om6 g6 s6 r6 h6 => h6 σ H6 O6 ps6 s6 u u6 (r4.go (g5.trans g6)) r6 Q fun q7 H7 O7 ps7 e7 om7 g7 s7 r7 p => k q7 H7 O7 ps7 e7 om7 ((((((g1.trans g2).trans g3).trans g4).trans g5).trans g6).trans g7) s7 r7 p
      | false =>
        refine (if_neg Bool.false_ne_true).mpr ?_
        exact k _ H5 O5 ps5 (.v (.bl false)) om5 ((((g1.trans g2).trans g3).trans g4).trans g5) s5 (Rl.bl false) (hf2 rfl)
    | false =>
      refine (if_neg Bool.false_ne_true).mpr ?_
      exact k _ H3 O3 ps3 (.v (.bl false)) om3 ((g1.trans g2).trans g3) s3 (Rl.bl false) (hf rfl)
end DL
namespace DL
open PySem PySem.Spec PyProof.Rows L2 STX HL
theorem rla_int {O : List Addr} {H : Hp} : ∀ ns : List Int, RlA O H (ns.map V.int) (ns.map D.int)
  | [] => .nil
  | n :: r => .cons (.int n) (rla_int r)
theorem ev_listRg {c : Cn} {om : Om} {sl : Sl} {P : E → Om → Prop} {ta : TE} (h : EV c ta om sl fun x om1 => ∃ n : Int, x = .v (.int n) ∧ 0 ≤ n ∧ n ≤ 16777216 ∧ P (.v (.lst (rgD 0 n.toNat))) om1) : EV c (tLstRg (tRg1 ta)) om sl P := fun σ H O ps s Q k =>
  h σ H O ps s _ fun v H1 O1 ps1 x om1 g1 s1 r1 ⟨n, he, h0, h1, p⟩ => by
    subst he
    cases r1
    refine ⟨n, rfl, RgOk.of_le (Int.le_refl _) h1 (by decide) h0, fun q hq => ?_⟩
    obtain ⟨s2, g2⟩ := s1.new (o := .lst (rgV 0 n)) hq
    have e1 : rgV 0 n = ((List.range n.toNat).map fun i : Nat => (0 : Int) + (i : Int)).map V.int := by
      unfold rgV
      rw [Int.sub_zero, List.map_map]
      rfl
    have e2 : rgD 0 n.toNat = ((List.range n.toNat).map fun i : Nat => (0 : Int) + (i : Int)).map D.int := by
      unfold rgD
      rw [List.map_map]
      rfl
    refine k _ _ O1 ps1 (.v (.lst (rgD 0 n.toNat))) om1 (g1.trans g2) s2 ?_ p
    have r2 : RlA O1 H1 (rgV 0 n) (rgD 0 n.toNat) := by
      rw [e1, e2]
      exact rla_int _
    exact Rl.lst (s1.nin hq) upd_same (r2.ext g2.ex)
end DL
set_option Elab.async false
set_option linter.all false
set_option maxRecDepth 100000
set_option maxHeartbeats 4000000
/-! f-strings of texts; str.split -/
namespace DL
open PySem PySem.Spec PyProof.Rows L2 STX HL
def tJoined (ts : List TE) : TE := fun σ H Q => tJs ts Str.empty σ H fun out H1 => Q (.str out) H1
theorem pe_fstr {X : Cx} {v1 v2 : Expr} {rest : List Expr} {ts : List TE} {pos : Pos} (h : PJ X (v1 :: v2 :: rest) ts) : PE X (.JoinedStr (v1 :: v2 :: rest) pos) (tJoined ts) := pe_joined h
def JV (c : Cn) (ts : List TE) (acc : Str) (om : Om) (sl : Sl) (P : Str → Om → Prop) : Prop := ∀ σ H O ps, St c.F c.O0 c.H0 H om σ sl O ps → ∀ Q : Str → Hp → Prop,
  (∀ out H' O' ps' om', Go O ps H O' ps' H' → St c.F c.O0 c.H0 H' om' σ sl O' ps' → P out om' → Q out H') → tJs ts acc σ H Q
section
variable {c : Cn} {om : Om} {sl : Sl}
theorem jv_nil {acc : Str} {P : Str → Om → Prop} (p : P acc om) : JV c [] acc om sl P := fun σ H O ps s Q k => k acc H O ps om (Go.refl ..) s p
theorem jv_cons {t : TE} {ts : List TE} {acc : Str} {P : Str → Om → Prop} (h : EV c t om sl fun e om1 => ∃ y : Str, e = .v (.str y) ∧ (acc ++ y).length ≤ 1000 ∧ JV c ts (acc ++ y) om1 sl P) : JV c (t :: ts) acc om sl P := fun σ H O ps s Q k =>
  h σ H O ps s _ fun v H1 O1 ps1 e om1 g1 s1 r1 ⟨y, he, hl, h1⟩ => by
    subst he
    cases r1
    exact ⟨y, rfl, Nat.le_of_lt (small1000 hl), h1 σ H1 O1 ps1 s1 Q fun out H2 O2 ps2 om2 g2 s2 p => k out H2 O2 ps2 om2 (g1.trans g2) s2 p⟩
theorem ev_joined {ts : List TE} {P : E → Om → Prop} (h : JV c ts Str.empty om sl fun out om1 => P (.v (.str out)) om1) : EV c (tJoined ts) om sl P := fun σ H O ps s Q k =>
  h σ H O ps s _ fun out H1 O1 ps1 om1 g1 s1 p => k (.str out) H1 O1 ps1 (.v (.str out)) om1 g1 s1 (Rl.str _) p
theorem ev_fmt {te : TE} {P : E → Om → Prop} (h : EV c te om sl fun e om1 => ∃ y : Str, e = .v (.str y) ∧ y.length ≤ 1000 ∧ P (.v (.str y)) om1) : EV c (tFmt te) om sl P := fun σ H O ps s Q k =>
  h σ H O ps s _ fun v H1 O1 ps1 e om1 g1 s1 r1 ⟨y, he, hl, p⟩ => by
    subst he
    cases r1
    exact .inl ⟨y, rfl, Nat.le_of_lt (small1000 hl), k (.str y) H1 O1 ps1 (.v (.str y)) om1 g1 s1 (Rl.str _) p⟩
def rSplit (x : V) (xs : List V) (H : Hp) (Q : VK) : Prop := ∃ a b, x = .str a ∧ xs = [.str b] ∧ (b.length == 0) = false ∧ a.length + 2 ≤ sizeLine ∧ rNewStrs (Txt.split a b) H Q
theorem mt_splitT {X : Cx} : MtR X "str.split" rSplit := mt_split
theorem rla_str {O : List Addr} {H : Hp} : ∀ ns : List Str, RlA O H (ns.map V.str) (ns.map D.str)
  | [] => .nil
  | n :: r => .cons (.str n) (rla_str r)
theorem mv_split {a b : Str} {P : E → Om → Prop} (hb : (b.length == 0) = false) (ha : a.length ≤ 1000000) (p : P (.v (.lst ((Txt.split a b).map .str))) om) : MV c rSplit om sl (.v (.str a)) [.v (.str b)] P := fun σ H O ps s v vs r rs Q k => by
  obtain ⟨w, rfl, rw'⟩ := ra1 rs
  cases r
  cases rw'
  refine ⟨a, b, rfl, rfl, hb, ?_, fun q hq => ?_⟩
  · rw [sizeLine_eq]
    omega
  · obtain ⟨s2, g2⟩ := s.new (o := .lst ((Txt.split a b).map V.str)) hq
    exact k _ _ O ps (.v (.lst ((Txt.split a b).map .str))) om g2 s2 (Rl.lst (s.nin hq) upd_same ((rla_str _).ext g2.ex)) p
theorem et_truS {te : TE} {P : Bool → Om → Prop} (h : EV c te om sl fun e om1 => ∃ y : Str, e = .v (.str y) ∧ y.length ≤ 1000000 ∧ P ((y.length : Int) != 0) om1) : ET c (fun σ H Q => te σ H fun x H' => ∃ k, TruV c.K x H' k ∧ Q k H') om sl P := fun σ H O ps s Q k =>
  h σ H O ps s _ fun v H1 O1 ps1 e om1 g1 s1 r1 ⟨y, he, hl, p⟩ => by
    subst he
    cases r1
    exact ⟨_, ⟨Nat.le_trans hl (by rw [sizeLine_eq]; decide), rfl⟩, k _ H1 O1 ps1 om1 g1 s1 p⟩
end
end DL
set_option Elab.async false
set_option linter.all false
set_option maxRecDepth 100000
set_option maxHeartbeats 4000000
/-! set comprehensions and sorted of them, walked -/
namespace DL
open PySem PySem.Spec PyProof.Rows L2 STX SX SG SC
/-- a walk that fills the set at D -/
theorem sc_it {J : It} {n : Nat} {G : Hp → Prop} {Y : Nat → Hp → V → Hp → Prop} {Pg : Program} {w : World} (wk : Walk J n G Y) {g : TG} {tt : TT} {te : TE} {vs : List Nat} {σ : L2.St} {H1 : Hp} {D : Addr} {Qd : Hp → Prop} (Pv : Nat → Hp → Prop)
    (h0 : Pv 0 (upd H1 D (setCO Pg w [] D))) (hG : ∀ i H, i ≤ n → Pv i H → G H)
    (each : ∀ i x H H', i < n → Pv i H → Y i H x H' → g x (wipe σ vs) H' fun σ2 H2 => wipe σ2 vs = wipe σ vs ∧ tt σ2 H2 fun b H3 =>
      if b = true then te σ2 H3 fun y H4 => ∃ (c : Key) (ks : List Key), y = kV c ∧ H4 D = some (setCO Pg w ks D) ∧ ks.length + 1 < scanBound ∧ Pv (i + 1) (upd H4 D (setCO Pg w (addK ks c) D)) else Pv (i + 1) H3) (fin : ∀ H, Pv n H → Qd H) :
    ∃ W : Nat → Nat → Hp → Prop, (∃ m, W 0 m (upd H1 D (setCO Pg w [] D))) ∧ ∀ i m H, W i m H →
      (J.stop i H ∧ Qd H) ∨ (J.go i H ∧ ∃ Ny : Hp → Prop, (∀ H', Ny H' → ∃ m', m' < m ∧ W (i + 1) m' H') ∧ ∀ x H', J.yld i H x H' → g x (wipe σ vs) H' fun σ2 H2 => wipe σ2 vs = wipe σ vs ∧ tt σ2 H2 fun b H3 =>
        if b = true then te σ2 H3 fun y H4 => ∃ (c : Key) (ks : List Key), y = kV c ∧ H4 D = some (setCO Pg w ks D) ∧ ks.length + 1 < scanBound ∧ Ny (upd H4 D (setCO Pg w (addK ks c) D)) else Ny H3) := by
  refine ⟨fun i m H => m = n - i ∧ i ≤ n ∧ Pv i H, ⟨n, rfl, Nat.zero_le _, h0⟩, ?_⟩
  rintro i m H ⟨em, hi, p⟩
  have q := hG i H hi p
  rcases Nat.lt_or_ge i n with lt | ge
  · refine .inr ⟨wk.goes i H lt q, Pv (i + 1), fun H' p' => ⟨n - (i + 1), by omega, rfl, lt, p'⟩, fun x H' y => each i x H H' lt p (wk.yields i H x H' lt q y)⟩
  · obtain rfl : i = n := Nat.le_antisymm hi ge
    exact .inl ⟨wk.stops H q, fin H p⟩
def ownC (Pg : Program) (w : World) (ks : List Key) : Own := .h (setCO Pg w ks)
theorem notC_setC {Pg : Program} {w : World} {a : Addr} {ks : List Key} : NotC a (some (setCO Pg w ks a)) := by
  refine ⟨fun q z => ?_, fun ps z => (by injection z with z; cases z)⟩
  injection z with z
  unfold setCO LamX.CodeO at z
  injection z with z
  obtain ⟨ob, hob⟩ : ∃ ob : Obj, ob = { cls := .none, data := .fields #[.none, .str q 0] } := ⟨_, rfl⟩
  have hg : Heap.get? ⟨Array.replicate (a + 1) ob, {}⟩ a = some ob := by
    unfold Heap.get?
    have : (Array.replicate (a + 1) ob)[a]? = some ob := by simp
    dsimp only
    rw [this, hob]
  have y := congrFun z ⟨Array.replicate (a + 1) ob, {}⟩
  have y2 : ∃ oc vs t, Heap.get? ⟨Array.replicate (a + 1) ob, {}⟩ a = some oc ∧ oc.data = Data.fields vs ∧ vs[1]? = some (Value.str q t) := ⟨ob, _, 0, hg, by rw [hob], rfl⟩
  rw [← y] at y2
  obtain ⟨o, es, ep, t, ho, R⟩ := y2
  have hd := R.da
  rw [hg] at ho
  cases ho
  rw [hob] at hd
  cases hd
section
variable {c : Cn} {Ex : XK} {om : Om} {sl : Sl} {P : DL.E → Om → Prop} {te : TE} {tt : TT} {Pg : Program} {w : World}
theorem ev_sc {wi : TI} {g : TG} {vs : List Nat} (hg : Sets g vs) (h : WV c wi om sl fun xs => ∃ Iv : Nat → List Key → Prop, Iv 0 [] ∧
      (∀ i d ks, xs[i]? = some d → Iv i ks → GV c g d (om ++ [some (ownC Pg w ks)]) (vs.foldr (fun i l => l.set i none) sl) fun om2 sl2 => ET c tt om2 sl2 fun b om3 =>
        (b = true → EV c te om3 sl2 fun e om4 => om4 = om ++ [some (ownC Pg w ks)] ∧ ∃ y k, e = .v y ∧ keyD y = some k ∧ Iv (i + 1) (addK ks k)) ∧ (b = false → om3 = om ++ [some (ownC Pg w ks)] ∧ Iv (i + 1) ks)) ∧
      (∀ i ks, Iv i ks → ks.length < 1000) ∧ ∀ ks, Iv xs.length ks → P (.o om.length) (om ++ [some (ownC Pg w ks)])) : EV c (SC.tSc Pg w wi g tt te vs) om sl P := fun σ H O ps s Q k =>
  h σ H O ps s _ fun J H1 O1 ps1 G Y xs ⟨Iv, h0, hs, hb, hd⟩ g1 s1 wk hG hY Dl hD => by
    obtain ⟨s2, g2, r2⟩ := s1.newOwnW (u := setCO Pg w [] Dl) (ds := ownC Pg w []) hD ⟨upd_same, notC_setC⟩
    have lp : ps1.length = om.length := s1.len
    refine sc_it wk (fun i H' => ∃ O' ps' ks, Go (Dl :: O1) (ps1 ++ [Dl]) (upd H1 Dl (setCO Pg w [] Dl)) O' ps' H' ∧ St c.F c.O0 c.H0 H' (om ++ [some (ownC Pg w ks)]) σ sl O' ps' ∧ Iv i ks)
      ⟨Dl :: O1, ps1 ++ [Dl], [], Go.refl .., s2, h0⟩ (fun i H' _ ⟨O', ps', ks, g', _⟩ => hG H' O' ps' (g2.trans g')) ?_ ?_
    · rintro i v H2 H3 hi ⟨O2, ps2, ks, g3, s3, p⟩ hy
      obtain ⟨d, e1, k2, r⟩ := hY i H2 O2 ps2 v H3 (g2.trans g3) s3.al hi hy
      obtain ⟨s4, g4⟩ := s3.same k2
      refine hg v σ H3 _ (hs i d ks e1 p (wipe σ vs) H3 O2 ps2 (st_wipe s4 vs) v r _ fun σ5 sl5 s5 h5 => ?_)
      refine h5 σ5 H3 O2 ps2 s5 _ fun b H6 O6 ps6 om6 g6 s6 ⟨ht, hf⟩ => ?_
      have back : ∀ {H7 : Hp} {O7 ps7 : List Addr} {ks' : List Key} {σ7 : L2.St} {sl7 : Sl}, Go O2 ps2 H2 O7 ps7 H7 → St c.F c.O0 c.H0 H7 (om ++ [some (ownC Pg w ks')]) σ7 sl7 O7 ps7 → St c.F c.O0 c.H0 H7 (om ++ [some (ownC Pg w ks')]) σ sl O7 ps7 := fun {H7 O7 ps7 ks' σ7 sl7} g7 s7 =>
        ⟨s7.en, s7.fo, s7.oo, s7.ff, s7.al, s7.len, s7.own, s7.inj, s7.pa, s7.dl, fun i e z => by
          obtain ⟨v, z1, z2⟩ := s3.slots i e z
          exact ⟨v, z1, z2.go g7⟩, s3.ln, s7.tb⟩
      cases b with
      | true =>
        refine (if_pos rfl).mpr (ht rfl σ5 H6 O6 ps6 s6 _ fun y H7 O7 ps7 e om7 g7 s7 r7 ⟨ho, z, kk, he, hk, hz⟩ => ?_)
        subst he ho
        obtain ⟨q, f1, f2, f3, f4⟩ := s7.own om.length (ownC Pg w ks) (by simp)
        have gg : Go O2 ps2 H2 O7 ps7 H7 := g4.trans (g6.trans g7)
        have eD : (ps1 ++ [Dl])[om.length]? = some Dl := by
          rw [← lp]
          simp
        have eq : q = Dl := Option.some.inj (f1.symm.trans (gg.pre _ _ (g3.pre _ _ eD)))
        subst eq
        have hw := hb _ _ p
        have h4 : scanBound = 4096 := rfl
        obtain ⟨s8, g8⟩ := s7.writeW (u := setCO Pg w (addK ks kk) q) (ds' := ownC Pg w (addK ks kk)) (by simp : (om ++ [some (ownC Pg w ks)])[om.length]? = some (some (ownC Pg w ks))) f1 ⟨upd_same, notC_setC⟩
        refine ⟨kk, ks, key_rl (show Rl O7 H7 y z from r7) hk, f4.1, by omega, O7, ps7, addK ks kk, g3.trans (gg.trans g8), ?_, hz⟩
        have es : (om ++ [some (ownC Pg w ks)]).set om.length (some (ownC Pg w (addK ks kk))) = om ++ [some (ownC Pg w (addK ks kk))] := by simp [List.set_append]
        rw [es] at s8
        exact back (gg.trans g8) s8
      | false =>
        obtain ⟨ho, hz⟩ := hf rfl
        subst ho
        refine (if_neg Bool.false_ne_true).mpr ⟨O6, ps6, ks, g3.trans (g4.trans g6), back (g4.trans g6) s6, hz⟩
    · rintro H' ⟨O', ps', ks, g', s', p⟩
      have eD : ps'[om.length]? = some Dl := g'.pre _ _ (by
        rw [← lp]
        simp)
      exact k (.ref Dl) H' O' ps' (.o om.length) (om ++ [some (ownC Pg w ks)]) (g1.trans (g2.trans g')) s' ⟨Dl, rfl, eD⟩ (hd ks p)
/-- as a comprehension over told things: the keys are those of f -/
theorem ev_scT {α : Type} (inj : α → D) (f : α → Key) {wi : TI} {g : TG} {vs : List Nat} (hg : Sets g vs) (h : WV c wi om sl fun xs => ∃ as : List α, xs = as.map inj ∧ as.length < 1000 ∧
      (∀ (i : Nat) (a : α) (ks : List Key), as[i]? = some a → GV c g (inj a) (om ++ [some (ownC Pg w ks)]) (vs.foldr (fun i l => l.set i none) sl) fun om2 sl2 => ET c tt om2 sl2 fun b om3 => om3 = om ++ [some (ownC Pg w ks)] ∧ b = true ∧
        EV c te om3 sl2 fun e om4 => om4 = om ++ [some (ownC Pg w ks)] ∧ ∃ y, e = .v y ∧ keyD y = some (f a)) ∧ P (.o om.length) (om ++ [some (ownC Pg w (dk (as.map f)))])) : EV c (SC.tSc Pg w wi g tt te vs) om sl P := by
  refine ev_sc hg fun σ H O ps s R k => h σ H O ps s R fun J H1 O1 ps1 G Y xs ⟨as, hx, hl, hb, hd⟩ g1 s1 w hG hY => ?_
  refine k J H1 O1 ps1 G Y xs ⟨fun i ks => ks = dk ((as.take i).map f) ∧ i ≤ as.length, ⟨rfl, Nat.zero_le _⟩, ?_, ?_, ?_⟩ g1 s1 w hG hY
  · rintro i d ks hi ⟨rfl, hil⟩
    rw [hx, List.getElem?_map] at hi
    cases ha : as[i]? with
    | none =>
      rw [ha] at hi
      cases hi
    | some a =>
      rw [ha] at hi
      cases hi
      have hlt := (List.getElem?_eq_some_iff.mp ha).1
      intro σ2 H2 O2 ps2 s2 v r Q kk
      refine hb i a _ ha σ2 H2 O2 ps2 s2 v r Q fun σ3 sl3 s3 h3 => kk σ3 sl3 s3 fun σ4 H4 O4 ps4 s4 Q4 k4 => h3 σ4 H4 O4 ps4 s4 Q4 fun b H5 O5 ps5 om5 g5 s5 ⟨e1, e2, e3⟩ => k4 b H5 O5 ps5 om5 g5 s5 ⟨fun hb => ?_, fun hb => ?_⟩
      · refine ev_mono e3 fun e om' ⟨q1, y, q2, q3⟩ => ⟨q1, y, f a, q2, q3, ?_, hlt⟩
        rw [take_snoc ha, List.map_append]
        exact (dk_snoc _ _).symm
      · rw [e2] at hb
        cases hb
  · rintro i ks ⟨rfl, hil⟩
    have h1 := dk_len ((as.take i).map f)
    rw [List.length_map, List.length_take] at h1
    omega
  · rintro ks ⟨rfl, _⟩
    rw [hx, List.length_map, List.take_length]
    exact hd
/-- sorted of a set of texts -/
theorem cv_sortedC {i : Nat} {l : List Str} (ho : om[i]? = some (some (ownC Pg w (keysS l)))) (hl : l.length ≤ 1000) (p : ∀ bs : List Str, bs.Perm l → P (.v (.lst ((bs.mergeSort leS).map .str))) om) : CV c (rSortedC Pg w) om sl [.o i] P := fun σ H O ps s vs r Q k => by
  obtain ⟨x, rfl, rx⟩ := ra1 r
  obtain ⟨q0, rfl, hp⟩ := rx
  obtain ⟨q, e1, e2, e3, e4⟩ := s.own i _ ho
  have eq : q = q0 := Option.some.inj (e1.symm.trans hp)
  subst eq
  refine ⟨q, l, rfl, e4.1, hl, fun bs a pb ha => ?_⟩
  obtain ⟨s2, g2⟩ := s.new (o := .lst ((bs.mergeSort leS).map V.str)) ha
  exact k _ _ O ps (.v (.lst ((bs.mergeSort leS).map .str))) om g2 s2 (Rl.lst (s.nin ha) upd_same ((rla_str _).ext g2.ex)) (p bs pb)
end
end DL
set_option Elab.async false
set_option linter.all false
set_option maxRecDepth 100000
set_option maxHeartbeats 4000000
/-! ranges that are kept in a variable; reversed(a tuple); a tuple turned round -/
namespace RT
open PySem PySem.Spec PyProof.Rows L2 HT
section
variable {X : Cx} {tg : Expr}
def rRng1 : List V → Hp → VK → Prop := fun vs H Q => ∃ j : Int, vs = [V.int j] ∧ ∀ p, H p = none → Q (.ref p) (upd H p (.rng 0 j))
theorem cr_range1 : CallR X (.type "range") rRng1 := by
  intro pins s σ H vs us Q I r h
  obtain ⟨j, rfl, q⟩ := h
  obtain ⟨u1, rfl, ri⟩ := vals1 r
  obtain ⟨t, rfl⟩ := ri
  refine call_range_1 ⟨.ref s.heap.objs.size, upd H s.heap.objs.size (.rng 0 j), I.laid (t' := s.toks + 1 + 1) (fun b o e => Heap.get?_push_of_some _ e) (Nat.le_refl _) ?_, rfl, q _ (I.hok.fresh (Nat.le_refl _))⟩
  exact ⟨s.toks, t, s.toks + 1, Heap.get?_push_size _ rfl⟩
def iRgV (tl : TE) : TI := fun σ H R => tl σ H fun x H1 => ∃ (a : Addr) (lo hi : Int), x = .ref a ∧ H1 a = some (.rng lo hi) ∧ -(2 ^ 62) ≤ lo ∧ lo < 2 ^ 62 ∧ -(2 ^ 62) ≤ hi ∧ hi < 2 ^ 62 ∧ R (Itr lo (hi - lo).toNat) H1
theorem pi_rgV {l : Expr} {tl : TE} (hl : PE X l tl) : PI X tg l (iRgV tl) := by
  refine ⟨fun pins s σ H R I h => ?_⟩
  refine thn (hl.run pins s σ H _ I h) fun v s1 ⟨x, H1, I1, r1, q1⟩ => ?_
  obtain ⟨a, lo, hi, e, ha, h1, h2, h3, h4, q⟩ := q1
  subst e
  cases r1
  obtain ⟨t, u, v, ho⟩ := I1.hok a _ ha
  refine wpAny_pyIter_range (show IsRange s1.heap a lo hi 1 t u v from ho) (small_one h1 h2 h3 h4) ?_
  refine ⟨s1.heap.objs.size, [s1.heap.objs.size], _, _, H1, rfl, I1.kept (t' := s1.toks) fun b o e => Heap.get?_push_of_some _ e, turn_range _ lo (hi - lo).toNat, ?_, fun b hb => ?_, q⟩
  · have e1 : lo + ((0 : Nat) : Int) * 1 = lo := by simp
    have e2 : (((hi - lo).toNat : Nat) : Int) - ((0 : Nat) : Int) = Builtin.Range.rangeSize lo hi 1 := by rw [rangeSize_one]; split <;> omega
    show IsRangeIter _ _ (lo + ((0 : Nat) : Int) * 1) ((((hi - lo).toNat : Nat) : Int) - ((0 : Nat) : Int)) 1
    rw [e1, e2]
    exact Heap.get?_push_size _ rfl
  · have e : b = s1.heap.objs.size := by simpa using hb
    subst e
    exact I1.fpOk (Nat.le_refl _) (I1.hok.fresh (Nat.le_refl _))
theorem fm_congr {f g : Nat → Option Value} : ∀ l : List Nat, (∀ k ∈ l, f k = g k) → l.filterMap f = l.filterMap g
  | [], _ => rfl
  | a :: l, h => by rw [List.filterMap_cons, List.filterMap_cons, h a List.mem_cons_self, fm_congr l fun k hk => h k (List.mem_cons_of_mem _ hk)]
/-- t[::-1] of a tuple -/
theorem pick_rev (xs : List Value) : ((List.range xs.toArray.size).filterMap fun (k : Nat) => xs.toArray[(((xs.toArray.size : Nat) : Int) - 1 + (k : Int) * (-1)).toNat]?).toArray = xs.reverse.toArray := by
  congr 1
  have e : (List.range xs.toArray.size).filterMap (fun (k : Nat) => xs.toArray[(((xs.toArray.size : Nat) : Int) - 1 + (k : Int) * (-1)).toNat]?) = (List.range xs.length).filterMap fun k => xs.reverse[k]? := by
    rw [List.size_toArray]
    refine fm_congr _ fun k hk => ?_
    have hk := List.mem_range.mp hk
    rw [List.getElem?_reverse (by omega), List.getElem?_toArray]
    congr 1
    omega
  rw [e]
  refine List.ext_getElem? fun i => ?_
  have : ∀ ys : List Value, (List.range ys.length).filterMap (fun k => ys[k]?) = ys := fun ys => by
    induction ys with
    | nil => rfl
    | cons y ys ih =>
      rw [List.length_cons, List.range_succ_eq_map, List.filterMap_cons]
      show y :: _ = _
      rw [List.filterMap_map]
      exact congrArg (y :: ·) ih
  have q := this xs.reverse
  rw [List.length_reverse] at q
  rw [q]
section
variable {prog : Program} {w : World} {A : Around} {E : Value → Shared → Prop} {s : Shared}
theorem sliceApplied_rev {sl : Addr} {n : Nat} {u : Tok} {Q : Int × Int × Nat → Shared → Prop} (hs : s.heap.IsSliceOf sl .none .none (.int (-1) u)) (h : Q ((n : Int) - 1, -1, n) s) :
    wpAny (model prog w) A (Builtin.Slice.sliceApplied (.ref sl) (pure (n : Int))) Q E s := by
  obtain ⟨os, hos, hcs, hds⟩ := id hs
  unfold Builtin.Slice.sliceApplied Builtin.Slice.sliceFields
  refine wpAny_bind (wpAny_bind (wpAny_field hos hds (x := .none) rfl (wpAny_bind (wpAny_field hos hds (x := .none) rfl (wpAny_bind (wpAny_field hos hds (x := .int (-1) u) rfl (wpAny_pure ?_)))))))
  refine wpAny_bind (slicePart_int ?_)
  show wpAny _ _ (if ((-1 : Int) == 0) = true then _ else _) _ _ s
  rw [if_neg (by decide)]
  refine wpAny_bind (slicePart_none (wpAny_bind (slicePart_none (wpAny_bind (wpAny_pure ?_)))))
  show wpAny _ _ (pure (((n : Int) - 1 : Int), (-1 : Int), Builtin.Slice.slicePlaces ((n : Int) - 1) (-1) (-1))) _ _ s
  have e : Builtin.Slice.slicePlaces ((n : Int) - 1) (-1) (-1) = n := by
    unfold Builtin.Slice.slicePlaces
    rw [if_neg (by decide)]
    by_cases z : (n : Int) - 1 > -1
    · rw [if_pos z, show (- -1 : Int) = 1 by decide, Int.ediv_one]
      omega
    · rw [if_neg z]
      omega
  rw [e]
  exact wpAny_pure h
theorem getItem_tuple_rev {t sl : Addr} {its : List Value} {u : Tok} {Q : Value → Shared → Prop} (ht : IsTup s.heap t its.toArray) (hs : s.heap.IsSliceOf sl .none .none (.int (-1) u))
    (h : Q (.ref s.heap.objs.size) { s with heap := s.heap.push { cls := .type "tuple", data := .seq its.reverse.toArray } }) (hsz : its.length ≤ sizeLine) : wpAny (model prog w) A (getItem (.ref t) (.ref sl)) Q E s := by
  have htake : sizeOk (.seq its.reverse.toArray) := by
    show its.reverse.toArray.size ≤ sizeLine
    rw [List.size_toArray, List.length_reverse]
    exact hsz
  obtain ⟨os, hos, hcs, hds⟩ := id hs
  have hTs : s.TypeIs (.ref sl) "slice" := ⟨os, hos, hcs⟩
  unfold getItem
  try with_reducible refine wpAny_holding ?_
  first | refine wpAny_bind (wpAny_pure ?_) | skip
  refine wpAny_bind (wpAny_sequenceKey ht.typeIs (by decide) ?_)
  refine wpAny_bind (wpAny_callSpecial?_slot (name := Str.ofString "__getitem__") ht.typeIs PyProof.Rows.slot_tuple_getitem
    (wpAny_call_entry PyProof.Rows.slot_tuple_getitem ht.typeIs entry_tuple_getitem ?_ (args_tuple_getitem _ _)))
  show wpAny _ _ (Builtin.Tuple.tupleItemsOf (.ref t) >>= _) _ _ s
  refine wpAny_bind (tupleItemsOf_ ht ?_)
  refine wpAny_bind (wpAny_typeOf hTs ?_)
  rw [if_pos (by decide)]
  refine wpAny_bind (sliceApplied_rev hs ?_)
  have hno : ¬ (((((its.toArray.size : Nat) : Int) - 1 : Int) == 0 && (-1 : Int) == 1 && its.toArray.size == its.toArray.size) = true) := by
    intro q
    rw [Bool.and_eq_true, Bool.and_eq_true] at q
    exact absurd q.1.2 (by decide)
  show wpAny _ _ (if ((((its.toArray.size : Nat) : Int) - 1 : Int) == 0 && (-1 : Int) == 1 && its.toArray.size == its.toArray.size) = true then _ else _) _ _ s
  rw [if_neg hno, pick_rev]
  first
    | exact wpAny_bind (m := Builtin.Tuple.tupleExact _) (wpAny_newObj_type (wpAny_pure ⟨_, rfl, wpAny_pure h⟩) htake)
    | exact wpAny_bind (m := Builtin.Tuple.tupleExact _) (wpAny_newObj_type (wpAny_bind (wpAny_pure (wpAny_pure ⟨_, rfl, wpAny_pure h⟩))) htake)
    | exact wpAny_bind (wpAny_bind (m := Builtin.Tuple.tupleExact _) (wpAny_newObj_type (wpAny_pure (wpAny_pure ⟨_, rfl, wpAny_pure h⟩)) htake))
    | exact wpAny_bind (wpAny_bind (m := Builtin.Tuple.tupleExact _) (wpAny_newObj_type (wpAny_pure ⟨_, rfl, wpAny_pure h⟩) htake))
end
def tRevT (K : PySem.W.Frag) (te : TE) : TE := fun σ H Q => te σ H fun x H1 => ∃ a xs, x = .ref a ∧ SqT K H1 a xs ∧ ∀ p, H1 p = none → Q (.ref p) (upd H1 p (.tup xs.reverse))
theorem pe_revT {e : Expr} {te : TE} {k : Nat} {p1 p2 p3 pos : Pos} (he : PE X e te) : PE X (.Subscript e (.Slice none none (some (.UnaryOp .USub (.Constant (.int 1) k p1) p2)) p3) pos) (tRevT X.K te) := by
  refine ⟨fun pins s σ H Q I h => ?_⟩
  refine Subscript_ (thn (he.run pins s σ H _ I h) fun v s1 ⟨x, H1, I1, r1, q1⟩ => ?_)
  obtain ⟨a, xs, ex, hx, q⟩ := q1
  subst ex
  cases r1
  have hst : PO X (some (.UnaryOp .USub (.Constant (.int 1) k p1) p2)) (tPart (tUn (rU fun i => .int (-i)) (tC (.int 1)))) := po_some (pe_un un_neg pe_int)
  refine wpAny_Slice (thn (po_none.run pins s1 σ H1 (fun o H2 => o = none ∧ H2 = H1) I1 ⟨rfl, rfl⟩) fun vl s2 ⟨l, H2, I2, pl, el, e2⟩ => ?_)
  subst el e2
  refine thn (po_none.run pins s2 σ H2 (fun o H3 => o = none ∧ H3 = H2) I2 ⟨rfl, rfl⟩) fun vu s3 ⟨u, H3, I3, pu, eu, e3⟩ => ?_
  subst eu e3
  refine thn (hst.run pins s3 σ H3 (fun o H4 => o = some (-1) ∧ H4 = H3) I3 ⟨1, rfl, -1, rfl, rfl, rfl⟩) fun vs s4 ⟨o, H4, I4, ps, eo, e4⟩ => ?_
  subst eo e4
  have I5 : Inv X pins σ H4 { s4 with heap := s4.heap.push { cls := .type "slice", data := .fields #[vl, vu, vs] } } := I4.kept (t' := s4.toks) fun b ob q => Heap.get?_push_of_some _ q
  obtain ⟨its, r, ht, hz⟩ := I5.tuple hx
  have hlen := r.length
  cases pl
  cases pu
  cases ps
  show wpAny (model X.prog X.w) X.A (subscriptTail e (.Slice none none (some (.UnaryOp .USub (.Constant (.int 1) k p1) p2)) p3) (.ref a) (.ref s4.heap.objs.size)) (EP X pins σ Q) X.xe { s4 with heap := s4.heap.push { cls := .type "slice", data := .fields #[_, _, _] } }
  refine tail_any (ops := [.ref a, .ref s4.heap.objs.size]) ht.typeIs (PyProof.Rows.slot_tuple_getitem.lookup) ?_ (by with_unfolding_all rfl)
  refine getItem_tuple_rev ht (Heap.IsSliceOf.new _ _ _ _) ?_ (by omega)
  refine ⟨.ref _, _, I5.laid (t' := s4.toks) (o := .tup xs.reverse) (fun b ob q => Heap.get?_push_of_some _ q) (Nat.le_refl _) ?_, rfl, q _ (I5.hok.fresh (Nat.le_refl _))⟩
  exact ⟨by rw [List.length_reverse]; exact hz, _, r.reverse, _, Heap.get?_push_size _ rfl, rfl, _, rfl⟩
end
end RT
namespace DL
open PySem PySem.Spec PyProof.Rows L2 STX SX SG SC RT
section
variable {c : Cn} {Ex : XK} {om : Om} {sl : Sl} {P : DL.E → Om → Prop} {te : TE}
theorem notC_rng {b : Addr} {i j : Int} : NotC b (some (.rng i j)) := ⟨fun q z => (by unfold LamX.CodeO at z; injection z with z; cases z), fun ps z => (by injection z with z; cases z)⟩
def ownR (i j : Int) : Own := .h fun _ => .rng i j
theorem cv_rng1 {j : Int} (p : P (.o om.length) (om ++ [some (ownR 0 j)])) : CV c rRng1 om sl [.v (.int j)] P := fun σ H O ps s vs r Q k => by
  obtain ⟨v, rfl, rv⟩ := ra1 r
  cases rv
  refine ⟨j, rfl, fun q hq => ?_⟩
  obtain ⟨s2, g2, r2⟩ := s.newOwnW (u := .rng 0 j) (ds := ownR 0 j) hq ⟨upd_same, notC_rng⟩
  exact k _ _ _ _ _ _ g2 s2 r2 p
theorem wv_rgV {i : Nat} {lo hi : Int} {P : List D → Prop} (b : -(2 ^ 62) ≤ lo ∧ lo < 2 ^ 62 ∧ -(2 ^ 62) ≤ hi ∧ hi < 2 ^ 62) (h : EV c te om sl fun e om1 => om1 = om ∧ e = .o i ∧ om[i]? = some (some (ownR lo hi)) ∧ P (rgD lo (hi - lo).toNat)) : WV c (iRgV te) om sl P := fun σ H O ps s R k =>
  h σ H O ps s _ fun v H1 O1 ps1 e om1 g1 s1 r1 ⟨ho, he, hi', p⟩ => by
    subst he ho
    obtain ⟨q0, rfl, hp⟩ := r1
    obtain ⟨q, e1, e2, e3, e4⟩ := s1.own i _ hi'
    have eq : q = q0 := Option.some.inj (e1.symm.trans hp)
    subst eq
    exact ⟨q, lo, hi, rfl, e4.1, b.1, b.2.1, b.2.2.1, b.2.2.2, wv_rangeC p g1 s1 k⟩
theorem walk_revT {K : PySem.W.Frag} {a : Addr} {xs : List V} : Walk (ItvT K a xs.length) xs.length (fun H => SqT K H a xs) (fun i H x H' => H' = H ∧ xs[xs.length - 1 - i]? = some x) :=
  ⟨fun i _ hi q => ⟨hi, xs, xs[xs.length - 1 - i]'(by omega), q, by simp [show xs.length - 1 - i < xs.length by omega]⟩, fun _ _ => Nat.le_refl _, fun _ _ _ _ _ q y => ⟨y.1, y.2 xs q⟩⟩
theorem wv_revT {P : List D → Prop} (h : EV c te om sl fun e om1 => om1 = om ∧ ∃ ds, e = .v (.tup ds) ∧ P ds.reverse) : WV c (iRevA c.K te) om sl P := fun σ H O ps s R k =>
  h σ H O ps s _ fun v H1 O1 ps1 e om1 g1 s1 r1 ⟨ho, ds, he, p⟩ => by
    subst he ho
    cases r1 with
    | @tup a vs _ ha hr hx =>
      refine ⟨a, vs, rfl, .inr ⟨sqT hr, k (ItvT c.K a vs.length) H1 O1 ps1 (fun H => SqT c.K H a vs) (fun i H x H' => H' = H ∧ vs[vs.length - 1 - i]? = some x) ds.reverse p g1 s1 ?_ (fun H2 O2 ps2 g => sqT (g.ex.rd ha hr)) fun i H2 O2 ps2 v H3 g al hi hy => ?_⟩⟩
      · rw [List.length_reverse, ← hx.len]
        exact walk_revT
      · obtain ⟨rfl, hv⟩ := hy
        rw [List.length_reverse] at hi
        have hl := hx.len
        have hi' : ds[ds.length - 1 - i]? = some (ds[ds.length - 1 - i]'(by omega)) := List.getElem?_eq_getElem (by omega)
        obtain ⟨w, h1, h2⟩ := (hx.ext g.ex).get hi'
        rw [hl] at hv
        have ew : w = v := Option.some.inj (h1.symm.trans hv)
        subst ew
        exact ⟨_, by rw [List.getElem?_reverse hi]; exact hi', fun _ _ z => z, h2⟩
theorem ev_revT (h : EV c te om sl fun e om1 => ∃ ds, e = .v (.tup ds) ∧ P (.v (.tup ds.reverse)) om1) : EV c (tRevT c.K te) om sl P := fun σ H O ps s Q k =>
  h σ H O ps s _ fun v H1 O1 ps1 e om1 g1 s1 r1 ⟨ds, hd, p⟩ => by
    subst hd
    obtain ⟨a, vs, rfl, na, h1, h2⟩ := as_t r1
    refine ⟨a, vs, rfl, sqT h1, fun q hq => ?_⟩
    obtain ⟨s2, g2⟩ := s1.new (o := .tup vs.reverse) hq
    exact k _ _ O1 ps1 (.v (.tup ds.reverse)) om1 (g1.trans g2) s2 (Rl.tup (s1.nin hq) (.inl upd_same) ((RlA.rev h2).ext g2.ex)) p
/-- the truth of a list -/
theorem et_truL {PB : Bool → Om → Prop} (h : EV c te om sl fun e om1 => ∃ ds, dat om1 e = some (.lst ds) ∧ PB (!ds.isEmpty) om1) : ET c (fun σ H Q => te σ H fun x H' => ∃ k, TruV c.K x H' k ∧ Q k H') om sl PB := fun σ H O ps s Q k =>
  h σ H O ps s _ fun v H1 O1 ps1 e om1 g1 s1 r1 ⟨ds, he, p⟩ => by
    obtain ⟨a, vs, rfl, h1, h2⟩ := as_l s1 r1 he
    have e1 : (!vs.isEmpty) = !ds.isEmpty := by
      have := h2.len
      cases vs <;> cases ds <;> first | rfl | (simp at this)
    exact ⟨_, .inl ⟨vs, sqL h1, rfl⟩, by rw [e1]; exact k _ H1 O1 ps1 om1 g1 s1 p⟩
/-- a tuple many times -/
theorem ov_repT {xs : List D} {n : Int} (hx : xs ≠ []) (h : 2 ≤ n ∧ n ≤ 1000 ∧ xs.length ≤ 1000) (p : P (.v (.tup (List.replicate n.toNat xs).flatten)) om) : OV c (rRepT c.K) om sl (.v (.tup xs)) (.v (.int n)) P := fun σ H O ps s v w rv rw' Q k => by
  cases rw'
  obtain ⟨a, vs, rfl, na, h1, h2⟩ := as_t rv
  refine ⟨a, n, vs, rfl, rfl, sqT h1, fun z => hx ?_, h.1, h.2.1, by rw [h2.len]; exact h.2.2, fun q hq => ?_⟩
  · rw [z] at h2
    have := h2.len
    cases xs with
    | nil => rfl
    | cons _ _ => simp at this
  · obtain ⟨s2, g2⟩ := s.new (o := .tup (List.replicate n.toNat vs).flatten) hq
    exact k _ _ O ps (.v (.tup _)) om g2 s2 (Rl.tup (s.nin hq) (.inl upd_same) ((RlA.rep h2 n.toNat).ext g2.ex)) p
end
end DL
set_option Elab.async false
set_option linter.all false
set_option maxRecDepth 100000
set_option maxHeartbeats 4000000
/-! in, not in: a text in a list or a tuple of texts; sorted texts of one another's order -/
namespace EX
open PySem PySem.Spec PyProof.Rows L2 DL
section
variable {X : Cx} {K : PySem.W.Frag}
theorem op_in_seqk (hK : X.K = K) : OpR X (compareOp .In) (rIn K false) := by
  subst hK
  exact op_in_seq
theorem op_notIn_seqk (hK : X.K = K) : OpR X (compareOp .NotIn) (rIn K true) := by
  subst hK
  exact op_notIn_seq
end
end EX
namespace DL
open PySem PySem.Spec PyProof.Rows L2 STX BK
section
variable {c : Cn} {om : Om} {sl : Sl} {P : DL.E → Om → Prop}
theorem ov_inLS {x : Str} {ys : List Str} {y : DL.E} {neg : Bool} (hy : dat om y = some (.lst (ys.map .str))) (p : P (.v (.bl (if neg then !decide (x ∈ ys) else decide (x ∈ ys)))) om) : OV c (rIn c.K neg) om sl (.v (.str x)) y P := fun σ H O ps s v w rv rw' Q k => by
  cases rv
  obtain ⟨q, vs, rfl, h2, h3⟩ := as_l s rw' hy
  have ev := RlA.strs h3
  subst ev
  refine ⟨q, _, rfl, .inl (sqL h2), rfl, by rw [List.all_eq_true]; intro z hz; obtain ⟨y, _, rfl⟩ := List.mem_map.mp hz; rfl, ?_⟩
  rw [inV_strs]
  exact k _ H O ps (.v (.bl _)) om (Go.refl ..) s (Rl.bl _) p
theorem ov_inTN {x : Str} {ys : List Str} {neg : Bool} (p : P (.v (.bl (if neg then !decide (x ∈ ys) else decide (x ∈ ys)))) om) : OV c (rIn c.K neg) om sl (.v (.str x)) (.v (.tup (ys.map .str))) P := fun σ H O ps s v w rv rw' Q k => by
  cases rv
  obtain ⟨q, vs, rfl, h1, h2, h3⟩ := as_t (show Rl O H w (.tup (ys.map .str)) from rw')
  have ev := RlA.strs h3
  subst ev
  refine ⟨q, _, rfl, .inr (sqT h2), rfl, by rw [List.all_eq_true]; intro z hz; obtain ⟨y, _, rfl⟩ := List.mem_map.mp hz; rfl, ?_⟩
  rw [inV_strs]
  exact k _ H O ps (.v (.bl _)) om (Go.refl ..) s (Rl.bl _) p
end
theorem sort_perm {a b : List Str} (h : a.Perm b) : (a.map D.str).mergeSort leD = (b.map D.str).mergeSort leD := by
  have e : ∀ l : List Str, (l.map D.str).mergeSort leD = (l.mergeSort leS).map D.str := fun l => (List.map_mergeSort (f := D.str) (r := leS) (s := leD) fun _ _ _ _ => rfl).symm
  rw [e, e]
  congr 1
  have s2 : ∀ l : List Str, (l.mergeSort leS).Pairwise fun x y => leS x y = true := fun l => List.pairwise_mergeSort (le := leS) (fun a b c h1 h2 => leD_le.trans (.str a) (.str b) (.str c) h1 h2) (fun a b => by
      rcases leD_le.total (.str a) (.str b) with y | y
      · exact Bool.or_eq_true_iff.mpr (.inl y)
      · exact Bool.or_eq_true_iff.mpr (.inr y)) _
  exact (((List.mergeSort_perm a leS).trans h).trans (List.mergeSort_perm b leS).symm).eq_of_pairwise (fun a b _ _ h1 h2 => leS_anti h1 h2) (s2 a) (s2 b)
end DL
set_option Elab.async false
set_option linter.all false
set_option maxRecDepth 100000
set_option maxHeartbeats 4000000
/-! where a text stands in a tuple of texts -/
namespace L2
open PySem PySem.Spec PyProof.Rows
def rTIndexS (K : PySem.W.Frag) : V → List V → Hp → VK → Prop := fun x xs H Q => ∃ (a : Addr) (ys : List Str) (k : Str), x = .ref a ∧ xs = [.str k] ∧ SqT K H a (ys.map V.str) ∧ k ∈ ys ∧ Q (.int (ys.idxOf k : Nat)) H
theorem strs_of : ∀ {ys : List Str} {us : List Value}, Vals (ys.map V.str) us → StrsAre us ys
  | [], _, .nil => .nil
  | y :: ys, _, .cons r t => by
    obtain ⟨u, rfl⟩ := (show ∃ t, _ = Value.str y t from r)
    exact .cons y u (strs_of t)
theorem mt_tindex {X : Cx} : MtR X "tuple.index" (rTIndexS X.K) := by
  intro pins s σ H x xs v us Q I rx rxs h
  obtain ⟨a, ys, k, rfl, rfl, ea, hk, q⟩ := h
  cases (show v = Value.ref a from rx)
  cases rxs with
  | cons ry rt =>
    cases rt
    obtain ⟨t, rfl⟩ := (show ∃ t, _ = Value.str k t from ry)
    obtain ⟨its, r1, ⟨o1, g1, g2, n1, g3⟩, _⟩ := I.tuple ea
    exact PySem.SeqAt.tuple_index_strs ⟨_, g1, g2, n1, g3⟩ (strs_of r1) hk ⟨.int (ys.idxOf k : Nat), H, I.tok _, ⟨_, rfl⟩, q⟩
end L2
namespace DL
open PySem PySem.Spec PyProof.Rows L2
theorem mv_tindex {c : Cn} {om : Om} {sl : Sl} {P : E → Om → Prop} {ys : List Str} {k : Str} (hk : k ∈ ys) (p : P (.v (.int (ys.idxOf k : Nat))) om) : MV c (rTIndexS c.K) om sl (.v (.tup (ys.map .str))) [.v (.str k)] P := fun σ H O ps s v vs r rs Q kk => by
  obtain ⟨w1, rfl, r1⟩ := ra1 rs
  cases r1
  obtain ⟨q, ws, rfl, h1, h2, h3⟩ := as_t (show Rl O H v (.tup (ys.map .str)) from r)
  have ev := RlA.strs h3
  subst ev
  exact ⟨q, ys, k, rfl, rfl, sqT h2, hk, kk _ H O ps (.v (.int _)) om (Go.refl ..) s (Rl.int _) p⟩
end DL
namespace EX
open PySem PySem.Spec PyProof.Rows L2
theorem pt_truthk {X : Cx} {K : PySem.W.Frag} {a : Expr} {ta : TE} (hk : X.K = K) (ha : PE X a ta) (he : ∀ whole, isTrue a X.env whole = (do let v ← whole; standAt a.pos; holding [v] (truthy v))) :
    PT X a (fun σ H Q => ta σ H fun x H' => ∃ k, TruV K x H' k ∧ Q k H') := by
  subst hk
  exact pt_truth ha he
end EX
namespace DL
open PySem PySem.Spec PyProof.Rows L2
theorem et_truT {c : Cn} {om : Om} {sl : Sl} {te : TE} {PB : Bool → Om → Prop} (h : EV c te om sl fun e om1 => ∃ ds, e = .v (.tup ds) ∧ PB (!ds.isEmpty) om1) : ET c (fun σ H Q => te σ H fun x H' => ∃ k, TruV c.K x H' k ∧ Q k H') om sl PB := fun σ H O ps s Q k =>
  h σ H O ps s _ fun v H1 O1 ps1 e om1 g1 s1 r1 ⟨ds, he, p⟩ => by
    subst he
    obtain ⟨q, ws, rfl, h1, h2, h3⟩ := as_t (show Rl O1 H1 v (.tup ds) from r1)
    have ee : ws.isEmpty = ds.isEmpty := by
      have := h3.len
      cases ws <;> cases ds <;> simp at this <;> rfl
    refine ⟨!ds.isEmpty, .inr (.inl ⟨ws, sqT h2, by rw [ee]⟩), k _ H1 O1 ps1 om1 g1 s1 p⟩
end DL
set_option Elab.async false
set_option linter.all false
set_option maxRecDepth 100000
set_option maxHeartbeats 4000000
/-! xs[j] += e of a list; the place of a number in a list -/
namespace L2
open PySem PySem.Spec PyProof.Rows
theorem pg_list {X : Cx} : PGet X (rIxL X.K) := by
  intro pins s σ H x y v u Q I rx ry h
  obtain ⟨p, xs, i, z, rfl, rfl, hq, he, q⟩ := h
  cases rx
  obtain ⟨t, rfl⟩ := ry
  obtain ⟨its, r, pl, hz⟩ := I.list hq
  obtain ⟨j, h1, h2, h3, h4, h5⟩ := atI_get he
  obtain ⟨w, ew, rw'⟩ := r.get h2
  have hl := r.length
  have hn := line63
  have fin : EP X pins σ Q w s := ⟨z, H, I, rw', q⟩
  by_cases h0 : 0 ≤ i
  · have hj : i.toNat = j := by
      rw [seqIndex_of h0 h5] at h1
      exact Option.some.inj h1
    exact wpAny_getItem_list pl.isList h0 (by omega) (by rw [hj]; simpa using ew) fin
  · have hj : (i + (its.toArray.size : Int)).toNat = j := by
      rw [seqIndex_neg (by omega) h4] at h1
      rw [List.size_toArray, ← hl]
      exact Option.some.inj h1
    exact wpAny_getItem_list_neg pl.isList (by omega) (by rw [List.size_toArray] <;> omega) (by omega) (by rw [hj]; simpa using ew) fin
end L2
namespace DL
open PySem PySem.Spec PyProof.Rows L2
section
variable {c : Cn} {Ex : XK} {om : Om} {sl : Sl} {x : E} {P : E → Om → Prop} {Pq : Po} {te : TE}
/-- xs[j] += e, xs an own list of numbers -/
theorem sv_augItem {g : Int → Int → Int} {to ti : TE} (h : EV c to om sl fun x om1 => ∃ k, x = .o k ∧ EV c ti om1 sl fun z om2 => ∃ (j : Nat) (ns : List Int) (a : Int), z = .v (.int (j : Int)) ∧ om2[k]? = some (some (.l (ns.map .int))) ∧ ns[j]? = some a ∧
      EV c te om2 sl fun e om3 => ∃ b, e = .v (.int b) ∧ om3 = om2 ∧ Pq.n (om2.set k (some (.l ((ns.set j (g a b)).map .int)))) sl) : SV c Ex (tAugS to ti te (rIxL c.K) (ipI g) rSetL) om sl Pq := fun σ H O ps Dn s kn kr kb kc kx =>
  h σ H O ps s _ fun u H1 O1 ps1 x om1 g1 s1 r1 ⟨k, hx, h1⟩ => h1 σ H1 O1 ps1 s1 _ fun z H2 O2 ps2 z' om2 g2 s2 r2 ⟨j, ns, a, hz, ho, hj, h2⟩ => by
    subst hx hz
    cases r2
    obtain ⟨q, ws, rfl, e1, e2, e3⟩ := own_at s2 ho (r1.go g2 : RE c.F O2 ps2 H2 u (.o k))
    have ei := e3.ints
    subst ei
    have hj' : (ns.map V.int)[j]? = some (V.int a) := by rw [List.getElem?_map, hj]; rfl
    have hlt : j < ns.length := (List.getElem?_eq_some_iff.mp hj).1
    refine ⟨q, ns.map V.int, (j : Int), V.int a, rfl, rfl, sqL e2, atI_n hj', ?_⟩
    refine h2 σ H2 O2 ps2 s2 _ fun v H3 O3 ps3 e om3 g3 s3 r3 ⟨b, he, eo, p⟩ => ?_
    subst he eo
    cases r3
    refine ⟨a, b, rfl, rfl, ?_⟩
    obtain ⟨q', ws', eq, e1', e2', e3'⟩ := own_at s3 ho ((r1.go g2).go g3 : RE c.F O3 ps3 H3 (.ref q) (.o k))
    cases eq
    have ei' := e3'.ints
    subst ei'
    obtain ⟨s4, g4⟩ := s3.write ho e1' (e3'.set (Rl.int (g a b)) j)
    refine ⟨q, ns.map V.int, (j : Int), j, rfl, rfl, e2', ?_, ?_⟩
    · unfold ixN
      rw [if_pos (by omega), if_pos (by rw [List.length_map]; omega), Int.toNat_natCast]
    · refine kn _ _ O3 ps3 _ sl (g1.trans (g2.trans (g3.trans g4))) s4 ?_
      rw [List.map_set] at p
      exact p
/-- xs.index(n), xs an own list of numbers -/
theorem mv_index {k : Nat} {ns : List Int} {n : Int} {j : Nat} (ho : om[k]? = some (some (.l (ns.map .int)))) (hj : ns[j]? = some n) (hf : ∀ m z, m < j → ns[m]? = some z → z ≠ n) (p : P (.v (.int (j : Int))) om) : MV c (rIndex c.K) om sl (.o k) [.v (.int n)] P := fun σ H O ps s v vs r rs Q kk => by
  obtain ⟨w, rfl, rw'⟩ := ra1 rs
  cases rw'
  obtain ⟨q, ws, rfl, hq, h1, h2⟩ := own_at s ho r
  have ei := h2.ints
  subst ei
  refine ⟨q, ns.map V.int, .int n, j, .int n, rfl, rfl, sqL h1, rfl, ?_, by rw [List.getElem?_map, hj]; rfl, ?_, fun m z' hm hz => ?_, kk _ H O ps (.v (.int (j : Int))) _ (Go.refl ..) s (Rl.int _) p⟩
  · rw [List.all_eq_true]
    intro x hx
    obtain ⟨i, _, rfl⟩ := List.mem_map.mp hx
    rfl
  · show (n == n) = true
    exact beq_self_eq_true n
  · rw [List.getElem?_map] at hz
    cases hm' : ns[m]? with
    | none => rw [hm'] at hz; cases hz
    | some i =>
      rw [hm'] at hz
      cases hz
      show (i == n) = false
      exact beq_eq_false_iff_ne.mpr (hf m i hm hm')
end
section
variable {c : Cn} {om : Om} {sl : Sl} {P : E → Om → Prop} {tt : TT} {te : TE}
/-- a comprehension whose list stays an own one -/
theorem ev_lcO {wi : TI} {g : TG} {vs : List Nat} (hg : Sets g vs) (h : WV c wi om sl fun xs => ∃ Iv : Nat → List D → Prop, Iv 0 [] ∧
      (∀ i d acc, xs[i]? = some d → Iv i acc → GV c g d (om ++ [some (.l acc)]) (vs.foldr (fun i l => l.set i none) sl) fun om2 sl2 => ET c tt om2 sl2 fun b om3 =>
        (b = true → EV c te om3 sl2 fun e om4 => om4 = om ++ [some (.l acc)] ∧ ∃ y, e = .v y ∧ Iv (i + 1) (acc ++ [y])) ∧ (b = false → om3 = om ++ [some (.l acc)] ∧ Iv (i + 1) acc)) ∧
      (∀ i acc, Iv i acc → acc.length < 100000) ∧ ∀ acc, Iv xs.length acc → P (.o om.length) (om ++ [some (.l acc)])) : EV c (tLc wi g tt te vs) om sl P := fun σ H O ps s Q k =>
  h σ H O ps s _ fun J H1 O1 ps1 G Y xs ⟨Iv, h0, hs, hb, hd⟩ g1 s1 w hG hY Dl hD => by
    obtain ⟨s2, g2, r2⟩ := s1.newOwn (vs := []) (ds := []) hD .nil
    have lp : ps1.length = om.length := s1.len
    have osl : ∀ (i k : Nat), sl[i]? = some (some (.o k)) → k < om.length := fun i k e => by
      obtain ⟨v, _, p, _, e2⟩ := s1.slots i _ e
      rw [← lp]
      exact (List.getElem?_eq_some_iff.mp e2).1
    have osl2 : ∀ (i n : Nat), sl[i]? = some (some (.rs n)) → ∀ j, j < n → 1 + j < om.length := fun i n e j hj => by
      obtain ⟨v, _, q, vs, _, _, _, _, e2⟩ := s1.slots i _ e
      obtain ⟨p, e3, _⟩ := e2 j hj
      rw [← lp]
      exact (List.getElem?_eq_some_iff.mp e3).1
    refine lc_it w (fun i H' => ∃ O' ps' acc, Go (Dl :: O1) (ps1 ++ [Dl]) (upd H1 Dl (.lst [])) O' ps' H' ∧ St c.F c.O0 c.H0 H' (om ++ [some (.l acc)]) σ sl O' ps' ∧ Iv i acc)
      ⟨Dl :: O1, ps1 ++ [Dl], [], Go.refl .., s2, h0⟩ (fun i H' _ ⟨O', ps', acc, g', _⟩ => hG H' O' ps' (g2.trans g')) ?_ ?_
    · rintro i v H2 H3 hi ⟨O2, ps2, acc, g3, s3, p⟩ hy
      obtain ⟨d, e1, k2, r⟩ := hY i H2 O2 ps2 v H3 (g2.trans g3) s3.al hi hy
      obtain ⟨s4, g4⟩ := s3.same k2
      refine hg v σ H3 _ (hs i d acc e1 p (wipe σ vs) H3 O2 ps2 (st_wipe s4 vs) v r _ fun σ5 sl5 s5 h5 => ?_)
      refine h5 σ5 H3 O2 ps2 s5 _ fun b H6 O6 ps6 om6 g6 s6 ⟨ht, hf⟩ => ?_
      -- the slots of σ stand as before
      have back : ∀ {H7 : Hp} {O7 ps7 : List Addr} {acc' : List D} {σ7 : L2.St} {sl7 : Sl}, Go O2 ps2 H2 O7 ps7 H7 → St c.F c.O0 c.H0 H7 (om ++ [some (.l acc')]) σ7 sl7 O7 ps7 → St c.F c.O0 c.H0 H7 (om ++ [some (.l acc')]) σ sl O7 ps7 := fun {H7 O7 ps7 acc' σ7 sl7} g7 s7 =>
        ⟨s7.en, s7.fo, s7.oo, s7.ff, s7.al, s7.len, s7.own, s7.inj, s7.pa, s7.dl, fun i e z => by
          obtain ⟨v, z1, z2⟩ := s3.slots i e z
          exact ⟨v, z1, z2.go g7⟩, s3.ln, s7.tb⟩
      cases b with
      | true =>
        refine (if_pos rfl).mpr (ht rfl σ5 H6 O6 ps6 s6 _ fun y H7 O7 ps7 e om7 g7 s7 r7 ⟨ho, z, he, hz⟩ => ?_)
        subst he ho
        obtain ⟨q, ws, e1, e2, e3, e4, e5⟩ := s7.ownL (k := om.length) (ds := acc) (by simp)
        have gg : Go O2 ps2 H2 O7 ps7 H7 := g4.trans (g6.trans g7)
        have eD : (ps1 ++ [Dl])[om.length]? = some Dl := by
          rw [← lp]
          simp
        have eq : q = Dl := Option.some.inj (e1.symm.trans (gg.pre _ _ (g3.pre _ _ eD)))
        subst eq
        have hw := hb _ _ p
        obtain ⟨s8, g8⟩ := s7.write (ds' := acc ++ [z]) (vs' := ws ++ [y]) (by simp : (om ++ [some (Own.l acc)])[om.length]? = some (some (Own.l acc))) e1 (e5.app (.cons (show Rl O7 H7 y z from r7) .nil))
        refine ⟨ws, e4, by rw [e5.len]; exact Nat.lt_of_lt_of_le hw (by decide), O7, ps7, acc ++ [z], g3.trans (gg.trans g8), ?_, hz⟩
        have es : (om ++ [some (Own.l acc)]).set om.length (some (Own.l (acc ++ [z]))) = om ++ [some (Own.l (acc ++ [z]))] := by simp [List.set_append]
        rw [es] at s8
        exact back (gg.trans g8) s8
      | false =>
        obtain ⟨ho, hz⟩ := hf rfl
        subst ho
        refine (if_neg Bool.false_ne_true).mpr ⟨O6, ps6, acc, g3.trans (g4.trans g6), back (g4.trans g6) s6, hz⟩
    · rintro H' ⟨O', ps', acc, g', s', p⟩
      exact k _ H' O' ps' (.o om.length) (om ++ [some (.l acc)]) (g1.trans (g2.trans g')) s' (r2.go g') (hd acc p)
theorem ov_repLO {x : E} {xs : List D} {n : Nat} (hx : dat om x = some (.lst xs)) (h : xs.length * n ≤ 100000) (hn : (n : Int) < 2 ^ 63) (p : P (.o om.length) (om ++ [some (.l (List.replicate n xs).flatten)])) : OV c rMulU om sl x (.v (.int (n : Int))) P := fun σ H O ps s v w rv rw' Q k => by
  cases rw'
  obtain ⟨a, vs, rfl, h1, h2⟩ := as_l s rv hx
  refine .inr ⟨a, n, vs, rfl, rfl, h1, by omega, hn, by rw [h2.len, Int.toNat_natCast]; exact Nat.le_trans h (by decide), fun q hq => ?_⟩
  rw [Int.toNat_natCast]
  obtain ⟨s2, g2, r2⟩ := s.newOwn (ds := (List.replicate n xs).flatten) hq (RlA.rep h2 n)
  exact k _ _ _ _ _ _ g2 s2 r2 p
end
/-- what isinstance reads of an own class -/
structure IsC (K : PySem.W.Frag) (C : Addr) : Prop where
  cl : Cls K C
  fi : PySem.W.findIn K (.ref C) "__class__" = some (some (.builtin "object.__class__"))
  sp : PySem.W.specialIn K (.builtin "object.__class__") "__get__" = some (some (.builtin "getset_descriptor.__get__"))
  tk : PySem.W.takesIn K (.builtin "object.__class__") = some true
  mr : PySem.W.mroIn K C (.type "object") = some true
  me : PySem.W.kitOne K (.ref C) (.ref C) = some true
section
variable {c : Cn} {om : Om} {sl : Sl} {P : E → Om → Prop}
theorem cv_isiO {C : Addr} {gs : List (Str × D)} (I : IsC c.K C) (p : P (.v (.bl true)) om) : CV c (rIsi c.K) om sl [.v (.obj C gs), .v (.raw (.ref C))] P := fun σ H O ps s vs r Q k => by
  obtain ⟨v, w, rfl, r1, r2⟩ := ra2 r
  have q1 : Rl O H v (.obj C gs) := r1
  cases r2
  cases q1 with
  | obj ha hr hx => exact ⟨_, .ref C, .ref C, .ref C, true, rfl, .own C, .base (.ins hr I.cl I.fi I.sp I.tk I.mr), I.me, k _ H O ps (.v (.bl true)) om (Go.refl ..) s (Rl.bl true) p⟩
theorem ov_notBl {a b : Bool} (p : P (.v (.bl (!decide (a = b)))) om) : OV c rNotB om sl (.v (.bl a)) (.v (.bl b)) P := fun σ H O ps s v w rv rw' Q k => by
  cases rv
  cases rw'
  exact ⟨a, b, rfl, rfl, k _ H O ps (.v (.bl _)) om (Go.refl ..) s (Rl.bl _) p⟩
end
end DL
namespace DL
open PySem PySem.Spec PyProof.Rows L2
/-- list(t) of a tuple, as data -/
theorem cv_listTD {c : Cn} {om : Om} {sl : Sl} {P : E → Om → Prop} {ds : List D} (p : P (.v (.lst ds)) om) : CV c (rListU c.K) om sl [.v (.tup ds)] P := fun σ H O ps s vs r Q k => by
  obtain ⟨v, rfl, rv⟩ := ra1 r
  obtain ⟨a, ws, rfl, na, h1, h2⟩ := as_t rv
  refine ⟨a, ws, rfl, .inr (sqT h1), fun q hq => ?_⟩
  obtain ⟨s2, g2⟩ := s.new (o := .lst ws) hq
  exact k _ _ O ps (.v (.lst ds)) om g2 s2 (Rl.lst (s.nin hq) upd_same (h2.ext g2.ex)) p
end DL
namespace EX
open PySem PySem.Spec PyProof.Rows L2
theorem cr_mink {X : Cx} {K : PySem.W.Frag} (hk : X.K = K) (hc : X.calm = true) : CallR X (.builtin "min") (rMin K) := by
  subst hk
  exact L2.cr_min hc
theorem cr_maxk {X : Cx} {K : PySem.W.Frag} (hk : X.K = K) (hc : X.calm = true) : CallR X (.builtin "max") (rMax K) := by
  subst hk
  exact L2.cr_max hc
end EX
set_option Elab.async false
set_option linter.all false
set_option maxRecDepth 100000
set_option maxHeartbeats 4000000
/-! objects whose making may raise; isinstance of data of any kind -/
namespace HL
open PySem PySem.Spec PyProof.Rows L2
section
variable {X : Cx} {CX : CXT} {k j : Nat} {f C : Addr} {fd : FuncData} {ps : List Str} {sp : Sp} {x : Str} {p pos : Pos} {e : Expr} {es : List Expr} {t : TA}
theorem made_at {pins : List (Addr × Obj)} {σ : L2.St} {H : Hp} {s : Shared} {Q : VK} {us : List Value} {vs : List V} {E : XK} (M : Mk X.K C f) (F : FnOk X.prog X.w X.K X.mg X.base CX k f fd ps sp) (hr : Room (k + 1) X.A) (hb : Binds X.K fd ps [])
    (hx : PassesAt CX X σ E) (I : Inv X pins σ H s) (r : Vals vs us)
    (h : ∀ a dx, H a = none → H dx = none → dx ≠ a → sp (.ref a :: vs) (upd (upd H dx (.own a)) a (.ins C dx [])) (fun v H2 => v = .non ∧ Q (.ref a) H2) E) :
    wpAny (model X.prog X.w) X.A (call (.ref C) us) (EP X pins σ Q) X.xe s := by
  have n1 : s.heap.objs.size ≠ s.heap.objs.size + 1 := Nat.ne_of_lt (Nat.lt_succ_self _)
  have q1 := h (s.heap.objs.size + 1) s.heap.objs.size (I.hok.fresh (Nat.le_succ _)) (I.hok.fresh (Nat.le_refl _)) n1
  have J := Inv.made (C := C) I
  have rr : Vals (V.ref (s.heap.objs.size + 1) :: vs) (Value.ref (s.heap.objs.size + 1) :: us) := .cons rfl r
  have ll : (Value.ref (s.heap.objs.size + 1) :: us).length = ps.length := by
    rw [← rr.length]
    exact F.len _ _ _ _ q1
  have bb := hb _ (Value.ref (s.heap.objs.size + 1) :: us) J.kIn (by rw [List.append_nil]; exact ll)
  rw [List.append_nil] at bb
  have run := F.run _ X.stack _ _ ⟨Value.ref (s.heap.objs.size + 1) :: us, []⟩ _ _ _ E (hr.make C us []) (J.env0.make C us []) bb rr q1
  refine wpAny_call (make_map (f := f) I.kIn M.makes M.init (beq_iff_eq.mp M.fn) (codeAny_mono run fun o s' c => ?_))
  rcases o with er | fl
  · exact hx pins _ _ er s' J c
  · cases fl with
    | ret u =>
      obtain ⟨v, H', J', rv, ev, z⟩ := J.after c
      subst ev
      exact ⟨rv, ⟨V.ref (s.heap.objs.size + 1), H', J', rfl, z⟩⟩
    | next => exact c.elim
    | brk => exact c.elim
    | cont => exact c.elim
def tMakeS (C : Addr) (sp : Sp) (E : L2.St → XK) (t : TA) : TE := fun σ H Q => t σ H fun vs H1 => ∀ a dx, H1 a = none → H1 dx = none → dx ≠ a → sp (.ref a :: vs) (upd (upd H1 dx (.own a)) a (.ins C dx [])) (fun v H2 => v = .non ∧ Q (.ref a) H2) (E σ)
/-- C(e, ..) within a try -/
theorem pe_mkS {E : L2.St → XK} (c : CaC X.prog X.w X.K X.mg X.base CX k x C ps sp) (hr : Room j X.A) (hk : k + 1 ≤ j) (hx : ∀ σ, PassesAt CX X σ (E σ)) (ha : PA X (e :: es) t) (hg : Gl X x := by rfl)
    (hdb : (x == ("__debug__" : Str)) = false := by decide) (he : starEach (e :: es) X.env = (false, eval e X.env) :: starEach es X.env := by rfl) (hpl : (backTo pos (starEach es X.env)).any (·.1) = false := by rfl) :
    PE X (.Call (.Name x p) (e :: es) [] pos) (tMakeS C sp E t) := by
  obtain ⟨f, fd, M, F, m, b⟩ := c.ex
  refine ⟨fun pins s σ H Q I h => wpAny_Call_Name_kw (ld_glob I hg m ?_ hdb)⟩
  refine PySem.W.callWith_K (h₀ := X.base) I.ok.mod.kin M.kp (thn (ha.run pos pins s σ H _ I h) fun us s1 ⟨vs, H1, I1, r, q⟩ => ⟨I1.kIn, ?_⟩) he hpl
  exact made_at M F (hr.mono hk) b (hx σ) I1 r q
/-- a class that may be called by keywords -/
structure CaCK (P : Program) (w : World) (K : PySem.W.Frag) (mg : Str → Option Value) (base : Heap) (CX : CXT) (k : Nat) (x : Str) (C : Addr) (ps : List Str) (sp : Sp) : Prop where
  ex : ∃ (f : Addr) (fd : FuncData), Mk K C f ∧ FnOk P w K mg base CX k f fd ps sp ∧ mg x = some (.ref C) ∧ KBn K fd ps 1 ps.tail (fun us ws => us ++ ws) (fun vs zs => vs ++ zs)
theorem pe_mkK {E : XK} {kws : List Keyword} {tk : TA} (c : CaCK X.prog X.w X.K X.mg X.base CX k x C ps sp) (hr : Room j X.A) (hk : k + 1 ≤ j) (hx : Passes CX X E) (hkw : PK X kws tk) (hg : Gl X x := by rfl)
    (hall : (backToKw pos (keywordEach kws X.env)).all (·.1.isSome) = true := by rfl) (hks : (backToKw pos (keywordEach kws X.env)).filterMap (·.1) = ps.tail := by rfl) (hdb : (x == ("__debug__" : Str)) = false := by decide)
    (hpl : ((backTo pos (starEach [] X.env)).any (·.1) || (backToKw pos (keywordEach kws X.env)).any (·.1.isNone)) = false := by rfl) :
    PE X (.Call (.Name x p) [] kws pos) (tMakeK C 0 ps.tail.length sp (fun vs zs => vs ++ zs) E tNil tk) := by
  obtain ⟨f, fd, M, F, m, b⟩ := c.ex
  exact pe_makeK0 M F (hr.mono hk) hg m b hx hkw hall hks hdb hpl
end
end HL
namespace DL
open PySem PySem.Spec PyProof.Rows L2 STX HL
/-- __init__ at the things a: it leaves the fields fs a where R a, and may raise X a -/
def spIX {α : Type} (ar : Nat) (ds : α → List D) (pre R : α → Prop) (C : Addr) (fs : α → List (Str × D)) (X : α → Addr → Str → D → Prop) : Sp := fun vs H Q E => ∃ (a : α) (H0 : Hp) (x dx : Addr) (O : List Addr) (ws : List V), vs = .ref x :: ws ∧ ws.length = ar ∧ H = upd (upd H0 dx (.own x)) x (.ins C dx []) ∧ H0 x = none ∧ H0 dx = none ∧ dx ≠ x ∧ Al O H0 ∧ RlA O H0 ws (ds a) ∧ pre a ∧
  (R a → ∀ H' gs, Same H0 H' → H' x = some (.ins C dx gs) → RlF O H' gs (fs a) → Q .non H') ∧ ∀ C' f u d v H1, Same H0 H1 → X a C' f u → Rl O H1 v u → H1 d = none → E (.ref C') (some d) (upd H1 d (.xd [(f, v)]))
section
variable {α : Type} {ar : Nat} {ds : α → List D} {pre R : α → Prop} {C : Addr} {fs : α → List (Str × D)} {X : α → Addr → Str → D → Prop} {c : Cn} {Ex : XK} {om : Om} {sl : Sl} {P : E → Om → Prop} {t : TS} {tr : TA} {te : TE} {Pq : Po}
theorem lenIX {vs : List V} {H : Hp} {Q : VK} {E : XK} (h : spIX ar ds pre R C fs X vs H Q E) : vs.length = ar + 1 := by
  obtain ⟨a, H0, x, dx, O, ws, rfl, hl, _⟩ := h
  rw [List.length_cons, hl]
/-- within a try -/
theorem ev_makeS {W : WX} (h : EA c tr om sl fun es om1 => ∃ (a : α) (Y : Addr → Str → D → Prop), WishS c W om1 sl Y ∧ unv es = some (ds a) ∧ (ds a).length = ar ∧ pre a ∧ (∀ C f x, X a C f x → Y C f x) ∧ (R a → P (.v (.obj C (fs a))) om1)) : EV c (tMakeS C (spIX ar ds pre R C fs X) (WE W) tr) om sl P := fun σ H O ps s Q k =>
  h σ H O ps s _ fun vs H1 O1 ps1 es om1 g1 s1 r1 ⟨a, Y, w, he, hl, hp, hx, p⟩ x dx hx1 hdx hne => by
    have he' := unv_eq he
    subst he'
    have ra := ra_data r1
    refine ⟨a, H1, x, dx, O1, vs, rfl, by rw [ra.len]; exact hl, rfl, hx1, hdx, hne, s1.al, ra, hp, fun hR H' gs hs hg hr => ⟨rfl, ?_⟩, fun C' f u d v H2 hs hX rv hd => ?_⟩
    · obtain ⟨s2, g2⟩ := s1.same hs
      exact k (.ref x) H' O1 ps1 (.v (.obj C (fs a))) om1 (g1.trans g2) s2 (.obj (s1.nin hx1) hg hr) (p hR)
    · obtain ⟨s2, g2⟩ := s1.same hs
      exact w σ H2 O1 ps1 C' f u d v s2 (hx C' f u hX) rv hd
/-- where nothing is raised -/
theorem ev_makeN {Ew : XK} (h : EA c tr om sl fun es om1 => ∃ a : α, unv es = some (ds a) ∧ (ds a).length = ar ∧ pre a ∧ (∀ C f x, ¬ X a C f x) ∧ P (.v (.obj C (fs a))) om1) : EV c (tMake C (spIX ar ds pre R C fs X) [] Ew tr) om sl P := fun σ H O ps s Q k =>
  h σ H O ps s _ fun vs H1 O1 ps1 es om1 g1 s1 r1 ⟨a, he, hl, hp, hx, p⟩ x dx hx1 hdx hne => by
    have he' := unv_eq he
    subst he'
    have ra := ra_data r1
    refine ⟨a, H1, x, dx, O1, vs, by rw [List.append_nil], by rw [ra.len]; exact hl, rfl, hx1, hdx, hne, s1.al, ra, hp, fun hR H' gs hs hg hr => ⟨rfl, ?_⟩, fun C' f u d v H2 hs hX rv hd => (hx C' f u hX).elim⟩
    obtain ⟨s2, g2⟩ := s1.same hs
    exact k (.ref x) H' O1 ps1 (.v (.obj C (fs a))) om1 (g1.trans g2) s2 (.obj (s1.nin hx1) hg hr) p
theorem ev_makeK {Ew : XK} (h : EA c tr om sl fun es om1 => ∃ a : α, unv es = some (ds a) ∧ (ds a).length = ar ∧ pre a ∧ (∀ C f x, ¬ X a C f x) ∧ P (.v (.obj C (fs a))) om1) : EV c (tMakeK C 0 ar (spIX ar ds pre R C fs X) (fun vs zs => vs ++ zs) Ew tNil tr) om sl P := fun σ H O ps s Q k =>
  h σ H O ps s _ fun vs H1 O1 ps1 es om1 g1 s1 r1 ⟨a, he, hl, hp, hx, p⟩ => by
    have he' := unv_eq he
    subst he'
    have ra := ra_data r1
    refine ⟨rfl, by rw [ra.len]; exact hl, fun x dx hx1 hdx hne => ?_⟩
    refine ⟨a, H1, x, dx, O1, vs, rfl, by rw [ra.len]; exact hl, rfl, hx1, hdx, hne, s1.al, ra, hp, fun hR H' gs hs hg hr => ⟨rfl, ?_⟩, fun C' f u d v H2 hs hX rv hd => (hx C' f u hX).elim⟩
    obtain ⟨s2, g2⟩ := s1.same hs
    exact k (.ref x) H' O1 ps1 (.v (.obj C (fs a))) om1 (g1.trans g2) s2 (.obj (s1.nin hx1) hg hr) p
theorem entryIX {K : PySem.W.Frag} {N : List Str} {vs : List V} {H : Hp} {Q : VK} (hN : ar + 1 ≤ N.length) (h : spIX ar ds pre R C fs X vs H Q Ex)
    (b : ∀ (O : List Addr) (H0 : Hp) (dx : Addr) (a : α), (ds a).length = ar → pre a → SV ⟨FT.non, O, H0, K⟩ Ex t [some (.i C dx [])] (some (.o 0) :: sl0 (ds a) (N.length - (ar + 1))) { n := fun om _ => R a ∧ om[0]? = some (some (.i C dx (fs a))), x := X a }) :
    t { nx := fun _ H' => Q .non H', rt := Q } (L2.start N vs) H := by
  obtain ⟨a, H0, x, dx, O, ws, rfl, hl, rfl, hx, hdx, hne, al, ra, hp, hQ, hE⟩ := h
  have hl2 : (ds a).length = ar := by rw [← ra.len]; exact hl
  cases N with
  | nil => simp at hN
  | cons nm N =>
    obtain ⟨h1, h2⟩ := start_slots (N := N) ra (by rw [hl]; simpa using hN)
    rw [hl2] at h1 h2
    have est : L2.start (nm :: N) (V.ref x :: ws) = some (V.ref x) :: L2.start N ws := by simp [L2.start]
    have esz : (nm :: N).length - (ar + 1) = N.length - ar := by simp
    rw [est]
    have nO : ∀ {y : Addr}, H0 y = none → y ∉ O := fun {y} hy z => al y z hy
    have kp : ∀ b o, H0 b = some o → upd (upd H0 dx (.own x)) x (.ins C dx []) b = some o := fun b o e => by
      rw [upd_ne (ne_of_none e hx), upd_ne (ne_of_none e hdx)]
      exact e
    have ex : Ext O H0 (x :: O) (upd (upd H0 dx (.own x)) x (.ins C dx [])) := ⟨fun b o _ e => kp b o e, fun p hp => (List.mem_cons.mp hp).elim (fun e => .inr (e ▸ hx)) .inl⟩
    have s0 : St FT.non O H0 (upd (upd H0 dx (.own x)) x (.ins C dx [])) [some (.i C dx [])] (some (V.ref x) :: L2.start N ws) (some (.o 0) :: sl0 (ds a) (N.length - ar)) (x :: O) [x] := by
      refine ⟨fun b o _ e => kp b o e, fun b hb => (List.mem_cons.mp hb).elim (fun e => .inr (e ▸ hx)) .inl, fun b hb => List.mem_cons_of_mem _ hb, (fun b hb => nomatch (show b ∈ ([] : List Addr) from hb)), fun b hb => ?_, rfl, fun k w e => ?_, fun j k p e1 e2 => ?_, fun k p e => ?_, .inl rfl, fun i e he => ?_, by simp [h1], .inl rfl⟩
      · rcases List.mem_cons.mp hb with e | e
        · rw [e, upd_same]
          exact fun z => nomatch z
        · intro z
          cases e2 : H0 b with
          | none => exact al b e e2
          | some o =>
            rw [kp b o e2] at z
            cases z
      · cases k with
        | zero =>
          have e' : Own.i C dx [] = w := by simpa using e
          subst e'
          exact ⟨x, rfl, ⟨List.mem_cons_self, nO hx⟩, hx, [], upd_same, .nil⟩
        | succ k => simp at e
      · cases j with
        | zero =>
          cases k with
          | zero => rfl
          | succ k => simp at e2
        | succ j => simp at e1
      · cases k with
        | zero =>
          have e' : x = p := by simpa using e
          subst e'
          rw [upd_same]
          exact fun z => nomatch z
        | succ k => simp at e
      · cases i with
        | zero =>
          have e' := Option.some.inj (Option.some.inj he)
          rw [← e']
          exact ⟨.ref x, rfl, x, rfl, rfl⟩
        | succ j =>
          obtain ⟨v, z1, z2⟩ := h2 j e (by simpa using he)
          refine ⟨v, by simpa using z1, ?_⟩
          cases e with
          | v d => exact Rl.ext ex z2
          | o k =>
            obtain ⟨p, _, e⟩ := z2
            simp at e
          | l =>
            obtain ⟨_, _, z, _⟩ := z2
            cases z
          | rs n =>
            obtain ⟨q, ws, y1, y2, y3, y4, y5⟩ := z2
            refine ⟨q, ws, y1, ex.out y2 (by rw [y3]; exact fun z => nomatch z), ex.keep _ _ y2 y3, y4, fun i hi => ?_⟩
            obtain ⟨p, e, _⟩ := y5 i hi
            simp at e
    have q := b O H0 dx a hl2 hp
    rw [esz] at q
    have sm : ∀ {H' : Hp} {om' : Om} {σ' : L2.St} {sl' : Sl} {O' ps' : List Addr}, St FT.non O H0 H' om' σ' sl' O' ps' → Same H0 H' := fun s b o e => s.en b o (fun z => nomatch (show b ∈ ([] : List Addr) from z)) e
    refine q _ _ (x :: O) [x] _ s0 (fun σ' H' O' ps' om' sl' g s' p => ?_) (fun v σ' sl' H' O' ps' e om' g s' r p => p.elim) (fun _ _ _ _ _ _ _ _ z => z.elim) (fun _ _ _ _ _ _ _ _ z => z.elim) ?_
    · obtain ⟨y, e1, e2, e3, gs, e4, e5⟩ := s'.own 0 _ p.2
      have ey : y = x := Option.some.inj (e1.symm.trans (g.pre 0 x rfl))
      subst ey
      exact hQ p.1 H' gs (sm s') e4 (e5.sub s'.oo)
    · rintro C f x d v H1 H2 O' ps' g ⟨⟨om', σ', sl', s'⟩, p⟩ r hd rfl
      exact hE C f x d v H1 (sm s') p (r.sub s'.oo) hd
end
theorem _root_.L2.FnOk.or {P : Program} {w : World} {K : PySem.W.Frag} {mg : Str → Option Value} {base : Heap} {CX : CXT} {k : Nat} {f : Addr} {fd : FuncData} {ps : List Str} {sp sp1 sp2 : Sp} (F1 : FnOk P w K mg base CX k f fd ps sp1) (F2 : FnOk P w K mg base CX k f fd ps sp2)
    (h : ∀ vs H Q E, sp vs H Q E → sp1 vs H Q E ∨ sp2 vs H Q E) : FnOk P w K mg base CX k f fd ps sp :=
  ⟨fun vs H Q E z => (h vs H Q E z).elim (F1.len vs H Q E) (F2.len vs H Q E), fun A outer s H args us vs Q E hr e0 hb r z => (h vs H Q E z).elim (F1.run A outer s H args us vs Q E hr e0 hb r) (F2.run A outer s H args us vs Q E hr e0 hb r)⟩
/-! isinstance of data of any kind, own objects among it -/
def isT (U : String) (d : D) : Bool := match tyD d with
  | some T => T == U || (T == "bool" && U == "int")
  | none => false
/-- data of any kind: what it holds is no longer than m -/
inductive Pl (CY : Addr) (m : Nat) : D → Prop
  | non : Pl CY m .non
  | bl (b : Bool) : Pl CY m (.bl b)
  | int (i : Int) : Pl CY m (.int i)
  | str (x : Str) : Pl CY m (.str x)
  | obj (gs : List (Str × D)) : Pl CY m (.obj CY gs)
  | lst {xs : List D} : xs.length ≤ m → (∀ x ∈ xs, Pl CY m x) → Pl CY m (.lst xs)
  | tup {xs : List D} : xs.length ≤ m → (∀ x ∈ xs, Pl CY m x) → Pl CY m (.tup xs)
theorem Pl.mono {CY : Addr} {m n : Nat} (h : m ≤ n) {d : D} (p : Pl CY m d) : Pl CY n d := by
  induction p with
  | non => exact .non
  | bl b => exact .bl b
  | int i => exact .int i
  | str x => exact .str x
  | obj gs => exact .obj gs
  | lst h1 _ ih => exact .lst (Nat.le_trans h1 h) ih
  | tup h1 _ ih => exact .tup (Nat.le_trans h1 h) ih
/-- what isinstance of an own object against the built-in classes reads -/
structure KitC (K : PySem.W.Frag) (C : Addr) : Prop where
  I : IsC K C
  i : PySem.W.kitOne K (.ref C) (.type "int") = some false
  b : PySem.W.kitOne K (.ref C) (.type "bool") = some false
  s : PySem.W.kitOne K (.ref C) (.type "str") = some false
  t : PySem.W.kitOne K (.ref C) (.type "tuple") = some false
  lt : PySem.W.kitAny K (.ref C) [.type "list", .type "tuple"] = some false
section
variable {c : Cn} {om : Om} {sl : Sl} {P : E → Om → Prop}
theorem cv_isiN {C : Addr} {gs : List (Str × D)} {U : String} {b : Bool} (I : IsC c.K C) (hk : PySem.W.kitOne c.K (.ref C) (.type U) = some b) (p : P (.v (.bl b)) om) : CV c (rIsi c.K) om sl [.v (.obj C gs), .v (.raw (.ty U))] P := fun σ H O ps s vs r Q k => by
  obtain ⟨v, w, rfl, r1, r2⟩ := ra2 r
  have q1 : Rl O H v (.obj C gs) := r1
  cases r2
  cases q1 with
  | obj ha hr hx => exact ⟨_, .ty U, .ref C, .type U, b, rfl, .ty U, .base (.ins hr I.cl I.fi I.sp I.tk I.mr), hk, k _ H O ps (.v (.bl b)) om (Go.refl ..) s (Rl.bl b) p⟩
theorem cv_isiN2 {C : Addr} {gs : List (Str × D)} {U1 U2 : String} {b : Bool} (I : IsC c.K C) (hk : PySem.W.kitAny c.K (.ref C) [.type U1, .type U2] = some b) (p : P (.v (.bl b)) om) : CV c (rIsiTR c.K) om sl [.v (.obj C gs), .v (.tup [.raw (.ty U1), .raw (.ty U2)])] P := fun σ H O ps s vs r Q k => by
  obtain ⟨v, w, rfl, r1, r2⟩ := ra2 r
  have q1 : Rl O H v (.obj C gs) := r1
  cases q1 with
  | obj ha hr hx =>
    cases r2 with
    | @tup tp cs _ ha2 hr2 hx2 =>
      cases hx2 with
      | cons q1 hx2 =>
        cases q1
        cases hx2 with
        | cons q2 hx2 =>
          cases q2
          cases hx2
          exact ⟨_, tp, _, .ref C, [.type U1, .type U2], b, rfl, hr2, .cons (.ty U1) (.cons (.ty U2) .nil), .base (.ins hr I.cl I.fi I.sp I.tk I.mr), hk, k _ H O ps (.v (.bl b)) om (Go.refl ..) s (Rl.bl b) p⟩
/-- isinstance(x, int | bool | str | tuple) -/
theorem cv_isiA {CY : Addr} {m : Nat} {d : D} {U : String} (I : KitC c.K CY) (h : Pl CY m d) (hU : U = "int" ∨ U = "bool" ∨ U = "str" ∨ U = "tuple") (p : P (.v (.bl (isT U d))) om) : CV c (rIsi c.K) om sl [.v d, .v (.raw (.ty U))] P := by
  have go : ∀ {T : String} {b : Bool}, tyD d = some T → (T == U || (T == "bool" && U == "int")) = b → PySem.W.kitOne c.K (.type T) (.type U) = some b → CV c (rIsi c.K) om sl [.v d, .v (.raw (.ty U))] P := fun {T b} hT hb hk => by
    refine cv_isi hT hk ?_
    have e : isT U d = b := by unfold isT; rw [hT]; exact hb
    rw [e] at p
    exact p
  cases h
  · rcases hU with rfl | rfl | rfl | rfl <;> exact go (b := false) rfl (by decide) (kit_ty (by decide +kernel))
  · rcases hU with rfl | rfl | rfl | rfl
    · exact go (b := true) rfl (by decide) (kit_ty (by decide +kernel))
    · exact go (b := true) rfl (by decide) (kit_ty (by decide +kernel))
    · exact go (b := false) rfl (by decide) (kit_ty (by decide +kernel))
    · exact go (b := false) rfl (by decide) (kit_ty (by decide +kernel))
  · rcases hU with rfl | rfl | rfl | rfl
    · exact go (b := true) rfl (by decide) (kit_ty (by decide +kernel))
    · exact go (b := false) rfl (by decide) (kit_ty (by decide +kernel))
    · exact go (b := false) rfl (by decide) (kit_ty (by decide +kernel))
    · exact go (b := false) rfl (by decide) (kit_ty (by decide +kernel))
  · rcases hU with rfl | rfl | rfl | rfl
    · exact go (b := false) rfl (by decide) (kit_ty (by decide +kernel))
    · exact go (b := false) rfl (by decide) (kit_ty (by decide +kernel))
    · exact go (b := true) rfl (by decide) (kit_ty (by decide +kernel))
    · exact go (b := false) rfl (by decide) (kit_ty (by decide +kernel))
  · rcases hU with rfl | rfl | rfl | rfl
    · exact cv_isiN I.I I.i p
    · exact cv_isiN I.I I.b p
    · exact cv_isiN I.I I.s p
    · exact cv_isiN I.I I.t p
  · rcases hU with rfl | rfl | rfl | rfl <;> exact go (b := false) rfl (by decide) (kit_ty (by decide +kernel))
  · rcases hU with rfl | rfl | rfl | rfl
    · exact go (b := false) rfl (by decide) (kit_ty (by decide +kernel))
    · exact go (b := false) rfl (by decide) (kit_ty (by decide +kernel))
    · exact go (b := false) rfl (by decide) (kit_ty (by decide +kernel))
    · exact go (b := true) rfl (by decide) (kit_ty (by decide +kernel))
/-- isinstance(x, (list, tuple)) -/
theorem cv_isiLT {CY : Addr} {m : Nat} {d : D} (I : KitC c.K CY) (h : Pl CY m d) (p : P (.v (.bl (isT "list" d || isT "tuple" d))) om) : CV c (rIsiTR c.K) om sl [.v d, .v (.tup [.raw (.ty "list"), .raw (.ty "tuple")])] P := by
  have go : ∀ {T : String} {b : Bool}, tyD d = some T → (isT "list" d || isT "tuple" d) = b → PySem.W.kitAny c.K (.type T) [.type "list", .type "tuple"] = some b → CV c (rIsiTR c.K) om sl [.v d, .v (.tup [.raw (.ty "list"), .raw (.ty "tuple")])] P := fun {T b} hT hb hk => by
    refine cv_isiT2 hT hk ?_
    rw [hb] at p
    exact p
  cases h
  · exact go (b := false) rfl rfl (by rfl)
  · exact go (b := false) rfl rfl (by rfl)
  · exact go (b := false) rfl rfl (by rfl)
  · exact go (b := false) rfl rfl (by rfl)
  · exact cv_isiN2 I.I I.lt p
  · exact go (b := true) rfl rfl (by rfl)
  · exact go (b := true) rfl rfl (by rfl)
/-- lists and tuples -/
def seqD : D → Option (List D)
  | .lst xs => some xs
  | .tup xs => some xs
  | _ => none
theorem cv_lenQ {d : D} {xs : List D} (h : seqD d = some xs) (p : P (.v (.int (xs.length : Int))) om) : CV c (rLenU c.K) om sl [.v d] P := by
  cases d <;> cases h
  · exact cv_lenL rfl p
  · exact cv_lenT p
theorem ov_ixQ {d r : D} {xs : List D} {j : Nat} (h : seqD d = some xs) (hj : xs[j]? = some r) (p : P (.v r) om) : OV c (rIx c.K) om sl (.v d) (.v (.int (j : Int))) P := by
  cases d <;> cases h
  · exact ov_ixL rfl (atI_n hj) p
  · exact ov_ixT (atI_n hj) p
end
end DL
set_option Elab.async false
set_option linter.all false
set_option maxRecDepth 100000
set_option maxHeartbeats 4000000
/-! == and != of a list or a tuple, whatever it holds, and the empty one -/
namespace L2
open PySem PySem.Spec PyProof.Rows
/-- two lists, or two tuples; the second is empty -/
def Nil2 (x y : V) (H : Hp) (vs : List V) : Prop := ∃ a b, x = .ref a ∧ y = .ref b ∧ ((H a = some (.lst vs) ∧ H b = some (.lst [])) ∨ (Rd H a (.tup vs) ∧ Rd H b (.tup [])))
def rNeE : R2 := fun x y H Q => ∃ vs, Nil2 x y H vs ∧ Q (.bl (!decide (vs = []))) H
def rEqE : R2 := fun x y H Q => ∃ vs, Nil2 x y H vs ∧ Q (.bl (decide (vs = []))) H
section
variable {X : Cx}
theorem nil_size {vs : List V} {us : List Value} (r : Vals vs us) : us.toArray.size = vs.length := by
  rw [r.length]
  simp
theorem nil_dec {α : Type} {vs : List α} [DecidableEq (List α)] : decide (vs = []) = (vs.length == 0) := by
  cases vs <;> simp
theorem op_neE (hu : X.A.units < cLine) : OpR X (compareOp .NotEq) rNeE := by
  intro pins s σ H x y v u Q I rx ry h
  obtain ⟨vs, ⟨a, b, rfl, rfl, hh⟩, q⟩ := h
  cases (show v = Value.ref a from rx)
  cases (show u = Value.ref b from ry)
  rw [nil_dec] at q
  rcases hh with ⟨ea, eb⟩ | ⟨ea, eb⟩
  · obtain ⟨_, us, n, r1, h1⟩ := (show ObjOk X.prog X.w H s.heap a (.lst vs) from I.hok a _ ea)
    obtain ⟨_, ws, m, r2, h2⟩ := (show ObjOk X.prog X.w H s.heap b (.lst []) from I.hok b _ eb)
    have l1 : s.heap.IsList a us.toArray := ⟨_, h1, rfl, n, rfl⟩
    have l2 : s.heap.IsList b ws.toArray := ⟨_, h2, rfl, m, rfl⟩
    have z1 := nil_size r1
    have z2 := nil_size r2
    by_cases c : vs.length = 0
    · rw [c] at q z1
      have g := SeqAt.RcNeAt.lists (A := X.A) (e := fun _ => true) l1 l2 (by rw [z1, z2]; rfl) hu (fun j h1 h2 => by omega)
      rw [z1] at g
      exact g X.prog X.w X.xe _ ⟨.bl _, H, I, rfl, q⟩
    · have e : (vs.length == 0) = false := by simpa using c
      rw [e] at q
      have g := SeqAt.RcNeAt.lists_lengths (A := X.A) l1 l2 (by rw [z1, z2]; simpa using c) hu
      exact g X.prog X.w X.xe _ ⟨.bl _, H, I, rfl, q⟩
  · obtain ⟨_, us, r1, h1⟩ := (show ObjOk X.prog X.w H s.heap a (.tup vs) from Rd.ok ea I.hok)
    obtain ⟨_, ws, r2, h2⟩ := (show ObjOk X.prog X.w H s.heap b (.tup []) from Rd.ok eb I.hok)
    obtain ⟨o1, g1, g2, n1, g3⟩ := h1
    obtain ⟨o2, k1, k2, n2, k3⟩ := h2
    have l1 : s.heap.IsTuple a us.toArray := ⟨_, g1, g2, n1, g3⟩
    have l2 : s.heap.IsTuple b ws.toArray := ⟨_, k1, k2, n2, k3⟩
    have z1 := nil_size r1
    have z2 := nil_size r2
    have g := SeqAt.RcNeAt.tuples (A := X.A) (e := fun _ => true) l1 l2 hu (fun j h1 h2 => by rw [z2] at h2; exact absurd h2 (Nat.not_lt_zero _))
    rw [z1, z2] at g
    have e : ((List.range (min vs.length ([] : List V).length)).all (fun _ => true) && vs.length == ([] : List V).length) = (vs.length == 0) := by simp
    rw [e] at g
    exact g X.prog X.w X.xe _ ⟨.bl _, H, I, rfl, q⟩
theorem op_eqE (hu : X.A.units < cLine) : OpR X (compareOp .Eq) rEqE := by
  intro pins s σ H x y v u Q I rx ry h
  obtain ⟨vs, ⟨a, b, rfl, rfl, hh⟩, q⟩ := h
  cases (show v = Value.ref a from rx)
  cases (show u = Value.ref b from ry)
  rw [nil_dec] at q
  rcases hh with ⟨ea, eb⟩ | ⟨ea, eb⟩
  · obtain ⟨_, us, n, r1, h1⟩ := (show ObjOk X.prog X.w H s.heap a (.lst vs) from I.hok a _ ea)
    obtain ⟨_, ws, m, r2, h2⟩ := (show ObjOk X.prog X.w H s.heap b (.lst []) from I.hok b _ eb)
    have l1 : s.heap.IsList a us.toArray := ⟨_, h1, rfl, n, rfl⟩
    have l2 : s.heap.IsList b ws.toArray := ⟨_, h2, rfl, m, rfl⟩
    have z1 := nil_size r1
    have z2 := nil_size r2
    by_cases c : vs.length = 0
    · rw [c] at q z1
      have g := SeqAt.RcAt.lists (A := X.A) (e := fun _ => true) l1 l2 (by rw [z1, z2]; rfl) hu (fun j h1 h2 => by omega)
      rw [z1] at g
      exact g X.prog X.w X.xe _ ⟨.bl _, H, I, rfl, q⟩
    · have e : (vs.length == 0) = false := by simpa using c
      rw [e] at q
      have g := SeqAt.RcAt.lists_lengths (A := X.A) l1 l2 (by rw [z1, z2]; simpa using c) hu
      exact g X.prog X.w X.xe _ ⟨.bl _, H, I, rfl, q⟩
  · obtain ⟨_, us, r1, h1⟩ := (show ObjOk X.prog X.w H s.heap a (.tup vs) from Rd.ok ea I.hok)
    obtain ⟨_, ws, r2, h2⟩ := (show ObjOk X.prog X.w H s.heap b (.tup []) from Rd.ok eb I.hok)
    obtain ⟨o1, g1, g2, n1, g3⟩ := h1
    obtain ⟨o2, k1, k2, n2, k3⟩ := h2
    have l1 : s.heap.IsTuple a us.toArray := ⟨_, g1, g2, n1, g3⟩
    have l2 : s.heap.IsTuple b ws.toArray := ⟨_, k1, k2, n2, k3⟩
    have z1 := nil_size r1
    have z2 := nil_size r2
    have g := SeqAt.RcAt.tuples (A := X.A) (e := fun _ => true) l1 l2 hu (fun j h1 h2 => by rw [z2] at h2; exact absurd h2 (Nat.not_lt_zero _))
    rw [z1, z2] at g
    have e : ((List.range (min vs.length ([] : List V).length)).all (fun _ => true) && vs.length == ([] : List V).length) = (vs.length == 0) := by simp
    rw [e] at g
    exact g X.prog X.w X.xe _ ⟨.bl _, H, I, rfl, q⟩
end
end L2
namespace DL
open PySem PySem.Spec PyProof.Rows L2
section
variable {c : Cn} {om : Om} {sl : Sl} {P : E → Om → Prop}
theorem nil2 {F : FT} {O ps : List Addr} {H : Hp} {v w : V} {d e : D} (rv : Rl O H v d) (rw' : Rl O H w e) {xs : List D} (h : (d = .lst xs ∧ e = .lst []) ∨ (d = .tup xs ∧ e = .tup [])) : ∃ vs, Nil2 v w H vs ∧ decide (vs = []) = xs.isEmpty := by
  have fin : ∀ {vs : List V}, RlA O H vs xs → decide (vs = []) = xs.isEmpty := fun h => by cases h <;> rfl
  rcases h with ⟨rfl, rfl⟩ | ⟨rfl, rfl⟩
  · cases rv with
    | lst ha hr hx =>
      cases rw' with
      | lst ha2 hr2 hx2 =>
        cases hx2
        exact ⟨_, ⟨_, _, rfl, rfl, .inl ⟨hr, hr2⟩⟩, fin hx⟩
  · cases rv with
    | tup ha hr hx =>
      cases rw' with
      | tup ha2 hr2 hx2 =>
        cases hx2
        exact ⟨_, ⟨_, _, rfl, rfl, .inr ⟨hr, hr2⟩⟩, fin hx⟩
theorem ov_neE {xs : List D} {d e : D} (h : (d = .lst xs ∧ e = .lst []) ∨ (d = .tup xs ∧ e = .tup [])) (p : P (.v (.bl (!xs.isEmpty))) om) : OV c rNeE om sl (.v d) (.v e) P := fun σ H O ps s v w rv rw' Q k => by
  obtain ⟨vs, z, ez⟩ := nil2 (F := c.F) (ps := ps) (show Rl O H v d from rv) (show Rl O H w e from rw') h
  refine ⟨vs, z, ?_⟩
  rw [ez]
  exact k _ H O ps (.v (.bl _)) om (Go.refl ..) s (Rl.bl _) p
theorem ov_eqE {xs : List D} {d e : D} (h : (d = .lst xs ∧ e = .lst []) ∨ (d = .tup xs ∧ e = .tup [])) (p : P (.v (.bl xs.isEmpty)) om) : OV c rEqE om sl (.v d) (.v e) P := fun σ H O ps s v w rv rw' Q k => by
  obtain ⟨vs, z, ez⟩ := nil2 (F := c.F) (ps := ps) (show Rl O H v d from rv) (show Rl O H w e from rw') h
  refine ⟨vs, z, ?_⟩
  rw [ez]
  exact k _ H O ps (.v (.bl _)) om (Go.refl ..) s (Rl.bl _) p
end
end DL
set_option Elab.async false
set_option linter.all false
set_option maxRecDepth 100000
set_option maxHeartbeats 4000000
/-! tuples whose object is known whole: tuple(list) lays them, their methods may be called -/
namespace L2
open PySem PySem.Spec PyProof.Rows
/-- a tuple whose object has no dict -/
def FzT (H : Hp) (a : Addr) (xs : List V) : Prop := ∃ o, H a = some (.frz o (.tup xs)) ∧ o.dict = none
theorem FzT.sq {K : PySem.W.Frag} {H : Hp} {a : Addr} {xs : List V} (h : FzT H a xs) : SqT K H a xs := by
  obtain ⟨o, h, _⟩ := h
  exact .inl (.inr ⟨o, h⟩)
def rTupF (K : PySem.W.Frag) : List V → Hp → VK → Prop := fun xs H Q => ∃ p ys, xs = [.ref p] ∧ SqL K H p ys ∧ ∀ l o, H l = none → o.dict = none → Q (.ref l) (upd H l (.frz o (.tup ys)))
theorem cr_tupF {X : Cx} : CallR X (.type "tuple") (rTupF X.K) := by
  intro pins s σ H xs us Q I r h
  obtain ⟨p, ys, rfl, hq, q⟩ := h
  obtain ⟨u, rfl, rx⟩ := vals1 r
  cases rx
  obtain ⟨its, r1, pl, hz⟩ := I.list hq
  have hl := r1.length
  refine call_tuple_list pl.isList (fun h' kp => ?_) (by simp only [List.size_toArray] <;> omega)
  have J : Inv X pins σ H { s with heap := h' } := I.kept (t' := s.toks) kp
  have at' : (h'.push { cls := .type "tuple", data := .seq its.toArray }).get? h'.objs.size = some { cls := .type "tuple", data := .seq its.toArray } := Heap.get?_push_size _ rfl
  have J2 : Inv X pins σ (upd H h'.objs.size (.frz { cls := .type "tuple", data := .seq its.toArray } (.tup ys))) { s with heap := h'.push { cls := .type "tuple", data := .seq its.toArray } } :=
    J.laid (t' := s.toks) (fun b o e => Heap.get?_push_of_some _ e) (Nat.le_refl _) (show ObjOk X.prog X.w _ _ _ (.frz _ (.tup ys)) from ⟨at', hz, its, r1, IsTup.new _ _⟩)
  exact ⟨.ref h'.objs.size, _, J2, rfl, q _ _ (J.hok.fresh (Nat.le_refl _)) rfl⟩
def tBMF (r : V → List V → Hp → VK → Prop) (to : TE) (t : TA) : TE := fun σ H Q => to σ H fun x H1 => (∃ p xs, x = .ref p ∧ FzT H1 p xs) ∧ t σ H1 fun xs H2 => r x xs H2 Q
/-- t.m(e, ..) of such a tuple -/
theorem pe_bmF {X : Cx} {o e : Expr} {es : List Expr} {to : TE} {t : TA} {name : Str} {apos cpos : Pos} {id : String} {r : V → List V → Hp → VK → Prop} (slot : Slot "tuple" name id) (hty : typeOf (.builtin id) = pure (.type "method_descriptor")) (hm : MtR X id r) (ho : PE X o to) (ha : PA X (e :: es) t)
    (hbase : attributeBase o name X.env (eval o X.env) = eval o X.env := by rfl)
    (hfew : ((backTo cpos (starEach (e :: es) X.env)).all (fun x => !x.1) && (backToKw cpos (keywordEach [] X.env)).all (fun x => x.1.isSome)
      && decide ((e :: es).length + ([] : List Keyword).length + (if ([] : List Keyword).isEmpty then 0 else 1) < 30)) = true := by rfl)
    (hline : (apos.endLine == cpos.line) = true := by rfl) (hs : starEach (e :: es) X.env = (false, eval e X.env) :: starEach es X.env := by rfl) (hplain : (backTo cpos (starEach es X.env)).any (·.1) = false := by rfl) :
    PE X (.Call (.Attribute o name apos) (e :: es) [] cpos) (tBMF r to t) := by
  refine ⟨fun pins s σ H Q I h => wpAny_Call_method_late hbase hfew hline rfl (thn (ho.run pins s σ H _ I h) fun v s1 z => ?_)⟩
  obtain ⟨x, H1, I1, r1, ⟨p, xs, rfl, ob, hp, hd⟩, q1⟩ := z
  cases (show v = Value.ref p from r1)
  obtain ⟨g0, g1⟩ := (show ObjOk X.prog X.w H1 s1.heap p (.frz ob (.tup xs)) from I1.hok p _ hp)
  obtain ⟨_, its, _, o2, k1, k2, _⟩ := (show ObjOk X.prog X.w H1 s1.heap p (.tup xs) from g1)
  refine ⟨"tuple", id, PySem.F.plainAttrs_tuple, slot, hty, ⟨o2, k1, k2⟩, fun a ea => ?_, ?_⟩
  · cases ea
    exact ⟨ob, g0, hd⟩
  have hA := ha.run cpos pins s1 σ H1 _ I1 q1
  rw [hs] at hA ⊢
  refine Calls.callWith_builtin (by show (false || (backTo cpos (starEach es X.env)).any (·.1)) = false; rw [hplain] <;> rfl) (Calls.evalArgs_plain ?_)
  exact thn hA fun us s2 ⟨vs, H2, I2, r2, q2⟩ => hm pins s2 σ H2 (V.ref p) vs (Value.ref p) us Q I2 r1 r2 q2
end L2
namespace DL
open PySem PySem.Spec PyProof.Rows L2
section
variable {c : Cn} {om : Om} {sl : Sl} {P : E → Om → Prop}
theorem as_f {O : List Addr} {H : Hp} {v : V} {ds : List D} (r : Rl O H v (.ftp ds)) : ∃ p ob vs, v = .ref p ∧ p ∉ O ∧ H p = some (.frz ob (.tup vs)) ∧ ob.dict = none ∧ RlA O H vs ds := by
  cases r with
  | ftp ha hr hd hx => exact ⟨_, _, _, rfl, ha, hr, hd, hx⟩
/-- forgetting that its object is known -/
theorem Rl.ofF {O : List Addr} {H : Hp} {v : V} {ds : List D} (r : Rl O H v (.ftp ds)) : Rl O H v (.tup ds) := by
  cases r with
  | ftp ha hr hd hx => exact .tup ha (.inr ⟨_, hr⟩) hx
/-- e says no less than e' -/
def Wk (e e' : E) : Prop := ∀ {F : FT} {O ps : List Addr} {H : Hp} {v : V}, RE F O ps H v e → RE F O ps H v e'
theorem wk_refl (e : E) : Wk e e := fun h => h
theorem wk_f {ds : List D} : Wk (.v (.ftp ds)) (.v (.tup ds)) := fun h => Rl.ofF h
theorem RlA.wk {O : List Addr} {H : Hp} {α : Type} {f g : α → D} (h : ∀ a v, Rl O H v (f a) → Rl O H v (g a)) : ∀ {vs : List V} {xs : List α}, RlA O H vs (xs.map f) → RlA O H vs (xs.map g)
  | _, [], .nil => .nil
  | _, _ :: _, .cons r t => .cons (h _ _ r) (RlA.wk h t)
/-- a tuple of such tuples -/
theorem wk_tf {α : Type} {f : α → List D} {xs : List α} : Wk (.v (.tup (xs.map fun a => .ftp (f a)))) (.v (.tup (xs.map fun a => .tup (f a)))) := fun h => by
  cases (show Rl _ _ _ _ from h) with
  | tup ha hr hx => exact Rl.tup ha hr (hx.wk fun a v => Rl.ofF)
theorem wk_ff {α : Type} {f : α → List D} {xs : List α} : Wk (.v (.ftp (xs.map fun a => .ftp (f a)))) (.v (.tup (xs.map fun a => .tup (f a)))) := fun h => by
  cases (show Rl _ _ _ _ from h) with
  | ftp ha hr hd hx => exact Rl.tup ha (.inr ⟨_, hr⟩) (hx.wk fun a v => Rl.ofF)
theorem ev_wk {te : TE} {e : E} {e' : E} (w : Wk e e') (h : EV c te om sl fun x om1 => x = e ∧ P e' om1) : EV c te om sl P := fun σ H O ps s Q k =>
  h σ H O ps s _ fun v H1 O1 ps1 e1 om1 g1 s1 r1 ⟨he, p⟩ => by
    subst he
    exact k v H1 O1 ps1 e' om1 g1 s1 (w r1) p
theorem cv_wk {r : List V → Hp → VK → Prop} {xs ys : List E} (w : Paired Wk xs ys) (h : CV c r om sl ys P) : CV c r om sl xs P := fun σ H O ps s vs rr Q k => by
  refine h σ H O ps s vs ?_ Q k
  clear h k s
  revert rr
  induction w generalizing vs with
  | nil => exact fun z => z
  | cons w1 _ ih =>
    intro rr
    cases rr with
    | cons r1 rt => exact .cons (w1 r1) (ih _ rt)
theorem ov_wk {r : R2} {x x' y y' : E} (w1 : Wk x x') (w2 : Wk y y') (h : OV c r om sl x' y' P) : OV c r om sl x y P := fun σ H O ps s v w rv rw' Q k => h σ H O ps s v w (w1 rv) (w2 rw') Q k
theorem lv_wk {x x' : E} {lo hi : Option Int} (w1 : Wk x x') (h : LV c om sl x' lo hi P) : LV c om sl x lo hi P := fun σ H O ps s v rv Q k => h σ H O ps s v (w1 rv) Q k
/-- a slot, known less -/
theorem St.wk {F : FT} {O0 : List Addr} {H0 H : Hp} {om : Om} {σ : L2.St} {sl : Sl} {O ps : List Addr} (s : St F O0 H0 H om σ sl O ps) {i : Nat} {e e' : E} (h : sl[i]? = some (some e)) (w : Wk e e') : St F O0 H0 H om σ (sl.set i (some e')) O ps := by
  refine ⟨s.en, s.fo, s.oo, s.ff, s.al, s.len, s.own, s.inj, s.pa, s.dl, fun j f hf => ?_, by rw [List.length_set]; exact s.ln, s.tb⟩
  by_cases q : i = j
  · subst q
    rw [List.getElem?_set_self (List.getElem?_eq_some_iff.mp h).1] at hf
    cases hf
    obtain ⟨v, h1, h2⟩ := s.slots i e h
    exact ⟨v, h1, w h2⟩
  · rw [List.getElem?_set_ne q] at hf
    exact s.slots j f hf
theorem sv_wk {Ex : XK} {t : TS} {Pq : Po} (i : Nat) {e e' : E} (h : sl[i]? = some (some e)) (w : Wk e e') (p : SV c Ex t om (sl.set i (some e')) Pq) : SV c Ex t om sl Pq := fun σ H O ps Dn s kn kr kb kc kx => p σ H O ps Dn (s.wk h w) kn kr kb kc kx
theorem cv_tupF {x : E} {ds : List D} (hx : dat om x = some (.lst ds)) (p : P (.v (.ftp ds)) om) : CV c (rTupF c.K) om sl [x] P := fun σ H O ps s vs r Q k => by
  obtain ⟨v, rfl, rv⟩ := ra1 r
  obtain ⟨a, ws, rfl, h1, h2⟩ := as_l s rv hx
  refine ⟨a, ws, rfl, sqL h1, fun l ob hl hd => ?_⟩
  obtain ⟨s2, g2⟩ := s.new (o := .frz ob (.tup ws)) hl
  exact k _ _ O ps (.v (.ftp ds)) om g2 s2 (Rl.ftp (s.nin hl) upd_same hd (h2.ext g2.ex)) p
/-- t.m(e, ..) -/
theorem ev_bmF {to : TE} {tr : TA} {r : V → List V → Hp → VK → Prop} (h : EV c to om sl fun x om1 => (∃ ds, x = .v (.ftp ds)) ∧ EA c tr om1 sl fun xs om2 => MV c r om2 sl x xs P) : EV c (tBMF r to tr) om sl P := fun σ H O ps s Q k =>
  h σ H O ps s _ fun v H1 O1 ps1 e om1 g1 s1 r1 ⟨⟨ds, hd⟩, h1⟩ => by
    subst hd
    obtain ⟨a, ob, ws, rfl, ha, hr, hn, hx⟩ := as_f (show Rl O1 H1 v (.ftp ds) from r1)
    exact ⟨⟨a, ws, rfl, ob, hr, hn⟩, h1 σ H1 O1 ps1 s1 _ fun vs H2 O2 ps2 es om2 g2 s2 r2 h4 => h4 σ H2 O2 ps2 s2 _ vs (r1.go g2) r2 Q fun z H3 O3 ps3 e3 om3 g3 s3 r3 p => k z H3 O3 ps3 e3 om3 ((g1.trans g2).trans g3) s3 r3 p⟩
theorem mv_tindexF {ys : List Str} {k : Str} (hk : k ∈ ys) (p : P (.v (.int (ys.idxOf k : Nat))) om) : MV c (rTIndexS c.K) om sl (.v (.ftp (ys.map .str))) [.v (.str k)] P := fun σ H O ps s v vs r rs Q kk => by
  obtain ⟨w1, rfl, r1⟩ := ra1 rs
  cases r1
  obtain ⟨q, ob, ws, rfl, h1, h2, hd, h3⟩ := as_f (show Rl O H v (.ftp (ys.map .str)) from r)
  have ev := RlA.strs h3
  subst ev
  exact ⟨q, ys, k, rfl, rfl, .inl (.inr ⟨ob, h2⟩), hk, kk _ H O ps (.v (.int _)) om (Go.refl ..) s (Rl.int _) p⟩
theorem sqF {K : PySem.W.Frag} {H : Hp} {p : Addr} {ob : Obj} {vs : List V} (h : H p = some (.frz ob (.tup vs))) : SqT K H p vs := .inl (.inr ⟨ob, h⟩)
theorem cv_lenF {ds : List D} (p : P (.v (.int (ds.length : Int))) om) : CV c (rLenU c.K) om sl [.v (.ftp ds)] P := fun σ H O ps s vs r Q k => by
  obtain ⟨v, rfl, rv⟩ := ra1 r
  obtain ⟨a, ob, ws, rfl, na, h1, hd, h2⟩ := as_f (show Rl O H v (.ftp ds) from rv)
  exact ⟨_, ds.length, rfl, .inr ⟨ws, sqF h1, h2.len.symm⟩, k _ H O ps (.v (.int _)) om (Go.refl ..) s (Rl.int _) p⟩
theorem ov_ixF {ds : List D} {i : Int} {d : D} (h : atI ds i = some d) (p : P (.v d) om) : OV c (rIx c.K) om sl (.v (.ftp ds)) (.v (.int i)) P := fun σ H O ps s v w rv rw' Q k => by
  cases rw'
  obtain ⟨a, ob, vs, rfl, na, h1, hd, h2⟩ := as_f (show Rl O H v (.ftp ds) from rv)
  obtain ⟨z, h3, h4⟩ := atI_of h2 h
  exact .inr (.inl ⟨a, vs, i, z, rfl, rfl, sqF h1, h3, k _ H O ps (.v d) om (Go.refl ..) s h4 p⟩)
theorem ov_inFN {x : Str} {ys : List Str} {neg : Bool} (p : P (.v (.bl (if neg then !decide (x ∈ ys) else decide (x ∈ ys)))) om) : OV c (rIn c.K neg) om sl (.v (.str x)) (.v (.ftp (ys.map .str))) P := fun σ H O ps s v w rv rw' Q k => by
  cases rv
  obtain ⟨q, ob, vs, rfl, h1, h2, hd, h3⟩ := as_f (show Rl O H w (.ftp (ys.map .str)) from rw')
  have ev := RlA.strs h3
  subst ev
  refine ⟨q, _, rfl, .inr (sqF h2), rfl, by rw [List.all_eq_true]; intro z hz; obtain ⟨y, _, rfl⟩ := List.mem_map.mp hz; rfl, ?_⟩
  rw [inV_strs]
  exact k _ H O ps (.v (.bl _)) om (Go.refl ..) s (Rl.bl _) p
theorem cv_listFD {ds : List D} (p : P (.v (.lst ds)) om) : CV c (rListU c.K) om sl [.v (.ftp ds)] P := fun σ H O ps s vs r Q k => by
  obtain ⟨v, rfl, rv⟩ := ra1 r
  obtain ⟨a, ob, ws, rfl, na, h1, hd, h2⟩ := as_f (show Rl O H v (.ftp ds) from rv)
  refine ⟨a, ws, rfl, .inr (sqF h1), fun q hq => ?_⟩
  obtain ⟨s2, g2⟩ := s.new (o := .lst ws) hq
  exact k _ _ O ps (.v (.lst ds)) om g2 s2 (Rl.lst (s.nin hq) upd_same (h2.ext g2.ex)) p
theorem wv_ftp {te : TE} {P : List D → Prop} (h : EV c te om sl fun e om1 => om1 = om ∧ ∃ ds, e = .v (.ftp ds) ∧ P ds) : WV c (iTup c.K te) om sl P := fun σ H O ps s R k =>
  h σ H O ps s _ fun v H1 O1 ps1 e om1 g1 s1 r1 ⟨ho, ds, he, p⟩ => by
    subst he ho
    obtain ⟨a, ob, vs, rfl, ha, hr, hd, hx⟩ := as_f (show Rl O1 H1 v (.ftp ds) from r1)
    refine ⟨a, rfl, ⟨vs, sqF hr⟩, k (Itt c.K a) H1 O1 ps1 (fun H => SqT c.K H a vs) (YAt vs) ds p g1 s1 ?_ (fun H2 O2 ps2 g => sqF (g.ex.keep _ _ ha hr)) fun i H2 O2 ps2 v H3 g al hi hy => ?_⟩
    · rw [← hx.len]
      exact walk_tup
    · obtain ⟨rfl, hv⟩ := hy
      have hi' : ds[i]? = some ds[i] := List.getElem?_eq_getElem hi
      obtain ⟨w, h1, h2⟩ := (hx.ext g.ex).get hi'
      have ew : w = v := Option.some.inj (h1.symm.trans hv)
      subst ew
      exact ⟨_, hi', fun _ _ z => z, h2⟩
theorem cv_isiF {ds : List D} {U : String} {b : Bool} (hk : PySem.W.kitOne c.K (.type "tuple") (.type U) = some b) (p : P (.v (.bl b)) om) : CV c (rIsi c.K) om sl [.v (.ftp ds), .v (.raw (.ty U))] P := fun σ H O ps s vs r Q k => by
  obtain ⟨v, w, rfl, r1, r2⟩ := ra2 r
  cases r2
  obtain ⟨a, ob, ws, rfl, ha, hr, hd, hx⟩ := as_f (show Rl O H v (.ftp ds) from r1)
  exact ⟨_, .ty U, .type "tuple", .type U, b, rfl, .ty U, .fTuple hr, hk, k _ H O ps (.v (.bl b)) om (Go.refl ..) s (Rl.bl b) p⟩
/-- a slice: the whole one is the same tuple -/
theorem lv_f {ds : List D} {lo hi : Option Int} (p : P (.v (.tup (cutD ds lo hi))) om) (p2 : DL.cutD ds lo hi = ds → P (.v (.ftp ds)) om) : LV c om sl (.v (.ftp ds)) lo hi P := fun σ H O ps s v rv Q k => by
  have rv' : Rl O H v (.ftp ds) := rv
  obtain ⟨a, ob, vs, rfl, na, h1, hd, h2⟩ := as_f rv'
  refine .inr (.inl ⟨a, vs, rfl, sqF h1, fun e => ?_, fun _ q hq => ?_⟩)
  · rw [h2.len] at e
    exact k _ H O ps (.v (.ftp ds)) om (Go.refl ..) s rv' (p2 (cutD_whole e))
  · obtain ⟨s2, g2⟩ := s.new (o := .tup (cutV vs lo hi)) hq
    exact k _ _ O ps (.v (.tup (cutD ds lo hi))) om g2 s2 (Rl.tup (s.nin hq) (.inl upd_same) ((h2.cut lo hi).ext g2.ex)) p
theorem et_truF {te : TE} {PB : Bool → Om → Prop} (h : EV c te om sl fun e om1 => ∃ ds, e = .v (.ftp ds) ∧ PB (!ds.isEmpty) om1) : ET c (fun σ H Q => te σ H fun x H' => ∃ k, TruV c.K x H' k ∧ Q k H') om sl PB := fun σ H O ps s Q k =>
  h σ H O ps s _ fun v H1 O1 ps1 e om1 g1 s1 r1 ⟨ds, he, p⟩ => by
    subst he
    obtain ⟨q, ob, ws, rfl, h1, h2, hd, h3⟩ := as_f (show Rl O1 H1 v (.ftp ds) from r1)
    have ee : ws.isEmpty = ds.isEmpty := by
      have := h3.len
      cases ws <;> cases ds <;> simp at this <;> rfl
    exact ⟨!ds.isEmpty, .inr (.inl ⟨ws, sqF h2, by rw [ee]⟩), k _ H1 O1 ps1 om1 g1 s1 p⟩
theorem cv_listFO {ds : List D} (p : P (.o om.length) (om ++ [some (.l ds)])) : CV c (rListU c.K) om sl [.v (.ftp ds)] P := fun σ H O ps s vs r Q k => by
  obtain ⟨v, rfl, rv⟩ := ra1 r
  obtain ⟨a, ob, ws, rfl, na, h1, hd, h2⟩ := as_f (show Rl O H v (.ftp ds) from rv)
  refine ⟨a, ws, rfl, .inr (sqF h1), fun l hl => ?_⟩
  obtain ⟨s2, g2, r2⟩ := s.newOwn hl h2
  exact k _ _ _ _ _ _ g2 s2 r2 p
theorem nil2F {O : List Addr} {H : Hp} {v w : V} {xs : List D} (rv : Rl O H v (.ftp xs)) (rw' : Rl O H w (.tup [])) : ∃ vs, Nil2 v w H vs ∧ decide (vs = []) = xs.isEmpty := by
  have fin : ∀ {vs : List V}, RlA O H vs xs → decide (vs = []) = xs.isEmpty := fun h => by cases h <;> rfl
  obtain ⟨a, ob, ws, rfl, na, h1, hd, h2⟩ := as_f rv
  cases rw' with
  | tup ha2 hr2 hx2 =>
    cases hx2
    exact ⟨_, ⟨_, _, rfl, rfl, .inr ⟨.inr ⟨ob, h1⟩, hr2⟩⟩, fin h2⟩
/-- t != () -/
theorem ov_neF {xs : List D} (p : P (.v (.bl (!xs.isEmpty))) om) : OV c rNeE om sl (.v (.ftp xs)) (.v (.tup [])) P := fun σ H O ps s v w rv rw' Q k => by
  obtain ⟨vs, z, ez⟩ := nil2F (show Rl O H v (.ftp xs) from rv) (show Rl O H w (.tup []) from rw')
  refine ⟨vs, z, ?_⟩
  rw [ez]
  exact k _ H O ps (.v (.bl _)) om (Go.refl ..) s (Rl.bl _) p
theorem ov_eqF {xs : List D} (p : P (.v (.bl xs.isEmpty)) om) : OV c rEqE om sl (.v (.ftp xs)) (.v (.tup [])) P := fun σ H O ps s v w rv rw' Q k => by
  obtain ⟨vs, z, ez⟩ := nil2F (show Rl O H v (.ftp xs) from rv) (show Rl O H w (.tup []) from rw')
  refine ⟨vs, z, ?_⟩
  rw [ez]
  exact k _ H O ps (.v (.bl _)) om (Go.refl ..) s (Rl.bl _) p
end
end DL
namespace EX
open PySem PySem.Spec PyProof.Rows L2
theorem cr_tupFk {X : Cx} {K : PySem.W.Frag} (hk : X.K = K) : CallR X (.type "tuple") (rTupF K) := by
  subst hk
  exact cr_tupF
end EX
set_option Elab.async false
set_option linter.all false
set_option maxRecDepth 100000
set_option maxHeartbeats 4000000
namespace K01
open PySem PySem.Spec PyProof.Rows L2 DL HL CM STX SG
section
variable {P : Program} {w : World} {K : PySem.W.Frag} {mg : Str → Option Value} {base : Heap}
/-! ### _law_laid -/
/-- a standing whose rows are tuples with known objects -/
abbrev stF (rows : List (List Str)) : D := .tup (rows.map fun row => .ftp (row.map .str))
abbrev sp_laid : Sp := spGN 2 (fun p : List Int × List Str => [.lst (p.1.map .int), .lst (p.2.map .str)]) (fun p => p.1.length ≤ 1000 ∧ (∀ h ∈ p.1, 0 ≤ h ∧ h ≤ 1000) ∧ (p.2.length : Int) ≤ p.1.sum ∧ p.2.length ≤ 1000) fun p r => ∃ rows : List (List Str), r = stF rows ∧ LaidOk p.1 p.2 rows
theorem om_get {rows : List (List Str)} {j : Nat} {row : List Str} (h : rows[j]? = some row) {om : Om} : ((none :: (rowsD rows).map (fun x => some (Own.l x))) ++ om : Om)[1 + j]? = some (some (Own.l (row.map D.str))) := by
  have hj := (List.getElem?_eq_some_iff.mp h).1
  rw [Nat.add_comm 1 j, List.cons_append, List.getElem?_cons_succ, List.getElem?_append_left (by simpa using hj), List.getElem?_map, List.getElem?_map, h]
  rfl
theorem c__law_laid {f : Addr} {fd : FuncData} (T : Tx K mg) (c__law_pick : Ca P w K mg base CX0 2 "_law_pick" ["heap", "some"] sp_pick)
    (B : DefB K mg "_law_laid" s__law_laid ["heap", "heights", "names"] f fd) : Ca P w K mg base CX0 3 "_law_laid" ["heap", "heights", "names"] sp_laid := by
  refine ca_of B sc__law_laid (fun vs H Q E h => lenGN h) (fun cdv A outer s H vs Q E hr h => ⟨_, (pss_cons (ps_set (i := 3) sc__law_laid.nd rfl (by first | exact Or.inl rfl | exact Or.inr rfl) (pe_lc (own := [("height", 6)]) rfl sc__law_laid.nd (pi_list (pv 1)) (blkOk_by (N := ["heap", "heights", "names", "rows", "name", "row", "height", "at"]) (sc := defScope s__law_laid) (by decide +kernel)) (fun _ _ _ _ _ => (pg_name (i := 6) sc__law_laid.nd rfl (by first | exact Or.inl rfl | exact Or.inr rfl))) (fun _ _ _ _ _ => pts_nil) (fun _ _ _ _ _ => (pe_lst pa_nil))))
    (pss_cons (ps_for PassesOwn.never rfl (pi_list (pv 2)) (pg_name (i := 4) sc__law_laid.nd rfl (by first | exact Or.inl rfl | exact Or.inr rfl))
     (pss_cons (ps_set (i := 5) sc__law_laid.nd rfl (by first | exact Or.inl rfl | exact Or.inr rfl) (pe_ix ix_seq (pv 3) (pe_ca c__law_pick hr (by first | decide | (simp only [Nat.add_eq]; omega)) pass0 (pa_cons (pv 0) (pa_cons (pe_lc (own := [("at", 7)]) rfl sc__law_laid.nd (pi_range1 (by rfl) T.z_range (pa_cons (pe_callB cr_len (by rfl) T.z_len (by decide +kernel) (pa_cons (pv 1) pa_nil)) pa_nil)) (blkOk_by (N := ["heap", "heights", "names", "rows", "name", "row", "height", "at"]) (sc := defScope s__law_laid) (by decide +kernel)) (fun _ _ _ _ _ => (pg_name (i := 7) sc__law_laid.nd rfl (by first | exact Or.inl rfl | exact Or.inr rfl))) (fun _ _ _ _ _ => (pts_one (pt_cmpR op_lt (pe_callB (EX.cr_lenk (K := K) rfl) (by rfl) T.z_len (by decide +kernel) (pa_cons (pe_ix (EX.ix_seqk (K := K) rfl) (pv 3) (pv 7) (fun _ _ => rfl)) pa_nil)) (pe_ix (EX.ix_seqk (K := K) rfl) (pv 1) (pv 7) (fun _ _ => rfl)) (by first | exact nomark _ | rfl)))) (fun _ _ _ _ _ => (pv 7))) pa_nil))) (fun _ _ => rfl)))
     (pss_one (ps_expr (pe_bm PySem.F.plainAttrs_list PySem.F.slot_list_append PySem.F.type_list_append mt_append (pv 5) (pa_cons (pv 4) pa_nil))))))
    (pss_one (ps_ret (pe_callTy cr_tup (by rfl) T.z_tuple (by decide +kernel) (pa_cons (pe_lc (own := [("row", 5)]) rfl sc__law_laid.nd (pi_list (pv 3)) (blkOk_by (N := ["heap", "heights", "names", "rows", "name", "row", "height", "at"]) (sc := defScope s__law_laid) (by decide +kernel)) (fun _ _ _ _ _ => (pg_name (i := 5) sc__law_laid.nd rfl (by first | exact Or.inl rfl | exact Or.inr rfl))) (fun _ _ _ _ _ => pts_nil) (fun _ _ _ _ _ => (pe_callTy (EX.cr_tupFk (K := K) rfl) (by rfl) T.z_tuple (by decide +kernel) (pa_cons (pv 5) pa_nil)))) pa_nil)))))), entryGN (K := K) (by decide) h fun F O p hl hp => ?_⟩)
  obtain ⟨hs, ns⟩ := p
  obtain ⟨l1, hb, l2, l3⟩ := hp
  dsimp only at l1 hb l2 l3 ⊢
  walk_at "d0"
  refine sv_seq (sv_set (ev_lcRows (wv_list (ds := []) ?_)))
  walk_at "d"
  refine ⟨rfl, _, rfl, by rw [List.length_map]; exact l1, ltb rfl, ?_⟩
  dsimp only [List.set]
  rw [List.length_map]
  refine sv_seq (sv_for (wv_list (ds := []) ?_))
  walk_at "d"
  refine ⟨rfl, _, rfl, fun k om' sl' => ∃ (rows : List (List Str)) (t4 t5 t6 t7 : Option DL.E), om' = none :: (rowsD rows).map (fun x => some (Own.l x)) ∧ sl' = [some .l, some (.v (.lst (hs.map .int))), some (.v (.lst (ns.map .str))), some (.rs hs.length), t4, t5, t6, t7] ∧ LaidOk hs (ns.take k) rows,
    ⟨List.replicate hs.length [], _, _, _, _, by simp [rowsD], rfl, by simp, by simp, ?_⟩, ?_, ?_⟩
  · intro j row h y z
    have e : row = [] := by
      rw [List.getElem?_replicate] at y
      split at y
      · exact (Option.some.inj y).symm
      · cases y
    subst e
    have := hb h (List.mem_of_getElem? z)
    simpa using this.1
  · rintro k d om' sl' hd ⟨rows, t4, t5, t6, t7, rfl, rfl, hlen, hperm, hok⟩
    have hk := (List.getElem?_eq_some_iff.mp hd).1
    rw [List.length_map] at hk
    rw [List.getElem?_map, List.getElem?_eq_getElem hk] at hd
    cases hd
    refine gv_name ⟨ltb rfl, ?_⟩
    dsimp only [List.set]
    refine sv_seq (sv_set ?_)
    walk_at "d"
    refine ev_lc (sets_name 7) (wv_range1 ?_)
    walk_at "d"
    refine cv_lenL rfl ?_
    walk_at "d"
    rw [List.length_map]
    refine ⟨rfl, _, rfl, by omega, by omega, fun i acc => ∃ js : List Nat, acc = js.map (fun (j : Nat) => D.int (j : Int)) ∧ js.length ≤ i ∧ i ≤ hs.length ∧ (∀ j ∈ js, ∃ row h, rows[j]? = some row ∧ hs[j]? = some h ∧ (row.length : Int) < h) ∧ ∀ j row h, j < i → rows[j]? = some row → hs[j]? = some h → (row.length : Int) < h → j ∈ js,
      ⟨[], rfl, Nat.le_refl _, Nat.zero_le _, (fun _ z => nomatch z), fun j _ _ hj => absurd hj (Nat.not_lt_zero _)⟩, ?_, ?_, ?_⟩
    · rintro i d acc hd ⟨js, rfl, a1, a2, a3, a4⟩
      have hi := (List.getElem?_eq_some_iff.mp hd).1
      rw [rgD_len, Int.toNat_natCast] at hi
      rw [rgD_get (by rw [Int.toNat_natCast]; exact hi), Int.zero_add] at hd
      cases hd
      have hrow : rows[i]? = some (rows[i]'(by omega)) := List.getElem?_eq_getElem _
      have hh : hs[i]? = some (hs[i]'hi) := List.getElem?_eq_getElem _
      refine gv_name ⟨ltb rfl, ?_⟩
      dsimp only [List.set, List.foldr]
      walk_at "d"
      refine ov_ixRs hi ?_
      walk_at "d"
      refine cv_lenL (ds := (rows[i]'(by omega)).map .str) ?_ ?_
      · show olst _ = _
        rw [om_get hrow]
        rfl
      walk_at "d"
      refine ov_ixL rfl (atI_n (by rw [List.getElem?_map, hh]; rfl)) ?_
      walk_at "d"
      rw [List.length_map]
      refine ⟨fun h1 => ?_, fun h1 => ⟨rfl, js, rfl, by omega, by omega, a3, fun j row h hj y z q => ?_⟩⟩
      · have h2 := of_decide_eq_true h1
        walk_at "d"
        refine ⟨rfl, _, rfl, js ++ [i], by simp, by simp; omega, by omega, fun j hj => ?_, fun j row h hj y z q => ?_⟩
        · rcases List.mem_append.mp hj with y | y
          · exact a3 j y
          · rw [List.mem_singleton.mp y]
            exact ⟨_, _, hrow, hh, h2⟩
        · by_cases c : j = i
          · rw [c]
            simp
          · exact List.mem_append_left _ (a4 j row h (by omega) y z q)
      · by_cases c : j = i
        · subst c
          rw [hrow] at y
          rw [hh] at z
          cases y
          cases z
          exact absurd q (of_decide_eq_false h1)
        · exact a4 j row h (by omega) y z q
    · rintro i acc ⟨js, rfl, a1, a2, a3, a4⟩
      rw [List.length_map]
      omega
    · rintro acc ⟨js, rfl, a1, a2, a3, a4⟩
      rw [rgD_len, Int.toNat_natCast] at a1 a2 a4
      have hne : 0 < js.length := by
        cases js with
        | cons j js => exact Nat.succ_pos _
        | nil =>
          exfalso
          have h1 := sum_le_flat hlen fun j row h y z => by
            by_cases q : (row.length : Int) < h
            · exact absurd (a4 j row h (by have := (List.getElem?_eq_some_iff.mp z).1; omega) y z q) List.not_mem_nil
            · omega
          have h2 := hperm.length_eq
          rw [List.length_take] at h2
          omega
      walk_at "d"
      refine cv_pick (xs := js.map fun (j : Nat) => D.int (j : Int)) rfl (by rw [List.length_map]; exact hne) (by rw [List.length_map]; omega) fun r hr => ?_
      obtain ⟨j, hj, rfl⟩ := List.mem_map.mp hr
      obtain ⟨row, h, y, z, q⟩ := a3 j hj
      have hjl := (List.getElem?_eq_some_iff.mp z).1
      refine ov_ixRs hjl ⟨ltb rfl, ?_⟩
      dsimp only [List.set]
      have og : (none :: (rowsD rows).map (fun x => some (Own.l x)) : Om)[1 + j]? = some (some (Own.l (row.map D.str))) := by
        have := om_get (om := []) y
        rwa [List.append_nil] at this
      have hh := hb h (List.mem_of_getElem? z)
      walk_at "d"
      refine ⟨⟨_, by show olst _ = _; rw [og]; rfl⟩, ?_⟩
      walk_at "d"
      refine mv_append og (by rw [List.length_map]; omega) ⟨rows.set j (row ++ [ns[k]]), _, _, _, _, ?_, rfl, by rw [List.length_set]; exact hlen, ?_, fun j' row' h' y' z' => ?_⟩
      · have e : (rowsD rows).set j (row.map D.str ++ [D.str ns[k]]) = rowsD (rows.set j (row ++ [ns[k]])) := by
          rw [show row.map D.str ++ [D.str ns[k]] = (row ++ [ns[k]]).map D.str by simp]
          exact (List.map_set (f := fun row : List Str => row.map D.str)).symm
        rw [Nat.add_comm 1 j, List.set_cons_succ, ← List.map_set, e]
      · refine (flat_set y).trans ?_
        rw [List.take_succ_eq_append_getElem hk]
        exact List.Perm.append_right _ hperm
      · by_cases c : j = j'
        · subst c
          rw [List.getElem?_set_self (by omega)] at y'
          cases y'
          rw [z] at z'
          cases z'
          rw [List.length_append]
          simp
          omega
        · rw [List.getElem?_set_ne c] at y'
          exact hok j' row' h' y' z'
  · rintro om' sl' ⟨rows, t4, t5, t6, t7, rfl, rfl, hlen, hperm, hok⟩
    rw [List.length_map, List.take_length] at hperm
    refine sv_thaw 3 (dss := rowsD rows) (by rw [List.length_map, hlen]; rfl) ?_
    dsimp only [List.set]
    walk_at "d"
    refine ev_lc (sets_name 5) (wv_list (ds := []) ?_)
    walk_at "d"
    refine ⟨rfl, _, rfl, fun i acc => acc = (rows.take i).map (fun row => .ftp (row.map .str)) ∧ i ≤ rows.length, ⟨rfl, Nat.zero_le _⟩, ?_, ?_, ?_⟩
    · rintro i d acc hd ⟨rfl, hi⟩
      have hlt := (List.getElem?_eq_some_iff.mp hd).1
      rw [List.length_map, List.length_map] at hlt
      rw [List.getElem?_map, List.getElem?_map, List.getElem?_eq_getElem hlt] at hd
      cases hd
      refine gv_name ⟨ltb rfl, ?_⟩
      dsimp only [List.set, List.foldr]
      refine et_yes ⟨fun _ => ?_, fun z => nomatch z⟩
      walk_at "d"
      refine cv_tupF rfl ⟨rfl, _, rfl, ?_, by omega⟩
      rw [List.take_succ_eq_append_getElem hlt, List.map_append]
      rfl
    · rintro i acc ⟨rfl, hi⟩
      rw [List.length_map, List.length_take]
      omega
    · rintro acc ⟨rfl, hi⟩
      walk_at "d"
      refine cv_tupL rfl ⟨_, rfl, rows, ?_, hlen, hperm, hok⟩
      rw [List.length_map, List.length_map, List.take_length]
end
end K01
set_option Elab.async false
set_option linter.all false
set_option maxRecDepth 100000
set_option maxHeartbeats 4000000
namespace K01
open PySem PySem.Spec PyProof.Rows L2 DL HL CM STX NM SG
section
variable {P : Program} {w : World} {K : PySem.W.Frag} {mg : Str → Option Value} {base : Heap}
/-! ### _law_names -/
/-- the sign of a name -/
def sg2 (k : Nat) : List Nat := if k < 26 then [] else [97 + k / 26]
def sg (first k : Nat) : List Nat := (97 + (first + k) % 26) :: sg2 k
theorem cut_from {α : Type} {l : List α} {p : Nat} (h : p ≤ l.length) : (l.drop (HT.sIx l.length 0 (some (p : Int)))).take (HT.sIx l.length l.length none - HT.sIx l.length 0 (some (p : Int))) = l.drop p := by
  rw [HT.sIx_nat, HT.sIx_none, Nat.min_eq_left h]
  rw [List.take_of_length_le]
  rw [List.length_drop]
  exact Nat.le_refl _
theorem cut_upto {α : Type} {l : List α} {p : Nat} (h : p ≤ l.length) : (l.drop (HT.sIx l.length 0 none)).take (HT.sIx l.length l.length (some (p : Int)) - HT.sIx l.length 0 none) = l.take p := by
  rw [HT.sIx_nat, HT.sIx_none, Nat.min_eq_left h]
  simp
theorem cut_mid {α : Type} {l : List α} {p q : Nat} (h : p ≤ l.length) : ∃ m, (l.drop (HT.sIx l.length 0 (some (p : Int)))).take (HT.sIx l.length l.length (some (q : Int)) - HT.sIx l.length 0 (some (p : Int))) = (l.drop p).take m := by
  rw [HT.sIx_nat l.length 0 p, Nat.min_eq_left h]
  exact ⟨_, rfl⟩
theorem perm_map_inv {α β : Type} {f : α → β} {l1 l2 : List β} (h : l1.Perm l2) : ∀ xs : List α, l2 = xs.map f → ∃ ys : List α, l1 = ys.map f ∧ ys.Perm xs := by
  induction h with
  | nil => exact fun xs e => ⟨[], rfl, by cases xs with | nil => exact List.Perm.nil | cons _ _ => cases e⟩
  | cons a _ ih =>
    intro xs e
    cases xs with
    | nil => cases e
    | cons x xs =>
      injection e with e1 e2
      obtain ⟨ys, h1, h2⟩ := ih xs e2
      exact ⟨x :: ys, by rw [e1, h1]; rfl, h2.cons x⟩
  | swap a b l =>
    intro xs e
    cases xs with
    | nil => cases e
    | cons x xs =>
      cases xs with
      | nil => cases e
      | cons y xs =>
        injection e with e1 e2
        injection e2 with e2 e3
        exact ⟨y :: x :: xs, by rw [e1, e2, e3]; rfl, List.Perm.swap x y xs⟩
  | trans _ _ ih1 ih2 =>
    intro xs e
    obtain ⟨ys, h1, h2⟩ := ih2 xs e
    obtain ⟨zs, h3, h4⟩ := ih1 ys h1
    exact ⟨zs, h3, h4.trans h2⟩
/-- the names as they are found -/
def Found (n : Nat) (st : List Nat) (p first : Nat) (b : Bool) (zs : List (List Nat)) : Prop := ∀ (i : Nat) (z : List Nat), zs[i]? = some z → ∃ m, z = st.take p ++ sg first i ++ (st.drop p).take m ∧ (b = true → (st.drop p).take m = st.drop p)
theorem found_nodup {n : Nat} {st : List Nat} {p first : Nat} {b : Bool} {zs : List (List Nat)} (hb : 26 < n → b = true) (hl : zs.length ≤ n) (h : Found n st p first b zs) : zs.Nodup := by
  rw [List.nodup_iff_pairwise_ne, List.pairwise_iff_getElem]
  intro i j hi hj hij e
  obtain ⟨m1, e1, c1⟩ := h i _ (List.getElem?_eq_getElem hi)
  obtain ⟨m2, e2, c2⟩ := h j _ (List.getElem?_eq_getElem hj)
  rw [e1, e2, List.append_assoc, List.append_assoc] at e
  have e3 := List.append_cancel_left e
  unfold sg at e3
  rw [List.cons_append, List.cons_append] at e3
  injection e3 with e4 e5
  have m26 : (first + i) % 26 = (first + j) % 26 := by omega
  by_cases c : 26 < n
  · rw [c1 (hb c), c2 (hb c)] at e5
    have e6 := List.append_cancel_right e5
    unfold sg2 at e6
    by_cases hi26 : i < 26
    · by_cases hj26 : j < 26
      · omega
      · rw [if_pos hi26, if_neg hj26] at e6
        cases e6
    · rw [if_neg hi26, if_neg (by omega)] at e6
      injection e6 with e7 _
      omega
  · omega
theorem found_ok {n : Nat} {st : List Nat} {p first : Nat} {b : Bool} {zs : List (List Nat)} (hn : n ≤ 600) (hl : zs.length ≤ n) (hs : Codes st) (hs6 : st.length ≤ 6) (h : Found n st p first b zs) : ∀ z ∈ zs, NameOk (mkS z) := by
  intro z hz
  obtain ⟨i, hi, ez⟩ := List.getElem_of_mem hz
  obtain ⟨m, e1, _⟩ := h i z (by rw [List.getElem?_eq_getElem hi, ez])
  have l2 : (sg2 i).length ≤ 1 := by
    unfold sg2
    split
    · exact Nat.zero_le _
    · exact Nat.le_refl _
  have ls : (sg first i).length = 1 + (sg2 i).length := by
    unfold sg
    rw [List.length_cons, Nat.add_comm]
  unfold NameOk
  rw [mkS_len, mkS_cps, e1]
  refine ⟨?_, ?_, fun c hc => ?_⟩
  · rw [List.length_append, List.length_append]
    omega
  · rw [List.length_append, List.length_append, List.length_take, List.length_take, List.length_drop]
    omega
  · rw [List.mem_append, List.mem_append] at hc
    rcases hc with (q | q) | q
    · exact hs c (List.mem_of_mem_take q)
    · unfold sg sg2 at q
      rcases List.mem_cons.mp q with y | y
      · omega
      · split at y
        · cases y
        · rw [List.mem_singleton.mp y]
          omega
    · exact hs c (List.mem_of_mem_drop (List.mem_of_mem_take q))
abbrev sp_names : Sp := spGN 1 (fun n : Nat => [.int (n : Int)]) (fun n => n ≤ 600) fun n r => ∃ ys : List Str, r = .lst (ys.map .str) ∧ ys.length = n ∧ ys.Nodup ∧ ∀ y ∈ ys, NameOk y
theorem cv_mixed {c : Cn} {om : Om} {sl : Sl} {P : DL.E → Om → Prop} {xs : List D} (h1 : xs.length ≤ 1000) (h : ∀ ys, ys.Perm xs → P (.v (.lst ys)) om) : CV c (fun vs H Q => sp_mixed vs H Q E0) om sl [.l, .v (.lst xs)] P :=
  cv_N ⟨_, _, rfl, rfl, rfl, ⟨xs, rfl, h1⟩, fun r hr => by
    obtain ⟨ys, rfl, hp⟩ := hr xs rfl
    exact h ys hp⟩
theorem name_join (a s r : List Nat) : Txt.join (PySem.Str.ofString "") (a.map (fun c => mkS [c]) ++ [mkS s] ++ r.map (fun c => mkS [c])) = mkS (a ++ s ++ r) := by
  have e : Txt.join (PySem.Str.ofString "") (a.map (fun c => mkS [c]) ++ [mkS s] ++ r.map (fun c => mkS [c])) = Str.join Str.empty ((a.map (fun c => [c]) ++ [s] ++ r.map (fun c => [c])).map mkS) := by
    rw [List.map_append, List.map_append, List.map_map, List.map_map]
    exact PySem.StrLaws.glued_eq_join Str.empty _
  rw [e, join_mkS, List.flatten_append, List.flatten_append, flat_one, flat_one]
  simp
theorem c__law_names {f : Addr} {fd : FuncData} (T : Tx K mg) (c__law_draw : Ca P w K mg base CX0 1 "_law_draw" ["heap", "many"] sp_draw) (c__law_pick : Ca P w K mg base CX0 2 "_law_pick" ["heap", "some"] sp_pick) (c__law_mixed : Ca P w K mg base CX0 2 "_law_mixed" ["heap", "some"] sp_mixed)
    (B : DefB K mg "_law_names" s__law_names ["heap", "many"] f fd) : Ca P w K mg base CX0 3 "_law_names" ["heap", "many"] sp_names := by
  refine ca_of B sc__law_names (fun vs H Q E h => lenGN h) (fun cdv A outer s H vs Q E hr h => ⟨_, (pss_cons (ps_set (i := 2) sc__law_names.nd rfl (by first | exact Or.inl rfl | exact Or.inr rfl) pe_str)
    (pss_cons (ps_setLc (i := 3) (own := [("turn", 11)]) rfl sc__law_names.nd rfl rfl (sw_true rfl rfl rfl (by decide +kernel)) (pi_range1 (by rfl) T.z_range (pa_cons (pe_ca c__law_pick hr (by first | decide | (simp only [Nat.add_eq]; omega)) pass0 (pa_cons (pv 0) (pa_cons (pe_lst (pa_cons pe_int (pa_cons pe_int (pa_cons pe_int (pa_cons pe_int (pa_cons pe_int pa_nil)))))) pa_nil))) pa_nil)) (blkOk_by (N := ["heap", "many", "letters", "stem", "even", "at", "place", "first", "found", "sign", "rest", "turn"]) (sc := defScope s__law_names) (by decide +kernel)) (fun _ _ _ _ _ => (pg_name (i := 11) sc__law_names.nd rfl (by first | exact Or.inl rfl | exact Or.inr rfl))) (fun _ _ _ _ _ => pts_nil) (fun _ _ _ _ _ => (pe_ca c__law_pick hr (by first | decide | (simp only [Nat.add_eq]; omega)) pass0 (pa_cons (pv 0) (pa_cons (pv 2) pa_nil)))))
    (pss_cons (ps_par3 (i := 6) (j := 7) (l := 8) (by rfl) sc__law_names.nd rfl rfl rfl (by decide) (by decide) (by decide) rfl rfl rfl (pa_cons (pe_ca c__law_draw hr (by first | decide | (simp only [Nat.add_eq]; omega)) pass0 (pa_cons (pv 0) (pa_cons (pe_op op_addU (pe_callB cr_len (by rfl) T.z_len (by decide +kernel) (pa_cons (pv 3) pa_nil)) pe_int) pa_nil))) (pa_cons (pe_ca c__law_draw hr (by first | decide | (simp only [Nat.add_eq]; omega)) pass0 (pa_cons (pv 0) (pa_cons pe_int pa_nil))) (pa_cons (pe_lst pa_nil) pa_nil))) (by rfl))
    (pss_cons (ps_set (i := 4) sc__law_names.nd rfl (by first | exact Or.inl rfl | exact Or.inr rfl) (pe_or (pe_cmpR op_gt (pv 1) pe_int (by first | exact nomark _ | rfl)) (pe_one (pe_cmpR (op_eqU hr.units) (pe_ca c__law_draw hr (by first | decide | (simp only [Nat.add_eq]; omega)) pass0 (pa_cons (pv 0) (pa_cons pe_int pa_nil))) pe_int (by first | exact nomark _ | rfl)))))
    (pss_cons (ps_for PassesOwn.never rfl (pi_range1 (by rfl) T.z_range (pa_cons (pv 1) pa_nil)) (pg_name (i := 5) sc__law_names.nd rfl (by first | exact Or.inl rfl | exact Or.inr rfl))
     (pss_cons (ps_set (i := 9) sc__law_names.nd rfl (by first | exact Or.inl rfl | exact Or.inr rfl) (pe_op op_addU (pe_ix ix_seq (pv 2) (pe_op op_mod (pe_callTy cr_int (by rfl) T.z_int (by decide +kernel) (pa_cons (pe_op op_addU (pv 7) (pv 5)) pa_nil)) pe_int) (fun _ _ => rfl)) (pe_ifExp (pt_cmpR op_lt (pv 5) pe_int (by first | exact nomark _ | rfl)) pe_str (pe_ix ix_seq (pv 2) (pe_op op_fdivW (pv 5) pe_int) (fun _ _ => rfl)))))
     (pss_cons (ps_set (i := 10) sc__law_names.nd rfl (by first | exact Or.inl rfl | exact Or.inr rfl) (pe_ifExp (pt_val (pv 4)) (pe_slice sl_U (pv 3) (po_some (pv 6)) po_none) (pe_slice sl_U (pv 3) (po_some (pv 6)) (po_some (pe_op op_addU (pv 6) (pe_ca c__law_draw hr (by first | decide | (simp only [Nat.add_eq]; omega)) pass0 (pa_cons (pv 0) (pa_cons pe_int pa_nil))))))))
     (pss_one (ps_expr (pe_bm PySem.F.plainAttrs_list PySem.F.slot_list_append PySem.F.type_list_append mt_append (pv 8) (pa_cons (pe_m1 PySem.F.slot_str_join PySem.F.type_str_join mt_joinU pe_str (pe_op op_addU (pe_op op_addU (pe_slice sl_U (pv 3) po_none (po_some (pv 6))) (pe_lst (pa_cons (pv 9) pa_nil))) (pv 10))) pa_nil)))))))
    (pss_one (ps_ret (pe_ca c__law_mixed hr (by first | decide | (simp only [Nat.add_eq]; omega)) pass0 (pa_cons (pv 0) (pa_cons (pv 8) pa_nil)))))))))), entryGN (K := K) (by decide) h fun F O n hl hn => ?_⟩)
  walk_at "d0"
  walk_at "d"
  refine ev_lc (sets_name 11) (wv_range1 ?_)
  walk_at "d"
  refine ev_lst ?_
  walk_at "d"
  refine cv_pick rfl (ltb rfl) (Nat.le_of_ble_eq_true rfl) fun r hr => ?_
  obtain ⟨m, rfl, hm⟩ : ∃ m : Nat, r = .int (m : Int) ∧ m ≤ 6 := by
    simp only [List.mem_cons, List.not_mem_nil, or_false] at hr
    rcases hr with rfl | rfl | rfl | rfl | rfl
    · exact ⟨0, rfl, by decide⟩
    · exact ⟨0, rfl, by decide⟩
    · exact ⟨1, rfl, by decide⟩
    · exact ⟨3, rfl, by decide⟩
    · exact ⟨6, rfl, by decide⟩
  walk_at "d"
  refine ⟨rfl, _, rfl, by omega, by omega, fun i acc => ∃ st : List Nat, acc = st.map chD ∧ st.length = i ∧ i ≤ m ∧ Codes st, ⟨[], rfl, rfl, Nat.zero_le _, fun _ z => nomatch z⟩, ?_, ?_, ?_⟩
  · rintro i d acc hd ⟨st, rfl, hi, him, hs⟩
    have hi2 := (List.getElem?_eq_some_iff.mp hd).1
    rw [rgD_len, Int.toNat_natCast] at hi2
    refine gv_name ⟨ltb rfl, ?_⟩
    dsimp only [List.set, List.foldr]
    refine et_yes ⟨fun _ => ?_, fun z => nomatch z⟩
    walk_at "d"
    refine cv_pick rfl (by decide) (by decide) fun r hr => ?_
    obtain ⟨ch, h1, rfl⟩ := List.mem_map.mp hr
    have all : ∀ z ∈ (PySem.Str.ofString "abcdefghijklmnopqrstuvwxyz").cps.toList, 97 ≤ z ∧ z ≤ 122 := by decide
    refine ⟨rfl, _, rfl, st ++ [ch], by simp [mkS], by simp [hi], by omega, fun z hz => ?_⟩
    rcases List.mem_append.mp hz with q | q
    · exact hs z q
    · rw [List.mem_singleton.mp q]
      exact all ch h1
  · rintro i acc ⟨st, rfl, hi, him, hs⟩
    rw [List.length_map]
    omega
  · rintro acc ⟨st, rfl, hi, him, hs⟩
    rw [rgD_len, Int.toNat_natCast] at hi
    have h6 : st.length ≤ 6 := by omega
    clear hi him hm
    refine ⟨ltb rfl, ?_⟩
    dsimp only [List.set]
    walk_at "d"
    refine sv_par3 ?_
    walk_at "d"
    refine cv_lenL rfl ?_
    walk_at "d"
    rw [List.length_map]
    refine cv_draw (by omega) (by omega) fun p hp => ?_
    have hp' : p ≤ st.length := by omega
    walk_at "d"
    refine cv_draw (by decide) (by decide) fun first hf => ?_
    walk_at "d"
    refine ev_lstO ?_
    walk_at "d"
    refine ⟨_, _, _, rfl, ⟨ltb rfl, ltb rfl, ltb rfl⟩, ?_⟩
    dsimp only [List.set]
    refine sv_seq (sv_set (ev_mono (P := fun e om' => ∃ b, e = .v (.bl b) ∧ om' = [some (.l [])] ∧ (26 < n → b = true)) ?_ ?_))
    · walk_at "d"
      refine ⟨fun h1 => ?_, fun h1 => ⟨true, rfl, rfl, fun _ => rfl⟩⟩
      have h2 := of_decide_eq_false h1
      walk_at "d"
      refine cv_draw (by decide) (by decide) fun q hq => ?_
      walk_at "d"
      exact ⟨rfl, fun z => by omega⟩
    · rintro e om' ⟨b, rfl, rfl, hb⟩
      refine ⟨ltb rfl, ?_⟩
      dsimp only [List.set]
      refine sv_seq (sv_for (wv_range1 ?_))
      walk_at "d"
      refine ⟨rfl, _, rfl, by omega, by omega, fun k om' sl' => ∃ (zs : List (List Nat)) (t5 t9 t10 t11 : Option DL.E), om' = [some (.l (zs.map fun z => D.str (mkS z)))] ∧ sl' = [some .l, some (.v (.int (n : Int))), some (.v (.str (PySem.Str.ofString "abcdefghijklmnopqrstuvwxyz"))), some (.v (.lst (st.map chD))), some (.v (.bl b)), t5, some (.v (.int (p : Int))), some (.v (.int (first : Int))), some (.o 0), t9, t10, t11] ∧ zs.length = k ∧ Found n st p first b zs,
        ⟨[], _, _, _, _, rfl, rfl, rfl, fun i z hz => by simp at hz⟩, ?_, ?_⟩
      · rintro k d om' sl' hd ⟨zs, t5, t9, t10, t11, rfl, rfl, hz, hfd⟩
        have hk := (List.getElem?_eq_some_iff.mp hd).1
        rw [rgD_len, Int.toNat_natCast] at hk
        rw [rgD_get (by rw [Int.toNat_natCast]; exact hk), Int.zero_add] at hd
        cases hd
        refine gv_name ⟨ltb rfl, ?_⟩
        dsimp only [List.set]
        refine sv_seq (sv_set ?_)
        walk_at "d"
        refine ov_intC (by decide) ?_
        have ei : ((first : Int) + (k : Int)) % 26 = (((first + k) % 26 : Nat) : Int) := by omega
        rw [ei]
        refine ov_ixS (by decide) (atI_n (letters_at _ (Nat.mod_lt _ (by decide)))) ?_
        refine ev_mono (P := fun e om' => e = .v (.str (mkS (sg2 k))) ∧ om' = [some (.l (zs.map fun z => D.str (mkS z)))]) ?_ ?_
        · walk_at "d"
          refine ⟨fun h1 => ev_str ⟨?_, rfl⟩, fun h1 => ?_⟩
          · have h2 := of_decide_eq_true h1
            unfold sg2
            rw [if_pos (by omega)]
            rfl
          · have h2 := of_decide_eq_false h1
            walk_at "d"
            refine ov_intC (wide_div (b := 5) (by decide) (by decide) (by decide) (by decide)) ?_
            have ej : (k : Int) / 26 = ((k / 26 : Nat) : Int) := by omega
            rw [ej]
            refine ov_ixS (by decide) (atI_n (letters_at (k / 26) (by omega))) ⟨?_, rfl⟩
            unfold sg2
            rw [if_neg (by omega)]
            rfl
        · rintro e om' ⟨rfl, rfl⟩
          have l2 : (sg2 k).length ≤ 1 := by
            unfold sg2
            split
            · exact Nat.zero_le _
            · exact Nat.le_refl _
          refine ov_addS (by rw [mkS_len]; show 1 + _ ≤ 1000; omega) ?_
          have es : (⟨#[97 + (first + k) % 26]⟩ : Str) ++ mkS (sg2 k) = mkS (sg first k) := mkS_app [97 + (first + k) % 26] (sg2 k)
          rw [es]
          refine ⟨ltb rfl, ?_⟩
          dsimp only [List.set]
          refine sv_seq (sv_set (ev_mono (P := fun e om' => ∃ m, e = .v (.lst (((st.drop p).take m).map chD)) ∧ om' = [some (.l (zs.map fun z => D.str (mkS z)))] ∧ (b = true → (st.drop p).take m = st.drop p)) ?_ ?_))
          · walk_at "d"
            refine ⟨fun h1 => ?_, fun h1 => ?_⟩
            · walk_at "d"
              refine lv_l rfl ⟨st.length, ?_, rfl, fun _ => List.take_of_length_le (by rw [List.length_drop]; omega)⟩
              unfold DL.cutD
              rw [cut_from (by rw [List.length_map]; exact hp'), List.take_of_length_le (by rw [List.length_drop]; omega), List.map_drop]
            · walk_at "d"
              refine cv_draw (by decide) (by decide) fun q hq => ?_
              walk_at "d"
              refine lv_l rfl ?_
              unfold DL.cutD
              have eq : (p : Int) + (q : Int) = ((p + q : Nat) : Int) := by omega
              rw [eq]
              obtain ⟨m, em⟩ := cut_mid (l := st.map chD) (p := p) (q := p + q) (by rw [List.length_map]; exact hp')
              rw [em]
              exact ⟨m, by rw [List.map_take, List.map_drop], rfl, fun z => by rw [z] at h1; cases h1⟩
          · rintro e om' ⟨m, rfl, rfl, hm⟩
            refine ⟨ltb rfl, ?_⟩
            dsimp only [List.set]
            walk_at "d"
            refine ⟨⟨_, rfl⟩, ?_⟩
            walk_at "d"
            refine lv_l rfl ?_
            walk_at "d"
            refine ev_lst ?_
            walk_at "d"
            have ec : DL.cutD (st.map chD) none (some (p : Int)) = (st.take p).map chD := by
              unfold DL.cutD
              rw [cut_upto (by rw [List.length_map]; exact hp'), List.map_take]
            rw [ec]
            have lt : (st.take p).length ≤ 6 := by rw [List.length_take]; omega
            have ld : ((st.drop p).take m).length ≤ 6 := by rw [List.length_take, List.length_drop]; omega
            refine ov_addL rfl rfl (by rw [List.length_map]; show _ + 1 ≤ _; omega) ?_
            walk_at "d"
            refine ov_addL rfl rfl (by rw [List.length_append, List.length_map, List.length_map]; show _ + 1 + _ ≤ _; omega) ?_
            walk_at "d"
            refine mv_join (ys := (st.take p).map (fun c => mkS [c]) ++ [mkS (sg first k)] ++ ((st.drop p).take m).map (fun c => mkS [c])) ?_ ?_ ?_
            · show some (D.lst _) = some (D.lst _)
              rw [List.map_append, List.map_append, List.map_map, List.map_map]
              rfl
            · have e0 : (PySem.Str.ofString "").length = 0 := rfl
              have e1 : (sg first k).length ≤ 2 := by
                unfold sg
                rw [List.length_cons]
                omega
              rw [e0, Nat.mul_zero, List.map_append, List.map_append, List.sum_append, List.sum_append, sum_one, sum_one, List.map_singleton, List.sum_singleton, mkS_len]
              omega
            · rw [name_join]
              walk_at "d"
              refine mv_append rfl (by rw [List.length_map]; omega) ⟨zs ++ [st.take p ++ sg first k ++ (st.drop p).take m], _, _, _, _, by simp, rfl, by simp [hz], fun i z hi => ?_⟩
              by_cases c : i < zs.length
              · rw [List.getElem?_append_left c] at hi
                exact hfd i z hi
              · have hi3 := (List.getElem?_eq_some_iff.mp hi).1
                rw [List.length_append] at hi3
                have ei : i = k := by simp at hi3; omega
                subst ei
                rw [List.getElem?_append_right (by omega), hz] at hi
                simp at hi
                exact ⟨m, by rw [← hi, List.append_assoc], hm⟩
      · rintro om' sl' ⟨zs, t5, t9, t10, t11, rfl, rfl, hz, hfd⟩
        rw [rgD_len, Int.toNat_natCast] at hz
        refine sv_freeze 8 0 rfl rfl ?_
        dsimp only [List.set]
        walk_at "d"
        refine cv_mixed (by rw [List.length_map]; omega) fun ys hys => ?_
        obtain ⟨ws, rfl, hw⟩ := perm_map_inv hys zs rfl
        have nd : ws.Nodup := hw.symm.nodup (found_nodup hb (by omega) hfd)
        refine ⟨_, rfl, ws.map mkS, by rw [List.map_map]; rfl, by rw [List.length_map, hw.length_eq]; exact hz, ?_, fun y hy => ?_⟩
        · exact List.Pairwise.map mkS (fun a b h e => h (mkS_inj e)) nd
        · obtain ⟨z, hz2, rfl⟩ := List.mem_map.mp hy
          exact found_ok hn (by omega) hs h6 hfd z (hw.mem_iff.mp hz2)
end
end K01
set_option Elab.async false
set_option linter.all false
set_option maxRecDepth 100000
set_option maxHeartbeats 4000000
/-! lambdas: a caught error's class, what a def does that calls what it got, promises with tables of code objects -/
namespace LM
open PySem PySem.Spec PyProof.Rows L2 DL HL
/-! ### isinstance of a caught error that has a dict -/
def rIsXE (K : PySem.W.Frag) (C a : Addr) (cls : Value) (dd : Option Addr) : List V → Hp → VK → Prop := fun xs H Q => cls = .ref C ∧ ∃ d, dd = some d ∧ ∃ (cl : V) (cv : Value) (b : Bool) (fs : List (Str × V)), xs = [.ref a, cl] ∧ ClsV cl cv ∧ H d = some (.xd fs) ∧ PySem.W.kitOne K (.ref C) cv = some b ∧ Q (.bl b) H
theorem call_isXE {X : Cx} {a C : Addr} {cls : Value} {dd : Option Addr} {oe : Obj} {pn : List (Addr × Obj)} (T : ExcC X.K C) (hz : Zc cls dd oe) (hf : ∃ vs, oe.data = .fields vs) : CallR (X.suite a ((a, oe) :: pn)) (.builtin "isinstance") (rIsXE X.K C a cls dd) := by
  intro pins s σ H xs us Q I r h
  obtain ⟨rfl, d, rfl, cl, cv, b, fs, rfl, k, hd, e, q⟩ := h
  obtain ⟨u1, u2, rfl, r1, r2⟩ := vals2 r
  have e2 := k.eq r2
  subst e2
  cases (show u1 = Value.ref a from r1)
  obtain ⟨got, _⟩ := I.pin (a, oe) (List.mem_append.mpr (.inl List.mem_cons_self))
  obtain ⟨m, hns, _⟩ := (show ObjOk X.prog X.w H s.heap d (.xd fs) from I.hok d _ hd)
  obtain ⟨od, ho, _⟩ := L2.lookIn_ns hns
  obtain ⟨vs, hv⟩ := hf
  have nc : PySem.W.notCls oe = true := by unfold PySem.W.notCls; rw [hv] <;> rfl
  have J : PySem.W.InstAt s.heap a oe C (some od) := ⟨got, hz.1, nc, by rw [hz.2]; exact ho⟩
  have hcl : (PySem.W.clsIn X.K C).isSome = true := by
    obtain ⟨cd, hc, _⟩ := PySem.W.any_some T.hd
    rw [hc]
    rfl
  exact PySem.W.kia_one (PySem.W.kitx_exc hcl T.hg T.hk T.hs T.ha T.hn T.ht T.hm) I.kIn J e (fun z => nomatch z) fun tk => ⟨.bl b, H, I.tok tk, rfl, q⟩
theorem cv_isXE {c : Cn} {om : Om} {sl : Sl} {P : DL.E → Om → Prop} {C a d : Addr} {fs : List (Str × D)} {cl : V} {u : Value} {b : Bool} (hu : ClsV cl u) (hk : PySem.W.kitOne c.K (.ref C) u = some b) (p : P (.v (.bl b)) om) : CV c (rIsXE c.K C a (.ref C) (some d)) om sl [.v (.xerr a d fs), .v (.raw cl)] P := fun σ H O ps s vs r Q k => by
  obtain ⟨v, w, rfl, rv, rw'⟩ := ra2 r
  cases rw'
  cases rv with
  | xerr ha hd hx => exact ⟨rfl, d, rfl, cl, u, b, _, rfl, hu, hd, hk, k _ H O ps (.v (.bl b)) om (Go.refl ..) s (Rl.bl b) p⟩
/-! ### a def that calls what it got -/
/-- work(), as a statement in a try -/
def TLS (n : Nat) (f c' : Addr) (q : Str) (tl : XK → Hp → VK → Prop) (W : WX) : TS := fun D σ H => ∃ Ech : XK, (∀ cls d H' σ', σ'.length = n → Ech cls d H' → W cls d σ' H') ∧ σ[0]? = some (some (.ref f)) ∧ H c' = some (LamX.CodeO c' q) ∧ tl Ech H fun _ H' => D.nx σ H'
/-- return work() -/
def TLR (n : Nat) (f c' : Addr) (q : Str) (tl : XK → Hp → VK → Prop) (W : WX) : TS := fun D σ H => ∃ Ech : XK, (∀ cls d H' σ', σ'.length = n → Ech cls d H' → W cls d σ' H') ∧ σ[0]? = some (some (.ref f)) ∧ H c' = some (LamX.CodeO c' q) ∧ tl Ech H D.rt
theorem takes_len {X : Cx} {W : WX} {Ech : XK} (tk : Takes X W) (h : ∀ cls d H' σ', σ'.length = X.N.length → Ech cls d H' → W cls d σ' H') : Takes X (fun cls d _ H => Ech cls d H) := fun u s' ⟨a, B, sI, pins, σ, H, cls, d, e, I, nb, up, sky, na, os, ag, w⟩ =>
  tk u s' ⟨a, B, sI, pins, σ, H, cls, d, e, I, nb, up, sky, na, os, ag, h cls d H σ I.len w⟩
section
variable {Z : Cx} {a : Str} {f c' : Addr} {q : Str} {tl : XK → Hp → VK → Prop} {W : WX} {pn : List (Addr × Obj)} {xe : Value → Shared → Prop} {p1 p2 p3 : Pos}
def Act (Z : Cx) (a : Str) (f c' : Addr) (q : Str) (tl : XK → Hp → VK → Prop) : Prop := ∀ (W : WX) (pn : List (Addr × Obj)) (xe : Value → Shared → Prop) (E : XK) (p1 p2 : Pos), Takes (Z.tr pn xe) W → (∀ cls d σ' H', E cls d H' → W cls d σ' H') →
  PE (Z.tr pn xe) (.Call (.Name a p1) [] [] p2) (fun σZ HZ Q => σZ[0]? = some (some (.ref f)) ∧ HZ c' = some (LamX.CodeO c' q) ∧ tl E HZ Q)
theorem lam_stmt (act : Act Z a f c' q tl) (tk : Takes (Z.tr pn xe) W) : PSs (Z.tr pn xe) [.Expr (.Call (.Name a p1) [] [] p2) p3] (TLS Z.N.length f c' q tl W) := by
  refine ⟨fun pins s σ H D I h => ?_⟩
  obtain ⟨Ech, h1, h2, h3, h4⟩ := h
  have hp := act _ pn xe Ech p1 p2 (takes_len tk h1) fun _ _ _ _ z => z
  exact (pss_one (ps_expr (pos := p3) hp)).run pins s σ H D I ⟨h2, h3, h4⟩
theorem lam_ret (act : Act Z a f c' q tl) (tk : Takes (Z.tr pn xe) W) : PSs (Z.tr pn xe) [.Return (some (.Call (.Name a p1) [] [] p2)) p3] (TLR Z.N.length f c' q tl W) := by
  refine ⟨fun pins s σ H D I h => ?_⟩
  obtain ⟨Ech, h1, h2, h3, h4⟩ := h
  have hp := act _ pn xe Ech p1 p2 (takes_len tk h1) fun _ _ _ _ z => z
  exact (pss_one (ps_ret (pos := p3) hp)).run pins s σ H D I ⟨h2, h3, h4⟩
end
/-- try: work() / except: return wrong.f: nothing was raised, or just this error, whose field is told -/
def TTW (C : Addr) (fld : Str) : (XK → Hp → VK → Prop) → Hp → VK → Prop := fun tl H Q =>
  tl (fun cls d H' => cls = .ref C ∧ ∃ D v, d = some D ∧ H' D = some (.xd [(fld, v)]) ∧ ∀ H'', Same H' H'' → Q v H'') H fun _ H' => Q .non H'
/-- the state of a def that knows nothing of what it got -/
theorem st_raw {H : Hp} {σ : L2.St} : DL.St FT.non [] H H [] σ (List.replicate σ.length none) [] [] :=
  ⟨fun _ _ _ h => h, fun _ h => .inl h, fun _ h => h, (fun b h => nomatch (show b ∈ ([] : List Addr) from h)), (fun _ h => nomatch h), rfl, (fun k ds h => by simp at h), (fun j k p h => by simp at h), (fun k p h => by simp at h), .inl rfl, (fun i e h => by
    rw [List.getElem?_replicate] at h
    split at h <;> cases h), by simp, .inl rfl⟩
/-- an except clause whose suite gives the error's field -/
theorem suite_run {K : PySem.W.Frag} {t : TS} {Ex : XK} {n i : Nat} {σ : L2.St} {H : Hp} {a D : Addr} {fld : Str} {v : V} {Dn : Ends} (hσ : σ.length = n) (hi : i < n) (hD : H D = some (.xd [(fld, v)])) (hQ : ∀ H', Same H H' → Dn.rt v H')
    (sv : SV ⟨FT.non, [], H, K⟩ Ex t [] ((List.replicate n none).set i (some (.v (.xerr a D [(fld, .raw v)])))) { r := fun e _ => e = .v (.raw v) }) : t Dn (σ.set i (some (.ref a))) H := by
  subst hσ
  have s0 := (st_raw (H := H) (σ := σ)).set (i := i) (v := .ref a) (e := .v (.xerr a D [(fld, .raw v)])) (by simpa using hi) (show Rl [] H (.ref a) (.xerr a D [(fld, .raw v)]) from .xerr List.not_mem_nil hD (.cons (.raw v) .nil))
  refine sv _ H [] [] Dn s0 (fun _ _ _ _ _ _ _ _ z => z.elim) (fun u σ' sl' H' O' ps' e om' g s' r he => ?_) (fun _ _ _ _ _ _ _ _ z => z.elim) (fun _ _ _ _ _ _ _ _ z => z.elim) ?_
  · subst he
    cases r
    exact hQ H' fun b o e => s'.en b o (fun z => nomatch (show b ∈ ([] : List Addr) from z)) e
  · rintro C f x d v H1 H2 O' ps' g ⟨_, z⟩
    exact z.elim
end LM
namespace DL
open PySem PySem.Spec PyProof.Rows L2
theorem sets_pair3 {K : PySem.W.Frag} {i j k : Nat} (hij : i ≠ j) (hik : i ≠ k) (hjk : j ≠ k) : Sets (gTup K 2 (gCons (gName i) (gCons (gName j) gNil))) [i, j, k] := fun v σ H Q h => by
  obtain ⟨a, xs, e1, e2, e3, v1, r1, e4, v2, r2, e5, e6, q⟩ := sets_pair hij v (σ.set k none) H Q h
  refine ⟨a, xs, e1, e2, e3, v1, r1, e4, v2, r2, e5, e6, ?_, q.2⟩
  have z : ∀ τ : L2.St, wipe τ [i, j, k] = (wipe τ [i, j]).set k none := fun τ => by
    show ((τ.set k none).set j none).set i none = ((τ.set j none).set i none).set k none
    rw [List.set_comm _ _ (Ne.symm hjk), List.set_comm _ _ (Ne.symm hik)]
  have q1 : wipe ((List.set (wipe σ [i, j, k]) i (some v1)).set j (some v2)) [i, j] = ((σ.set k none).set j none).set i none := q.1
  rw [z, q1]
  show (((σ.set k none).set j none).set i none).set k none = ((σ.set k none).set j none).set i none
  rw [List.set_comm _ _ hik, List.set_comm _ _ hjk, List.set_set]
end DL
namespace EX
open PySem PySem.Spec PyProof.Rows L2 DL
section
variable {X : Cx} {K : PySem.W.Frag} {tg l : Expr} {tl : TE}
theorem pi_listk (hK : X.K = K) (hl : PE X l tl) : PI X tg l (iList K tl) := by
  subst hK
  exact pi_list hl
theorem pi_tupk (hK : X.K = K) (hl : PE X l tl) : PI X tg l (iTup K tl) := by
  subst hK
  exact pi_tup hl
end
end EX
set_option Elab.async false
set_option linter.all false
set_option maxRecDepth 100000
set_option maxHeartbeats 4000000
namespace K01
open PySem PySem.Spec PyProof.Rows L2 DL HL CM STX NM DX TT RO SG
abbrev s_is_whole : Stmt := topS 7
theorem sc_is_whole : FnScope ["value"] ["value"] (defScope s_is_whole) := ⟨rfl, rfl, rfl, by decide +kernel, rfl, by decide +kernel, by decide +kernel⟩
abbrev s_is_name : Stmt := topS 8
theorem sc_is_name : FnScope ["value"] ["value"] (defScope s_is_name) := ⟨rfl, rfl, rfl, by decide +kernel, rfl, by decide +kernel, by decide +kernel⟩
abbrev s_Yard__init__ : Stmt := inClass (topS 13) 0
theorem sc_Yard__init__ : FnScope ["self", "heights", "at", "height"] ["self", "heights"] (defScope s_Yard__init__) := ⟨rfl, rfl, rfl, by decide +kernel, rfl, by decide +kernel, by decide +kernel⟩
abbrev s_Yard__eq__ : Stmt := inClass (topS 13) 1
theorem sc_Yard__eq__ : FnScope ["self", "other"] ["self", "other"] (defScope s_Yard__eq__) := ⟨rfl, rfl, rfl, by decide +kernel, rfl, by decide +kernel, by decide +kernel⟩
abbrev s_places : Stmt := topS 14
theorem sc_places : FnScope ["yard"] ["yard"] (defScope s_places) := ⟨rfl, rfl, rfl, by decide +kernel, rfl, by decide +kernel, by decide +kernel⟩
abbrev s__is_pile : Stmt := topS 17
theorem sc__is_pile : FnScope ["value", "height", "box"] ["value", "height"] (defScope s__is_pile) := ⟨rfl, rfl, rfl, by decide +kernel, rfl, by decide +kernel, by decide +kernel⟩
abbrev s_need_standing : Stmt := topS 16
theorem sc_need_standing : FnScope ["yard", "value", "seen", "stack", "pile", "box"] ["yard", "value"] (defScope s_need_standing) := ⟨rfl, rfl, rfl, by decide +kernel, rfl, by decide +kernel, by decide +kernel⟩
abbrev s_count_boxes : Stmt := topS 18
theorem sc_count_boxes : FnScope ["standing", "pile"] ["standing"] (defScope s_count_boxes) := ⟨rfl, rfl, rfl, by decide +kernel, rfl, by decide +kernel, by decide +kernel⟩
abbrev s_free_places : Stmt := topS 19
theorem sc_free_places : FnScope ["yard", "standing"] ["yard", "standing"] (defScope s_free_places) := ⟨rfl, rfl, rfl, by decide +kernel, rfl, by decide +kernel, by decide +kernel⟩
abbrev s_boxes_of : Stmt := topS 20
theorem sc_boxes_of : FnScope ["standing", "pile", "box"] ["standing"] (defScope s_boxes_of) := ⟨rfl, rfl, rfl, by decide +kernel, rfl, by decide +kernel, by decide +kernel⟩
abbrev s_tops : Stmt := topS 21
theorem sc_tops : FnScope ["standing", "pile"] ["standing"] (defScope s_tops) := ⟨rfl, rfl, rfl, by decide +kernel, rfl, by decide +kernel, by decide +kernel⟩
abbrev s_place_of : Stmt := topS 22
theorem sc_place_of : FnScope ["standing", "box", "stack", "pile"] ["standing", "box"] (defScope s_place_of) := ⟨rfl, rfl, rfl, by decide +kernel, rfl, by decide +kernel, by decide +kernel⟩
abbrev s_boxes_above : Stmt := topS 23
theorem sc_boxes_above : FnScope ["standing", "box", "stack", "level"] ["standing", "box"] (defScope s_boxes_above) := ⟨rfl, rfl, rfl, by decide +kernel, rfl, by decide +kernel, by decide +kernel⟩
/-- what the program has written -/
structure Ty (K : PySem.W.Frag) (mg : Str → Option Value) (CY CV fV CS fS CN fN CB : Addr) : Prop extends Tx K mg where
  k_LONGEST_NAME : ∃ u, mg "LONGEST_NAME" = some u ∧ RelV (.int 8) u
  k_FEWEST_STACKS : ∃ u, mg "FEWEST_STACKS" = some u ∧ RelV (.int 3) u
  k_MOST_STACKS : ∃ u, mg "MOST_STACKS" = some u ∧ RelV (.int 12) u
  k_GREATEST_HEIGHT : ∃ u, mg "GREATEST_HEIGHT" = some u ∧ RelV (.int 12) u
  cY : Cls K CY
  nY : NoAttr K CY "heights"
  kY : KitC K CY
  k_lY : PySem.W.kitOne K (.type "list") (.ref CY) = some false
  k_tY : PySem.W.kitOne K (.type "tuple") (.ref CY) = some false
  nf_t : PySem.W.notFirst K CY (.type "tuple") = true
  nf_l : PySem.W.notFirst K CY (.type "list") = true
  g_Yard : mg "Yard" = some (.ref CY)
  g_YardError : mg "YardError" = some (.ref CB)
  x_InvalidYard : EX.XT K mg "InvalidYard" "at" CV fV
  m_InvalidYard : PySem.W.exmOne K (.ref CV) (.ref CV) = some true
  b_InvalidYard : PySem.W.kitOne K (.ref CV) (.ref CB) = some true
  c_InvalidYard : ExcC K CV
  c_InvalidStanding : ExcC K CS
  x_InvalidStanding : EX.XT K mg "InvalidStanding" "at" CS fS
  m_InvalidStanding : PySem.W.exmOne K (.ref CS) (.ref CS) = some true
  b_InvalidStanding : PySem.W.kitOne K (.ref CS) (.ref CB) = some true
  x_NoName : EX.XT K mg "NoName" "name" CN fN
  m_NoName : PySem.W.exmOne K (.ref CN) (.ref CN) = some true
section
variable {P : Program} {w : World} {K : PySem.W.Frag} {mg : Str → Option Value} {base : Heap} {CY CV fV CS fS CN fN CB : Addr}
/-! ### is_whole, is_name of data of any kind -/
abbrev sp_whole (CY : Addr) : Sp := spG 1 (fun d : D => [d]) (fun d => Pl CY 1000 d) (fun d r => r = .bl (isT "int" d && !isT "bool" d)) noX
theorem c_is_whole {f : Addr} {fd : FuncData} (T : Ty K mg CY CV fV CS fS CN fN CB) (B : DefB K mg "is_whole" s_is_whole ["value"] f fd) : Ca P w K mg base CX0 1 "is_whole" ["value"] (sp_whole CY) := by
  refine ca_of B sc_is_whole (fun vs H Q E h => lenG h) (fun cdv A outer s H vs Q E hr h => ⟨_, (pss_one (ps_ret (pe_and (pe_callB call_isi (by rfl) T.z_isinstance (by decide +kernel) (pa_cons (pv 0) (pa_cons (pe_bltn rfl T.z_int (by decide +kernel) (v := .ty "int") rfl) pa_nil))) (pe_one (pe_not (pe_callB call_isi (by rfl) T.z_isinstance (by decide +kernel) (pa_cons (pv 0) (pa_cons (pe_bltn rfl T.z_bool (by decide +kernel) (v := .ty "bool") rfl) pa_nil)))))))), entryG (K := K) (by decide) h fun O d hl hp _ => ?_⟩)
  walk_at "d0"
  walk_at "n"
  refine EX.ev_raw ?_
  walk_at "n"
  refine cv_isiA T.kY hp (.inl rfl) ?_
  walk_at "n"
  refine ⟨fun h1 => ?_, fun h1 => ?_⟩
  · walk_at "n"
    refine EX.ev_raw ?_
    walk_at "n"
    refine cv_isiA T.kY hp (.inr (.inl rfl)) ?_
    walk_at "n"
    rw [h1]
    rfl
  · rw [h1]
    exact ⟨_, rfl, rfl⟩
/-- is a name: of one to eight signs, all of them small letters -/
def nmB (y : Str) : Bool := decide (1 ≤ y.length) && decide (y.length ≤ 8) && y.cps.toList.all fun c => decide (97 ≤ c) && decide (c ≤ 122)
theorem nmB_ok {y : Str} : nmB y = true ↔ NameOk y := by
  unfold nmB NameOk Codes
  rw [Bool.and_eq_true, Bool.and_eq_true, decide_eq_true_eq, decide_eq_true_eq, List.all_eq_true]
  constructor
  · rintro ⟨⟨h1, h2⟩, h3⟩
    exact ⟨h1, h2, fun c hc => by have := h3 c hc; rw [Bool.and_eq_true, decide_eq_true_eq, decide_eq_true_eq] at this; exact this⟩
  · rintro ⟨h1, h2, h3⟩
    exact ⟨⟨h1, h2⟩, fun c hc => by rw [Bool.and_eq_true, decide_eq_true_eq, decide_eq_true_eq]; exact h3 c hc⟩
theorem low_alpha : ∀ c, 97 ≤ c → c ≤ 122 → Unicode.isAlpha c = true ∧ Unicode.isLower c = true ∧ (Unicode.isUpper c || Unicode.isTitle c) = false := by
  have all : ∀ j, j < 26 → Unicode.isAlpha (97 + j) = true ∧ Unicode.isLower (97 + j) = true ∧ (Unicode.isUpper (97 + j) || Unicode.isTitle (97 + j)) = false := by decide +kernel
  intro c h1 h2
  have := all (c - 97) (by omega)
  rw [show 97 + (c - 97) = c by omega] at this
  exact this
theorem low_only : ∀ c, c < 128 → Unicode.isAlpha c = true → (Unicode.isUpper c || Unicode.isTitle c) = false → 97 ≤ c ∧ c ≤ 122 := by decide +kernel
/-- the three questions together -/
theorem low_iff {y : Str} : (Txt.isascii y && (Txt.isalpha y && Txt.islower y)) = (decide (1 ≤ y.length) && y.cps.toList.all fun c => decide (97 ≤ c) && decide (c ≤ 122)) := by
  have hlen : y.length = y.cps.toList.length := by
    show y.cps.size = _
    simp
  rw [Bool.eq_iff_iff]
  unfold Txt.isascii Txt.isalpha Txt.islower
  rw [← Array.all_toList, ← Array.all_toList, ← Array.any_toList, ← Array.any_toList]
  simp only [Bool.and_eq_true, List.all_eq_true, decide_eq_true_eq, Bool.not_eq_true', List.any_eq_true]
  constructor
  · rintro ⟨h1, ⟨h2, h3⟩, h4, h5⟩
    refine ⟨by first | exact h2 | omega, fun c hc => ?_⟩
    refine low_only c (by have := h1 c hc; omega) (h3 c hc) ?_
    cases e : (Unicode.isUpper c || Unicode.isTitle c) with
    | false => rfl
    | true =>
      have z := List.any_eq_false.mp h5 c hc
      rw [e] at z
      exact (z rfl).elim
  · rintro ⟨h1, h2⟩
    refine ⟨fun c hc => by have := h2 c hc; omega, ⟨by first | exact h1 | omega, fun c hc => (low_alpha c (h2 c hc).1 (h2 c hc).2).1⟩, ?_, ?_⟩
    · have l : 0 < y.cps.toList.length := by omega
      have := h2 _ (List.getElem_mem (l := y.cps.toList) (n := 0) l)
      exact ⟨y.cps.toList[0], List.getElem_mem l, (low_alpha _ this.1 this.2).2.1⟩
    · refine List.any_eq_false.mpr fun c hc => ?_
      rw [(low_alpha c (h2 c hc).1 (h2 c hc).2).2.2]
      exact Bool.false_ne_true
def isN : D → Bool
  | .str y => nmB y
  | _ => false
/-- texts that are no longer than this -/
def ShS (d : D) : Prop := ∀ y, d = .str y → y.length ≤ 1000
abbrev sp_isname (CY : Addr) : Sp := spG 1 (fun d : D => [d]) (fun d => Pl CY 1000 d ∧ ShS d) (fun d r => r = .bl (isN d)) noX
theorem notstr {CY : Addr} {m : Nat} {d : D} (h : Pl CY m d) (e : isT "str" d = false) : isN d = false := by
  cases h
  case str x => exact absurd e (by show ¬ (true = false); decide)
  all_goals rfl
theorem isstr {CY : Addr} {m : Nat} {d : D} (h : Pl CY m d) (e : isT "str" d = true) : ∃ y, d = .str y := by
  cases h
  case str x => exact ⟨x, rfl⟩
  all_goals exact absurd e (by show ¬ (false = true); decide)
theorem c_is_name {f : Addr} {fd : FuncData} (T : Ty K mg CY CV fV CS fS CN fN CB) (B : DefB K mg "is_name" s_is_name ["value"] f fd) : Ca P w K mg base CX0 1 "is_name" ["value"] (sp_isname CY) := by
  refine ca_of B sc_is_name (fun vs H Q E h => lenG h) (fun cdv A outer s H vs Q E hr h => ⟨_, (pss_cons (ps_if (PW.pt (pw_or (pt_not (pt_val (pe_callB call_isi (by rfl) T.z_isinstance (by decide +kernel) (pa_cons (pv 0) (pa_cons (pe_bltn rfl T.z_str (by decide +kernel) (v := .ty "str") rfl) pa_nil))))) (pw_or1 (pt_cmpR op_gt (pe_callB cr_len (by rfl) T.z_len (by decide +kernel) (pa_cons (pv 0) pa_nil)) (pe_globE rfl T.k_LONGEST_NAME) (by first | exact nomark _ | rfl)))))
     (pss_one (ps_ret pe_bl))
     pss_nil)
    (pss_one (ps_ret (pe_and (pe_m0 PySem.F.slot_str_isascii PySem.F.type_str_isascii mt_isascii (pv 0)) (pe_and (pe_m0 PySem.F.slot_str_isalpha PySem.F.type_str_isalpha mt_isalpha (pv 0)) (pe_one (pe_m0 PySem.F.slot_str_islower PySem.F.type_str_islower mt_islower (pv 0)))))))), entryG (K := K) (by decide) h fun O d hl hp _ => ?_⟩)
  obtain ⟨hp, hs⟩ := hp
  walk_at "d0"
  refine sv_seq (sv_if ?_)
  walk_at "n"
  refine EX.ev_raw ?_
  walk_at "n"
  refine cv_isiA T.kY hp (.inr (.inr (.inl rfl))) ?_
  walk_at "n"
  refine ⟨fun e => ?_, fun e => ?_⟩
  · obtain ⟨y, rfl⟩ := isstr hp (by revert e; cases isT "str" d <;> decide)
    have l1000 := hs y rfl
    walk_at "n"
    refine cv_lenS (by omega) ?_
    walk_at "n"
    refine ⟨fun g => ?_, fun g => ?_⟩
    · have l8 := of_decide_eq_true g
      walk_at "n"
      refine congrArg D.bl ?_
      show false = nmB y
      unfold nmB
      rw [show decide (y.length ≤ 8) = false from decide_eq_false (by omega), Bool.and_false, Bool.false_and]
    · have l8 := of_decide_eq_false g
      have e8 : decide (y.length ≤ 8) = true := decide_eq_true (by omega)
      have key : (Txt.isascii y && (Txt.isalpha y && Txt.islower y)) = isN (.str y) := by
        show _ = nmB y
        rw [low_iff]
        unfold nmB
        rw [e8, Bool.and_true]
      walk_at "n"
      refine mv_s0 trivial ?_
      walk_at "n"
      refine ⟨fun h1 => ?_, fun h1 => ?_⟩
      · rw [h1, Bool.true_and] at key
        walk_at "n"
        refine mv_s0 trivial ?_
        walk_at "n"
        refine ⟨fun h2 => ?_, fun h2 => ?_⟩
        · rw [h2, Bool.true_and] at key
          walk_at "n"
          refine mv_s0 trivial ?_
          walk_at "n"
          exact congrArg D.bl key
        · rw [h2, Bool.false_and] at key
          exact ⟨_, rfl, congrArg D.bl key⟩
      · rw [h1, Bool.false_and] at key
        exact ⟨_, rfl, congrArg D.bl key⟩
  · have e0 : isN d = false := notstr hp (by revert e; cases isT "str" d <;> decide)
    rw [e0]
    refine ⟨fun _ => ?_, fun z => nomatch z⟩
    walk_at "n"
    rfl
/-! ### Yard -/
/-- a height as it must be -/
def hOk : D → Bool
  | .int h => decide (1 ≤ h) && decide (h ≤ 12)
  | _ => false
/-- the place of the first that is no height, -1 where the number is wrong -/
def yFx (xs : List D) : Option Int := if 3 ≤ xs.length ∧ xs.length ≤ 12 then (xs.findIdx? fun x => !hOk x).map fun n : Nat => (n : Int) else some (-1)
def yF : D → Option Int
  | .lst xs => yFx xs
  | .tup xs => yFx xs
  | _ => some (-1)
def yFs : D → List (Str × D)
  | .lst xs => [("heights", .tup xs)]
  | .tup xs => [("heights", .tup xs)]
  | _ => []
def yX (CV : Addr) (d : D) (C : Addr) (f : Str) (x : D) : Prop := C = CV ∧ f = "at" ∧ ∃ i : Int, yF d = some i ∧ x = .int i
def notL : D → Prop
  | .lst _ => False
  | _ => True
abbrev sp_yT (CY CV : Addr) : Sp := spIX 1 (fun d : D => [d]) (fun d => Pl CY 1000 d ∧ notL d) (fun d => yF d = none) CY yFs (yX CV)
abbrev sp_yL (CY CV : Addr) : Sp := spIX 1 (fun xs : List D => [.lst xs]) (fun xs => Pl CY 1000 (.lst xs)) (fun xs => yF (.lst xs) = none) CY (fun xs => yFs (.lst xs)) (fun xs => yX CV (.lst xs))
abbrev sp_y (CY CV : Addr) : Sp := spIX 1 (fun d : D => [d]) (fun d => Pl CY 1000 d) (fun d => yF d = none) CY yFs (yX CV)
theorem yF_many {xs : List D} (h : ¬ (3 ≤ xs.length ∧ xs.length ≤ 12)) : yFx xs = some (-1) := if_neg h
theorem yF_first {xs : List D} (h : 3 ≤ xs.length ∧ xs.length ≤ 12) {i : Nat} {d : D} (hi : xs[i]? = some d) (hd : hOk d = false) (hb : ∀ (j : Nat) (e : D), j < i → xs[j]? = some e → hOk e = true) : yFx xs = some (i : Int) := by
  unfold yFx
  rw [if_pos h]
  have e : xs.findIdx? (fun x => !hOk x) = some i := by
    obtain ⟨hl, ed⟩ := List.getElem?_eq_some_iff.mp hi
    rw [List.findIdx?_eq_some_iff_getElem]
    refine ⟨hl, by rw [ed, hd]; rfl, fun j hj => ?_⟩
    have := hb j xs[j] hj (List.getElem?_eq_getElem (by omega))
    rw [this]
    decide
  rw [e]
  rfl
theorem yF_good {xs : List D} (h : 3 ≤ xs.length ∧ xs.length ≤ 12) (hb : ∀ (j : Nat) (e : D), j < xs.length → xs[j]? = some e → hOk e = true) : yFx xs = none := by
  unfold yFx
  rw [if_pos h]
  have e : xs.findIdx? (fun x => !hOk x) = none := by
    rw [List.findIdx?_eq_none_iff]
    intro x hx
    obtain ⟨j, hj, ej⟩ := List.getElem_of_mem hx
    rw [hb j x hj (by rw [List.getElem?_eq_getElem hj, ej])]
    rfl
  rw [e]
  rfl
theorem whole_int {CY : Addr} {m : Nat} {d : D} (h : Pl CY m d) (e : (isT "int" d && !isT "bool" d) = true) : ∃ i, d = .int i := by
  cases h
  case int i => exact ⟨i, rfl⟩
  all_goals exact absurd e (by show ¬ (false = true); decide)
theorem whole_not {CY : Addr} {m : Nat} {d : D} (h : Pl CY m d) (e : (isT "int" d && !isT "bool" d) = false) : hOk d = false := by
  cases h
  case int i => exact absurd e (by show ¬ (true = false); decide)
  all_goals rfl
theorem fn_YardT {f : Addr} {fd : FuncData} (T : Ty K mg CY CV fV CS fS CN fN CB) (F : Fun K "__init__" "Yard.__init__" s_Yard__init__ f fd) (c_is_whole : Ca P w K mg base CX0 1 "is_whole" ["value"] (sp_whole CY)) : FnOk P w K mg base (L2.CX P w) 2 f fd ["self", "heights"] (sp_yT CY CV) := by
  refine F.okX sc_Yard__init__ (fun vs H Q E h => lenIX h) (fun cdv A outer s H vs Q E hr h => ⟨_, (pss_cons (ps_if (PW.pt (pw_or (pt_not (pt_val (pe_callB call_isiTR (by rfl) T.z_isinstance (by decide +kernel) (pa_cons (pv 1) (pa_cons (pe_tup (pa_cons (pe_bltn rfl T.z_list (by decide +kernel) (v := .ty "list") rfl) (pa_cons (pe_bltn rfl T.z_tuple (by decide +kernel) (v := .ty "tuple") rfl) pa_nil))) pa_nil))))) (pw_or1 (pt_not (pt_chain op_le op_le (pe_globE rfl T.k_FEWEST_STACKS) (pe_callB cr_len (by rfl) T.z_len (by decide +kernel) (pa_cons (pv 1) pa_nil)) (pe_globE rfl T.k_MOST_STACKS))))))
     (pss_one (EX.ps_raiseF rfl T.x_InvalidYard hr (by first | decide | (simp only [Nat.add_eq]; omega)) (takes_of rfl rfl rfl rfl) (pa_cons (pe_un un_neg pe_int) pa_nil)))
     pss_nil)
    (pss_cons (ps_for (passes_of rfl) rfl (EN.pi_enumT (by rfl) T.z_enumerate (pa_cons (pv 1) pa_nil)) (EX.pg_tupk (K := K) (n := 2) rfl rfl (pgs_cons (pg_name (i := 2) sc_Yard__init__.nd rfl (by first | exact Or.inl rfl | exact Or.inr rfl)) (pgs_cons (pg_name (i := 3) sc_Yard__init__.nd rfl (by first | exact Or.inl rfl | exact Or.inr rfl)) pgs_nil)))
     (pss_one (ps_if (PW.pt (pw_or (pt_not (pt_val (pe_ca c_is_whole hr (by first | decide | (simp only [Nat.add_eq]; omega)) pass0 (pa_cons (pv 3) pa_nil)))) (pw_or1 (pt_not (pt_chain op_le op_le pe_int (pv 3) (pe_globE rfl T.k_GREATEST_HEIGHT))))))
      (pss_one (EX.ps_raiseF rfl T.x_InvalidYard hr (by first | decide | (simp only [Nat.add_eq]; omega)) (takes_of rfl rfl rfl rfl) (pa_cons (pv 2) pa_nil)))
      pss_nil)))
    (pss_one (ps_fld (pv 0) (pe_callTy cr_tup (by rfl) T.z_tuple (by decide +kernel) (pa_cons (pv 1) pa_nil)) rfl)))), entryIX (K := K) (by decide) h fun O H0 dx d hl hp => ?_⟩)
  obtain ⟨hp, hn⟩ := hp
  walk_at "d0"
  refine sv_seq (sv_if ?_)
  walk_at "n"
  refine EX.ev_raw ?_
  walk_at "n"
  refine EX.ev_raw ?_
  walk_at "n"
  refine cv_isiLT T.kY hp ?_
  walk_at "n"
  refine ⟨fun e => ?_, fun e => ?_⟩
  · -- a tuple
    obtain ⟨xs, rfl, l1, hxs⟩ : ∃ xs, d = .tup xs ∧ xs.length ≤ 1000 ∧ ∀ x ∈ xs, Pl CY 1000 x := by
      cases hp
      case tup xs h1 h2 => exact ⟨xs, rfl, h1, h2⟩
      case lst xs h1 h2 => exact hn.elim
      all_goals exact absurd e (by show ¬ (true = false); decide)
    walk_at "n"
    refine ev_chain ?_
    walk_at "n"
    refine ⟨fun g => ?_, fun g => ?_⟩
    · have g3 := of_decide_eq_true g
      walk_at "n"
      refine ⟨fun g => ?_, fun g => ?_⟩
      · have g12 := not_of g
        refine sv_raise ?_
        walk_at "n"
        exact ⟨rfl, rfl, -1, yF_many (by omega), rfl⟩
      · have g12 := yes_of g
        have lk : 3 ≤ xs.length ∧ xs.length ≤ 12 := by omega
        walk_at "n"
        refine sv_forT (fun q : D × Nat => D.tup [.int (q.2 : Int), q.1]) (wv_enumT ?_)
        walk_at "n"
        refine ⟨rfl, _, rfl, xs.zipIdx, fun i om' sl' => (∀ (j : Nat) (e : D), j < i → xs[j]? = some e → hOk e = true) ∧ ∃ t2 t3 : Option DL.E, om' = [some (.i CY dx [])] ∧ sl' = [some (.o 0), some (.v (.tup xs)), t2, t3], rfl, ⟨fun j e hj => absurd hj (Nat.not_lt_zero _), _, _, rfl, rfl⟩, ?_, ?_⟩
        · rintro i ⟨x, j⟩ om' sl' ha ⟨hb, t2, t3, rfl, rfl⟩
          have hx := hxs x (List.fst_mem_of_mem_zipIdx (List.mem_of_getElem? ha))
          obtain ⟨he, rfl⟩ := zip_at ha
          refine gv_tup rfl (gsv_cons (gv_name ⟨ltb rfl, gsv_cons (gv_name ⟨ltb rfl, gsv_nil ?_⟩)⟩))
          walk_at "s"
          walk_at "n"
          refine sv_if ?_
          walk_at "n"
          refine cv_G x rfl rfl hx (fun _ _ _ z => z) fun r hr => ?_
          subst hr
          walk_at "n"
          refine ⟨fun w1 => ?_, fun w1 => ?_⟩
          · obtain ⟨h, rfl⟩ := whole_int hx (by revert w1; cases (isT "int" x && !isT "bool" x) <;> decide)
            walk_at "n"
            refine ev_chain ?_
            walk_at "n"
            refine ⟨fun u1 => ?_, fun u1 => ?_⟩
            · have v1 := of_decide_eq_true u1
              walk_at "n"
              refine ⟨fun u2 => ?_, fun u2 => ?_⟩
              · have v2 := not_of u2
                refine sv_raise ?_
                walk_at "n"
                exact ⟨rfl, rfl, (j : Int), yF_first lk he (by show (decide (1 ≤ h) && decide (h ≤ 12)) = false; rw [decide_eq_false v2, Bool.and_false]) hb, rfl⟩
              · have v2 := yes_of u2
                walk_at "n"
                refine ⟨fun m y hm hy => ?_, _, _, rfl, rfl⟩
                rcases Nat.lt_succ_iff_lt_or_eq.mp hm with q | rfl
                · exact hb m y q hy
                · rw [he] at hy
                  cases hy
                  show (decide (1 ≤ h) && decide (h ≤ 12)) = true
                  rw [decide_eq_true v1, decide_eq_true v2]
                  rfl
            · have v1 := of_decide_eq_false u1
              walk_at "n"
              refine ⟨fun _ => ?_, fun z => nomatch z⟩
              refine sv_raise ?_
              walk_at "n"
              exact ⟨rfl, rfl, (j : Int), yF_first lk he (by show (decide (1 ≤ h) && decide (h ≤ 12)) = false; rw [decide_eq_false v1, Bool.false_and]) hb, rfl⟩
          · have bad : hOk x = false := whole_not hx (by revert w1; cases (isT "int" x && !isT "bool" x) <;> decide)
            walk_at "n"
            refine ⟨fun _ => ?_, fun z => nomatch z⟩
            refine sv_raise ?_
            walk_at "n"
            exact ⟨rfl, rfl, (j : Int), yF_first lk he bad hb, rfl⟩
        · rintro om' sl' ⟨hb, t2, t3, rfl, rfl⟩
          rw [List.length_zipIdx] at hb
          refine sv_fldO ?_
          walk_at "n"
          refine ⟨0, CY, dx, [], rfl, rfl, T.cY, T.nY, by decide, ?_⟩
          exact ⟨yF_good lk hb, rfl⟩
    · have g3 := of_decide_eq_false g
      walk_at "n"
      refine ⟨fun _ => ?_, fun z => nomatch z⟩
      refine sv_raise ?_
      walk_at "n"
      exact ⟨rfl, rfl, -1, yF_many (by omega), rfl⟩
  · -- neither a list nor a tuple
    walk_at "n"
    refine ⟨fun _ => ?_, fun z => nomatch z⟩
    refine sv_raise ?_
    walk_at "n"
    refine ⟨rfl, rfl, -1, ?_, rfl⟩
    cases hp
    case tup xs h1 h2 => exact absurd e (by show ¬ (false = true); decide)
    case lst xs h1 h2 => exact hn.elim
    all_goals rfl
theorem fn_YardL {f : Addr} {fd : FuncData} (T : Ty K mg CY CV fV CS fS CN fN CB) (F : Fun K "__init__" "Yard.__init__" s_Yard__init__ f fd) (c_is_whole : Ca P w K mg base CX0 1 "is_whole" ["value"] (sp_whole CY)) : FnOk P w K mg base (L2.CX P w) 2 f fd ["self", "heights"] (sp_yL CY CV) := by
  refine F.okX sc_Yard__init__ (fun vs H Q E h => lenIX h) (fun cdv A outer s H vs Q E hr h => ⟨_, (pss_cons (ps_if (PW.pt (pw_or (pt_not (pt_val (pe_callB call_isiTR (by rfl) T.z_isinstance (by decide +kernel) (pa_cons (pv 1) (pa_cons (pe_tup (pa_cons (pe_bltn rfl T.z_list (by decide +kernel) (v := .ty "list") rfl) (pa_cons (pe_bltn rfl T.z_tuple (by decide +kernel) (v := .ty "tuple") rfl) pa_nil))) pa_nil))))) (pw_or1 (pt_not (pt_chain op_le op_le (pe_globE rfl T.k_FEWEST_STACKS) (pe_callB cr_len (by rfl) T.z_len (by decide +kernel) (pa_cons (pv 1) pa_nil)) (pe_globE rfl T.k_MOST_STACKS))))))
     (pss_one (EX.ps_raiseF rfl T.x_InvalidYard hr (by first | decide | (simp only [Nat.add_eq]; omega)) (takes_of rfl rfl rfl rfl) (pa_cons (pe_un un_neg pe_int) pa_nil)))
     pss_nil)
    (pss_cons (ps_for (passes_of rfl) rfl (pi_enum (by rfl) T.z_enumerate (pa_cons (pv 1) pa_nil)) (EX.pg_tupk (K := K) (n := 2) rfl rfl (pgs_cons (pg_name (i := 2) sc_Yard__init__.nd rfl (by first | exact Or.inl rfl | exact Or.inr rfl)) (pgs_cons (pg_name (i := 3) sc_Yard__init__.nd rfl (by first | exact Or.inl rfl | exact Or.inr rfl)) pgs_nil)))
     (pss_one (ps_if (PW.pt (pw_or (pt_not (pt_val (pe_ca c_is_whole hr (by first | decide | (simp only [Nat.add_eq]; omega)) pass0 (pa_cons (pv 3) pa_nil)))) (pw_or1 (pt_not (pt_chain op_le op_le pe_int (pv 3) (pe_globE rfl T.k_GREATEST_HEIGHT))))))
      (pss_one (EX.ps_raiseF rfl T.x_InvalidYard hr (by first | decide | (simp only [Nat.add_eq]; omega)) (takes_of rfl rfl rfl rfl) (pa_cons (pv 2) pa_nil)))
      pss_nil)))
    (pss_one (ps_fld (pv 0) (pe_callTy cr_tup (by rfl) T.z_tuple (by decide +kernel) (pa_cons (pv 1) pa_nil)) rfl)))), entryIX (K := K) (by decide) h fun O H0 dx xs hl hp => ?_⟩)
  obtain ⟨l1, hxs⟩ : xs.length ≤ 1000 ∧ ∀ x ∈ xs, Pl CY 1000 x := by
    cases hp
    case lst h1 h2 => exact ⟨h1, h2⟩
  walk_at "d0"
  refine sv_seq (sv_if ?_)
  walk_at "n"
  refine EX.ev_raw ?_
  walk_at "n"
  refine EX.ev_raw ?_
  walk_at "n"
  refine cv_isiT2 rfl (b := true) (by rfl) ?_
  walk_at "n"
  refine ⟨fun _ => ?_, fun z => nomatch z⟩
  walk_at "n"
  refine ev_chain ?_
  walk_at "n"
  refine cv_lenL rfl ?_
  walk_at "n"
  refine ⟨fun g => ?_, fun g => ?_⟩
  · have g3 := of_decide_eq_true g
    walk_at "n"
    refine ⟨fun g => ?_, fun g => ?_⟩
    · have g12 := not_of g
      refine sv_raise ?_
      walk_at "n"
      exact ⟨rfl, rfl, -1, yF_many (by omega), rfl⟩
    · have g12 := yes_of g
      have lk : 3 ≤ xs.length ∧ xs.length ≤ 12 := by omega
      walk_at "n"
      refine sv_forT (fun q : D × Nat => D.tup [.int (q.2 : Int), q.1]) (wv_enum ?_)
      walk_at "n"
      refine ⟨rfl, _, rfl, xs.zipIdx, fun i om' sl' => (∀ (j : Nat) (e : D), j < i → xs[j]? = some e → hOk e = true) ∧ ∃ t2 t3 : Option DL.E, om' = [some (.i CY dx [])] ∧ sl' = [some (.o 0), some (.v (.lst xs)), t2, t3], rfl, ⟨fun j e hj => absurd hj (Nat.not_lt_zero _), _, _, rfl, rfl⟩, ?_, ?_⟩
      · rintro i ⟨x, j⟩ om' sl' ha ⟨hb, t2, t3, rfl, rfl⟩
        have hx := hxs x (List.fst_mem_of_mem_zipIdx (List.mem_of_getElem? ha))
        obtain ⟨he, rfl⟩ := zip_at ha
        refine gv_tup rfl (gsv_cons (gv_name ⟨ltb rfl, gsv_cons (gv_name ⟨ltb rfl, gsv_nil ?_⟩)⟩))
        walk_at "s"
        walk_at "n"
        refine sv_if ?_
        walk_at "n"
        refine cv_G x rfl rfl hx (fun _ _ _ z => z) fun r hr => ?_
        subst hr
        walk_at "n"
        refine ⟨fun w1 => ?_, fun w1 => ?_⟩
        · obtain ⟨h, rfl⟩ := whole_int hx (by revert w1; cases (isT "int" x && !isT "bool" x) <;> decide)
          walk_at "n"
          refine ev_chain ?_
          walk_at "n"
          refine ⟨fun u1 => ?_, fun u1 => ?_⟩
          · have v1 := of_decide_eq_true u1
            walk_at "n"
            refine ⟨fun u2 => ?_, fun u2 => ?_⟩
            · have v2 := not_of u2
              refine sv_raise ?_
              walk_at "n"
              exact ⟨rfl, rfl, (j : Int), yF_first lk he (by show (decide (1 ≤ h) && decide (h ≤ 12)) = false; rw [decide_eq_false v2, Bool.and_false]) hb, rfl⟩
            · have v2 := yes_of u2
              walk_at "n"
              refine ⟨fun m y hm hy => ?_, _, _, rfl, rfl⟩
              rcases Nat.lt_succ_iff_lt_or_eq.mp hm with q | rfl
              · exact hb m y q hy
              · rw [he] at hy
                cases hy
                show (decide (1 ≤ h) && decide (h ≤ 12)) = true
                rw [decide_eq_true v1, decide_eq_true v2]
                rfl
          · have v1 := of_decide_eq_false u1
            walk_at "n"
            refine ⟨fun _ => ?_, fun z => nomatch z⟩
            refine sv_raise ?_
            walk_at "n"
            exact ⟨rfl, rfl, (j : Int), yF_first lk he (by show (decide (1 ≤ h) && decide (h ≤ 12)) = false; rw [decide_eq_false v1, Bool.false_and]) hb, rfl⟩
        · have bad : hOk x = false := whole_not hx (by revert w1; cases (isT "int" x && !isT "bool" x) <;> decide)
          walk_at "n"
          refine ⟨fun _ => ?_, fun z => nomatch z⟩
          refine sv_raise ?_
          walk_at "n"
          exact ⟨rfl, rfl, (j : Int), yF_first lk he bad hb, rfl⟩
      · rintro om' sl' ⟨hb, t2, t3, rfl, rfl⟩
        rw [List.length_zipIdx] at hb
        refine sv_fldO ?_
        walk_at "n"
        refine cv_tupL rfl ?_
        walk_at "n"
        refine ⟨0, CY, dx, [], rfl, rfl, T.cY, T.nY, by decide, ?_⟩
        exact ⟨yF_good lk hb, rfl⟩
  · have g3 := of_decide_eq_false g
    walk_at "n"
    refine ⟨fun _ => ?_, fun z => nomatch z⟩
    refine sv_raise ?_
    walk_at "n"
    exact ⟨rfl, rfl, -1, yF_many (by omega), rfl⟩
theorem c_Yard {f : Addr} {fd : FuncData} (T : Ty K mg CY CV fV CS fS CN fN CB) (M : Mk K CY f) (F : Fun K "__init__" "Yard.__init__" s_Yard__init__ f fd) (b : Binds K fd ["self", "heights"] []) (m : mg "Yard" = some (.ref CY)) (c_is_whole : Ca P w K mg base CX0 1 "is_whole" ["value"] (sp_whole CY)) : CaC P w K mg base (L2.CX P w) 2 "Yard" CY ["self", "heights"] (sp_y CY CV) := by
  refine ⟨f, fd, M, FnOk.or (fn_YardT T F c_is_whole) (fn_YardL T F c_is_whole) fun vs H Q E h => ?_, m, b⟩
  obtain ⟨d, H0, x, dx, O, ws, e1, e2, e3, e4, e5, e6, e7, e8, e9, e10, e11⟩ := h
  cases d
  case lst xs => exact .inr ⟨xs, H0, x, dx, O, ws, e1, e2, e3, e4, e5, e6, e7, e8, e9, e10, e11⟩
  all_goals exact .inl ⟨_, H0, x, dx, O, ws, e1, e2, e3, e4, e5, e6, e7, e8, ⟨e9, trivial⟩, e10, e11⟩
end
end K01
set_option Elab.async false
set_option linter.all false
set_option maxRecDepth 100000
set_option maxHeartbeats 4000000
/-! == and != of two objects of one's own class, by its def for == -/
namespace OWN
open PySem PySem.W PySem.Calls PyProof.Rows Builtin
section
variable {prog : Program} {w : World} {A : Around} {E : Value → Shared → Prop} {s : Shared} {K : Frag} {x C L f : Addr} {h₀ : Heap} {m : Str → Option Value} {ox : Obj} {od : Option Obj} {b tb : Value}
theorem ifBoundB {M : Model} {B : String} {name : Str} {id : String} {args : List Value} {Q : Option Value → Shared → Prop} (X : K.In s.heap) (I : InstAt s.heap x ox C od) (hs : findIn K (.ref C) name = some (some (.builtin id))) (S : Slot B name id)
    (h : wpAny M A (call (.builtin id) (.ref x :: args)) (fun v => Q (some v)) E s) : wpAny M A (callSpecialIfBound? (.ref x) name args) Q E s := by
  simp only [callSpecialIfBound?, bindSpecialIfBound?]
  refine wpAny_holding (wpAny_bind (wpAny_bind (wpAny_bind (I.type.here ((looks_findIn X hs).here ?_)))))
  simp only [S.bind]
  refine wpAny_bind (wpAny_askSetting (wpAny_ite ?_))
  have fin : wpAny M A (call (.builtin id) ([.ref x] ++ args) >>= fun v => pure (some v)) Q E s := wpAny_bind (wpAny_mono h (fun v s' h' => wpAny_pure h') fun _ _ h' => h')
  split
  · exact wpAny_bind (wpAny_pure (wpAny_pure fin))
  · exact wpAny_tryCatch (wpAny_bind (wpAny_pure (wpAny_pure fin)))
theorem check_slot {id owner n : String} {rest : List Value} {Q : Unit → Shared → Prop} (X : K.In s.heap) (I : InstAt s.heap x ox C od) (hm : mroIn K C (.type owner) = some true) (hk : builtinKind id = some .slot) (hs : splitId id = some (owner, n))
    (ha : argsOk id ⟨.ref x :: rest, []⟩) (hq : Q () s) : wpAny (model prog w) A (checkBuiltinCall id ⟨.ref x :: rest, []⟩) Q E s := by
  have L : Looks (model prog w) s.heap (isInstance (.ref x) (.type owner)) true := I.type.andThen (looks_mroIn X hm)
  simp only [checkBuiltinCall, hk, hs]
  refine wpAny_bind (L.here ?_)
  rw [if_neg (by decide)]
  cases hsig : Manifest.signature? id with
  | none => exact wpAny_pure hq
  | some sig =>
    simp only [argsOk, hsig] at ha
    have h2 : Bind.checkArgs id sig ⟨.ref x :: rest, []⟩ = pure () := ha
    show wpAny (model prog w) A (Bind.checkArgs id sig ⟨.ref x :: rest, []⟩) Q E _
    rw [h2]
    exact wpAny_pure hq
/-- how the built-in != ends, by the class's own == -/
theorem objNe {y : Addr} (hu : A.units < cLine) (X : K.In s.heap) (I : InstAt s.heap x ox C od) (he : findIn K (.ref C) "__eq__" = some (some (.ref f))) (hf : isFn K (.ref f) = true) {Q : Fin → Shared → Prop}
    (hcall : wpAny (model prog w) A (call (.ref f) [.ref x, .ref y]) (fun v s' => ∃ r, v = .bool r ∧ Q (.done (.ret (.bool (!r)))) s') E s) : wpAny (model prog w) A (Builtin.«object.__ne__» ⟨[.ref x, .ref y], []⟩) Q E s := by
  unfold Builtin.«object.__ne__»
  repeat (first
    | with_reducible refine wpAny_cRoomFor hu ?_
    | (refine wpAny_bind (m := callSpecialIfBound? (.ref x) (Str.ofString "__eq__") [.ref y])
        (ifBound_K X I he hf (wpAny_mono hcall (fun r s' hr => by
          obtain ⟨b, rfl, hq⟩ := hr
          repeat (first | exact hq | exact wpAny_pure hq | exact wpAny_truthy_bool hq | (refine wpAny_bind (m := truthy (.bool _)) (wpAny_truthy_bool ?_)) | wp_step)) fun _ _ e => e)))
    | wp_step)
theorem tryNe {y : Addr} (hu : A.units + 1 < cLine) (X : K.In s.heap) (I : InstAt s.heap x ox C od) (hn : findIn K (.ref C) "__ne__" = some (some (.builtin "object.__ne__"))) (hm : mroIn K C (.type "object") = some true)
    (he : findIn K (.ref C) "__eq__" = some (some (.ref f))) (hf : isFn K (.ref f) = true) {Q : Option Value → Shared → Prop}
    (hcall : wpAny (model prog w) A.in1 (call (.ref f) [.ref x, .ref y]) (fun v s' => ∃ b, v = .bool b ∧ Q (some (.bool (!b))) s') E s) : wpAny (model prog w) A (tryCompare (.ref x) "__ne__" (.ref y)) Q E s := by
  simp only [tryCompare]
  refine wpAny_bind (ifBoundB X I hn F.cmp_object.ne (wpAny_call (codeAny_call_builtin F.cmp_object.ne.plain F.cmpEntry_ne
    (check_slot X I hm F.cmpKind_ne F.cmpSplit_ne (F.cmpArgs_ne _ _)
      (objNe (A := A.in1) hu X I he hf (wpAny_mono hcall (fun v s' hv => ?_) fun _ _ e => e))))))
  obtain ⟨b, rfl, hq⟩ := hv
  first | exact ⟨b, rfl, wpAny_pure hq⟩ | exact ⟨b, rfl, wpAny_pure (wpAny_pure hq)⟩ | exact ⟨b, rfl, hq⟩
theorem richNe {y : Addr} {oy : Obj} {od' : Option Obj} {Q : Value → Shared → Prop} (hu : A.units + 1 < cLine) (X : K.In s.heap) (I : InstAt s.heap x ox C od) (J : InstAt s.heap y oy C od')
    (hn : findIn K (.ref C) "__ne__" = some (some (.builtin "object.__ne__"))) (hm : mroIn K C (.type "object") = some true) (he : findIn K (.ref C) "__eq__" = some (some (.ref f))) (hf : isFn K (.ref f) = true)
    (hcall : wpAny (model prog w) A.in1 (call (.ref f) [.ref x, .ref y]) (fun v s' => ∃ b, v = .bool b ∧ Q (.bool (!b)) s') E s) : wpAny (model prog w) A (compareOp .NotEq (.ref x) (.ref y)) Q E s := by
  unfold compareOp richCompare
  simp only [oneThing_ref]
  refine wpAny_holding (wpAny_bind (wpAny_cRoomFor (Nat.lt_of_succ_lt hu) ?_))
  rw [cmpInfo_NotEq]
  dsimp only
  refine wpAny_bind (I.type.here (wpAny_bind (J.type.here ?_)))
  rw [show (Value.ref C != Value.ref C) = false from by simp]
  simp only [Bool.false_eq_true, if_false]
  refine wpAny_bind (wpAny_pure ?_)
  simp only [Bool.false_eq_true, if_false]
  refine wpAny_bind (tryNe hu X I hn hm he hf (wpAny_mono hcall (fun v s' hv => ?_) fun _ _ e => e))
  obtain ⟨b, rfl, hq⟩ := hv
  first | exact ⟨b, rfl, wpAny_pure hq⟩ | exact ⟨b, rfl, wpAny_pure (wpAny_pure hq)⟩
end
end OWN
namespace L2
open PySem PySem.Spec PyProof.Rows
/-- the class at C has its own ==, by the def at g, and the built-in != -/
structure OEq (K : PySem.W.Frag) (C g : Addr) : Prop where
  ne : PySem.W.findIn K (.ref C) "__ne__" = some (some (.builtin "object.__ne__"))
  ob : PySem.W.mroIn K C (.type "object") = some true
  eq : PySem.W.findIn K (.ref C) "__eq__" = some (some (.ref g))
  fn : PySem.W.isFn K (.ref g) = true
  nf : PySem.W.notFirst K C (.ref C) = true
def rNeO (C : Addr) (sp : Sp) (E : XK) : R2 := fun x y H Q => ∃ a dx vs b dy ws, x = .ref a ∧ y = .ref b ∧ H a = some (.ins C dx vs) ∧ H b = some (.ins C dy ws) ∧ sp [x, y] H (fun v H' => ∃ r, v = .bl r ∧ Q (.bl (!r)) H') E
def rEqO (C : Addr) (sp : Sp) (E : XK) : R2 := fun x y H Q => ∃ a dx vs b dy ws, x = .ref a ∧ y = .ref b ∧ H a = some (.ins C dx vs) ∧ H b = some (.ins C dy ws) ∧ sp [x, y] H (fun v H' => ∃ r, v = .bl r ∧ Q (.bl r) H') E
/-- what a class's own == does -/
def CaM (P : Program) (w : World) (K : PySem.W.Frag) (mg : Str → Option Value) (base : Heap) (CX : CXT) (k : Nat) (C : Addr) (sp : Sp) : Prop := ∃ g gd ps, OEq K C g ∧ FnOk P w K mg base CX k g gd ps sp ∧ Binds K gd ps []
section
variable {X : Cx} {CX : CXT} {C : Addr} {k : Nat} {sp : Sp} {E : XK}
theorem op_neO (m : CaM X.prog X.w X.K X.mg X.base CX k C sp) (hr : Room (k + 1) X.A) (hx : Passes CX X E) : OpR X (compareOp .NotEq) (rNeO C sp E) := by
  intro pins s σ H x y v u Q I rx ry h
  obtain ⟨g, gd, ps, q, F, hb⟩ := m
  obtain ⟨a, dx, vs, b, dy, ws, rfl, rfl, ha, hb', h⟩ := h
  cases (show v = Value.ref a from rx)
  cases (show u = Value.ref b from ry)
  obtain ⟨mA, O, _⟩ := ins_get I.hok ha
  obtain ⟨mB, O', _⟩ := ins_get I.hok hb'
  obtain ⟨od, J, _⟩ := O.look
  obtain ⟨od', J', _⟩ := O'.look
  have F' := FnOk.raw (dvs := []) F hb .nil
  refine OWN.richNe (by have := hr.un; omega) I.kIn J J' q.ne q.ob q.eq q.fn ?_
  refine wpAny_mono (wpAny_call (SlX.run_at (us := [.ref a, .ref b]) (ws := [.ref a, .ref b]) F' hr.in1 I.env0.in1 hx I (.cons rfl (.cons rfl .nil)) h)) (fun w s' z => ?_) fun _ _ x => x
  obtain ⟨z', H', I', rz, r, rfl, qz⟩ := z
  exact ⟨r, rz, .bl (!r), H', I', rfl, qz⟩
theorem op_eqO (m : CaM X.prog X.w X.K X.mg X.base CX k C sp) (hr : Room (k + 1) X.A) (hx : Passes CX X E) : OpR X (compareOp .Eq) (rEqO C sp E) := by
  intro pins s σ H x y v u Q I rx ry h
  obtain ⟨g, gd, ps, q, F, hb⟩ := m
  obtain ⟨a, dx, vs, b, dy, ws, rfl, rfl, ha, hb', h⟩ := h
  cases (show v = Value.ref a from rx)
  cases (show u = Value.ref b from ry)
  obtain ⟨mA, O, _⟩ := ins_get I.hok ha
  obtain ⟨mB, O', _⟩ := ins_get I.hok hb'
  obtain ⟨od, J, _⟩ := O.look
  obtain ⟨od', J', _⟩ := O'.look
  have F' := FnOk.raw (dvs := []) F hb .nil
  obtain ⟨m, hF⟩ := I.fr
  show wpAny (model X.prog X.w) X.A (richCompare .Eq (.ref a) (.ref b)) _ _ _
  refine PySem.W.cmp_K (op := .Eq) (tb := .ref C) hr.units0 hF I.ok.mod.kin J J'.type q.nf q.eq q.fn ?_
  refine wpAny_mono (wpAny_call (SlX.run_at (us := [.ref a, .ref b]) (ws := [.ref a, .ref b]) F' (hr.mono (Nat.le_succ k)) I.env0 hx I (.cons rfl (.cons rfl .nil)) h)) (fun w s' z => ?_) fun _ _ x => x
  obtain ⟨z', H', I', rz, r, rfl, qz⟩ := z
  exact SlX.cmpback rz ⟨_, H', I', rz, qz⟩
end
end L2
namespace DL
open PySem PySem.Spec PyProof.Rows L2
section
variable {c : Cn} {om : Om} {sl : Sl} {P : E → Om → Prop}
theorem ov_neO {C : Addr} {sp : Sp} {Ew : XK} {gs hs : List (Str × D)} (h : CV c (fun vs H Q => sp vs H Q Ew) om sl [.v (.obj C gs), .v (.obj C hs)] fun e om' => ∃ r, e = .v (.bl r) ∧ P (.v (.bl (!r))) om') : OV c (rNeO C sp Ew) om sl (.v (.obj C gs)) (.v (.obj C hs)) P := fun σ H O ps s v w rv rw' Q k => by
  have q1 : Rl O H v (.obj C gs) := rv
  have q2 : Rl O H w (.obj C hs) := rw'
  have hh := h σ H O ps s [v, w] (.cons rv (.cons rw' .nil)) (fun v H' => ∃ r, v = .bl r ∧ Q (.bl (!r)) H') fun v' H' O' ps' e om' g st re ⟨r, he, p⟩ => by
    subst he
    cases (show Rl O' H' v' (.bl r) from re)
    exact ⟨r, rfl, k _ H' O' ps' (.v (.bl _)) om' g st (Rl.bl _) p⟩
  cases q1 with
  | obj ha hr hx =>
    cases q2 with
    | obj ha2 hr2 hx2 => exact ⟨_, _, _, _, _, _, rfl, rfl, hr, hr2, hh⟩
theorem ov_eqO {C : Addr} {sp : Sp} {Ew : XK} {gs hs : List (Str × D)} (h : CV c (fun vs H Q => sp vs H Q Ew) om sl [.v (.obj C gs), .v (.obj C hs)] fun e om' => ∃ r, e = .v (.bl r) ∧ P (.v (.bl r)) om') : OV c (rEqO C sp Ew) om sl (.v (.obj C gs)) (.v (.obj C hs)) P := fun σ H O ps s v w rv rw' Q k => by
  have q1 : Rl O H v (.obj C gs) := rv
  have q2 : Rl O H w (.obj C hs) := rw'
  have hh := h σ H O ps s [v, w] (.cons rv (.cons rw' .nil)) (fun v H' => ∃ r, v = .bl r ∧ Q (.bl r) H') fun v' H' O' ps' e om' g st re ⟨r, he, p⟩ => by
    subst he
    cases (show Rl O' H' v' (.bl r) from re)
    exact ⟨r, rfl, k _ H' O' ps' (.v (.bl _)) om' g st (Rl.bl _) p⟩
  cases q1 with
  | obj ha hr hx =>
    cases q2 with
    | obj ha2 hr2 hx2 => exact ⟨_, _, _, _, _, _, rfl, rfl, hr, hr2, hh⟩
end
end DL
set_option Elab.async false
set_option linter.all false
set_option maxRecDepth 100000
set_option maxHeartbeats 4000000
/-! != of an object of one's own class and a list or a tuple -/
namespace OWN
open PySem PySem.W PySem.Calls PyProof.Rows Builtin
section
variable {prog : Program} {w : World} {A : Around} {E : Value → Shared → Prop} {s : Shared} {K : Frag} {x C f : Addr} {ox : Obj} {od : Option Obj} {tb : Value}
theorem richNeT {y : Addr} {Q : Value → Shared → Prop} (hu : A.units + 1 < cLine) (X : K.In s.heap) (I : InstAt s.heap x ox C od) (J : Looks (model prog w) s.heap (typeOf (.ref y)) tb) (nf : notFirst K C tb = true)
    (hn : findIn K (.ref C) "__ne__" = some (some (.builtin "object.__ne__"))) (hm : mroIn K C (.type "object") = some true) (he : findIn K (.ref C) "__eq__" = some (some (.ref f))) (hf : isFn K (.ref f) = true)
    (hcall : wpAny (model prog w) A.in1 (call (.ref f) [.ref x, .ref y]) (fun v s' => ∃ b, v = .bool b ∧ Q (.bool (!b)) s') E s) : wpAny (model prog w) A (compareOp .NotEq (.ref x) (.ref y)) Q E s := by
  have one : wpAny (model prog w) A (tryCompare (.ref x) "__ne__" (.ref y)) (fun r s' => ∃ v, r = some v ∧ Q v s') E s := tryNe hu X I hn hm he hf (wpAny_mono hcall (fun v s' hv => by obtain ⟨b, e, hq⟩ := hv; exact ⟨b, e, _, rfl, hq⟩) fun _ _ e => e)
  unfold compareOp richCompare
  simp only [oneThing_ref]
  refine wpAny_holding (wpAny_bind (wpAny_cRoomFor (Nat.lt_of_succ_lt hu) ?_))
  rw [cmpInfo_NotEq]
  dsimp only
  refine wpAny_bind (I.type.here (wpAny_bind (J.here ?_)))
  split
  · rename_i q
    have e : subIn K tb (.ref C) = some false := by
      rcases Bool.or_eq_true_iff.mp nf with e | e
      · rw [beq_iff_eq.mp e] at q
        simp at q
      · exact beq_iff_eq.mp e
    refine wpAny_bind ((looks_subIn X e).here ?_)
    simp only [Bool.false_eq_true, if_false]
    refine wpAny_bind (wpAny_mono one (fun r s' z => ?_) fun _ _ e => e)
    obtain ⟨v, rfl, hq⟩ := z
    exact wpAny_pure hq
  · refine wpAny_bind (wpAny_pure ?_)
    simp only [Bool.false_eq_true, if_false]
    refine wpAny_bind (wpAny_mono one (fun r s' z => ?_) fun _ _ e => e)
    obtain ⟨v, rfl, hq⟩ := z
    exact wpAny_pure hq
end
end OWN
namespace L2
open PySem PySem.Spec PyProof.Rows
/-- != of an own object and one of the built-in class t -/
def rNeA (K : PySem.W.Frag) (C : Addr) (sp : Sp) (E : XK) : R2 := fun x y H Q => ∃ a dx vs b t, x = .ref a ∧ y = .ref b ∧ H a = some (.ins C dx vs) ∧ TyX K H y t ∧ PySem.W.notFirst K C t = true ∧ sp [x, y] H (fun v H' => ∃ r, v = .bl r ∧ Q (.bl (!r)) H') E
section
variable {X : Cx} {CX : CXT} {C : Addr} {k : Nat} {sp : Sp} {E : XK}
theorem op_neA (m : CaM X.prog X.w X.K X.mg X.base CX k C sp) (hr : Room (k + 1) X.A) (hx : Passes CX X E) : OpR X (compareOp .NotEq) (rNeA X.K C sp E) := by
  intro pins s σ H x y v u Q I rx ry h
  obtain ⟨g, gd, ps, q, F, hb⟩ := m
  obtain ⟨a, dx, vs, b, t, rfl, rfl, ha, ty, nf, h⟩ := h
  obtain ⟨Pr, Z, pz, _⟩ := kit_of I ry ty
  have J := Z.ty (model X.prog X.w) _ I.kIn pz
  cases (show v = Value.ref a from rx)
  cases (show u = Value.ref b from ry)
  obtain ⟨mA, O, _⟩ := ins_get I.hok ha
  obtain ⟨od, J0, _⟩ := O.look
  have F' := FnOk.raw (dvs := []) F hb .nil
  refine OWN.richNeT (by have := hr.un; omega) I.kIn J0 J nf q.ne q.ob q.eq q.fn ?_
  refine wpAny_mono (wpAny_call (SlX.run_at (us := [.ref a, .ref b]) (ws := [.ref a, .ref b]) F' hr.in1 I.env0.in1 hx I (.cons rfl (.cons rfl .nil)) h)) (fun w s' z => ?_) fun _ _ x => x
  obtain ⟨z', H', I', rz, r, rfl, qz⟩ := z
  exact ⟨r, rz, .bl (!r), H', I', rfl, qz⟩
end
end L2
namespace DL
open PySem PySem.Spec PyProof.Rows L2
section
variable {c : Cn} {om : Om} {sl : Sl} {P : E → Om → Prop}
theorem ov_neAt {C : Addr} {sp : Sp} {Ew : XK} {gs : List (Str × D)} {xs : List D} (nf : PySem.W.notFirst c.K C (.type "tuple") = true) (h : CV c (fun vs H Q => sp vs H Q Ew) om sl [.v (.obj C gs), .v (.tup xs)] fun e om' => ∃ r, e = .v (.bl r) ∧ P (.v (.bl (!r))) om') : OV c (rNeA c.K C sp Ew) om sl (.v (.obj C gs)) (.v (.tup xs)) P := fun σ H O ps s v w rv rw' Q k => by
  have q1 : Rl O H v (.obj C gs) := rv
  have q2 : Rl O H w (.tup xs) := rw'
  have hh := h σ H O ps s [v, w] (.cons rv (.cons rw' .nil)) (fun v H' => ∃ r, v = .bl r ∧ Q (.bl (!r)) H') fun v' H' O' ps' e om' g st re ⟨r, he, p⟩ => by
    subst he
    cases (show Rl O' H' v' (.bl r) from re)
    exact ⟨r, rfl, k _ H' O' ps' (.v (.bl _)) om' g st (Rl.bl _) p⟩
  cases q1 with
  | obj ha hr hx =>
    cases q2 with
    | tup ha2 hr2 hx2 => exact ⟨_, _, _, _, _, rfl, rfl, hr, hr2.elim (fun h => .base (.tup h)) (fun ⟨o, h⟩ => .fTuple h), nf, hh⟩
theorem ov_neAl {C : Addr} {sp : Sp} {Ew : XK} {gs : List (Str × D)} {xs : List D} (nf : PySem.W.notFirst c.K C (.type "list") = true) (h : CV c (fun vs H Q => sp vs H Q Ew) om sl [.v (.obj C gs), .v (.lst xs)] fun e om' => ∃ r, e = .v (.bl r) ∧ P (.v (.bl (!r))) om') : OV c (rNeA c.K C sp Ew) om sl (.v (.obj C gs)) (.v (.lst xs)) P := fun σ H O ps s v w rv rw' Q k => by
  have q1 : Rl O H v (.obj C gs) := rv
  have q2 : Rl O H w (.lst xs) := rw'
  have hh := h σ H O ps s [v, w] (.cons rv (.cons rw' .nil)) (fun v H' => ∃ r, v = .bl r ∧ Q (.bl (!r)) H') fun v' H' O' ps' e om' g st re ⟨r, he, p⟩ => by
    subst he
    cases (show Rl O' H' v' (.bl r) from re)
    exact ⟨r, rfl, k _ H' O' ps' (.v (.bl _)) om' g st (Rl.bl _) p⟩
  cases q1 with
  | obj ha hr hx =>
    cases q2 with
    | lst ha2 hr2 hx2 => exact ⟨_, _, _, _, _, rfl, rfl, hr, .base (.lst hr2), nf, hh⟩
end
end DL
/-! moves, walks, ways back and bare walks over rows: plain data -/
namespace MV
variable {α : Type}
abbrev Mv := Nat × Nat
def g (rows : List (List α)) (i : Nat) : List α := rows.getD i []
def stp (rows : List (List α)) (m : Mv) : List (List α) := (rows.set m.1 (g rows m.1).dropLast).set m.2 (g rows m.2 ++ (g rows m.1).drop ((g rows m.1).length - 1))
structure Can (hs : List Int) (rows : List (List α)) (m : Mv) : Prop where
  a : m.1 < rows.length
  b : m.2 < rows.length
  ne : m.1 ≠ m.2
  full : g rows m.1 ≠ []
  room : ((g rows m.2).length : Int) < hs.getD m.2 0
theorem g_of {rows : List (List α)} {i : Nat} {r : List α} (h : rows[i]? = some r) : g rows i = r := by
  unfold g
  rw [List.getD_eq_getElem?_getD, h]
  rfl
theorem of_g {rows : List (List α)} {i : Nat} (h : i < rows.length) : rows[i]? = some (g rows i) := by
  unfold g
  rw [List.getD_eq_getElem?_getD, List.getElem?_eq_getElem h]
  rfl
theorem g_ext {a b : List (List α)} (hl : a.length = b.length) (h : ∀ i, i < a.length → g a i = g b i) : a = b := by
  refine List.ext_getElem? fun i => ?_
  by_cases hi : i < a.length
  · rw [of_g hi, of_g (hl ▸ hi), h i hi]
  · rw [List.getElem?_eq_none (by omega), List.getElem?_eq_none (by omega)]
theorem g_set {rows : List (List α)} {i j : Nat} {r : List α} (h : i < rows.length) : g (rows.set i r) j = if j = i then r else g rows j := by
  unfold g
  rw [List.getD_eq_getElem?_getD, List.getD_eq_getElem?_getD, List.getElem?_set]
  by_cases e : i = j
  · rw [if_pos e, if_pos h, if_pos e.symm]; rfl
  · rw [if_neg e, if_neg (fun z => e z.symm)]
theorem len_stp (rows : List (List α)) (m : Mv) : (stp rows m).length = rows.length := by
  unfold stp
  rw [List.length_set, List.length_set]
theorem g_stp {rows : List (List α)} {m : Mv} (a : m.1 < rows.length) (b : m.2 < rows.length) (i : Nat) : g (stp rows m) i = if i = m.2 then g rows m.2 ++ (g rows m.1).drop ((g rows m.1).length - 1) else if i = m.1 then (g rows m.1).dropLast else g rows i := by
  unfold stp
  rw [g_set (by rw [List.length_set]; exact b), g_set a]
theorem snoc_of {l : List α} (h : l ≠ []) : ∃ l0 x, l = l0 ++ [x] := ⟨_, _, (List.dropLast_concat_getLast h).symm⟩
theorem drop_snoc (l : List α) (x : α) : (l ++ [x]).drop ((l ++ [x]).length - 1) = [x] := by
  rw [List.length_append, List.length_singleton, Nat.add_sub_cancel, List.drop_left]
def sw (m : Mv) : Mv := (m.2, m.1)
/-- what a move does, told by its box -/
theorem Can.box {hs : List Int} {rows : List (List α)} {m : Mv} (c : Can hs rows m) : ∃ l x, g rows m.1 = l ++ [x] ∧ ∀ i, g (stp rows m) i = if i = m.2 then g rows m.2 ++ [x] else if i = m.1 then l else g rows i := by
  obtain ⟨l, x, e⟩ := snoc_of c.full
  refine ⟨l, x, e, fun i => ?_⟩
  rw [g_stp c.a c.b, e, drop_snoc, List.dropLast_concat]
theorem Can.back {hs : List Int} {rows : List (List α)} {m : Mv} (c : Can hs rows m) (fit : ((g rows m.1).length : Int) ≤ hs.getD m.1 0) : Can hs (stp rows m) (sw m) ∧ stp (stp rows m) (sw m) = rows := by
  obtain ⟨l, x, e, q⟩ := c.box
  have q1 : g (stp rows m) m.1 = l := by rw [q, if_neg c.ne, if_pos rfl]
  have q2 : g (stp rows m) m.2 = g rows m.2 ++ [x] := by rw [q, if_pos rfl]
  have c' : Can hs (stp rows m) (sw m) := by
    refine ⟨by rw [len_stp]; exact c.b, by rw [len_stp]; exact c.a, fun z => c.ne z.symm, ?_, ?_⟩
    · show g (stp rows m) m.2 ≠ []
      rw [q2]
      simp
    · show ((g (stp rows m) m.1).length : Int) < hs.getD m.1 0
      rw [q1]
      rw [e, List.length_append, List.length_singleton] at fit
      omega
  refine ⟨c', g_ext (by rw [len_stp, len_stp]) fun i hi => ?_⟩
  have e2 : g (stp rows m) (sw m).1 = g rows m.2 ++ [x] := q2
  rw [g_stp c'.a c'.b, e2, drop_snoc, List.dropLast_concat]
  show (if i = m.1 then g (stp rows m) m.1 ++ [x] else if i = m.2 then g rows m.2 else g (stp rows m) i) = g rows i
  rw [q1, q]
  by_cases h1 : i = m.1
  · rw [if_pos h1, h1, e]
  · rw [if_neg h1]
    by_cases h2 : i = m.2
    · rw [if_pos h2, h2]
    · rw [if_neg h2, if_neg h2, if_neg h1]
/-- two moves of one box are one -/
theorem Can.join {hs : List Int} {rows : List (List α)} {a s o : Nat} (c : Can hs rows (a, s)) (c2 : Can hs (stp rows (a, s)) (s, o)) (ne : a ≠ o) : Can hs rows (a, o) ∧ stp rows (a, o) = stp (stp rows (a, s)) (s, o) := by
  obtain ⟨l, x, e, q⟩ := c.box
  dsimp only at e q
  have hs1 : a ≠ s := c.ne
  have hs2 : s ≠ o := c2.ne
  have hb : o < rows.length := by have := c2.b; rw [len_stp] at this; exact this
  have q3 : g (stp rows (a, s)) o = g rows o := by rw [q, if_neg (fun z => hs2 z.symm), if_neg (fun z => ne z.symm)]
  have c3 : Can hs rows (a, o) := ⟨c.a, hb, ne, c.full, by have := c2.room; dsimp only at this ⊢; rwa [q3] at this⟩
  refine ⟨c3, g_ext (by rw [len_stp, len_stp, len_stp]) fun i hi => ?_⟩
  have e2 : g (stp rows (a, s)) s = g rows s ++ [x] := by rw [q, if_pos rfl]
  rw [g_stp c3.a c3.b, g_stp c2.a c2.b]
  dsimp only
  rw [e, drop_snoc, List.dropLast_concat, e2, drop_snoc, List.dropLast_concat, q3, q]
  by_cases h1 : i = o
  · rw [if_pos h1, if_pos h1]
  · rw [if_neg h1, if_neg h1]
    by_cases h2 : i = a
    · rw [if_pos h2]
      by_cases h3 : i = s
      · exact absurd (h2.symm.trans h3) hs1
      · rw [if_neg h3, if_neg h3]
        try rw [if_pos h2]
    · rw [if_neg h2]
      by_cases h3 : i = s
      · rw [if_pos h3, h3]
      · rw [if_neg h3, if_neg h3]
        try rw [if_neg h2]

/-! ### what a move keeps -/
theorem flat_perm : ∀ {rows : List (List α)} {i : Nat} {r : List α} {x : α}, rows[i]? = some (r ++ [x]) → rows.flatten.Perm (x :: (rows.set i r).flatten)
  | [], _, _, _, e => by simp at e
  | r0 :: rows, 0, r, x, e => by
    have e' : r0 = r ++ [x] := by simpa using e
    subst e'
    rw [List.set_cons_zero, List.flatten_cons, List.flatten_cons, List.append_assoc]
    exact List.perm_middle
  | r0 :: rows, i + 1, r, x, e => by
    rw [List.set_cons_succ, List.flatten_cons, List.flatten_cons]
    exact ((flat_perm (rows := rows) (by simpa using e)).append_left r0).trans List.perm_middle
theorem flat_app : ∀ {rows : List (List α)} {i : Nat} {r : List α} {x : α}, rows[i]? = some r → (rows.set i (r ++ [x])).flatten.Perm (x :: rows.flatten)
  | [], _, _, _, e => by simp at e
  | r0 :: rows, 0, r, x, e => by
    have e' : r0 = r := by simpa using e
    subst e'
    rw [List.set_cons_zero, List.flatten_cons, List.flatten_cons, List.append_assoc]
    exact List.perm_middle
  | r0 :: rows, i + 1, r, x, e => by
    rw [List.set_cons_succ, List.flatten_cons, List.flatten_cons]
    exact ((flat_app (rows := rows) (by simpa using e)).append_left r0).trans List.perm_middle
theorem Can.perm {hs : List Int} {rows : List (List α)} {m : Mv} (c : Can hs rows m) : (stp rows m).flatten.Perm rows.flatten := by
  obtain ⟨l, x, e, q⟩ := c.box
  have e1 : rows[m.1]? = some (l ++ [x]) := by rw [of_g c.a, e]
  have e2 : (rows.set m.1 l)[m.2]? = some (g rows m.2) := by rw [List.getElem?_set, if_neg c.ne, of_g c.b]
  unfold stp
  rw [e, drop_snoc, List.dropLast_concat]
  exact (flat_app e2).trans (flat_perm e1).symm
/-- no row is longer than its height -/
def Fit (hs : List Int) (rows : List (List α)) : Prop := ∀ (j : Nat) (row : List α) (h : Int), rows[j]? = some row → hs[j]? = some h → (row.length : Int) ≤ h
theorem Fit.g {hs : List Int} {rows : List (List α)} (f : Fit hs rows) (hl : rows.length = hs.length) {i : Nat} (hi : i < rows.length) : ((g rows i).length : Int) ≤ hs.getD i 0 := by
  refine f i _ _ (of_g hi) ?_
  rw [List.getD_eq_getElem?_getD, List.getElem?_eq_getElem (hl ▸ hi)]
  rfl
theorem Fit.of_g {hs : List Int} {rows : List (List α)} (hl : rows.length = hs.length) (h : ∀ i, i < rows.length → ((MV.g rows i).length : Int) ≤ hs.getD i 0) : Fit hs rows := by
  intro j row x e1 e2
  have hj : j < rows.length := (List.getElem?_eq_some_iff.mp e1).1
  have := h j hj
  rw [g_of e1, List.getD_eq_getElem?_getD, e2] at this
  exact this
theorem Can.fit {hs : List Int} {rows : List (List α)} {m : Mv} (c : Can hs rows m) (hl : rows.length = hs.length) (f : Fit hs rows) : Fit hs (stp rows m) := by
  obtain ⟨l, x, e, q⟩ := c.box
  refine Fit.of_g (by rw [len_stp]; exact hl) fun i hi => ?_
  rw [len_stp] at hi
  have h0 := f.g hl hi
  rw [q]
  by_cases h1 : i = m.2
  · rw [if_pos h1, List.length_append, List.length_singleton, h1]
    have := c.room
    omega
  · rw [if_neg h1]
    by_cases h2 : i = m.1
    · rw [if_pos h2]
      rw [h2, e, List.length_append] at h0
      rw [h2]
      omega
    · rw [if_neg h2]
      exact h0

/-! ### walks -/
def fin (rows : List (List α)) (w : List Mv) : List (List α) := w.foldl stp rows
def Way (hs : List Int) : List (List α) → List Mv → Prop
  | _, [] => True
  | rows, m :: w => Can hs rows m ∧ Way hs (stp rows m) w
def runs : List (List α) → List Mv → List (List (List α))
  | rows, [] => [rows]
  | rows, m :: w => rows :: runs (stp rows m) w
theorem fin_cons (rows : List (List α)) (m : Mv) (w : List Mv) : fin rows (m :: w) = fin (stp rows m) w := rfl
theorem fin_app (rows : List (List α)) (v w : List Mv) : fin rows (v ++ w) = fin (fin rows v) w := List.foldl_append
theorem fin_snoc (rows : List (List α)) (v : List Mv) (m : Mv) : fin rows (v ++ [m]) = stp (fin rows v) m := fin_app rows v [m]
theorem way_app {hs : List Int} : ∀ {v w : List Mv} {rows : List (List α)}, Way hs rows (v ++ w) ↔ Way hs rows v ∧ Way hs (fin rows v) w
  | [], _, _ => ⟨fun h => ⟨trivial, h⟩, fun h => h.2⟩
  | m :: v, w, rows => by
    have ih := way_app (hs := hs) (v := v) (w := w) (rows := stp rows m)
    exact ⟨fun h => ⟨⟨h.1, (ih.mp h.2).1⟩, (ih.mp h.2).2⟩, fun h => ⟨h.1.1, ih.mpr ⟨h.1.2, h.2⟩⟩⟩
theorem way_snoc {hs : List Int} {v : List Mv} {m : Mv} {rows : List (List α)} : Way hs rows (v ++ [m]) ↔ Way hs rows v ∧ Can hs (fin rows v) m :=
  way_app.trans ⟨fun h => ⟨h.1, h.2.1⟩, fun h => ⟨h.1, h.2, trivial⟩⟩
theorem runs_snoc : ∀ (v : List Mv) (m : Mv) (rows : List (List α)), runs rows (v ++ [m]) = runs rows v ++ [stp (fin rows v) m]
  | [], _, _ => rfl
  | a :: v, m, rows => by
    show rows :: runs (stp rows a) (v ++ [m]) = _
    rw [runs_snoc v m (stp rows a)]
    rfl
theorem runs_len : ∀ (v : List Mv) (rows : List (List α)), (runs rows v).length = v.length + 1
  | [], _ => rfl
  | m :: v, rows => by
    show (runs (stp rows m) v).length + 1 = _
    rw [runs_len v (stp rows m)]
    rfl
theorem runs_at : ∀ (v : List Mv) (rows : List (List α)) (i : Nat), i ≤ v.length → (runs rows v)[i]? = some (fin rows (v.take i))
  | [], _, 0, _ => rfl
  | [], _, i + 1, h => absurd h (by simp)
  | m :: v, rows, 0, _ => rfl
  | m :: v, rows, i + 1, h => by
    show (rows :: runs (stp rows m) v)[i + 1]? = _
    rw [List.getElem?_cons_succ, runs_at v (stp rows m) i (by simpa using h)]
    rfl
theorem runs_last (v : List Mv) (rows : List (List α)) : (runs rows v)[v.length]? = some (fin rows v) := by
  rw [runs_at v rows _ (Nat.le_refl _), List.take_length]
/-- what each move keeps, a walk keeps -/
theorem way_keeps {hs : List Int} {I : List (List α) → Prop} (st : ∀ rows m, I rows → Can hs rows m → I (stp rows m)) : ∀ {w : List Mv} {rows : List (List α)}, I rows → Way hs rows w → I (fin rows w)
  | [], _, h, _ => h
  | m :: w, rows, h, c => way_keeps st (w := w) (st rows m h c.1) c.2
theorem way_take {hs : List Int} {w : List Mv} {rows : List (List α)} (h : Way hs rows w) (n : Nat) : Way hs rows (w.take n) := by
  rw [← List.take_append_drop n w] at h
  exact (way_app.mp h).1
theorem way_at {hs : List Int} {w : List Mv} {rows : List (List α)} (h : Way hs rows w) {i : Nat} {m : Mv} (e : w[i]? = some m) : Can hs (fin rows (w.take i)) m := by
  have h1 := way_take h (i + 1)
  rw [List.take_succ, e] at h1
  exact (way_snoc.mp h1).2
def back (w : List Mv) : List Mv := w.reverse.map sw
theorem back_cons (m : Mv) (w : List Mv) : back (m :: w) = back w ++ [sw m] := by
  unfold back
  rw [List.reverse_cons, List.map_append]
  rfl
structure Okk (hs : List Int) (rows : List (List α)) : Prop where
  len : rows.length = hs.length
  fit : Fit hs rows
theorem Okk.stp {hs : List Int} {rows : List (List α)} {m : Mv} (o : Okk hs rows) (c : Can hs rows m) : Okk hs (stp rows m) := ⟨by rw [len_stp]; exact o.len, c.fit o.len o.fit⟩
theorem way_back {hs : List Int} : ∀ {w : List Mv} {rows : List (List α)}, Okk hs rows → Way hs rows w → Way hs (fin rows w) (back w) ∧ fin (fin rows w) (back w) = rows ∧ runs (fin rows w) (back w) = (runs rows w).reverse
  | [], _, _, _ => ⟨trivial, rfl, rfl⟩
  | m :: w, rows, o, h => by
    obtain ⟨h1, h2, h3⟩ := way_back (w := w) (o.stp h.1) h.2
    obtain ⟨b1, b2⟩ := h.1.back (o.fit.g o.len h.1.a)
    rw [back_cons, fin_cons]
    refine ⟨way_snoc.mpr ⟨h1, by rw [h2]; exact b1⟩, by rw [fin_snoc, h2, b2], ?_⟩
    rw [runs_snoc, h2, b2, h3]
    show _ = (rows :: runs (MV.stp rows m) w).reverse
    rw [List.reverse_cons]

/-! ### the boxes that a walk lifts -/
def bx (d : α) (rows : List (List α)) (m : Mv) : α := (g rows m.1).getLastD d
def lif (d : α) : List (List α) → List Mv → List α
  | _, [] => []
  | rows, m :: w => bx d rows m :: lif d (stp rows m) w
theorem lif_app (d : α) : ∀ (v w : List Mv) (rows : List (List α)), lif d rows (v ++ w) = lif d rows v ++ lif d (fin rows v) w
  | [], _, _ => rfl
  | m :: v, w, rows => by
    show bx d rows m :: lif d (stp rows m) (v ++ w) = _
    rw [lif_app d v w]
    rfl
theorem lif_snoc (d : α) (v : List Mv) (m : Mv) (rows : List (List α)) : lif d rows (v ++ [m]) = lif d rows v ++ [bx d (fin rows v) m] := lif_app d v [m] rows
theorem lif_mem {d : α} : ∀ {w : List Mv} {rows : List (List α)} {y : α}, y ∈ lif d rows w ↔ ∃ i m, w[i]? = some m ∧ y = bx d (fin rows (w.take i)) m
  | [], _, _ => ⟨fun h => (nomatch h), fun ⟨_, _, h, _⟩ => by simp at h⟩
  | m :: w, rows, y => by
    show y ∈ bx d rows m :: lif d (stp rows m) w ↔ _
    rw [List.mem_cons, lif_mem (w := w)]
    constructor
    · rintro (h | ⟨i, n, h1, h2⟩)
      · exact ⟨0, m, rfl, h⟩
      · exact ⟨i + 1, n, by simpa using h1, h2⟩
    · rintro ⟨i, n, h1, h2⟩
      cases i with
      | zero =>
        have e : m = n := by simpa using h1
        exact .inl (e ▸ h2)
      | succ i => exact .inr ⟨i, n, by simpa using h1, h2⟩
theorem bx_last {d x : α} {rows : List (List α)} {m : Mv} {l : List α} (e : g rows m.1 = l ++ [x]) : bx d rows m = x := by
  unfold bx
  rw [e]
  simp

/-! ### bare walks -/
def bstep (b : List Mv) (m : Mv) : List Mv :=
  match b.getLast? with
  | some l => if l.2 = m.1 then (if l.1 = m.2 then b.dropLast else b.dropLast ++ [(l.1, m.2)]) else b ++ [m]
  | none => [m]
def bare (w : List Mv) : List Mv := w.foldl bstep []
theorem bstep_nil (m : Mv) : bstep [] m = [m] := rfl
theorem bstep_snoc (b : List Mv) (l m : Mv) : bstep (b ++ [l]) m = if l.2 = m.1 then (if l.1 = m.2 then b else b ++ [(l.1, m.2)]) else b ++ [l] ++ [m] := by
  unfold bstep
  rw [List.getLast?_concat, List.dropLast_concat]
def Adj (b : List Mv) : Prop := ∀ (i : Nat) (x y : Mv), b[i]? = some x → b[i + 1]? = some y → x.2 ≠ y.1
theorem adj_left {b : List Mv} {l : Mv} (h : Adj (b ++ [l])) : Adj b := fun i x y e1 e2 => by
  have l2 := (List.getElem?_eq_some_iff.mp e2).1
  exact h i x y (by rw [List.getElem?_append_left (by omega)]; exact e1) (by rw [List.getElem?_append_left l2]; exact e2)
theorem adj_snoc {b : List Mv} {l m : Mv} (h : Adj (b ++ [l])) (ne : l.2 ≠ m.1) : Adj (b ++ [l] ++ [m]) := fun i x y e1 e2 => by
  have l2 := (List.getElem?_eq_some_iff.mp e2).1
  rw [List.length_append, List.length_append, List.length_singleton, List.length_singleton] at l2
  by_cases hi : i = b.length
  · subst hi
    have e3 : l = x := by simpa using e1
    have e4 : m = y := by simpa using e2
    rw [← e3, ← e4]
    exact ne
  · refine h i x y ?_ ?_
    · rwa [List.getElem?_append_left (by rw [List.length_append, List.length_singleton]; omega)] at e1
    · rwa [List.getElem?_append_left (by rw [List.length_append, List.length_singleton]; omega)] at e2
theorem adj_last {b : List Mv} {l m : Mv} (h : Adj (b ++ [l])) (e : l.1 = m.1) : Adj (b ++ [m]) := by
  rcases List.eq_nil_or_concat b with rfl | ⟨b0, k, rfl⟩
  · intro i x y e1 e2
    simp at e2
  · rw [List.concat_eq_append] at h ⊢
    refine adj_snoc (adj_left h) ?_
    rw [← e]
    exact h b0.length k l (by simp) (by simp)
structure Bare (d : α) (hs : List Int) (rows : List (List α)) (w b : List Mv) : Prop where
  way : Way hs rows b
  fin : fin rows b = fin rows w
  adj : Adj b
  len : b.length ≤ w.length
  lif : ∀ y ∈ lif d rows b, y ∈ lif d rows w
theorem Bare.step {d : α} {hs : List Int} {rows : List (List α)} {w b : List Mv} {m : Mv} (o : Okk hs rows) (h : Bare d hs rows w b) (c : Can hs (MV.fin rows w) m) : Bare d hs rows (w ++ [m]) (bstep b m) := by
  have c' := c
  rw [← h.fin] at c'
  have lw : ∀ y ∈ MV.lif d rows b, y ∈ MV.lif d rows (w ++ [m]) := fun y hy => by rw [lif_snoc]; exact List.mem_append_left _ (h.lif y hy)
  have big : ∀ (hb : ∀ l b0, b = b0 ++ [l] → l.2 ≠ m.1), Bare d hs rows (w ++ [m]) (b ++ [m]) := fun hb => by
    refine ⟨way_snoc.mpr ⟨h.way, c'⟩, by rw [fin_snoc, fin_snoc, h.fin], ?_, by have := h.len; simp; omega, fun y hy => ?_⟩
    · rcases List.eq_nil_or_concat b with rfl | ⟨b0, l, e⟩
      · intro i x y e1 e2
        simp at e2
      · rw [List.concat_eq_append] at e
        subst e
        exact adj_snoc h.adj (hb l b0 rfl)
    · rw [lif_snoc] at hy ⊢
      rcases List.mem_append.mp hy with hy | hy
      · exact List.mem_append_left _ (h.lif y hy)
      · rw [h.fin] at hy
        exact List.mem_append_right _ hy
  rcases List.eq_nil_or_concat b with rfl | ⟨b0, l, e⟩
  · rw [bstep_nil]
    exact big fun l b0 z => by simp at z
  · rw [List.concat_eq_append] at e
    subst e
    rw [bstep_snoc]
    obtain ⟨h1, h2⟩ := way_snoc.mp h.way
    have o0 : Okk hs (MV.fin rows b0) := way_keeps (fun _ _ o c => Okk.stp o c) o h1
    have hlen := h.len
    rw [List.length_append, List.length_singleton] at hlen
    by_cases e1 : l.2 = m.1
    · rw [if_pos e1]
      obtain ⟨a, s⟩ := l
      obtain ⟨s', t⟩ := m
      dsimp only at e1 ⊢
      subst e1
      rw [fin_snoc] at c'
      by_cases e2 : a = t
      · rw [if_pos e2]
        subst e2
        have q := (h2.back (o0.fit.g o0.len h2.a)).2
        refine ⟨h1, ?_, adj_left h.adj, by rw [List.length_append]; omega, fun y hy => lw y ?_⟩
        · rw [fin_snoc, ← h.fin, fin_snoc]
          exact q.symm
        · rw [lif_snoc]
          exact List.mem_append_left _ hy
      · rw [if_neg e2]
        obtain ⟨q1, q2⟩ := h2.join c' e2
        refine ⟨way_snoc.mpr ⟨h1, q1⟩, ?_, adj_last h.adj rfl, by rw [List.length_append, List.length_append, List.length_singleton, List.length_singleton]; omega, fun y hy => lw y ?_⟩
        · rw [fin_snoc, fin_snoc, ← h.fin, fin_snoc, q2]
        · rw [lif_snoc] at hy ⊢
          exact hy
    · rw [if_neg e1]
      refine big fun l' b0' z => ?_
      have z2 := List.append_inj_right' z rfl
      rw [← List.cons.inj z2 |>.1]
      exact e1
theorem bare_ok (d : α) {hs : List Int} {rows : List (List α)} (o : Okk hs rows) : ∀ {w : List Mv}, Way hs rows w → Bare d hs rows w (bare w) := by
  have main : ∀ (v u : List Mv) (b : List Mv), Way hs rows (u ++ v) → Bare d hs rows u b → Bare d hs rows (u ++ v) (v.foldl bstep b) := by
    intro v
    induction v with
    | nil => intro u b _ h; rw [List.append_nil]; exact h
    | cons m v ih =>
      intro u b hw h
      rw [show u ++ m :: v = u ++ [m] ++ v by rw [List.append_assoc]; rfl] at hw ⊢
      exact ih (u ++ [m]) (bstep b m) hw (h.step o (way_snoc.mp (way_app.mp hw).1).2)
  intro w h
  have := main w [] [] h ⟨trivial, rfl, fun i x y e1 _ => by simp at e1, Nat.le_refl _, fun y hy => hy⟩
  exact this

/-! ### a move there and back, many times -/
def reps (k : Nat) (m : Mv) : List Mv := (List.replicate k [m, sw m]).flatten
theorem reps_succ (k : Nat) (m : Mv) : reps (k + 1) m = m :: sw m :: reps k m := rfl
theorem reps_len (k : Nat) (m : Mv) : (reps k m).length = 2 * k := by
  induction k with
  | zero => rfl
  | succ k ih => rw [reps_succ, List.length_cons, List.length_cons, ih]; omega
theorem reps_way {hs : List Int} {rows : List (List α)} {m : Mv} (o : Okk hs rows) (c : Can hs rows m) (d : α) : ∀ k, Way hs rows (reps k m) ∧ fin rows (reps k m) = rows ∧ ∀ y ∈ lif d rows (reps k m), y = bx d rows m
  | 0 => ⟨trivial, rfl, fun _ h => (nomatch h)⟩
  | k + 1 => by
    obtain ⟨b1, b2⟩ := c.back (o.fit.g o.len c.a)
    obtain ⟨h1, h2, h3⟩ := reps_way o c d k
    rw [reps_succ]
    refine ⟨⟨c, b1, by rw [b2]; exact h1⟩, ?_, fun y hy => ?_⟩
    · show fin (stp (stp rows m) (sw m)) (reps k m) = rows
      rw [b2, h2]
    · have hy' : y ∈ bx d rows m :: bx d (stp rows m) (sw m) :: lif d (stp (stp rows m) (sw m)) (reps k m) := hy
      rw [b2] at hy'
      rcases List.mem_cons.mp hy' with h | hy'
      · exact h
      · rcases List.mem_cons.mp hy' with h | hy'
        · obtain ⟨l, x, e, q⟩ := c.box
          rw [h, bx_last e]
          refine bx_last (l := g rows m.2) ?_
          show g (stp rows m) m.2 = _
          rw [q, if_pos rfl]
        · exact h3 y hy'
theorem reps_bare {m : Mv} (ne : m.1 ≠ m.2) : ∀ k, bare (reps k m) = []
  | 0 => rfl
  | k + 1 => by
    have ih := reps_bare ne k
    unfold bare at ih ⊢
    rw [reps_succ, List.foldl_cons, List.foldl_cons, bstep_nil, show bstep [m] (sw m) = [] from ?_]
    · exact ih
    · have := bstep_snoc [] m (sw m)
      rw [List.nil_append] at this
      rw [this, if_pos (show m.2 = (sw m).1 from rfl), if_pos (show m.1 = (sw m).2 from rfl)]
theorem bare_snoc (w : List Mv) (m : Mv) : bare (w ++ [m]) = bstep (bare w) m := by
  unfold bare
  rw [List.foldl_append]
  rfl
theorem reps_snoc (k : Nat) (m : Mv) : reps k m ++ [m, sw m] = reps (k + 1) m := by
  induction k with
  | zero => rfl
  | succ k ih => rw [reps_succ, List.cons_append, List.cons_append, ih, reps_succ (k + 1)]
theorem reps_back (k : Nat) (m : Mv) : back (reps k m) = reps k m := by
  induction k with
  | zero => rfl
  | succ k ih =>
    rw [reps_succ, back_cons, back_cons, ih, List.append_assoc]
    exact reps_snoc k m
end MV
set_option Elab.async false
set_option linter.all false
set_option maxRecDepth 100000
set_option maxHeartbeats 4000000
namespace K01
open PySem PySem.Spec PyProof.Rows L2 DL HL CM STX NM DX TT RO SG
abbrev s__law_odd : Stmt := topS 33
theorem sc__law_odd : FnScope ["heap"] ["heap"] (defScope s__law_odd) := ⟨rfl, rfl, rfl, by decide +kernel, rfl, by decide +kernel, by decide +kernel⟩
abbrev s__law_bent_heights : Stmt := topS 34
theorem sc__law_bent_heights : FnScope ["heap", "heights", "at", "form", "turn"] ["heap", "heights"] (defScope s__law_bent_heights) := ⟨rfl, rfl, rfl, by decide +kernel, rfl, by decide +kernel, by decide +kernel⟩
abbrev s__law_yard_fault : Stmt := topS 35
theorem sc__law_yard_fault : FnScope ["value", "at"] ["value"] (defScope s__law_yard_fault) := ⟨rfl, rfl, rfl, by decide +kernel, rfl, by decide +kernel, by decide +kernel⟩
abbrev s__law_yard_told : Stmt := topS 36
theorem sc__law_yard_told : FnScope ["value", "wrong"] ["value"] (defScope s__law_yard_told) := ⟨rfl, rfl, rfl, by decide +kernel, rfl, by decide +kernel, by decide +kernel⟩
abbrev s__law_yard_right : Stmt := topS 37
theorem sc__law_yard_right : FnScope ["heap", "heights", "value", "turn", "kept", "yard"] ["heap", "heights"] (defScope s__law_yard_right) := ⟨rfl, rfl, rfl, by decide +kernel, rfl, by decide +kernel, by decide +kernel⟩
section
variable {P : Program} {w : World} {K : PySem.W.Frag} {mg : Str → Option Value} {base : Heap} {CY CV fV CS fS CN fN CB : Addr}
/-! ### _law_odd, _law_bent_heights -/
abbrev sp_odd (CY : Addr) : Sp := spGN 0 (fun _ : Unit => []) (fun _ => True) fun _ r => Pl CY 3 r
theorem c__law_odd {f : Addr} {fd : FuncData} (T : Ty K mg CY CV fV CS fS CN fN CB) (c__law_pick : Ca P w K mg base CX0 2 "_law_pick" ["heap", "some"] sp_pick) (c_Yard : CaC P w K mg base (L2.CX P w) 2 "Yard" CY ["self", "heights"] (sp_y CY CV))
    (B : DefB K mg "_law_odd" s__law_odd ["heap"] f fd) : Ca P w K mg base CX0 4 "_law_odd" ["heap"] (sp_odd CY) := by
  refine ca_of B sc__law_odd (fun vs H Q E h => lenGN h) (fun cdv A outer s H vs Q E hr h => ⟨_, (pss_one (ps_ret (pe_ca c__law_pick hr (by first | decide | (simp only [Nat.add_eq]; omega)) pass0 (pa_cons (pv 0) (pa_cons (pe_lst (pa_cons pe_int (pa_cons pe_int (pa_cons (pe_un un_neg pe_int) (pa_cons pe_bl (pa_cons pe_bl (pa_cons pe_non (pa_cons pe_str (pa_cons pe_str (pa_cons (pe_tup (pa_cons pe_int pa_nil)) (pa_cons (pe_lst (pa_cons pe_int pa_nil)) (pa_cons (pe_op op_pow pe_int pe_int) (pa_cons (pe_un un_neg (pe_op op_pow pe_int pe_int)) (pa_cons (pe_tup pa_nil) (pa_cons (pe_mk c_Yard hr (by first | decide | (simp only [Nat.add_eq]; omega)) passL (pa_cons (pe_tup (pa_cons pe_int (pa_cons pe_int (pa_cons pe_int pa_nil)))) pa_nil)) pa_nil))))))))))))))) pa_nil))))), entryGN (K := K) (by decide) h fun F O u hl hp => ?_⟩)
  walk_at "d0"
  walk_at "n"
  refine ev_lst ?_
  walk_at "n"
  refine ev_lst ?_
  walk_at "n"
  refine ov_intC (C := CPow) (by unfold CPow; decide) ?_
  walk_at "n"
  refine ov_intC (C := CPow) (by unfold CPow; decide) ?_
  walk_at "n"
  refine ev_makeN ?_
  walk_at "n"
  refine ⟨rfl, .tup (by decide) (by simp; exact .int 1), fun C f x z => ?_, ?_⟩
  · obtain ⟨_, _, i, e, _⟩ := z
    cases e
  walk_at "n"
  refine cv_pick rfl (by simp) (by simp) fun r hr => ?_
  refine ⟨r, rfl, ?_⟩
  simp only [List.mem_cons, List.not_mem_nil, or_false] at hr
  rcases hr with rfl | rfl | rfl | rfl | rfl | rfl | rfl | rfl | rfl | rfl | rfl | rfl | rfl | rfl
  · exact .int _
  · exact .int _
  · exact .int _
  · exact .bl _
  · exact .bl _
  · exact .non
  · exact .str _
  · exact .str _
  · exact .tup (by decide) (by simp; exact .int 3)
  · exact .lst (by decide) (by simp; exact .int 3)
  · exact .int _
  · exact .int _
  · exact .tup (by decide) (by simp)
  · exact .obj _
/-- what stands for heights -/
def Hts (CY : Addr) (xs : List D) : Prop := xs.length ≤ 13 ∧ ∀ x ∈ xs, Pl CY 3 x
theorem cut_to {xs : List D} {k : Nat} : cutD xs none (some (k : Int)) = xs.take k := by
  unfold DL.cutD
  rw [HT.sIx_none, HT.sIx_nat, List.drop_zero, Nat.sub_zero]
  by_cases c : k ≤ xs.length
  · rw [Nat.min_eq_left c]
  · rw [Nat.min_eq_right (by omega), List.take_length, List.take_of_length_le (by omega)]
theorem cut_fr {xs : List D} {k : Nat} : cutD xs (some (k : Int)) none = xs.drop k := by
  unfold DL.cutD
  rw [HT.sIx_none, HT.sIx_nat]
  by_cases c : k ≤ xs.length
  · rw [Nat.min_eq_left c]
    exact List.take_of_length_le (by rw [List.length_drop]; omega)
  · rw [Nat.min_eq_right (by omega), Nat.sub_self, List.take_zero, List.drop_of_length_le (by omega)]
abbrev sp_bent (CY : Addr) : Sp := spGN 1 (fun xs : List D => [.lst xs]) (fun xs => xs ≠ [] ∧ Hts CY xs) fun _ r => ∃ ys, r = .lst ys ∧ Hts CY ys
theorem c__law_bent_heights {f : Addr} {fd : FuncData} (T : Ty K mg CY CV fV CS fS CN fN CB) (c__law_draw : Ca P w K mg base CX0 1 "_law_draw" ["heap", "many"] sp_draw) (c__law_pick : Ca P w K mg base CX0 2 "_law_pick" ["heap", "some"] sp_pick) (c__law_odd : Ca P w K mg base CX0 4 "_law_odd" ["heap"] (sp_odd CY))
    (B : DefB K mg "_law_bent_heights" s__law_bent_heights ["heap", "heights"] f fd) : Ca P w K mg base CX0 5 "_law_bent_heights" ["heap", "heights"] (sp_bent CY) := by
  refine ca_of B sc__law_bent_heights (fun vs H Q E h => lenGN h) (fun cdv A outer s H vs Q E hr h => ⟨_, (pss_cons (ps_par (i := 2) (j := 3) (by rfl) sc__law_bent_heights.nd rfl rfl (by decide) rfl rfl (pa_cons (pe_ca c__law_draw hr (by first | decide | (simp only [Nat.add_eq]; omega)) pass0 (pa_cons (pv 0) (pa_cons (pe_callB cr_len (by rfl) T.z_len (by decide +kernel) (pa_cons (pv 1) pa_nil)) pa_nil))) (pa_cons (pe_ca c__law_draw hr (by first | decide | (simp only [Nat.add_eq]; omega)) pass0 (pa_cons (pv 0) (pa_cons pe_int pa_nil))) pa_nil)) (by rfl))
    (pss_cons (ps_if (pt_cmpR (op_eqU hr.units) (pv 3) pe_int (by first | exact nomark _ | rfl))
     (pss_one (ps_ret (pe_slice sl_U (pv 1) po_none (po_some (pe_ca c__law_draw hr (by first | decide | (simp only [Nat.add_eq]; omega)) pass0 (pa_cons (pv 0) (pa_cons pe_int pa_nil)))))))
     pss_nil)
    (pss_cons (ps_if (pt_cmpR (op_eqU hr.units) (pv 3) pe_int (by first | exact nomark _ | rfl))
     (pss_one (ps_ret (pe_op op_addU (pv 1) (pe_lc (own := [("turn", 4)]) rfl sc__law_bent_heights.nd (pi_range1 (by rfl) T.z_range (pa_cons (pe_op op_sub pe_int (pe_callB cr_len (by rfl) T.z_len (by decide +kernel) (pa_cons (pv 1) pa_nil))) pa_nil)) (blkOk_by (N := ["heap", "heights", "at", "form", "turn"]) (sc := defScope s__law_bent_heights) (by decide +kernel)) (fun _ _ _ _ _ => (pg_name (i := 4) sc__law_bent_heights.nd rfl (by first | exact Or.inl rfl | exact Or.inr rfl))) (fun _ _ _ _ _ => pts_nil) (fun _ _ _ _ _ => (pe_op (EX.op_addUk (K := K) rfl) pe_int (pe_ca c__law_draw hr (by first | decide | (simp only [Nat.add_eq]; omega)) pass0 (pa_cons (pv 0) (pa_cons pe_int pa_nil)))))))))
     pss_nil)
    (pss_cons (ps_if (pt_cmpR (op_eqU hr.units) (pv 3) pe_int (by first | exact nomark _ | rfl))
     (pss_one (ps_ret (pe_op op_addU (pe_op op_addU (pe_slice sl_U (pv 1) po_none (po_some (pv 2))) (pe_lst (pa_cons (pe_ca c__law_pick hr (by first | decide | (simp only [Nat.add_eq]; omega)) pass0 (pa_cons (pv 0) (pa_cons (pe_lst (pa_cons pe_int (pa_cons pe_int pa_nil))) pa_nil))) pa_nil))) (pe_slice sl_U (pv 1) (po_some (pe_op op_addU (pv 2) pe_int)) po_none))))
     pss_nil)
    (pss_one (ps_ret (pe_op op_addU (pe_op op_addU (pe_slice sl_U (pv 1) po_none (po_some (pv 2))) (pe_lst (pa_cons (pe_ca c__law_odd hr (by first | decide | (simp only [Nat.add_eq]; omega)) pass0 (pa_cons (pv 0) pa_nil)) pa_nil))) (pe_slice sl_U (pv 1) (po_some (pe_op op_addU (pv 2) pe_int)) po_none)))))))), entryGN (K := K) (by decide) h fun F O xs hl hp => ?_⟩)
  obtain ⟨hne, hl13, hx⟩ := hp
  have hl1 : 1 ≤ xs.length := List.length_pos_iff.mpr hne
  walk_at "d0"
  refine sv_seq (sv_par ?_)
  walk_at "n"
  refine cv_lenL rfl ?_
  walk_at "n"
  refine cv_draw (by omega) (by omega) fun at' hat => ?_
  walk_at "n"
  refine cv_draw (by omega) (by omega) fun form hform => ?_
  walk_at "n"
  refine ⟨_, _, rfl, ⟨ltb rfl, ltb rfl⟩, ?_⟩
  walk_at "s"
  walk_at "n"
  refine sv_if ?_
  walk_at "n"
  refine ⟨fun _ => ?_, fun _ => ?_⟩
  · walk_at "n"
    refine cv_draw (by decide) (by decide) fun k hk => ?_
    refine ⟨_, rfl, lv_l rfl ?_⟩
    rw [cut_to]
    exact ⟨_, rfl, _, rfl, by rw [List.length_take]; omega, fun x h => hx x (List.mem_of_mem_take h)⟩
  · walk_at "n"
    refine sv_if ?_
    walk_at "n"
    refine ⟨fun _ => ?_, fun _ => ?_⟩
    · walk_at "n"
      refine ev_lc (sets_name 4) (wv_range1 ?_)
      walk_at "n"
      refine cv_lenL rfl ?_
      walk_at "n"
      obtain ⟨k, ek⟩ : ∃ k : Nat, (13 : Int) - (xs.length : Int) = (k : Int) := ⟨13 - xs.length, by omega⟩
      rw [ek]
      refine ⟨rfl, _, rfl, by omega, by omega, fun i acc => acc.length = i ∧ i ≤ k ∧ ∀ x ∈ acc, Pl CY 3 x, ⟨rfl, by omega, by simp⟩, ?_, ?_, ?_⟩
      · rintro i d acc hd ⟨rfl, hi, hb⟩
        have hi2 := (List.getElem?_eq_some_iff.mp hd).1
        rw [rgD_len] at hi2
        refine gv_name ⟨ltb rfl, ?_⟩
        dsimp only [List.set, List.foldr]
        refine et_yes ⟨fun _ => ?_, fun z => nomatch z⟩
        walk_at "n"
        refine cv_draw (by decide) (by decide) fun j hj => ?_
        walk_at "n"
        refine ⟨rfl, _, rfl, by simp, by omega, fun x hx' => ?_⟩
        rcases List.mem_append.mp hx' with y | y
        · exact hb x y
        · rw [List.mem_singleton.mp y]
          exact .int _
      · rintro i acc ⟨rfl, hi, hb⟩
        omega
      · rintro acc ⟨h1, h2, hb⟩
        rw [rgD_len] at h1
        walk_at "n"
        refine ov_addL rfl rfl (by omega) ?_
        refine ⟨_, rfl, _, rfl, by rw [List.length_append]; omega, fun x hx' => ?_⟩
        rcases List.mem_append.mp hx' with y | y
        · exact hx x y
        · exact hb x y
    · walk_at "n"
      refine sv_if ?_
      walk_at "n"
      refine ⟨fun _ => ?_, fun _ => ?_⟩
      · walk_at "n"
        refine lv_l rfl ?_
        rw [cut_to]
        walk_at "n"
        refine ev_lst ?_
        walk_at "n"
        refine ev_lst ?_
        walk_at "n"
        refine cv_pick rfl (by simp) (by simp) fun r hr => ?_
        walk_at "n"
        refine ov_addL rfl rfl ?_ ?_
        · simp
          omega
        walk_at "n"
        refine lv_l rfl ?_
        rw [show (at' : Int) + 1 = ((at' + 1 : Nat) : Int) by omega, cut_fr]
        refine ov_addL rfl rfl ?_ ?_
        · simp
          omega
        refine ⟨_, rfl, _, rfl, ?_, fun x hx' => ?_⟩
        · simp
          omega
        · simp only [List.mem_append, List.mem_singleton] at hx'
          rcases hx' with (h | h) | h
          · exact hx x (List.mem_of_mem_take h)
          · rw [h]
            simp only [List.mem_cons, List.not_mem_nil, or_false] at hr
            rcases hr with rfl | rfl <;> exact .int _
          · exact hx x (List.mem_of_mem_drop h)
      · walk_at "n"
        refine lv_l rfl ?_
        rw [cut_to]
        walk_at "n"
        refine ev_lst ?_
        walk_at "n"
        refine cv_GN () rfl rfl rfl trivial fun r hr => ?_
        walk_at "n"
        refine ov_addL rfl rfl ?_ ?_
        · simp
          omega
        walk_at "n"
        refine lv_l rfl ?_
        rw [show (at' : Int) + 1 = ((at' + 1 : Nat) : Int) by omega, cut_fr]
        refine ov_addL rfl rfl ?_ ?_
        · simp
          omega
        refine ⟨_, rfl, _, rfl, ?_, fun x hx' => ?_⟩
        · simp
          omega
        · simp only [List.mem_append, List.mem_singleton] at hx'
          rcases hx' with (h | h) | h
          · exact hx x (List.mem_of_mem_take h)
          · rw [h]
            exact hr
          · exact hx x (List.mem_of_mem_drop h)
/-! ### _law_yard_fault, _law_yard_told -/
def optD : Option Int → D
  | none => .non
  | some i => .int i
abbrev sp_yfault (CY : Addr) : Sp := spG 1 (fun d : D => [d]) (fun d => Pl CY 1000 d) (fun d r => r = optD (yF d)) noX
theorem c__law_yard_fault {f : Addr} {fd : FuncData} (T : Ty K mg CY CV fV CS fS CN fN CB) (B : DefB K mg "_law_yard_fault" s__law_yard_fault ["value"] f fd) : Ca P w K mg base CX0 2 "_law_yard_fault" ["value"] (sp_yfault CY) := by
  refine ca_of B sc__law_yard_fault (fun vs H Q E h => lenG h) (fun cdv A outer s H vs Q E hr h => ⟨_, (pss_cons (ps_if (PW.pt (pw_or (pt_not (pt_val (pe_callB call_isiTR (by rfl) T.z_isinstance (by decide +kernel) (pa_cons (pv 0) (pa_cons (pe_tup (pa_cons (pe_bltn rfl T.z_list (by decide +kernel) (v := .ty "list") rfl) (pa_cons (pe_bltn rfl T.z_tuple (by decide +kernel) (v := .ty "tuple") rfl) pa_nil))) pa_nil))))) (pw_or1 (pt_not (pt_chain op_le op_le pe_int (pe_callB cr_len (by rfl) T.z_len (by decide +kernel) (pa_cons (pv 0) pa_nil)) pe_int)))))
     (pss_one (ps_ret (pe_un un_neg pe_int)))
     pss_nil)
    (pss_cons (ps_for PassesOwn.never rfl (pi_range1 (by rfl) T.z_range (pa_cons (pe_callB cr_len (by rfl) T.z_len (by decide +kernel) (pa_cons (pv 0) pa_nil)) pa_nil)) (pg_name (i := 1) sc__law_yard_fault.nd rfl (by first | exact Or.inl rfl | exact Or.inr rfl))
     (pss_one (ps_if (PW.pt (pw_or (pt_not (pt_val (pe_callB call_isi (by rfl) T.z_isinstance (by decide +kernel) (pa_cons (pe_ix ix_seq (pv 0) (pv 1) (fun _ _ => rfl)) (pa_cons (pe_bltn rfl T.z_int (by decide +kernel) (v := .ty "int") rfl) pa_nil))))) (pw_or (pt_val (pe_callB call_isi (by rfl) T.z_isinstance (by decide +kernel) (pa_cons (pe_ix ix_seq (pv 0) (pv 1) (fun _ _ => rfl)) (pa_cons (pe_bltn rfl T.z_bool (by decide +kernel) (v := .ty "bool") rfl) pa_nil)))) (pw_or1 (pt_not (pt_chain op_le op_le pe_int (pe_ix ix_seq (pv 0) (pv 1) (fun _ _ => rfl)) pe_int))))))
      (pss_one (ps_ret (pv 1)))
      pss_nil)))
    (pss_one (ps_ret pe_non)))), entryG (K := K) (by decide) h fun O d hl hp _ => ?_⟩)
  walk_at "d0"
  refine sv_seq (sv_if ?_)
  walk_at "n"
  refine EX.ev_raw ?_
  walk_at "n"
  refine EX.ev_raw ?_
  walk_at "n"
  refine cv_isiLT T.kY hp ?_
  walk_at "n"
  refine ⟨fun e => ?_, fun e => ?_⟩
  · obtain ⟨xs, hs, ef, l1, hxs⟩ : ∃ xs, seqD d = some xs ∧ yF d = yFx xs ∧ xs.length ≤ 1000 ∧ ∀ x ∈ xs, Pl CY 1000 x := by
      cases hp
      all_goals first | exact ⟨_, rfl, rfl, ‹_›, ‹_›⟩ | exact absurd e (by show ¬ (true = false); decide)
    rw [ef]
    walk_at "n"
    refine ev_chain ?_
    walk_at "n"
    refine cv_lenQ hs ?_
    walk_at "n"
    refine ⟨fun g => ?_, fun g => ?_⟩
    · have g3 := of_decide_eq_true g
      walk_at "n"
      refine ⟨fun g => ?_, fun g => ?_⟩
      · have g12 := not_of g
        walk_at "n"
        rw [yF_many (by omega)]
        rfl
      · have g12 := yes_of g
        have lk : 3 ≤ xs.length ∧ xs.length ≤ 12 := by omega
        walk_at "n"
        refine sv_for (wv_range1 ?_)
        walk_at "n"
        refine cv_lenQ hs ?_
        walk_at "n"
        refine ⟨rfl, _, rfl, by omega, by omega, fun i om' sl' => (∀ (j : Nat) (e : D), j < i → xs[j]? = some e → hOk e = true) ∧ ∃ t1 : Option DL.E, om' = [] ∧ sl' = [some (.v d), t1], ⟨fun j e hj => absurd hj (Nat.not_lt_zero _), _, rfl, rfl⟩, ?_, ?_⟩
        · rintro i d' om' sl' hd ⟨hb, t1, rfl, rfl⟩
          have hi := (List.getElem?_eq_some_iff.mp hd).1
          rw [rgD_len] at hi
          rw [rgD_get hi, Int.zero_add] at hd
          cases hd
          have hi2 : i < xs.length := by omega
          have he : xs[i]? = some xs[i] := List.getElem?_eq_getElem hi2
          have hx := hxs xs[i] (List.getElem_mem hi2)
          obtain ⟨x, ex⟩ : ∃ x, xs[i] = x := ⟨_, rfl⟩
          rw [ex] at he hx
          refine gv_name ⟨ltb rfl, ?_⟩
          walk_at "s"
          refine sv_if ?_
          walk_at "n"
          refine ov_ixQ hs he ?_
          walk_at "n"
          refine EX.ev_raw ?_
          walk_at "n"
          refine cv_isiA T.kY hx (.inl rfl) ?_
          have step : hOk x = true → ∀ (j : Nat) (e : D), j < i + 1 → xs[j]? = some e → hOk e = true := fun hk m y hm hy => by
            rcases Nat.lt_succ_iff_lt_or_eq.mp hm with q | rfl
            · exact hb m y q hy
            · rw [he] at hy
              cases hy
              exact hk
          have found : hOk x = false → optD (yFx xs) = .int (i : Int) := fun hk => by rw [yF_first lk he hk hb]; rfl
          walk_at "n"
          refine ⟨fun w1 => ?_, fun w1 => ?_⟩
          · walk_at "n"
            refine ov_ixQ hs he ?_
            walk_at "n"
            refine EX.ev_raw ?_
            walk_at "n"
            refine cv_isiA T.kY hx (.inr (.inl rfl)) ?_
            walk_at "n"
            refine ⟨fun w2 => ?_, fun w2 => ?_⟩
            · obtain ⟨h, rfl⟩ := whole_int hx (by revert w1; rw [w2]; cases isT "int" x <;> decide)
              walk_at "n"
              refine ev_chain ?_
              walk_at "n"
              refine ov_ixQ hs he ?_
              walk_at "n"
              refine ⟨fun u1 => ?_, fun u1 => ?_⟩
              · have v1 := of_decide_eq_true u1
                walk_at "n"
                refine ⟨fun u2 => ?_, fun u2 => ?_⟩
                · have v2 := not_of u2
                  walk_at "n"
                  exact (found (by show (decide (1 ≤ h) && decide (h ≤ 12)) = false; rw [decide_eq_false v2, Bool.and_false])).symm
                · have v2 := yes_of u2
                  walk_at "n"
                  exact ⟨step (by show (decide (1 ≤ h) && decide (h ≤ 12)) = true; rw [decide_eq_true v1, decide_eq_true v2]; rfl), _, rfl, rfl⟩
              · have v1 := of_decide_eq_false u1
                walk_at "n"
                refine ⟨fun _ => ?_, fun z => nomatch z⟩
                walk_at "n"
                exact (found (by show (decide (1 ≤ h) && decide (h ≤ 12)) = false; rw [decide_eq_false v1, Bool.false_and])).symm
            · have bad : hOk x = false := whole_not hx (by revert w1; rw [w2]; cases isT "int" x <;> decide)
              walk_at "n"
              refine ⟨fun _ => ?_, fun z => nomatch z⟩
              walk_at "n"
              exact (found bad).symm
          · have bad : hOk x = false := whole_not hx (by revert w1; cases isT "int" x <;> simp)
            walk_at "n"
            refine ⟨fun _ => ?_, fun z => nomatch z⟩
            walk_at "n"
            exact (found bad).symm
        · rintro om' sl' ⟨hb, t1, rfl, rfl⟩
          rw [rgD_len] at hb
          walk_at "n"
          rw [yF_good lk (fun j e hj he => hb j e (by omega) he)]
          rfl
    · have g3 := of_decide_eq_false g
      walk_at "n"
      refine ⟨fun _ => ?_, fun z => nomatch z⟩
      walk_at "n"
      rw [yF_many (by omega)]
      rfl
  · walk_at "n"
    refine ⟨fun _ => ?_, fun z => nomatch z⟩
    walk_at "n"
    cases hp
    all_goals first | exact absurd e (by show ¬ (false = true); decide) | rfl
/-- what making a yard tells -/
abbrev sp_ytold (CY : Addr) : Sp := spG 1 (fun d : D => [d]) (fun d => Pl CY 1000 d) (fun d r => r = optD (yF d)) noX
theorem c__law_yard_told {f : Addr} {fd : FuncData} (T : Ty K mg CY CV fV CS fS CN fN CB) (c_Yard : CaC P w K mg base (L2.CX P w) 2 "Yard" CY ["self", "heights"] (sp_y CY CV))
    (B : DefB K mg "_law_yard_told" s__law_yard_told ["value"] f fd) : Ca P w K mg base CX0 4 "_law_yard_told" ["value"] (sp_ytold CY) := by
  refine ca_of B sc__law_yard_told (fun vs H Q E h => lenG h) (fun cdv A outer s H vs Q E hr h => ⟨_, (pss_cons (ps_tryT (i := 1) rfl rfl sc__law_yard_told.nd rfl rfl ⟨rfl, by decide, Or.inl T.x_InvalidYard.gC⟩ takes0 (fun W pn xe tk _ =>
     (pss_one (ps_expr (pe_mkS c_Yard hr (by first | decide | (simp only [Nat.add_eq]; omega)) (fun σ => passAt tk σ) (pa_cons (pv 0) pa_nil)))))
     (fun a oe cls d pn hz hf => (pss_one (ps_ret (pe_ifExp (pt_val (pe_callB (LM.call_isXE T.c_InvalidYard hz hf) (by rfl) T.z_isinstance (by decide +kernel) (pa_cons (pv 1) (pa_cons (pe_glob (v := .ref _) rfl T.g_YardError rfl) pa_nil)))) (pe_xf T.x_InvalidYard.xf T.x_InvalidYard.noN hz hf (pv 1)) pe_str)))))
    (pss_one (ps_ret pe_non))), entryG (K := K) (by decide) h fun O d hl hp _ => ?_⟩)
  walk_at "d0"
  refine sv_seq (sv_tryT (fun C f x => yX CV d C f x) ?_ ?_ ?_ ?_)
  · exact ltb rfl
  · exact fun C f x z => by rw [z.1]; exact T.m_InvalidYard
  · intro O H W hW
    walk_at "n"
    refine ev_makeS ?_
    walk_at "n"
    refine ⟨d, _, hW, rfl, rfl, hp, fun C f x z => z, fun e => ?_⟩
    walk_at "n"
    rw [e]
    rfl
  · rintro O H C f x ⟨rfl, rfl, i, hi, rfl⟩ a' d
    walk_at "s"
    walk_at "n"
    refine ev_if ?_
    walk_at "n"
    refine EX.ev_raw ?_
    walk_at "n"
    refine LM.cv_isXE (ClsV.own _) T.b_InvalidYard ?_
    walk_at "n"
    refine ⟨fun _ => ?_, fun z => nomatch z⟩
    refine ev_xf ?_
    walk_at "n"
    refine ⟨_, _, rfl, rfl, ?_⟩
    rw [hi]
    exact ⟨_, rfl, rfl⟩
end
end K01
set_option Elab.async false
set_option linter.all false
set_option maxRecDepth 100000
set_option maxHeartbeats 4000000
/-! an object made of a list that is one's own and stays so; isinstance of built-in data of an own class -/
namespace DL
open PySem PySem.Spec PyProof.Rows L2 STX HL
section
variable {c : Cn} {om : Om} {sl : Sl} {P : E → Om → Prop}
theorem rlA_ints {O O' : List Addr} {H H' : Hp} : ∀ {ns : List Int} {vs : List V}, RlA O H vs (ns.map .int) → RlA O' H' vs (ns.map .int)
  | [], _, .nil => .nil
  | n :: ns, _, .cons q t => by
    cases q
    exact .cons (.int n) (rlA_ints t)
theorem ev_makeLO {pre : D → Prop} {R : D → Prop} {C : Addr} {fs : D → List (Str × D)} {X : D → Addr → Str → D → Prop} {tr : TA} {Ew : XK} (h : EA c tr om sl fun es om1 => ∃ (k : Nat) (ns : List Int) (f0 : Str), es = [.o k] ∧ om1[k]? = some (some (.l (ns.map .int))) ∧ pre (.lst (ns.map .int)) ∧ (∀ C f x, ¬ X (.lst (ns.map .int)) C f x) ∧
      fs (.lst (ns.map .int)) = [(f0, .tup (ns.map .int))] ∧ P (.v (.obj C [(f0, .tup (ns.map .int))])) om1) : EV c (tMake C (spIX 1 (fun d : D => [d]) pre R C fs X) [] Ew tr) om sl P := fun σ H O ps s Q k =>
  h σ H O ps s _ fun vs H1 O1 ps1 es om1 g1 s1 r1 ⟨i, ns, f0, he, ho, hp, hx, hf, p⟩ x dx hx1 hdx hne => by
    subst he
    cases r1 with
    | cons q t =>
      cases t
      obtain ⟨a, ws, rfl, h1, h2⟩ := as_l s1 (e := .o i) (ds := ns.map .int) q (by show olst om1[i]? = _; rw [ho]; rfl)
      have al : Al (O1.filter fun b => b != a) H1 := fun b hb => s1.al b (List.mem_filter.mp hb).1
      have na : a ∉ O1.filter fun b => b != a := fun z => by
        have := (List.mem_filter.mp z).2
        simp at this
      have ra : RlA (O1.filter fun b => b != a) H1 [.ref a] [.lst (ns.map .int)] := .cons (.lst na h1 (rlA_ints h2)) .nil
      refine ⟨.lst (ns.map .int), H1, x, dx, O1.filter fun b => b != a, [.ref a], rfl, rfl, rfl, hx1, hdx, hne, al, ra, hp, fun hR H' gs hs hg hr => ⟨rfl, ?_⟩, fun C' f u d v H2 hs hX rv hd => (hx C' f u hX).elim⟩
      obtain ⟨s2, g2⟩ := s1.same hs
      rw [hf] at hr
      cases hr with
      | cons qf tf =>
        cases tf
        cases qf with
        | @tup b us _ hb1 hb2 hb3 =>
          refine k (.ref x) H' O1 ps1 (.v (.obj C [(f0, .tup (ns.map .int))])) om1 (g1.trans g2) s2 (.obj (s1.nin hx1) hg (.cons (.tup (fun z => ?_) hb2 (rlA_ints hb3)) .nil)) p
          refine hb1 (List.mem_filter.mpr ⟨z, ?_⟩)
          rw [bne_iff_ne]
          rintro rfl
          rcases hb2 with hb2 | ⟨_, hb2⟩ <;> (rw [hs _ _ h1] at hb2; cases hb2)
/-- isinstance of built-in data and an own class -/
theorem cv_isiAO {C : Addr} {d : D} {T : String} {b : Bool} (hT : tyD d = some T) (hk : PySem.W.kitOne c.K (.type T) (.ref C) = some b) (p : P (.v (.bl b)) om) : CV c (rIsi c.K) om sl [.v d, .v (.raw (.ref C))] P := fun σ H O ps s vs r Q k => by
  obtain ⟨v, w, rfl, r1, r2⟩ := ra2 r
  cases r2
  refine ⟨v, .ref C, .type T, .ref C, b, rfl, .own C, ?_, hk, k _ H O ps (.v (.bl b)) om (Go.refl ..) s (Rl.bl b) p⟩
  cases d <;> cases hT <;> cases r1
  · exact .base .non
  · exact .base (.bl _)
  · exact .base (.int _)
  · exact .base (.str _)
  · rename_i a xs ha hr hx
    exact .base (.lst hr)
  · rename_i a xs ha hr hx
    rcases hr with hr | ⟨o, hr⟩
    · exact .base (.tup hr)
    · exact .fTuple hr
  · rename_i a xs ha hr hx
    exact .base (.dK hr)
theorem cv_tupQ {d : D} {xs : List D} (h : seqD d = some xs) (p : P (.v (.tup xs)) om) : CV c (rTupU c.K) om sl [.v d] P := by
  cases d <;> cases h
  · exact cv_tupL rfl p
  · exact cv_tupT p
theorem cv_listQ {d : D} {xs : List D} (h : seqD d = some xs) (p : P (.v (.lst xs)) om) : CV c (rListU c.K) om sl [.v d] P := by
  cases d <;> cases h
  · exact cv_listL rfl p
  · exact cv_listTD p
theorem cv_listQO {d : D} {xs : List D} (h : seqD d = some xs) (p : P (.o om.length) (om ++ [some (.l xs)])) : CV c (rListU c.K) om sl [.v d] P := by
  cases d <;> cases h
  · exact cv_listLO rfl p
  · exact cv_listTO p
theorem eqvAll_ints : ∀ as bs : List Int, PyData.eqvAll (D.pyA (as.map D.int)) (D.pyA (bs.map D.int)) = decide (as = bs)
  | [], [] => by simp [D.pyA, PyData.eqvAll]
  | [], b :: bs => by simp [D.pyA, PyData.eqvAll]
  | a :: as, [] => by simp [D.pyA, PyData.eqvAll]
  | a :: as, b :: bs => by
    have ih := eqvAll_ints as bs
    rw [List.map_cons, List.map_cons]
    unfold D.pyA PyData.eqvAll
    rw [ih]
    have e : PyData.eqv (D.int a).py (D.int b).py = decide (a = b) := by
      unfold D.py
      simp [PyData.eqv]
      by_cases c : a = b <;> simp [c]
    rw [e]
    by_cases c1 : a = b <;> by_cases c2 : as = bs <;> simp [c1, c2]
theorem eqv_tpI (as bs : List Int) : PyData.eqv (D.tup (as.map D.int)).py (D.tup (bs.map D.int)).py = decide (as = bs) := by
  rw [← eqvAll_ints]
  unfold D.py
  simp [PyData.eqv]
end
end DL
set_option Elab.async false
set_option linter.all false
set_option maxRecDepth 100000
set_option maxHeartbeats 4000000
namespace K01
open PySem PySem.Spec PyProof.Rows L2 DL HL CM STX NM DX TT RO SG
section
variable {P : Program} {w : World} {K : PySem.W.Frag} {mg : Str → Option Value} {base : Heap} {CY CV fV CS fS CN fN CB : Addr}
def yardD (CY : Addr) (hs : List Int) : D := .obj CY [("heights", .tup (hs.map .int))]
theorem ev_hs {c : Cn} {om : Om} {sl : Sl} {P : DL.E → Om → Prop} {te : TE} {hs : List Int} {mg : Str → Option Value} (T : Ty c.K mg CY CV fV CS fS CN fN CB) (h : EV c te om sl fun e om1 => e = .v (yardD CY hs) ∧ P (.v (.tup (hs.map .int))) om1) : EV c (tFld c.K te "heights") om sl P :=
  ev_fld (ev_mono h fun e om' ⟨he, p⟩ => ⟨CY, _, _, he, T.cY, T.nY, rfl, p⟩)
/-! ### Yard.__eq__ -/
theorem tw_tp {hs : List Int} (h12 : hs.length ≤ 12) (h : ∀ x ∈ hs, 1 ≤ x ∧ x ≤ 12) : Tw 1 400 (.tup (hs.map .int)) := by
  refine (tw_tup (n := 0) (b := 21) fun x hx => ?_).up (Nat.le_refl _) (by rw [List.length_map]; omega)
  obtain ⟨n, hn, rfl⟩ := List.mem_map.mp hx
  have := h n hn
  exact tw_int (by omega)
abbrev sp_yeq (CY : Addr) : Sp := spG 2 (fun p : List Int × List Int => [yardD CY p.1, yardD CY p.2]) (fun p => HsOk p.1 ∧ HsOk p.2) (fun p r => r = .bl (decide (p.1 = p.2))) noX
abbrev sp_yeqD (CY : Addr) : Sp := spG 2 (fun p : List Int × D => [yardD CY p.1, p.2]) (fun p => (seqD p.2).isSome = true) (fun p r => r = .bl false) noX
abbrev sp_yeqs (CY : Addr) : Sp := fun vs H Q E => sp_yeq CY vs H Q E ∨ sp_yeqD CY vs H Q E
theorem cv_yeq {c : Cn} {om : Om} {sl : Sl} {P : DL.E → Om → Prop} {Ew : XK} {a b : List Int} (ha : HsOk a) (hb : HsOk b) (p : P (.v (.bl (decide (a = b)))) om) : DL.CV c (fun vs H Q => sp_yeqs CY vs H Q Ew) om sl [.v (yardD CY a), .v (yardD CY b)] P := fun σ H O ps s vs r Q k => by
  have z : DL.CV c (fun vs H Q => sp_yeq CY vs H Q Ew) om sl [.v (yardD CY a), .v (yardD CY b)] P := cv_G (a, b) rfl rfl ⟨ha, hb⟩ (fun _ _ _ z => z) fun r hr => by rw [hr]; exact p
  exact .inl (z σ H O ps s vs r Q k)
theorem cv_yeqD {c : Cn} {om : Om} {sl : Sl} {P : DL.E → Om → Prop} {Ew : XK} {a : List Int} {d : D} (hd : (seqD d).isSome = true) (p : P (.v (.bl false)) om) : DL.CV c (fun vs H Q => sp_yeqs CY vs H Q Ew) om sl [.v (yardD CY a), .v d] P := fun σ H O ps s vs r Q k => by
  have z : DL.CV c (fun vs H Q => sp_yeqD CY vs H Q Ew) om sl [.v (yardD CY a), .v d] P := cv_G (a, d) rfl rfl hd (fun _ _ _ z => z) fun r hr => by rw [hr]; exact p
  exact .inr (z σ H O ps s vs r Q k)
theorem c_YardEq {f : Addr} {fd : FuncData} (T : Ty K mg CY CV fV CS fS CN fN CB) (ME : OEq K CY f) (FE : Fun K "__eq__" "Yard.__eq__" s_Yard__eq__ f fd) (bE : Binds K fd ["self", "other"] []) : CaM P w K mg base CX0 1 CY (sp_yeqs CY) := by
  refine ⟨f, fd, _, ME, FnOk.or (FE.ok sc_Yard__eq__ (fun vs H Q E h => lenG h) (fun cdv A outer s H vs Q E hr h => ⟨_, (pss_one (ps_ret (pe_and (pe_callB call_isi (by rfl) T.z_isinstance (by decide +kernel) (pa_cons (pv 1) (pa_cons (pe_glob (v := .ref _) rfl T.g_Yard rfl) pa_nil))) (pe_one (pe_cmpR (op_eqU hr.units) (pe_fld (pv 0) rfl) (pe_fld (pv 1) rfl) (by first | exact nomark _ | rfl)))))), entryG (K := K) (by decide) h fun O p hl hp _ => ?_⟩) : FnOk P w K mg base CX0 1 f fd ["self", "other"] (sp_yeq CY)) (FE.ok sc_Yard__eq__ (fun vs H Q E h => lenG h) (fun cdv A outer s H vs Q E hr h => ⟨_, (pss_one (ps_ret (pe_and (pe_callB call_isi (by rfl) T.z_isinstance (by decide +kernel) (pa_cons (pv 1) (pa_cons (pe_glob (v := .ref _) rfl T.g_Yard rfl) pa_nil))) (pe_one (pe_cmpR (op_eqU hr.units) (pe_fld (pv 0) rfl) (pe_fld (pv 1) rfl) (by first | exact nomark _ | rfl)))))), entryG (K := K) (by decide) h fun O p hl hp _ => ?_⟩) : FnOk P w K mg base CX0 1 f fd ["self", "other"] (sp_yeqD CY)) (fun _ _ _ _ z => z), bE⟩
  · obtain ⟨hs, gs⟩ := p
    walk_at "d0"
    walk_at "n"
    refine EX.ev_raw ?_
    walk_at "n"
    refine cv_isiO T.kY.I ?_
    walk_at "n"
    refine ⟨fun _ => ?_, fun z => nomatch z⟩
    walk_at "n"
    refine ev_hs (hs := hs) T ?_
    walk_at "n"
    refine ⟨rfl, ?_⟩
    refine ev_hs (hs := gs) T ?_
    walk_at "n"
    refine ⟨rfl, ?_⟩
    refine ov_eqT rfl rfl (tw_tp hp.1.2.1 hp.1.2.2) (tw_tp hp.2.2.1 hp.2.2.2) (by decide) (by decide) ?_
    rw [eqv_tpI]
    exact ⟨_, rfl, rfl⟩
  · obtain ⟨hs, d⟩ := p
    dsimp only at hp ⊢
    walk_at "d0"
    walk_at "n"
    refine EX.ev_raw ?_
    walk_at "n"
    cases d <;> first | exact absurd hp Bool.false_ne_true | skip
    · refine cv_isiAO rfl T.k_lY ?_
      walk_at "n"
      refine ⟨(fun z => nomatch z), fun _ => ?_⟩
      exact ⟨_, rfl, rfl⟩
    · refine cv_isiAO rfl T.k_tY ?_
      walk_at "n"
      refine ⟨(fun z => nomatch z), fun _ => ?_⟩
      exact ⟨_, rfl, rfl⟩
/-! ### _law_yard_right -/
theorem yF_none {d : D} (h : yF d = none) : ∃ (hs : List Int), HsOk hs ∧ seqD d = some (hs.map .int) ∧ yFs d = [(("heights" : Str), D.tup (hs.map .int))] := by
  have key : ∀ xs : List D, yFx xs = none → ∃ hs : List Int, HsOk hs ∧ xs = hs.map .int := by
    intro xs e
    unfold yFx at e
    by_cases c : 3 ≤ xs.length ∧ xs.length ≤ 12
    · rw [if_pos c] at e
      have e2 : xs.findIdx? (fun x => !hOk x) = none := by
        cases z : xs.findIdx? (fun x => !hOk x) with
        | none => rfl
        | some n =>
          rw [z] at e
          cases e
      have all : ∀ x ∈ xs, hOk x = true := fun x hx => by
        have := List.findIdx?_eq_none_iff.mp e2 x hx
        simpa using this
      have conv : ∀ l : List D, (∀ x ∈ l, hOk x = true) → ∃ hs : List Int, l = hs.map .int ∧ ∀ h ∈ hs, 1 ≤ h ∧ h ≤ 12 := by
        intro l
        induction l with
        | nil => exact fun _ => ⟨[], rfl, by simp⟩
        | cons x l ih =>
          intro hl
          obtain ⟨hs, rfl, hb⟩ := ih fun y hy => hl y (List.mem_cons_of_mem _ hy)
          have hx := hl x List.mem_cons_self
          cases x <;> try exact absurd hx Bool.false_ne_true
          rename_i i
          have hi : 1 ≤ i ∧ i ≤ 12 := by simpa [hOk] using hx
          exact ⟨i :: hs, rfl, fun h hh => (List.mem_cons.mp hh).elim (fun q => q ▸ hi) (hb h)⟩
      obtain ⟨hs, rfl, hb⟩ := conv xs all
      rw [List.length_map] at c
      exact ⟨hs, ⟨c.1, c.2, hb⟩, rfl⟩
    · rw [if_neg c] at e
      cases e
  cases d <;> try cases h
  · obtain ⟨hs, ho, rfl⟩ := key _ h
    exact ⟨hs, ho, rfl, rfl⟩
  · obtain ⟨hs, ho, rfl⟩ := key _ h
    exact ⟨hs, ho, rfl, rfl⟩
theorem yF_hs {hs : List Int} (ho : HsOk hs) {d : D} (h : seqD d = some (hs.map .int)) : yF d = none := by
  have e : yFx (hs.map D.int) = none := yF_good (by rw [List.length_map]; exact ⟨ho.1, ho.2.1⟩) fun j e hj he => by
    obtain ⟨h, hh, rfl⟩ := List.mem_map.mp (List.mem_of_getElem? he)
    have := ho.2.2 h hh
    show (decide (1 ≤ h) && decide (h ≤ 12)) = true
    rw [decide_eq_true this.1, decide_eq_true this.2]
    rfl
  cases d <;> cases h <;> exact e
theorem yF_tw (d : D) : Tw 0 21 (optD (yF d)) := by
  have key : ∀ xs : List D, Tw 0 21 (optD (yFx xs)) := by
    intro xs
    unfold yFx
    by_cases c : 3 ≤ xs.length ∧ xs.length ≤ 12
    · rw [if_pos c]
      cases e : xs.findIdx? (fun x => !hOk x) with
      | none => exact tw_non.up (Nat.le_refl _) (by decide)
      | some n =>
        have := (List.findIdx?_eq_some_iff_getElem.mp e).1
        exact tw_int (i := (n : Int)) (by omega)
    · rw [if_neg c]
      exact tw_int (by decide)
  cases d <;> first | exact key _ | exact tw_int (by decide)
abbrev sp_yright (CY : Addr) : Sp := spGN 1 (fun hs : List Int => [.lst (hs.map .int)]) HsOk fun _ r => r = .bl true
theorem c__law_yard_right {f : Addr} {fd : FuncData} (T : Ty K mg CY CV fV CS fS CN fN CB) (c__law_draw : Ca P w K mg base CX0 1 "_law_draw" ["heap", "many"] sp_draw) (c__law_pick : Ca P w K mg base CX0 2 "_law_pick" ["heap", "some"] sp_pick) (c__law_bent_heights : Ca P w K mg base CX0 5 "_law_bent_heights" ["heap", "heights"] (sp_bent CY))
    (c_Yard : CaC P w K mg base (L2.CX P w) 2 "Yard" CY ["self", "heights"] (sp_y CY CV)) (k_Yard : CaCK P w K mg base (L2.CX P w) 2 "Yard" CY ["self", "heights"] (sp_y CY CV)) (c_YardEq : CaM P w K mg base CX0 1 CY (sp_yeqs CY))
    (c__law_yard_fault : Ca P w K mg base CX0 2 "_law_yard_fault" ["value"] (sp_yfault CY)) (c__law_yard_told : Ca P w K mg base CX0 4 "_law_yard_told" ["value"] (sp_ytold CY))
    (B : DefB K mg "_law_yard_right" s__law_yard_right ["heap", "heights"] f fd) : CaG P w K mg base CX0 6 "_law_yard_right" ["heap", "heights"] (sp_yright CY) := by
  refine cag_of B sc__law_yard_right (fun vs H Q E h => lenGN h) (fun cdv A outer s H vs Q E hr hgd h => ⟨_, (pss_cons (ps_set (i := 2) sc__law_yard_right.nd rfl (by first | exact Or.inl rfl | exact Or.inr rfl) (pe_callTy cr_list (by rfl) T.z_list (by decide +kernel) (pa_cons (pv 1) pa_nil)))
    (pss_cons (ps_for PassesOwn.never rfl (pi_range1 (by rfl) T.z_range (pa_cons (pe_ca c__law_pick hr (by first | decide | (simp only [Nat.add_eq]; omega)) pass0 (pa_cons (pv 0) (pa_cons (pe_lst (pa_cons pe_int (pa_cons pe_int (pa_cons pe_int (pa_cons pe_int pa_nil))))) pa_nil))) pa_nil)) (pg_name (i := 3) sc__law_yard_right.nd rfl (by first | exact Or.inl rfl | exact Or.inr rfl))
     (pss_one (ps_set (i := 2) sc__law_yard_right.nd rfl (by first | exact Or.inl rfl | exact Or.inr rfl) (pe_ifExp (pt_cmpR (op_neE hr.units0) (pv 2) (pe_lst pa_nil) (by first | exact nomark _ | rfl)) (pe_ca c__law_bent_heights hr (by first | decide | (simp only [Nat.add_eq]; omega)) pass0 (pa_cons (pv 0) (pa_cons (pv 2) pa_nil))) (pv 2)))))
    (pss_cons (ps_if (pt_cmpR (op_eqU hr.units) (pe_ca c__law_draw hr (by first | decide | (simp only [Nat.add_eq]; omega)) pass0 (pa_cons (pv 0) (pa_cons pe_int pa_nil))) pe_int (by first | exact nomark _ | rfl))
     (pss_one (ps_set (i := 2) sc__law_yard_right.nd rfl (by first | exact Or.inl rfl | exact Or.inr rfl) (pe_ca c__law_pick hr (by first | decide | (simp only [Nat.add_eq]; omega)) pass0 (pa_cons (pv 0) (pa_cons (pe_lst (pa_cons pe_non (pa_cons pe_int (pa_cons pe_str (pa_cons pe_bl (pa_cons (pe_tup pa_nil) (pa_cons (pe_mk c_Yard hr (by first | decide | (simp only [Nat.add_eq]; omega)) passL (pa_cons (pv 1) pa_nil)) (pa_cons (pe_un un_neg pe_int) pa_nil)))))))) pa_nil)))))
     (pss_one (ps_if (pt_cmpR (op_eqU hr.units) (pe_ca c__law_draw hr (by first | decide | (simp only [Nat.add_eq]; omega)) pass0 (pa_cons (pv 0) (pa_cons pe_int pa_nil))) pe_int (by first | exact nomark _ | rfl))
      (pss_one (ps_set (i := 2) sc__law_yard_right.nd rfl (by first | exact Or.inl rfl | exact Or.inr rfl) (pe_callTy cr_tup (by rfl) T.z_tuple (by decide +kernel) (pa_cons (pv 2) pa_nil))))
      pss_nil)))
    (pss_cons (ps_if (pt_cmpR (op_neU hr.units) (pe_callB (LR.cr_repr rfl hgd hr.units) (by rfl) T.z_repr (by decide +kernel) (pa_cons (pe_ca c__law_yard_told hr (by first | decide | (simp only [Nat.add_eq]; omega)) pass0 (pa_cons (pv 2) pa_nil)) pa_nil)) (pe_callB (LR.cr_repr rfl hgd hr.units) (by rfl) T.z_repr (by decide +kernel) (pa_cons (pe_ca c__law_yard_fault hr (by first | decide | (simp only [Nat.add_eq]; omega)) pass0 (pa_cons (pv 2) pa_nil)) pa_nil)) (by first | exact nomark _ | rfl))
     (pss_one (ps_ret pe_bl))
     pss_nil)
    (pss_cons (ps_if (pt_cmpR op_isN (pe_ca c__law_yard_fault hr (by first | decide | (simp only [Nat.add_eq]; omega)) pass0 (pa_cons (pv 2) pa_nil)) pe_non (by first | exact nomark _ | rfl))
     (pss_cons (ps_set (i := 4) sc__law_yard_right.nd rfl (by first | exact Or.inl rfl | exact Or.inr rfl) (pe_callTy cr_list (by rfl) T.z_list (by decide +kernel) (pa_cons (pv 2) pa_nil)))
     (pss_cons (ps_set (i := 5) sc__law_yard_right.nd rfl (by first | exact Or.inl rfl | exact Or.inr rfl) (pe_mk c_Yard hr (by first | decide | (simp only [Nat.add_eq]; omega)) passL (pa_cons (pv 4) pa_nil)))
     (pss_cons (ps_asg (pe_op op_sub pe_int (pe_ix ix_seq (pv 4) pe_int (fun _ _ => rfl))) (pg_sub (pv 4) pe_int set_list))
     (pss_cons (ps_if (PW.pt (pw_or (pt_cmpR (op_neU hr.units) (pe_callB (LR.cr_repr rfl hgd hr.units) (by rfl) T.z_repr (by decide +kernel) (pa_cons (pe_fld (pv 5) rfl) pa_nil)) (pe_callB (LR.cr_repr rfl hgd hr.units) (by rfl) T.z_repr (by decide +kernel) (pa_cons (pe_callTy cr_tup (by rfl) T.z_tuple (by decide +kernel) (pa_cons (pv 2) pa_nil)) pa_nil)) (by first | exact nomark _ | rfl)) (pw_or (pt_cmpR (op_neO c_YardEq (hr.mono (by decide)) pass0) (pv 5) (pe_mkK k_Yard hr (by first | decide | (simp only [Nat.add_eq]; omega)) passL (pk_cons (pe_callTy cr_tup (by rfl) T.z_tuple (by decide +kernel) (pa_cons (pv 2) pa_nil)) pk_nil)) (by first | exact nomark _ | rfl)) (pw_or1 (pt_cmpR (op_eqO c_YardEq (hr.mono (by decide)) pass0) (pv 5) (pe_mk c_Yard hr (by first | decide | (simp only [Nat.add_eq]; omega)) passL (pa_cons (pv 4) pa_nil)) (by first | exact nomark _ | rfl))))))
      (pss_one (ps_ret pe_bl))
      pss_nil)
     (pss_cons (ps_if (PW.pt (pw_and (pt_cmpR op_lt (pe_callB cr_len (by rfl) T.z_len (by decide +kernel) (pa_cons (pv 2) pa_nil)) pe_int (by first | exact nomark _ | rfl)) (pw_and1 (pt_cmpR (op_eqO c_YardEq (hr.mono (by decide)) pass0) (pe_mk c_Yard hr (by first | decide | (simp only [Nat.add_eq]; omega)) passL (pa_cons (pe_op op_addU (pe_callTy cr_list (by rfl) T.z_list (by decide +kernel) (pa_cons (pv 2) pa_nil)) (pe_lst (pa_cons pe_int pa_nil))) pa_nil)) (pv 5) (by first | exact nomark _ | rfl)))))
      (pss_one (ps_ret pe_bl))
      pss_nil)
     (pss_one (ps_ret (pe_and (pe_cmpR (op_neA c_YardEq (hr.mono (by decide)) pass0) (pv 5) (pe_callTy cr_tup (by rfl) T.z_tuple (by decide +kernel) (pa_cons (pv 2) pa_nil)) (by first | exact nomark _ | rfl)) (pe_one (pe_cmpR (op_neA c_YardEq (hr.mono (by decide)) pass0) (pv 5) (pe_callTy cr_list (by rfl) T.z_list (by decide +kernel) (pa_cons (pv 2) pa_nil)) (by first | exact nomark _ | rfl)))))))))))
     pss_nil)
    (pss_one (ps_ret pe_bl))))))), entryGN (K := K) (by decide) h fun F O hs hl ho => ?_⟩)
  walk_at "d0"
  walk_at "n"
  refine cv_listL rfl ?_
  walk_at "n"
  walk_at "s"
  walk_at "n"
  refine sv_for (wv_range1 ?_)
  walk_at "n"
  refine ev_lst ?_
  walk_at "n"
  refine cv_pick rfl (by simp) (by simp) fun r hr => ?_
  obtain ⟨n, rfl, hn⟩ : ∃ n : Nat, r = .int (n : Int) ∧ n ≤ 2 := by
    simp only [List.mem_cons, List.not_mem_nil, or_false] at hr
    rcases hr with rfl | rfl | rfl | rfl
    · exact ⟨0, rfl, by omega⟩
    · exact ⟨1, rfl, by omega⟩
    · exact ⟨1, rfl, by omega⟩
    · exact ⟨2, rfl, by omega⟩
  have hts0 : Hts CY (hs.map D.int) := ⟨by rw [List.length_map]; have := ho.2.1; omega, fun x hx => by
    obtain ⟨h, _, rfl⟩ := List.mem_map.mp hx
    exact .int h⟩
  walk_at "n"
  refine ⟨rfl, _, rfl, by omega, by omega, fun i om' sl' => ∃ (xs : List D) (t3 : Option DL.E), Hts CY xs ∧ om' = [] ∧ sl' = [some .l, some (.v (.lst (hs.map .int))), some (.v (.lst xs)), t3, none, none], ⟨_, _, hts0, rfl, rfl⟩, ?_, ?_⟩
  · rintro i d om' sl' hd ⟨xs, t3, hx, rfl, rfl⟩
    refine gv_name ⟨ltb rfl, ?_⟩
    walk_at "s"
    walk_at "n"
    refine ev_if ?_
    walk_at "n"
    refine ev_lst ?_
    walk_at "n"
    refine ov_neE (.inl ⟨rfl, rfl⟩) ?_
    walk_at "n"
    refine ⟨fun ne => ?_, fun ne => ?_⟩
    · walk_at "n"
      refine cv_GN xs rfl rfl rfl ⟨by rintro rfl; simp at ne, hx⟩ fun r hr => ?_
      obtain ⟨ys, rfl, hy⟩ := hr
      walk_at "n"
      exact ⟨_, _, hy, rfl, rfl⟩
    · walk_at "n"
      exact ⟨_, _, hx, rfl, rfl⟩
  · rintro om' sl' ⟨xs, t3, hx, rfl, rfl⟩
    refine sv_seq (sv_cut (M := fun om' sl' => ∃ (d : D) (t3 : Option DL.E), Pl CY 1000 d ∧ om' = [] ∧ sl' = [some .l, some (.v (.lst (hs.map .int))), some (.v d), t3, none, none]) ?_ ?_)
    · refine sv_if ?_
      walk_at "n"
      refine cv_draw (by decide) (by decide) fun a ha => ?_
      walk_at "n"
      refine ⟨fun _ => ?_, fun _ => ?_⟩
      · walk_at "n"
        refine ev_lst ?_
        walk_at "n"
        refine ev_makeN ?_
        walk_at "n"
        refine ⟨rfl, .lst (by rw [List.length_map]; have := ho.2.1; omega) (fun x hx => by obtain ⟨h, _, rfl⟩ := List.mem_map.mp hx; exact .int h), fun C f x z => ?_, ?_⟩
        · obtain ⟨_, _, i, e, _⟩ := z
          rw [yF_hs ho rfl] at e
          cases e
        walk_at "n"
        refine cv_pick rfl (by simp) (by simp) fun r hr => ?_
        walk_at "n"
        refine ⟨r, _, ?_, rfl, rfl⟩
        simp only [List.mem_cons, List.not_mem_nil, or_false] at hr
        rcases hr with rfl | rfl | rfl | rfl | rfl | rfl | rfl
        · exact .non
        · exact .int _
        · exact .str _
        · exact .bl _
        · exact .tup (by simp) (by simp)
        · exact .obj _
        · exact .int _
      · walk_at "n"
        refine sv_if ?_
        walk_at "n"
        refine cv_draw (by decide) (by decide) fun b hb => ?_
        walk_at "n"
        refine ⟨fun _ => ?_, fun _ => ?_⟩
        · walk_at "n"
          refine cv_tupL rfl ?_
          walk_at "n"
          exact ⟨.tup xs, _, .tup (by have := hx.1; omega) (fun x h => (hx.2 x h).mono (by decide)), rfl, rfl⟩
        · walk_at "n"
          exact ⟨.lst xs, _, .lst (by have := hx.1; omega) (fun x h => (hx.2 x h).mono (by decide)), rfl, rfl⟩
    · rintro om' sl' ⟨d, t3, hp, rfl, rfl⟩
      have tw : Tw 0 21 (optD (yF d)) := yF_tw d
      walk_at "n"
      refine sv_if ?_
      walk_at "n"
      refine cv_G d rfl rfl hp (fun _ _ _ z => z) fun r hr => ?_
      subst hr
      walk_at "n"
      refine cv_reprT rfl tw (by decide) (by decide) ?_
      walk_at "n"
      refine cv_G d rfl rfl hp (fun _ _ _ z => z) fun r hr => ?_
      subst hr
      walk_at "n"
      refine cv_reprT rfl tw (by decide) (by decide) ?_
      walk_at "n"
      rw [decide_eq_true rfl]
      refine ⟨(fun z => nomatch z), fun _ => ?_⟩
      walk_at "n"
      refine sv_if ?_
      walk_at "n"
      refine cv_G d rfl rfl hp (fun _ _ _ z => z) fun r hr => ?_
      subst hr
      walk_at "n"
      cases e : yF d with
      | some i =>
        refine ov_isN (b := false) (fun O H v r => by cases r; rfl) ?_
        walk_at "n"
        refine ⟨(fun z => nomatch z), fun _ => ?_⟩
        walk_at "n"
        rfl
      | none =>
        refine ov_isN (b := true) (fun O H v r => by cases r; rfl) ?_
        obtain ⟨gs, og, hq, hf⟩ := yF_none e
        obtain ⟨g0, gt, rfl⟩ : ∃ g0 gt, gs = g0 :: gt := by
          cases gs with
          | nil => exact absurd og.1 (by decide)
          | cons a b => exact ⟨a, b, rfl⟩
        have gl := og.2.1
        have bg := og.2.2 g0 List.mem_cons_self
        have og2 : HsOk ((13 - g0) :: gt) := ⟨og.1, og.2.1, fun h hh => (List.mem_cons.mp hh).elim (fun q => by omega) fun q => og.2.2 h (List.mem_cons_of_mem _ q)⟩
        have plI : ∀ ns : List Int, ns.length ≤ 1000 → Pl CY 1000 (.lst (ns.map .int)) := fun ns h => .lst (by rw [List.length_map]; exact h) fun x hx => by obtain ⟨h, _, rfl⟩ := List.mem_map.mp hx; exact .int h
        have noF : ∀ {ns : List Int} {d : D}, HsOk ns → seqD d = some (ns.map .int) → ∀ C f x, ¬ yX CV d C f x := fun h1 h2 C f x z => by
          obtain ⟨_, _, i, e, _⟩ := z
          rw [yF_hs h1 h2] at e
          cases e
        walk_at "n"
        refine ⟨fun _ => ?_, fun z => nomatch z⟩
        walk_at "n"
        refine cv_listQO hq ?_
        walk_at "n"
        walk_at "s"
        walk_at "n"
        refine ev_makeLO ?_
        walk_at "n"
        refine ⟨0, g0 :: gt, "heights", rfl, rfl, plI _ (by omega), noF og rfl, rfl, ?_⟩
        walk_at "n"
        walk_at "s"
        walk_at "n"
        have a0 : atI ((g0 :: gt).map D.int) 0 = some (.int g0) := atI_n (j := 0) rfl
        have i0 : ixN ((g0 :: gt).map D.int).length 0 = some 0 := by
          unfold ixN
          rw [if_pos (by decide), if_pos (by simp <;> omega)]
          rfl
        refine ov_ixL rfl a0 ?_
        walk_at "n"
        refine ⟨0, 0, _, rfl, rfl, i0, ?_⟩
        rw [show [some (Own.l ((g0 :: gt).map D.int))].set 0 (some (Own.l (((g0 :: gt).map D.int).set 0 (D.int (13 - g0))))) = [some (Own.l (((13 - g0) :: gt).map D.int))] from rfl]
        have twg := tw_tp og.2.1 og.2.2
        walk_at "n"
        refine sv_if ?_
        walk_at "n"
        refine ev_hs (hs := g0 :: gt) T ?_
        walk_at "n"
        refine ⟨rfl, ?_⟩
        walk_at "n"
        refine cv_reprT rfl twg (by decide) (by decide) ?_
        walk_at "n"
        refine cv_tupQ hq ?_
        walk_at "n"
        refine cv_reprT rfl twg (by decide) (by decide) ?_
        walk_at "n"
        rw [decide_eq_true rfl]
        refine ⟨fun _ => ?_, fun z => nomatch z⟩
        walk_at "n"
        refine ev_makeK ?_
        walk_at "n"
        refine cv_tupQ hq ?_
        walk_at "n"
        refine ⟨rfl, .tup (by rw [List.length_map]; omega) (fun x hx => by obtain ⟨h, _, rfl⟩ := List.mem_map.mp hx; exact .int h), noF og rfl, ?_⟩
        refine ov_neO ?_
        refine cv_yeq (a := g0 :: gt) (b := g0 :: gt) og og ?_
        rw [decide_eq_true rfl]
        refine ⟨true, rfl, ?_⟩
        walk_at "n"
        refine ⟨fun _ => ?_, fun z => nomatch z⟩
        walk_at "n"
        refine ev_makeLO ?_
        walk_at "n"
        refine ⟨0, (13 - g0) :: gt, "heights", rfl, rfl, plI _ (by simp at gl ⊢; omega), noF og2 rfl, rfl, ?_⟩
        refine ov_eqO ?_
        refine cv_yeq (a := g0 :: gt) (b := (13 - g0) :: gt) og og2 ?_
        rw [decide_eq_false (fun z => by injection z with z1 z2; omega)]
        refine ⟨false, rfl, ?_⟩
        walk_at "n"
        refine ⟨(fun z => nomatch z), fun _ => ?_⟩
        walk_at "n"
        refine sv_cut (M := fun om' sl' => om' = [some (Own.l (((13 - g0) :: gt).map D.int))] ∧ sl' = [some .l, some (.v (.lst (hs.map .int))), some (.v d), t3, some (.o 0), some (.v (yardD CY (g0 :: gt)))]) ?_ ?_
        · refine sv_if ?_
          walk_at "n"
          refine cv_lenQ hq ?_
          walk_at "n"
          refine ⟨fun l12 => ?_, fun _ => ?_⟩
          · have l12' := of_decide_eq_true l12
            rw [List.length_map] at l12'
            have og3 : HsOk (g0 :: gt ++ [1]) := ⟨by rw [List.length_append]; have := og.1; omega, by rw [List.length_append]; simp at l12' ⊢; omega, fun h hh => by
              rcases List.mem_append.mp hh with q | q
              · exact og.2.2 h q
              · rw [List.mem_singleton.mp q]
                omega⟩
            walk_at "n"
            refine ev_makeN ?_
            walk_at "n"
            refine cv_listQ hq ?_
            walk_at "n"
            refine ev_lst ?_
            walk_at "n"
            refine ov_addL rfl rfl (by rw [List.length_map]; show _ + 1 ≤ _; omega) ?_
            walk_at "n"
            have e3 : (g0 :: gt).map D.int ++ [D.int 1] = (g0 :: gt ++ [1]).map D.int := by rw [List.map_append]; rfl
            rw [e3]
            refine ⟨rfl, plI _ (by rw [List.length_append]; simp at l12' ⊢; omega), noF og3 rfl, ?_⟩
            walk_at "n"
            refine ov_eqO ?_
            refine cv_yeq (a := g0 :: gt ++ [1]) (b := g0 :: gt) og3 og ?_
            rw [decide_eq_false (fun z => by have := congrArg List.length z; rw [List.length_append] at this; simp at this)]
            refine ⟨false, rfl, ?_⟩
            walk_at "n"
            refine ⟨(fun z => nomatch z), fun _ => ?_⟩
            walk_at "n"
            exact ⟨rfl, rfl⟩
          · walk_at "n"
            refine ⟨(fun z => nomatch z), fun _ => ?_⟩
            walk_at "n"
            exact ⟨rfl, rfl⟩
        · rintro om' sl' ⟨rfl, rfl⟩
          walk_at "n"
          refine cv_tupQ hq ?_
          walk_at "n"
          refine ov_neAt T.nf_t ?_
          refine cv_yeqD (a := g0 :: gt) rfl ?_
          refine ⟨false, rfl, ?_⟩
          walk_at "n"
          refine ⟨fun _ => ?_, fun z => nomatch z⟩
          walk_at "n"
          refine cv_listQ hq ?_
          walk_at "n"
          refine ov_neAl T.nf_l ?_
          refine cv_yeqD (a := g0 :: gt) rfl ?_
          refine ⟨false, rfl, ?_⟩
          walk_at "n"
          rfl
end
end K01
set_option Elab.async false
set_option linter.all false
set_option maxRecDepth 100000
set_option maxHeartbeats 4000000
namespace K01
open PySem PySem.Spec PyProof.Rows L2 DL HL CM STX NM DX TT RO SG
abbrev s__law_is_name : Stmt := topS 38
theorem sc__law_is_name : FnScope ["value", "letters", "sign"] ["value"] (defScope s__law_is_name) := ⟨rfl, rfl, rfl, by decide +kernel, rfl, by decide +kernel, by decide +kernel⟩
abbrev s__law_standing_fault : Stmt := topS 39
theorem sc__law_standing_fault : FnScope ["heights", "value", "seen", "at", "box"] ["heights", "value"] (defScope s__law_standing_fault) := ⟨rfl, rfl, rfl, by decide +kernel, rfl, by decide +kernel, by decide +kernel⟩
abbrev s__law_bent : Stmt := topS 40
theorem sc__law_bent : FnScope ["heap", "heights", "value", "spare", "place", "at", "form", "row", "rows", "odd", "others", "twin", "other"] ["heap", "heights", "value", "spare"] (defScope s__law_bent) := ⟨rfl, rfl, rfl, by decide +kernel, rfl, by decide +kernel, by decide +kernel⟩
/-- plain data whose texts are short -/
inductive Sh (m : Nat) : D → Prop
  | non : Sh m .non
  | bl (b : Bool) : Sh m (.bl b)
  | int (i : Int) : Sh m (.int i)
  | str {x : Str} : x.length ≤ 1000 → Sh m (.str x)
  | lst {xs : List D} : xs.length ≤ m → (∀ x ∈ xs, Sh m x) → Sh m (.lst xs)
  | tup {xs : List D} : xs.length ≤ m → (∀ x ∈ xs, Sh m x) → Sh m (.tup xs)
theorem Sh.pl {CY : Addr} {m : Nat} {d : D} (h : Sh m d) : Pl CY m d := by
  induction h with
  | non => exact .non
  | bl b => exact .bl b
  | int i => exact .int i
  | str h => exact .str _
  | lst h1 _ ih => exact .lst h1 ih
  | tup h1 _ ih => exact .tup h1 ih
theorem Sh.sh {m : Nat} {d : D} (h : Sh m d) : ShS d := fun y e => by
  subst e
  cases h
  assumption
theorem Sh.mono {m n : Nat} (h : m ≤ n) {d : D} (p : Sh m d) : Sh n d := by
  induction p with
  | non => exact .non
  | bl b => exact .bl b
  | int i => exact .int i
  | str h => exact .str h
  | lst h1 _ ih => exact .lst (Nat.le_trans h1 h) ih
  | tup h1 _ ih => exact .tup (Nat.le_trans h1 h) ih
/-- the names of a row behind those seen; none where one is no name or was seen -/
def addAll : List Str → List D → Option (List Str)
  | seen, [] => some seen
  | seen, .str y :: ds => if nmB y = true ∧ y ∉ seen then addAll (seen ++ [y]) ds else none
  | _, _ :: _ => none
/-- the first stack that is wrong, from the i-th on -/
def sFgo : List Int → List D → Nat → List Str → Option Int
  | h :: hs, .tup cells :: rs, i, seen => if (cells.length : Int) ≤ h then match addAll seen cells with
      | some s2 => sFgo hs rs (i + 1) s2
      | none => some (i : Int)
    else some (i : Int)
  | _ :: _, _ :: _, i, _ => some (i : Int)
  | _, _, _, _ => none
def sF (hs : List Int) : D → Option Int
  | .tup rows => if rows.length = hs.length then sFgo hs rows 0 [] else some (-1)
  | _ => some (-1)
theorem addAll_bad : ∀ {ds : List D} {seen : List Str}, (∃ d ∈ ds, isN d = false) → addAll seen ds = none
  | [], _, h => by obtain ⟨d, hd, _⟩ := h; simp at hd
  | d :: ds, seen, h => by
    cases d with
    | str y =>
      unfold addAll
      by_cases c : nmB y = true ∧ y ∉ seen
      · rw [if_pos c]
        refine addAll_bad ?_
        obtain ⟨d, hd, e⟩ := h
        rcases List.mem_cons.mp hd with rfl | q
        · rw [show isN (.str y) = nmB y from rfl, c.1] at e
          cases e
        · exact ⟨d, q, e⟩
      · rw [if_neg c]
    | _ => rfl
theorem addAll_str {y : Str} {ds : List D} {seen : List Str} (h : nmB y = true) (n : y ∉ seen) : addAll seen (.str y :: ds) = addAll (seen ++ [y]) ds := by
  rw [addAll, if_pos ⟨h, n⟩]
theorem addAll_dup {y : Str} {ds : List D} {seen : List Str} (n : y ∈ seen) : addAll seen (.str y :: ds) = none := by
  rw [addAll, if_neg fun z => z.2 n]
theorem sFgo_tup {h : Int} {hs : List Int} {cells rs : List D} {i : Nat} {seen s2 : List Str} (c : (cells.length : Int) ≤ h) (e : addAll seen cells = some s2) : sFgo (h :: hs) (.tup cells :: rs) i seen = sFgo hs rs (i + 1) s2 := by
  rw [sFgo, if_pos c, e]
theorem sFgo_bad {h : Int} {hs : List Int} {cells rs : List D} {i : Nat} {seen : List Str} (e : addAll seen cells = none) : sFgo (h :: hs) (.tup cells :: rs) i seen = some (i : Int) := by
  rw [sFgo]
  by_cases c : (cells.length : Int) ≤ h
  · rw [if_pos c, e]
  · rw [if_neg c]
theorem sFgo_high {h : Int} {hs : List Int} {cells rs : List D} {i : Nat} {seen : List Str} (c : ¬ (cells.length : Int) ≤ h) : sFgo (h :: hs) (.tup cells :: rs) i seen = some (i : Int) := by
  rw [sFgo, if_neg c]
theorem sFgo_kind {h : Int} {hs : List Int} {d : D} {rs : List D} {i : Nat} {seen : List Str} (c : isT "tuple" d = false) : sFgo (h :: hs) (d :: rs) i seen = some (i : Int) := by
  cases d with
  | tup xs => exact absurd c (by show ¬ (true = false); decide)
  | _ => rfl
section
variable {P : Program} {w : World} {K : PySem.W.Frag} {mg : Str → Option Value} {base : Heap} {CY CV fV CS fS CN fN CB : Addr}
/-! ### _is_pile -/
def pileB (d : D) (h : Int) : Bool := match d with
  | .tup cells => decide ((cells.length : Int) ≤ h) && cells.all isN
  | _ => false
abbrev sp_pile : Sp := spG 2 (fun p : D × Int => [p.1, .int p.2]) (fun p => Sh 900 p.1) (fun p r => r = .bl (pileB p.1 p.2)) noX
theorem c__is_pile {f : Addr} {fd : FuncData} (T : Ty K mg CY CV fV CS fS CN fN CB) (c_is_name : Ca P w K mg base CX0 1 "is_name" ["value"] (sp_isname CY)) (B : DefB K mg "_is_pile" s__is_pile ["value", "height"] f fd) : Ca P w K mg base CX0 2 "_is_pile" ["value", "height"] sp_pile := by
  refine ca_of B sc__is_pile (fun vs H Q E h => lenG h) (fun cdv A outer s H vs Q E hr h => ⟨_, (pss_one (ps_ret (pe_and (pe_callB call_isi (by rfl) T.z_isinstance (by decide +kernel) (pa_cons (pv 0) (pa_cons (pe_bltn rfl T.z_tuple (by decide +kernel) (v := .ty "tuple") rfl) pa_nil))) (pe_and (pe_cmpR op_le (pe_callB cr_len (by rfl) T.z_len (by decide +kernel) (pa_cons (pv 0) pa_nil)) (pv 1) (by first | exact nomark _ | rfl)) (pe_one (pe_callB (cr_all rfl) (by rfl) T.z_all (by decide +kernel) (pa_cons (pe_lc (own := [("box", 2)]) rfl sc__is_pile.nd (pi_tup (pv 0)) (blkOk_by (N := ["value", "height", "box"]) (sc := defScope s__is_pile) (by decide +kernel)) (fun _ _ _ _ _ => (pg_name (i := 2) sc__is_pile.nd rfl (by first | exact Or.inl rfl | exact Or.inr rfl))) (fun _ _ _ _ _ => pts_nil) (fun _ _ _ _ _ => (pe_ca c_is_name hr (by first | decide | (simp only [Nat.add_eq]; omega)) pass0 (pa_cons (pv 2) pa_nil)))) pa_nil))))))), entryG (K := K) (by decide) h fun O p hl hp _ => ?_⟩)
  obtain ⟨d, ht⟩ := p
  dsimp only at hp ⊢
  walk_at "d0"
  walk_at "n"
  refine EX.ev_raw ?_
  walk_at "n"
  refine cv_isiA T.kY (hp.pl (CY := CY)) (.inr (.inr (.inr rfl))) ?_
  walk_at "n"
  refine ⟨fun e => ?_, fun e => ?_⟩
  · obtain ⟨cells, rfl, h1, h2⟩ : ∃ cells, d = .tup cells ∧ cells.length ≤ 900 ∧ ∀ x ∈ cells, Sh 900 x := by
      cases hp
      all_goals first | exact ⟨_, rfl, ‹_›, ‹_›⟩ | exact absurd e (by show ¬ (false = true); decide)
    walk_at "n"
    refine ⟨fun g => ?_, fun g => ?_⟩
    · have g' := of_decide_eq_true g
      walk_at "n"
      refine ev_lcT (fun d => d) (fun _ => true) (fun d => D.bl (isN d)) (sets_name 2) (wv_tup ?_)
      walk_at "n"
      refine ⟨rfl, _, rfl, cells, (List.map_id' _).symm, by omega, fun i y acc hi => ?_, ?_⟩
      · refine gv_name ⟨ltb rfl, ?_⟩
        walk_at "s"
        refine et_yes ⟨rfl, rfl, fun _ => ?_⟩
        walk_at "n"
        have hy := h2 y (List.mem_of_getElem? hi)
        refine cv_G y rfl rfl ⟨hy.pl.mono (by decide), hy.sh⟩ (fun _ _ _ z => z) fun r hr => ?_
        subst hr
        exact ⟨rfl, rfl⟩
      · have tf : (cells.filter fun _ => true) = cells := List.filter_eq_self.mpr fun _ _ => rfl
        rw [tf]
        walk_at "n"
        refine cv_all (bs := cells.map isN) (by show some (D.lst _) = some (D.lst _); rw [List.map_map]; rfl) ?_
        refine ⟨_, rfl, congrArg D.bl ?_⟩
        show (cells.map isN).all id = (decide ((cells.length : Int) ≤ ht) && cells.all isN)
        rw [g, Bool.true_and, List.all_map]
        rfl
    · refine ⟨_, rfl, congrArg D.bl ?_⟩
      show false = (decide ((cells.length : Int) ≤ ht) && cells.all isN)
      rw [g, Bool.false_and]
  · refine ⟨_, rfl, congrArg D.bl ?_⟩
    cases hp
    all_goals first | rfl | exact absurd e (by show ¬ (true = false); decide)
/-! ### need_standing -/
abbrev sp_nst (CY CS : Addr) : Sp := spG 2 (fun p : List Int × D => [yardD CY p.1, p.2]) (fun p => HsOk p.1 ∧ Sh 900 p.2) (fun p r => r = .non ∧ sF p.1 p.2 = none) (fun p C f x => C = CS ∧ f = "at" ∧ ∃ i : Int, sF p.1 p.2 = some i ∧ x = .int i)
theorem pile_yes {d : D} {h : Int} (e : pileB d h = true) : ∃ ys : List Str, d = .tup (ys.map .str) ∧ (ys.length : Int) ≤ h ∧ ∀ y ∈ ys, nmB y = true := by
  cases d with
  | tup cells =>
    have e' : (decide ((cells.length : Int) ≤ h) && cells.all isN) = true := e
    rw [Bool.and_eq_true, decide_eq_true_eq, List.all_eq_true] at e'
    have conv : ∀ l : List D, (∀ x ∈ l, isN x = true) → ∃ ys : List Str, l = ys.map .str ∧ ∀ y ∈ ys, nmB y = true := by
      intro l
      induction l with
      | nil => exact fun _ => ⟨[], rfl, by simp⟩
      | cons x l ih =>
        intro hl
        obtain ⟨ys, rfl, hb⟩ := ih fun y hy => hl y (List.mem_cons_of_mem _ hy)
        have hx := hl x List.mem_cons_self
        cases x <;> try exact absurd hx Bool.false_ne_true
        rename_i z
        exact ⟨z :: ys, rfl, fun h hh => (List.mem_cons.mp hh).elim (fun q => q ▸ hx) (hb h)⟩
    obtain ⟨ys, rfl, hb⟩ := conv cells e'.2
    exact ⟨ys, rfl, by simpa using e'.1, hb⟩
  | _ => cases e
theorem pile_no {d : D} {h : Int} {hs : List Int} {rs : List D} {i : Nat} {seen : List Str} (e : pileB d h = false) : sFgo (h :: hs) (d :: rs) i seen = some (i : Int) := by
  cases d with
  | tup cells =>
    have e' : (decide ((cells.length : Int) ≤ h) && cells.all isN) = false := e
    by_cases c : (cells.length : Int) ≤ h
    · rw [decide_eq_true c, Bool.true_and] at e'
      refine sFgo_bad (addAll_bad ?_)
      obtain ⟨x, hx, e⟩ := List.all_eq_false.mp e'
      exact ⟨x, hx, by simpa using e⟩
    · exact sFgo_high c
  | _ => rfl
theorem drop_at {α : Type} {l : List α} {i : Nat} {x : α} (h : l[i]? = some x) : l.drop i = x :: l.drop (i + 1) := by
  obtain ⟨hl, e⟩ := List.getElem?_eq_some_iff.mp h
  rw [List.drop_eq_getElem_cons hl, e]
theorem c_need_standing {f : Addr} {fd : FuncData} (T : Ty K mg CY CV fV CS fS CN fN CB) (c__is_pile : Ca P w K mg base CX0 2 "_is_pile" ["value", "height"] sp_pile) (B : DefB K mg "need_standing" s_need_standing ["yard", "value"] f fd) : Ca P w K mg base (L2.CX P w) 3 "need_standing" ["yard", "value"] (sp_nst CY CS) := by
  refine ca_ofX B sc_need_standing (fun vs H Q E h => lenG h) (fun cdv A outer s H vs Q E hr h => ⟨_, (pss_cons (ps_if (PW.pt (pw_or (pt_not (pt_val (pe_callB call_isi (by rfl) T.z_isinstance (by decide +kernel) (pa_cons (pv 1) (pa_cons (pe_bltn rfl T.z_tuple (by decide +kernel) (v := .ty "tuple") rfl) pa_nil))))) (pw_or1 (pt_cmpR (op_neU hr.units) (pe_callB cr_len (by rfl) T.z_len (by decide +kernel) (pa_cons (pv 1) pa_nil)) (pe_callB cr_len (by rfl) T.z_len (by decide +kernel) (pa_cons (pe_fld (pv 0) rfl) pa_nil)) (by first | exact nomark _ | rfl)))))
     (pss_one (EX.ps_raiseF rfl T.x_InvalidStanding hr (by first | decide | (simp only [Nat.add_eq]; omega)) (takes_of rfl rfl rfl rfl) (pa_cons (pe_un un_neg pe_int) pa_nil)))
     pss_nil)
    (pss_cons (ps_set (i := 2) sc_need_standing.nd rfl (by first | exact Or.inl rfl | exact Or.inr rfl) (pe_callTy0 cr_set0K (by rfl) T.z_set (by decide +kernel)))
    (pss_one (ps_for (passes_of rfl) rfl (EN.pi_enumT (by rfl) T.z_enumerate (pa_cons (pv 1) pa_nil)) (EX.pg_tupk (K := K) (n := 2) rfl rfl (pgs_cons (pg_name (i := 3) sc_need_standing.nd rfl (by first | exact Or.inl rfl | exact Or.inr rfl)) (pgs_cons (pg_name (i := 4) sc_need_standing.nd rfl (by first | exact Or.inl rfl | exact Or.inr rfl)) pgs_nil)))
     (pss_cons (ps_if (pt_not (pt_val (pe_ca c__is_pile hr (by first | decide | (simp only [Nat.add_eq]; omega)) pass0 (pa_cons (pv 4) (pa_cons (pe_ix ix_seq (pe_fld (pv 0) rfl) (pv 3) (fun _ _ => rfl)) pa_nil)))))
      (pss_one (EX.ps_raiseF rfl T.x_InvalidStanding hr (by first | decide | (simp only [Nat.add_eq]; omega)) (takes_of rfl rfl rfl rfl) (pa_cons (pv 3) pa_nil)))
      pss_nil)
     (pss_one (ps_for (passes_of rfl) rfl (pi_tup (pv 4)) (pg_name (i := 5) sc_need_standing.nd rfl (by first | exact Or.inl rfl | exact Or.inr rfl))
      (pss_cons (ps_if (pt_cmpR or_sinK (pv 5) (pv 2) (by first | exact nomark _ | rfl))
       (pss_one (EX.ps_raiseF rfl T.x_InvalidStanding hr (by first | decide | (simp only [Nat.add_eq]; omega)) (takes_of rfl rfl rfl rfl) (pa_cons (pv 3) pa_nil)))
       pss_nil)
      (pss_one (ps_expr (pe_sm PySem.F.slot_set_add PySem.F.type_set_add mt_saddK (pv 2) (pa_cons (pv 5) pa_nil)))))))))))), entryG (K := K) (by decide) h fun O p hl hp hw => ?_⟩)
  obtain ⟨hs, d⟩ := p
  obtain ⟨ho, hd⟩ := hp
  dsimp only at ho hd hw ⊢
  walk_at "d0"
  refine sv_seq (sv_if ?_)
  walk_at "n"
  refine EX.ev_raw ?_
  walk_at "n"
  refine cv_isiA T.kY (hd.pl (CY := CY)) (.inr (.inr (.inr rfl))) ?_
  walk_at "n"
  refine ⟨fun e => ?_, fun e => ?_⟩
  · obtain ⟨rows, rfl, h1, h2⟩ : ∃ rows, d = .tup rows ∧ rows.length ≤ 900 ∧ ∀ x ∈ rows, Sh 900 x := by
      cases hd
      all_goals first | exact ⟨_, rfl, ‹_›, ‹_›⟩ | exact absurd e (by show ¬ (true = false); decide)
    walk_at "n"
    refine ev_hs (hs := hs) T ?_
    walk_at "n"
    refine ⟨rfl, ?_⟩
    walk_at "n"
    rw [List.length_map]
    refine ⟨fun g => ?_, fun g => ?_⟩
    · have g' : ¬ rows.length = hs.length := fun z => by rw [z] at g; simp at g
      refine sv_raise ?_
      walk_at "n"
      exact ⟨rfl, rfl, -1, if_neg g', rfl⟩
    · have hl : rows.length = hs.length := by
        have : (rows.length : Int) = (hs.length : Int) := by simpa using g
        omega
      have e0 : sF hs (.tup rows) = sFgo hs rows 0 [] := if_pos hl
      rw [e0] at hw ⊢
      have h12 := ho.2.1
      walk_at "n"
      walk_at "s"
      refine sv_forT (fun q : D × Nat => D.tup [.int (q.2 : Int), q.1]) (wv_enumT ?_)
      walk_at "n"
      refine ⟨rfl, _, rfl, rows.zipIdx, fun i om' sl' => ∃ (seen : List Str) (t3 t4 t5 : Option DL.E), sFgo hs rows 0 [] = sFgo (hs.drop i) (rows.drop i) i seen ∧ seen.length ≤ 12 * i ∧ om' = [some (ownS P w (keysS seen))] ∧ sl' = [some (.v (yardD CY hs)), some (.v (.tup rows)), some (.o 0), t3, t4, t5], rfl, ⟨[], _, _, _, rfl, Nat.zero_le _, rfl, rfl⟩, ?_, ?_⟩
      · rintro i ⟨row, j⟩ om' sl' ha ⟨seen, t3, t4, t5, inv, ls, rfl, rfl⟩
        have hrow := h2 row (List.fst_mem_of_mem_zipIdx (List.mem_of_getElem? ha))
        obtain ⟨he, rfl⟩ := zip_at ha
        have hj : j < hs.length := by rw [← hl]; exact (List.getElem?_eq_some_iff.mp he).1
        have hh : hs[j]? = some hs[j] := List.getElem?_eq_getElem hj
        have hb := ho.2.2 hs[j] (List.getElem_mem hj)
        obtain ⟨hgt, ehg⟩ : ∃ h, hs[j] = h := ⟨_, rfl⟩
        rw [ehg] at hh hb
        rw [drop_at hh, drop_at he] at inv
        refine gv_tup rfl (gsv_cons (gv_name ⟨ltb rfl, gsv_cons (gv_name ⟨ltb rfl, gsv_nil ?_⟩)⟩))
        walk_at "s"
        walk_at "n"
        refine sv_if ?_
        walk_at "n"
        refine ev_hs (hs := hs) T ?_
        walk_at "n"
        refine ⟨rfl, ?_⟩
        walk_at "n"
        refine ov_ixT (atI_n (by rw [List.getElem?_map, hh]; rfl)) ?_
        walk_at "n"
        refine cv_G (row, hgt) rfl rfl hrow (fun _ _ _ z => z) fun r hr => ?_
        subst hr
        walk_at "n"
        refine ⟨fun w1 => ?_, fun w1 => ?_⟩
        · have pn : pileB row hgt = false := by revert w1; cases pileB row hgt <;> simp
          refine sv_raise ?_
          walk_at "n"
          exact ⟨rfl, rfl, (j : Int), by rw [inv, pile_no pn], rfl⟩
        · have py : pileB row hgt = true := by revert w1; cases pileB row hgt <;> simp
          obtain ⟨ys, rfl, hy1, hy2⟩ := pile_yes py
          walk_at "n"
          refine sv_forT D.str (wv_tup ?_)
          walk_at "n"
          refine ⟨rfl, _, rfl, ys, fun k om' sl' => ∃ (s2 : List Str) (t5 : Option DL.E), addAll seen (ys.map .str) = addAll s2 ((ys.drop k).map .str) ∧ s2.length ≤ 12 * j + k ∧ om' = [some (ownS P w (keysS s2))] ∧ sl' = [some (.v (yardD CY hs)), some (.v (.tup rows)), some (.o 0), some (.v (.int (j : Int))), some (.v (.tup (ys.map .str))), t5], rfl, ⟨seen, _, rfl, by omega, rfl, rfl⟩, ?_, ?_⟩
          · rintro k y om' sl' hy ⟨s2, t5, inv2, l2, rfl, rfl⟩
            have hk := (List.getElem?_eq_some_iff.mp hy).1
            rw [drop_at hy, List.map_cons] at inv2
            refine gv_name ⟨ltb rfl, ?_⟩
            walk_at "s"
            walk_at "n"
            refine sv_if ?_
            walk_at "n"
            refine ov_sin (ks := keysS s2) (k := .inr y) rfl rfl ?_
            rw [memK_keysS]
            walk_at "n"
            refine ⟨fun u => ?_, fun u => ?_⟩
            · have u' := of_decide_eq_true u
              rw [addAll_dup u'] at inv2
              refine sv_raise ?_
              walk_at "n"
              exact ⟨rfl, rfl, (j : Int), by rw [inv, sFgo_bad inv2], rfl⟩
            · have u' := of_decide_eq_false u
              rw [addAll_str (hy2 y (List.mem_of_getElem? hy)) u'] at inv2
              walk_at "n"
              refine ⟨⟨_, _, rfl, rfl⟩, ?_⟩
              walk_at "n"
              refine mv_sadd (ks := keysS s2) (k := .inr y) rfl rfl (by unfold keysS; rw [List.length_map]; omega) ?_
              refine ⟨s2 ++ [y], _, inv2, by rw [List.length_append]; show _ + 1 ≤ _; omega, ?_, rfl⟩
              rw [addK_keysS u']
              rfl
          · rintro om' sl' ⟨s2, t5, inv2, l2, rfl, rfl⟩
            rw [List.drop_length] at inv2
            refine ⟨s2, _, _, _, ?_, by omega, rfl, rfl⟩
            rw [inv, sFgo_tup (by rw [List.length_map]; exact hy1) inv2]
      · rintro om' sl' ⟨seen, t3, t4, t5, inv, ls, rfl, rfl⟩
        refine ⟨rfl, ?_⟩
        rw [inv, List.length_zipIdx, List.drop_length]
        cases List.drop rows.length hs <;> rfl
  · walk_at "n"
    refine ⟨fun _ => ?_, fun z => nomatch z⟩
    refine sv_raise ?_
    walk_at "n"
    refine ⟨rfl, rfl, -1, ?_, rfl⟩
    cases hd
    all_goals first | rfl | exact absurd e (by show ¬ (false = true); decide)
end
end K01
set_option Elab.async false
set_option linter.all false
set_option maxRecDepth 100000
set_option maxHeartbeats 4000000
/-! a text walked sign by sign; a sign in a text -/
namespace DL
open PySem PySem.Spec PyProof.Rows L2 STX
abbrev chars (z : Str) : List D := z.cps.toList.map fun ch => D.str ⟨#[ch]⟩
section
variable {c : Cn} {om : Om} {sl : Sl} {te : TE}
theorem wv_str {P : List D → Prop} (h : EV c te om sl fun e om1 => om1 = om ∧ ∃ z, e = .v (.str z) ∧ P (chars z)) : WV c (iStr te) om sl P := fun σ H O ps s R k =>
  h σ H O ps s _ fun v H1 O1 ps1 e om1 g1 s1 r1 ⟨ho, z, he, p⟩ => by
    subst he ho
    cases r1
    have hl : (chars z).length = z.cps.size := by
      unfold chars
      rw [List.length_map]
      simp
    refine ⟨z, rfl, k (Its z) H1 O1 ps1 (fun _ => True) (fun i H v H' => H' = H ∧ ∃ c, z.cps[i]? = some c ∧ v = .str ⟨#[c]⟩) (chars z) p g1 s1 ?_ (fun _ _ _ _ => trivial) fun i H2 O2 ps2 v H3 g al hi hy => ?_⟩
    · rw [hl]
      exact walk_str
    · obtain ⟨rfl, ch, hc, rfl⟩ := hy
      refine ⟨.str ⟨#[ch]⟩, ?_, fun _ _ z => z, .str _⟩
      unfold chars
      rw [List.getElem?_map, Array.getElem?_toList, hc]
      rfl
theorem ov_notInCh {P : E → Om → Prop} {z : Str} {ch : Nat} (p : P (.v (.bl (!decide (ch ∈ z.cps.toList)))) om) : OV c (fun x y H Q => ∃ i j, x = .str i ∧ y = .str j ∧ Q (.bl (!(!(Builtin.Str.occurrences j i 0 j.length 1).isEmpty))) H) om sl (.v (.str ⟨#[ch]⟩)) (.v (.str z)) P := fun σ H O ps s v w rv rw' Q k => by
  cases rv
  cases rw'
  refine ⟨_, _, rfl, rfl, ?_⟩
  rw [PySem.StrLaws.found_one]
  exact k _ H O ps (.v (.bl _)) om (Go.refl ..) s (Rl.bl _) p
end
end DL
set_option Elab.async false
set_option linter.all false
set_option maxRecDepth 100000
set_option maxHeartbeats 4000000
namespace K01
open PySem PySem.Spec PyProof.Rows L2 DL HL CM STX NM DX TT RO SG
section
variable {P : Program} {w : World} {K : PySem.W.Frag} {mg : Str → Option Value} {base : Heap} {CY CV fV CS fS CN fN CB : Addr}
/-! ### _law_is_name -/
def lowB (c : Nat) : Bool := decide (97 ≤ c) && decide (c ≤ 122)
theorem letters_in (c : Nat) : decide (c ∈ (PySem.Str.ofString "abcdefghijklmnopqrstuvwxyz").cps.toList) = lowB c := by
  unfold lowB
  by_cases h : 97 ≤ c ∧ c ≤ 122
  · rw [decide_eq_true h.1, decide_eq_true h.2]
    refine decide_eq_true ?_
    have := letters_at (c - 97) (by omega)
    rw [show 97 + (c - 97) = c by omega] at this
    exact List.mem_of_getElem? this
  · rw [decide_eq_false (fun z => h (letters_mem c z))]
    by_cases h1 : 97 ≤ c
    · rw [decide_eq_true h1, decide_eq_false (fun z => h ⟨h1, z⟩)]
      rfl
    · rw [decide_eq_false h1, Bool.false_and]
theorem c__law_is_name {f : Addr} {fd : FuncData} (T : Ty K mg CY CV fV CS fS CN fN CB) (B : DefB K mg "_law_is_name" s__law_is_name ["value"] f fd) : Ca P w K mg base CX0 1 "_law_is_name" ["value"] (sp_isname CY) := by
  refine ca_of B sc__law_is_name (fun vs H Q E h => lenG h) (fun cdv A outer s H vs Q E hr h => ⟨_, (pss_cons (ps_set (i := 1) sc__law_is_name.nd rfl (by first | exact Or.inl rfl | exact Or.inr rfl) pe_str)
    (pss_one (ps_ret (pe_and (pe_callB call_isi (by rfl) T.z_isinstance (by decide +kernel) (pa_cons (pv 0) (pa_cons (pe_bltn rfl T.z_str (by decide +kernel) (v := .ty "str") rfl) pa_nil))) (pe_and (pe_chain op_le op_le pe_int (pe_callB cr_len (by rfl) T.z_len (by decide +kernel) (pa_cons (pv 0) pa_nil)) pe_int) (pe_one (pe_cmpR (op_eqE hr.units0) (pe_lc (own := [("sign", 2)]) rfl sc__law_is_name.nd (pi_str (pv 0)) (blkOk_by (N := ["value", "letters", "sign"]) (sc := defScope s__law_is_name) (by decide +kernel)) (fun _ _ _ _ _ => (pg_name (i := 2) sc__law_is_name.nd rfl (by first | exact Or.inl rfl | exact Or.inr rfl))) (fun _ _ _ _ _ => (pts_one (pt_cmpR op_notIn_str (pv 2) (pv 1) (by first | exact nomark _ | rfl)))) (fun _ _ _ _ _ => (pv 2))) (pe_lst pa_nil) (by first | exact nomark _ | rfl)))))))), entryG (K := K) (by decide) h fun O d hl hp _ => ?_⟩)
  obtain ⟨hp, hs⟩ := hp
  walk_at "d0"
  walk_at "n"
  refine EX.ev_raw ?_
  walk_at "n"
  refine cv_isiA T.kY hp (.inr (.inr (.inl rfl))) ?_
  walk_at "n"
  refine ⟨fun e => ?_, fun e => ?_⟩
  · obtain ⟨y, rfl⟩ := isstr hp e
    have l1000 := hs y rfl
    walk_at "n"
    walk_at "s"
    refine ev_chain ?_
    walk_at "n"
    refine cv_lenS (by omega) ?_
    walk_at "n"
    refine ⟨fun g => ?_, fun g => ?_⟩
    · have g1 := of_decide_eq_true g
      walk_at "n"
      refine ⟨fun g => ?_, fun g => ?_⟩
      · have g8 := of_decide_eq_true g
        walk_at "n"
        refine ev_lc (sets_name 2) (wv_str ?_)
        walk_at "n"
        refine ⟨rfl, _, rfl, fun i acc => acc.length ≤ i ∧ i ≤ y.cps.toList.length ∧ acc.isEmpty = (y.cps.toList.take i).all lowB, ⟨Nat.zero_le _, Nat.zero_le _, rfl⟩, ?_, ?_, ?_⟩
        · rintro i d acc hd ⟨ha, hi, he⟩
          unfold chars at hd
          rw [List.getElem?_map] at hd
          cases hc : y.cps.toList[i]? with
          | none =>
            rw [hc] at hd
            cases hd
          | some ch =>
            rw [hc] at hd
            cases hd
            have hi2 := (List.getElem?_eq_some_iff.mp hc).1
            have tk : (y.cps.toList.take (i + 1)).all lowB = (acc.isEmpty && lowB ch) := by
              rw [take_snoc hc, List.all_append, ← he]
              simp
            refine gv_name ⟨ltb rfl, ?_⟩
            dsimp only [List.set, List.foldr]
            walk_at "n"
            refine ov_notInCh ?_
            rw [letters_in]
            walk_at "n"
            refine ⟨fun lo => ?_, fun lo => ?_⟩
            · have lo' : lowB ch = false := by revert lo; cases lowB ch <;> simp
              walk_at "n"
              refine ⟨rfl, _, rfl, by rw [List.length_append]; show _ + 1 ≤ _; omega, by omega, ?_⟩
              rw [tk, lo', Bool.and_false]
              cases acc <;> rfl
            · have lo' : lowB ch = true := by revert lo; cases lowB ch <;> simp
              exact ⟨rfl, by omega, by omega, by rw [tk, lo', Bool.and_true]⟩
        · rintro i acc ⟨ha, hi, he⟩
          have : y.length = y.cps.toList.length := by
            show y.cps.size = _
            simp
          omega
        · rintro acc ⟨ha, hi, he⟩
          have hc : (chars y).length = y.cps.toList.length := List.length_map ..
          rw [hc, List.take_length] at he
          walk_at "n"
          refine ev_lst ?_
          walk_at "n"
          refine ov_eqE (.inl ⟨rfl, rfl⟩) ?_
          refine ⟨_, rfl, congrArg D.bl ?_⟩
          rw [he]
          show _ = nmB y
          unfold nmB
          rw [decide_eq_true (show 1 ≤ y.length by omega), decide_eq_true (show y.length ≤ 8 by omega), Bool.true_and, Bool.true_and]
          rfl
      · have g8 := of_decide_eq_false g
        refine ⟨_, rfl, congrArg D.bl ?_⟩
        show false = nmB y
        unfold nmB
        rw [show decide (y.length ≤ 8) = false from decide_eq_false (by omega), Bool.and_false, Bool.false_and]
    · have g1 := of_decide_eq_false g
      refine ⟨_, rfl, (fun z => nomatch z), fun _ => ⟨_, rfl, congrArg D.bl ?_⟩⟩
      show false = nmB y
      unfold nmB
      rw [show decide (1 ≤ y.length) = false from decide_eq_false (by omega), Bool.false_and, Bool.false_and]
  · exact ⟨_, rfl, congrArg D.bl (notstr hp e).symm⟩
/-! ### _law_standing_fault -/
abbrev sp_sfault : Sp := spG 2 (fun p : List Int × D => [.lst (p.1.map .int), p.2]) (fun p => HsOk p.1 ∧ Sh 900 p.2) (fun p r => r = optD (sF p.1 p.2)) noX
theorem c__law_standing_fault {f : Addr} {fd : FuncData} (T : Ty K mg CY CV fV CS fS CN fN CB) (c__law_is_name : Ca P w K mg base CX0 1 "_law_is_name" ["value"] (sp_isname CY)) (B : DefB K mg "_law_standing_fault" s__law_standing_fault ["heights", "value"] f fd) : Ca P w K mg base CX0 2 "_law_standing_fault" ["heights", "value"] sp_sfault := by
  refine ca_of B sc__law_standing_fault (fun vs H Q E h => lenG h) (fun cdv A outer s H vs Q E hr h => ⟨_, (pss_cons (ps_if (PW.pt (pw_or (pt_not (pt_val (pe_callB call_isi (by rfl) T.z_isinstance (by decide +kernel) (pa_cons (pv 1) (pa_cons (pe_bltn rfl T.z_tuple (by decide +kernel) (v := .ty "tuple") rfl) pa_nil))))) (pw_or1 (pt_cmpR (op_neU hr.units) (pe_callB cr_len (by rfl) T.z_len (by decide +kernel) (pa_cons (pv 1) pa_nil)) (pe_callB cr_len (by rfl) T.z_len (by decide +kernel) (pa_cons (pv 0) pa_nil)) (by first | exact nomark _ | rfl)))))
     (pss_one (ps_ret (pe_un un_neg pe_int)))
     pss_nil)
    (pss_cons (ps_set (i := 2) sc__law_standing_fault.nd rfl (by first | exact Or.inl rfl | exact Or.inr rfl) (pe_lst pa_nil))
    (pss_cons (ps_for PassesOwn.never rfl (pi_range1 (by rfl) T.z_range (pa_cons (pe_callB cr_len (by rfl) T.z_len (by decide +kernel) (pa_cons (pv 0) pa_nil)) pa_nil)) (pg_name (i := 3) sc__law_standing_fault.nd rfl (by first | exact Or.inl rfl | exact Or.inr rfl))
     (pss_cons (ps_if (PW.pt (pw_or (pt_not (pt_val (pe_callB call_isi (by rfl) T.z_isinstance (by decide +kernel) (pa_cons (pe_ix ix_seq (pv 1) (pv 3) (fun _ _ => rfl)) (pa_cons (pe_bltn rfl T.z_tuple (by decide +kernel) (v := .ty "tuple") rfl) pa_nil))))) (pw_or1 (pt_cmpR op_gt (pe_callB cr_len (by rfl) T.z_len (by decide +kernel) (pa_cons (pe_ix ix_seq (pv 1) (pv 3) (fun _ _ => rfl)) pa_nil)) (pe_ix ix_seq (pv 0) (pv 3) (fun _ _ => rfl)) (by first | exact nomark _ | rfl)))))
      (pss_one (ps_ret (pv 3)))
      pss_nil)
     (pss_one (ps_for PassesOwn.never rfl (pi_tup (pe_ix ix_seq (pv 1) (pv 3) (fun _ _ => rfl))) (pg_name (i := 4) sc__law_standing_fault.nd rfl (by first | exact Or.inl rfl | exact Or.inr rfl))
      (pss_cons (ps_if (PW.pt (pw_or (pt_not (pt_val (pe_ca c__law_is_name hr (by first | decide | (simp only [Nat.add_eq]; omega)) pass0 (pa_cons (pv 4) pa_nil)))) (pw_or1 (pt_cmpR op_in_seq (pv 4) (pv 2) (by first | exact nomark _ | rfl)))))
       (pss_one (ps_ret (pv 3)))
       pss_nil)
      (pss_one (ps_expr (pe_bm PySem.F.plainAttrs_list PySem.F.slot_list_append PySem.F.type_list_append mt_append (pv 2) (pa_cons (pv 4) pa_nil)))))))))
    (pss_one (ps_ret pe_non))))), entryG (K := K) (by decide) h fun O p hl hp _ => ?_⟩)
  obtain ⟨hs, d⟩ := p
  obtain ⟨ho, hd⟩ := hp
  dsimp only at ho hd ⊢
  walk_at "d0"
  refine sv_seq (sv_if ?_)
  walk_at "n"
  refine EX.ev_raw ?_
  walk_at "n"
  refine cv_isiA T.kY (hd.pl (CY := CY)) (.inr (.inr (.inr rfl))) ?_
  walk_at "n"
  refine ⟨fun e => ?_, fun e => ?_⟩
  · obtain ⟨rows, rfl, h1, h2⟩ : ∃ rows, d = .tup rows ∧ rows.length ≤ 900 ∧ ∀ x ∈ rows, Sh 900 x := by
      cases hd
      all_goals first | exact ⟨_, rfl, ‹_›, ‹_›⟩ | exact absurd e (by show ¬ (true = false); decide)
    walk_at "n"
    refine cv_lenL rfl ?_
    walk_at "n"
    rw [List.length_map]
    refine ⟨fun g => ?_, fun g => ?_⟩
    · have g' : ¬ rows.length = hs.length := fun z => by rw [z] at g; simp at g
      walk_at "n"
      rw [show sF hs (.tup rows) = some (-1) from if_neg g']
      rfl
    · have hl : rows.length = hs.length := by
        have : (rows.length : Int) = (hs.length : Int) := by simpa using g
        omega
      have e0 : sF hs (.tup rows) = sFgo hs rows 0 [] := if_pos hl
      rw [e0]
      have h12 := ho.2.1
      walk_at "n"
      refine ev_lstO ?_
      walk_at "n"
      walk_at "s"
      walk_at "n"
      refine sv_for (wv_range1 ?_)
      walk_at "n"
      refine cv_lenL rfl ?_
      walk_at "n"
      rw [List.length_map]
      refine ⟨rfl, _, rfl, by omega, by omega, fun i om' sl' => ∃ (seen : List Str) (t3 t4 : Option DL.E), sFgo hs rows 0 [] = sFgo (hs.drop i) (rows.drop i) i seen ∧ seen.length ≤ 12 * i ∧ om' = [some (.l (seen.map .str))] ∧ sl' = [some (.v (.lst (hs.map .int))), some (.v (.tup rows)), some (.o 0), t3, t4], ⟨[], _, _, rfl, Nat.zero_le _, rfl, rfl⟩, ?_, ?_⟩
      · rintro i d' om' sl' hd' ⟨seen, t3, t4, inv, ls, rfl, rfl⟩
        have hi := (List.getElem?_eq_some_iff.mp hd').1
        rw [rgD_len] at hi
        rw [rgD_get hi, Int.zero_add] at hd'
        cases hd'
        have hj : i < hs.length := by omega
        have hh : hs[i]? = some hs[i] := List.getElem?_eq_getElem hj
        have he : rows[i]? = some (rows[i]'(by omega)) := List.getElem?_eq_getElem (by omega)
        have hb := ho.2.2 hs[i] (List.getElem_mem hj)
        have hrow := h2 (rows[i]'(by omega)) (List.getElem_mem _)
        obtain ⟨hgt, ehg⟩ : ∃ h, hs[i] = h := ⟨_, rfl⟩
        obtain ⟨row, erow⟩ : ∃ r, rows[i]'(by omega) = r := ⟨_, rfl⟩
        rw [ehg] at hh hb
        rw [erow] at he hrow
        rw [drop_at hh, drop_at he] at inv
        refine gv_name ⟨ltb rfl, ?_⟩
        walk_at "s"
        walk_at "n"
        refine sv_if ?_
        walk_at "n"
        refine ov_ixT (atI_n he) ?_
        walk_at "n"
        refine EX.ev_raw ?_
        walk_at "n"
        refine cv_isiA T.kY (hrow.pl (CY := CY)) (.inr (.inr (.inr rfl))) ?_
        walk_at "n"
        refine ⟨fun e => ?_, fun e => ?_⟩
        · obtain ⟨cells, rfl, l1, l2⟩ : ∃ cells, row = .tup cells ∧ cells.length ≤ 900 ∧ ∀ x ∈ cells, Sh 900 x := by
            clear he inv erow
            cases hrow
            all_goals first | exact ⟨_, rfl, ‹_›, ‹_›⟩ | exact absurd e (by show ¬ (true = false); decide)
          walk_at "n"
          refine ov_ixT (atI_n he) ?_
          walk_at "n"
          refine ov_ixL rfl (atI_n (by rw [List.getElem?_map, hh]; rfl)) ?_
          walk_at "n"
          refine ⟨fun g => ?_, fun g => ?_⟩
          · have g' := of_decide_eq_true g
            walk_at "n"
            rw [inv, sFgo_high (by omega)]
            rfl
          · have g' := of_decide_eq_false g
            walk_at "n"
            refine sv_forT (fun d => d) (wv_tup ?_)
            walk_at "n"
            refine ov_ixT (atI_n he) ?_
            refine ⟨rfl, _, rfl, cells, fun k om' sl' => ∃ (s2 : List Str) (t4 : Option DL.E), addAll seen cells = addAll s2 (cells.drop k) ∧ s2.length ≤ 12 * i + k ∧ om' = [some (.l (s2.map .str))] ∧ sl' = [some (.v (.lst (hs.map .int))), some (.v (.tup rows)), some (.o 0), some (.v (.int (i : Int))), t4], (List.map_id' _).symm, ⟨seen, _, rfl, by omega, rfl, rfl⟩, ?_, ?_⟩
            · rintro k x om' sl' hx ⟨s2, t4, inv2, ls2, rfl, rfl⟩
              have hk := (List.getElem?_eq_some_iff.mp hx).1
              have hxs := l2 x (List.mem_of_getElem? hx)
              rw [drop_at hx] at inv2
              refine gv_name ⟨ltb rfl, ?_⟩
              walk_at "s"
              walk_at "n"
              refine sv_if ?_
              walk_at "n"
              refine cv_G x rfl rfl ⟨hxs.pl.mono (by decide), hxs.sh⟩ (fun _ _ _ z => z) fun r hr => ?_
              subst hr
              walk_at "n"
              refine ⟨fun w1 => ?_, fun w1 => ?_⟩
              · have nx : isN x = true := by revert w1; cases isN x <;> simp
                obtain ⟨z, rfl⟩ : ∃ z, x = .str z := by
                  cases x <;> first | exact ⟨_, rfl⟩ | cases nx
                walk_at "n"
                refine ov_inLS rfl ?_
                walk_at "n"
                refine ⟨fun u => ?_, fun u => ?_⟩
                · have u' : z ∈ s2 := of_decide_eq_true u
                  walk_at "n"
                  rw [inv, sFgo_bad (by rw [inv2]; exact addAll_dup u')]
                  rfl
                · have u' : z ∉ s2 := of_decide_eq_false u
                  rw [addAll_str nx u'] at inv2
                  walk_at "n"
                  refine ⟨⟨_, rfl⟩, ?_⟩
                  walk_at "n"
                  refine mv_append rfl (by rw [List.length_map]; omega) ?_
                  refine ⟨s2 ++ [z], _, inv2, by rw [List.length_append]; show _ + 1 ≤ _; omega, ?_, rfl⟩
                  show [some (Own.l (s2.map D.str ++ [D.str z]))] = _
                  rw [List.map_append]
                  rfl
              · have nx : isN x = false := by revert w1; cases isN x <;> simp
                walk_at "n"
                refine ⟨fun _ => ?_, fun z => nomatch z⟩
                walk_at "n"
                rw [inv, sFgo_bad (by rw [inv2]; exact addAll_bad ⟨x, List.mem_cons_self, nx⟩)]
                rfl
            · rintro om' sl' ⟨s2, t4, inv2, ls2, rfl, rfl⟩
              rw [List.drop_length] at inv2
              refine ⟨s2, _, _, ?_, by omega, rfl, rfl⟩
              rw [inv, sFgo_tup (by omega) inv2]
        · walk_at "n"
          refine ⟨fun _ => ?_, fun z => nomatch z⟩
          walk_at "n"
          rw [inv, sFgo_kind (by revert e; cases isT "tuple" row <;> simp)]
          rfl
      · rintro om' sl' ⟨seen, t3, t4, inv, ls, rfl, rfl⟩
        rw [rgD_len, show ((hs.length : Int)).toNat = hs.length from Int.toNat_natCast _, List.drop_length] at inv
        walk_at "n"
        rw [inv]
        rfl
  · walk_at "n"
    refine ⟨fun _ => ?_, fun z => nomatch z⟩
    walk_at "n"
    cases hd
    all_goals first | rfl | exact absurd e (by show ¬ (false = true); decide)
end
end K01
set_option Elab.async false
set_option linter.all false
set_option maxRecDepth 100000
set_option maxHeartbeats 4000000
namespace K01
open PySem PySem.Spec PyProof.Rows L2 DL HL CM STX NM DX TT RO SG
/-! ### right standings and faults -/
theorem addAll_some : ∀ {cells : List D} {seen s2 : List Str}, seen.Nodup → addAll seen cells = some s2 → ∃ ys : List Str, cells = ys.map .str ∧ s2 = seen ++ ys ∧ (∀ y ∈ ys, NameOk y) ∧ s2.Nodup
  | [], seen, s2, nd, h => by
    cases h
    exact ⟨[], rfl, (List.append_nil _).symm, by simp, nd⟩
  | d :: ds, seen, s2, nd, h => by
    cases d with
    | str y =>
      rw [addAll] at h
      by_cases c : nmB y = true ∧ y ∉ seen
      · rw [if_pos c] at h
        have nd2 : (seen ++ [y]).Nodup := by
          rw [List.nodup_append]
          refine ⟨nd, by simp, fun a ha b hb e => ?_⟩
          rw [List.mem_singleton.mp hb] at e
          exact c.2 (e ▸ ha)
        obtain ⟨ys, rfl, e, hb, nd3⟩ := addAll_some nd2 h
        refine ⟨y :: ys, rfl, ?_, fun z hz => ?_, nd3⟩
        · rw [e, List.append_assoc]
          rfl
        · rcases List.mem_cons.mp hz with rfl | q
          · exact nmB_ok.mp c.1
          · exact hb z q
      · rw [if_neg c] at h
        cases h
    | _ => cases h
theorem addAll_ok : ∀ {ys seen : List Str}, (seen ++ ys).Nodup → (∀ y ∈ ys, NameOk y) → addAll seen (ys.map .str) = some (seen ++ ys)
  | [], seen, _, _ => by rw [List.append_nil]; rfl
  | y :: ys, seen, nd, hb => by
    have n : y ∉ seen := fun z => (List.nodup_append.mp nd).2.2 y z y List.mem_cons_self rfl
    have e : seen ++ y :: ys = (seen ++ [y]) ++ ys := by rw [List.append_assoc]; rfl
    rw [List.map_cons, addAll_str (nmB_ok.mpr (hb y List.mem_cons_self)) n, e]
    exact addAll_ok (by rw [← e]; exact nd) fun z hz => hb z (List.mem_cons_of_mem _ hz)
theorem sFgo_none : ∀ {hs : List Int} {ds : List D} {i : Nat} {seen : List Str}, ds.length = hs.length → seen.Nodup → sFgo hs ds i seen = none →
    ∃ rows : Rws, ds = rows.map (fun row => D.tup (row.map .str)) ∧ (∀ (j : Nat) (row : List Str) (h : Int), rows[j]? = some row → hs[j]? = some h → (row.length : Int) ≤ h) ∧ (seen ++ rows.flatten).Nodup ∧ ∀ y ∈ rows.flatten, NameOk y
  | [], [], _, seen, _, nd, _ => ⟨[], rfl, by simp, by simpa using nd, by simp⟩
  | [], _ :: _, _, _, e, _, _ => nomatch e
  | _ :: _, [], _, _, e, _, _ => nomatch e
  | h :: hs, d :: ds, i, seen, e, nd, hn => by
    cases d with
    | tup cells =>
      rw [sFgo] at hn
      by_cases c : (cells.length : Int) ≤ h
      · rw [if_pos c] at hn
        cases ea : addAll seen cells with
        | none =>
          rw [ea] at hn
          cases hn
        | some s2 =>
          rw [ea] at hn
          obtain ⟨ys, rfl, rfl, hb, nd2⟩ := addAll_some nd ea
          obtain ⟨rows, rfl, h1, h2, h3⟩ := sFgo_none (by simpa using e) nd2 hn
          refine ⟨ys :: rows, rfl, fun j row x e1 e2 => ?_, by rw [List.flatten_cons, ← List.append_assoc]; exact h2, fun y hy => ?_⟩
          · cases j with
            | zero =>
              have q1 : ys = row := by simpa using e1
              have q2 : h = x := by simpa using e2
              subst q1 q2
              simpa using c
            | succ j => exact h1 j row x (by simpa using e1) (by simpa using e2)
          · rw [List.flatten_cons] at hy
            rcases List.mem_append.mp hy with q | q
            · exact hb y q
            · exact h3 y q
      · rw [if_neg c] at hn
        cases hn
    | _ => cases hn
theorem sF_none {hs : List Int} {d : D} (h : sF hs d = none) : ∃ rows : Rws, d = stD rows ∧ StOk hs rows := by
  cases d with
  | tup ds =>
    replace h : (if ds.length = hs.length then sFgo hs ds 0 [] else some (-1)) = none := h
    by_cases c : ds.length = hs.length
    · rw [if_pos c] at h
      obtain ⟨rows, rfl, h1, h2, h3⟩ := sFgo_none c List.nodup_nil h
      exact ⟨rows, rfl, by simpa using c, h1, by simpa using h2, h3⟩
    · rw [if_neg c] at h
      cases h
  | _ => cases h
theorem sFgo_ok : ∀ {hs : List Int} {rows : Rws} {i : Nat} {seen : List Str}, (∀ (j : Nat) (row : List Str) (h : Int), rows[j]? = some row → hs[j]? = some h → (row.length : Int) ≤ h) → (seen ++ rows.flatten).Nodup → (∀ y ∈ rows.flatten, NameOk y) →
    sFgo hs (rows.map fun row => D.tup (row.map .str)) i seen = none
  | [], [], _, _, _, _, _ => rfl
  | [], _ :: _, _, _, _, _, _ => rfl
  | _ :: _, [], _, _, _, _, _ => rfl
  | h :: hs, r :: rows, i, seen, h1, h2, h3 => by
    rw [List.flatten_cons, ← List.append_assoc] at h2
    have nd := (List.nodup_append.mp h2).1
    rw [List.map_cons, sFgo_tup (by rw [List.length_map]; exact h1 0 r h rfl rfl) (addAll_ok nd fun y hy => h3 y (by rw [List.flatten_cons]; exact List.mem_append_left _ hy))]
    exact sFgo_ok (fun j row x e1 e2 => h1 (j + 1) row x (by simpa using e1) (by simpa using e2)) h2 fun y hy => h3 y (by rw [List.flatten_cons]; exact List.mem_append_right _ hy)
theorem sF_ok {hs : List Int} {rows : Rws} (so : StOk hs rows) : sF hs (stD rows) = none := by
  show (if (rows.map fun row => D.tup (row.map .str)).length = hs.length then sFgo hs _ 0 [] else some (-1)) = none
  rw [if_pos (by rw [List.length_map]; exact so.1)]
  exact sFgo_ok so.2.1 (by simpa using so.2.2.1) so.2.2.2
section
variable {P : Program} {w : World} {K : PySem.W.Frag} {mg : Str → Option Value} {base : Heap} {CY CV fV CS fS CN fN CB : Addr}
/-! ### places, count_boxes, free_places, boxes_of -/
abbrev sp_places (CY : Addr) : Sp := spG 1 (fun hs : List Int => [yardD CY hs]) (fun _ => True) (fun hs r => r = .int hs.sum) noX
theorem cv_places {c : Cn} {om : Om} {sl : Sl} {P : DL.E → Om → Prop} {hs : List Int} {Ew : XK} (h : P (.v (.int hs.sum)) om) : DL.CV c (fun vs H Q => sp_places CY vs H Q Ew) om sl [.v (yardD CY hs)] P :=
  cv_G hs rfl rfl trivial (fun _ _ _ z => z) fun r hr => by rw [hr]; exact h
theorem c_places {f : Addr} {fd : FuncData} (T : Ty K mg CY CV fV CS fS CN fN CB) (B : DefB K mg "places" s_places ["yard"] f fd) : Ca P w K mg base CX0 1 "places" ["yard"] (sp_places CY) := by
  refine ca_of B sc_places (fun vs H Q E h => lenG h) (fun cdv A outer s H vs Q E hr h => ⟨_, (pss_one (ps_ret (pe_callB (cr_sumU rfl) (by rfl) T.z_sum (by decide +kernel) (pa_cons (pe_fld (pv 0) rfl) pa_nil)))), entryG (K := K) (by decide) h fun O hs hl hp _ => ?_⟩)
  walk_at "d0"
  walk_at "n"
  refine ev_hs (hs := hs) T ?_
  walk_at "n"
  refine ⟨rfl, ?_⟩
  walk_at "n"
  exact cv_sumT ⟨_, rfl, rfl⟩
abbrev nD (n : Nat) : D := .int (n : Int)
abbrev rwS (row : List Str) : D := .tup (row.map .str)
theorem sum_nat : ∀ l : List Nat, (l.map fun n : Nat => (n : Int)).sum = ((l.sum : Nat) : Int)
  | [] => rfl
  | n :: l => by
    rw [List.map_cons, List.sum_cons, List.sum_cons, sum_nat l]
    omega
abbrev sp_cbox : Sp := spG 1 (fun rows : Rws => [stD rows]) (fun rows => rows.length ≤ 12 ∧ ∀ row ∈ rows, row.length ≤ 900) (fun rows r => r = nD rows.flatten.length) noX
theorem len_flat : ∀ rows : Rws, (rows.map fun row => row.length).sum = rows.flatten.length
  | [] => rfl
  | r :: rows => by rw [List.map_cons, List.sum_cons, len_flat rows, List.flatten_cons, List.length_append]
theorem c_count_boxes {f : Addr} {fd : FuncData} (T : Ty K mg CY CV fV CS fS CN fN CB) (B : DefB K mg "count_boxes" s_count_boxes ["standing"] f fd) : Ca P w K mg base CX0 1 "count_boxes" ["standing"] sp_cbox := by
  refine ca_of B sc_count_boxes (fun vs H Q E h => lenG h) (fun cdv A outer s H vs Q E hr h => ⟨_, (pss_one (ps_ret (pe_callB (cr_sumU rfl) (by rfl) T.z_sum (by decide +kernel) (pa_cons (pe_lc (own := [("pile", 1)]) rfl sc_count_boxes.nd (pi_tup (pv 0)) (blkOk_by (N := ["standing", "pile"]) (sc := defScope s_count_boxes) (by decide +kernel)) (fun _ _ _ _ _ => (pg_name (i := 1) sc_count_boxes.nd rfl (by first | exact Or.inl rfl | exact Or.inr rfl))) (fun _ _ _ _ _ => pts_nil) (fun _ _ _ _ _ => (pe_callB (EX.cr_lenk (K := K) rfl) (by rfl) T.z_len (by decide +kernel) (pa_cons (pv 1) pa_nil)))) pa_nil)))), entryG (K := K) (by decide) h fun O rows hl hp _ => ?_⟩)
  walk_at "d0"
  walk_at "n"
  refine ev_lcT rwS (fun _ => true) (fun row : List Str => nD row.length) (sets_name 1) (wv_tup ?_)
  walk_at "n"
  refine ⟨rfl, _, rfl, rows, rfl, by have := hp.1; omega, fun i row acc hi => ?_, ?_⟩
  · refine gv_name ⟨ltb rfl, ?_⟩
    walk_at "s"
    refine et_yes ⟨rfl, rfl, fun _ => ?_⟩
    walk_at "n"
    rw [List.length_map]
    exact ⟨rfl, rfl⟩
  · have tf : (rows.filter fun _ => true) = rows := List.filter_eq_self.mpr fun _ _ => rfl
    rw [tf]
    walk_at "n"
    rw [show rows.map (fun row => nD row.length) = ((rows.map fun row => row.length).map fun n : Nat => (n : Int)).map D.int by rw [List.map_map, List.map_map]; rfl]
    refine cv_sumL rfl ⟨_, rfl, ?_⟩
    rw [sum_nat, len_flat]
theorem cv_cbox {c : Cn} {om : Om} {sl : Sl} {P : DL.E → Om → Prop} {hs : List Int} {rows : Rws} {Ew : XK} (ho : HsOk hs) (so : StOk hs rows) (h : P (.v (nD rows.flatten.length)) om) : DL.CV c (fun vs H Q => sp_cbox vs H Q Ew) om sl [.v (stD rows)] P :=
  cv_G rows rfl rfl ⟨by rw [so.1]; exact ho.2.1, fun row hr => by have := so.row ho hr; omega⟩ (fun _ _ _ z => z) fun r hr => by rw [hr]; exact h
/-- how many places are free -/
def freeR (hs : List Int) (d : D) (r : D) : Prop := ∃ rows : Rws, d = stD rows ∧ StOk hs rows ∧ r = .int (hs.sum - (rows.flatten.length : Int))
abbrev sp_free (CY CS : Addr) : Sp := spG 2 (fun p : List Int × D => [yardD CY p.1, p.2]) (fun p => HsOk p.1 ∧ Sh 900 p.2) (fun p r => freeR p.1 p.2 r) (fun p C f x => C = CS ∧ f = "at" ∧ ∃ i : Int, sF p.1 p.2 = some i ∧ x = .int i)
theorem c_free_places {f : Addr} {fd : FuncData} (T : Ty K mg CY CV fV CS fS CN fN CB) (c_places : Ca P w K mg base CX0 1 "places" ["yard"] (sp_places CY)) (c_count_boxes : Ca P w K mg base CX0 1 "count_boxes" ["standing"] sp_cbox) (c_need_standing : Ca P w K mg base (L2.CX P w) 3 "need_standing" ["yard", "value"] (sp_nst CY CS))
    (B : DefB K mg "free_places" s_free_places ["yard", "standing"] f fd) : Ca P w K mg base (L2.CX P w) 4 "free_places" ["yard", "standing"] (sp_free CY CS) := by
  refine ca_ofX B sc_free_places (fun vs H Q E h => lenG h) (fun cdv A outer s H vs Q E hr h => ⟨_, (pss_cons (ps_expr (pe_ca c_need_standing hr (by first | decide | (simp only [Nat.add_eq]; omega)) (passes_call (W := fun cls d _ H => E cls d H) (takes_of rfl rfl rfl rfl) (fun _ _ _ _ z => z)) (pa_cons (pv 0) (pa_cons (pv 1) pa_nil))))
    (pss_one (ps_ret (pe_op op_sub (pe_ca c_places hr (by first | decide | (simp only [Nat.add_eq]; omega)) pass0 (pa_cons (pv 0) pa_nil)) (pe_ca c_count_boxes hr (by first | decide | (simp only [Nat.add_eq]; omega)) pass0 (pa_cons (pv 1) pa_nil)))))), entryG (K := K) (by decide) h fun O p hl hp hw => ?_⟩)
  obtain ⟨hs, d⟩ := p
  obtain ⟨ho, hd⟩ := hp
  dsimp only at ho hd hw ⊢
  walk_at "d0"
  walk_at "n"
  refine cv_GW (hs, d) rfl hw rfl rfl ⟨ho, hd⟩ (fun C f x z => z) fun r hr => ?_
  obtain ⟨rfl, e⟩ := hr
  obtain ⟨rows, rfl, so⟩ := sF_none e
  walk_at "n"
  refine cv_places ?_
  walk_at "n"
  refine cv_cbox ho so ?_
  walk_at "n"
  exact ⟨rows, rfl, so, rfl⟩
end
end K01
set_option Elab.async false
set_option linter.all false
set_option maxRecDepth 100000
set_option maxHeartbeats 4000000
namespace K01
open PySem PySem.Spec PyProof.Rows L2 DL HL CM STX NM DX TT RO SG SX MV
section
variable {P : Program} {w : World} {K : PySem.W.Frag} {mg : Str → Option Value} {base : Heap} {CY CV fV CS fS CN fN CB : Addr}
theorem sets_name2 {i j : Nat} (hij : i ≠ j) : Sets (gName i) [i, j] := fun v σ H Q h => ⟨by
  show ((((σ.set j none).set i none).set i (some v)).set j none).set i none = (σ.set j none).set i none
  refine List.ext_getElem? fun m => ?_
  simp only [List.getElem?_set, List.length_set]
  by_cases c1 : i = m
  · simp [c1]
  · by_cases c2 : j = m
    · simp [c1, c2]
    · simp [c1, c2], h⟩
/-! ### boxes_of -/
abbrev sp_boxof : Sp := spG 1 (fun rows : Rws => [stD rows]) (fun rows => rows.length ≤ 12 ∧ ∀ row ∈ rows, row.length ≤ 12) (fun rows r => r = .tup ((rows.flatten.map .str).mergeSort leD)) noX
theorem flat_short : ∀ {rows : Rws}, (∀ row ∈ rows, row.length ≤ 12) → rows.flatten.length ≤ 12 * rows.length
  | [], _ => Nat.le_refl _
  | r :: rows, h => by
    rw [List.flatten_cons, List.length_append, List.length_cons]
    have h1 := h r List.mem_cons_self
    have h2 := flat_short (rows := rows) fun x hx => h x (List.mem_cons_of_mem _ hx)
    omega
theorem take_rows {rows : Rws} {i : Nat} {row : List Str} (h : rows[i]? = some row) : (rows.take (i + 1)).flatten = (rows.take i).flatten ++ row := by
  rw [SG.take_snoc h, List.flatten_append, List.flatten_cons, List.flatten_nil, List.append_nil]
theorem c_boxes_of {f : Addr} {fd : FuncData} (T : Ty K mg CY CV fV CS fS CN fN CB) (B : DefB K mg "boxes_of" s_boxes_of ["standing"] f fd) : Ca P w K mg base CX0 1 "boxes_of" ["standing"] sp_boxof := by
  refine ca_of B sc_boxes_of (fun vs H Q E h => lenG h) (fun cdv A outer s H vs Q E hr h => ⟨_, (pss_one (ps_ret (pe_callTy cr_tup (by rfl) T.z_tuple (by decide +kernel) (pa_cons (pe_callB (cr_sortedD hr.units) (by rfl) T.z_sorted (by decide +kernel) (pa_cons (pe_lc2 (own := [("pile", 1), ("box", 2)]) (vs1 := [2]) rfl sc_boxes_of.nd (pi_tup (pv 0)) (blkOk_by (N := ["standing", "pile", "box"]) (sc := defScope s_boxes_of) (by decide +kernel)) (by decide) (fun _ _ _ _ _ => (pg_name (i := 1) sc_boxes_of.nd rfl (by first | exact Or.inl rfl | exact Or.inr rfl))) (fun _ _ _ _ _ => pts_nil) (fun _ _ _ _ _ => (EX.pi_tupk (K := K) rfl (pv 1))) (fun _ _ _ _ _ => (pg_name (i := 2) sc_boxes_of.nd rfl (by first | exact Or.inl rfl | exact Or.inr rfl))) (fun _ _ _ _ _ => pts_nil) (fun _ _ _ _ _ => (pv 2))) pa_nil)) pa_nil)))), entryG (K := K) (by decide) h fun O rows hl hp _ => ?_⟩)
  obtain ⟨h12, hr12⟩ := hp
  have fl := flat_short hr12
  walk_at "d0"
  walk_at "n"
  refine ev_lc2 (sets_name2 (i := 1) (j := 2) (by decide)) (sets_name 2) (wv_tup ?_)
  walk_at "n"
  refine ⟨rfl, _, rfl, fun i acc => acc = (rows.take i).flatten.map .str, rfl, ?_, ?_⟩
  · rintro i d acc hd rfl
    rw [List.getElem?_map] at hd
    obtain ⟨row, hrow, rfl⟩ := Option.map_eq_some_iff.mp hd
    have rl := hr12 row (List.mem_of_getElem? hrow)
    have tl : (rows.take i).flatten.length ≤ 144 := by
      have := flat_short (rows := rows.take i) fun x hx => hr12 x (List.mem_of_mem_take hx)
      rw [List.length_take] at this
      omega
    refine gv_name ⟨ltb rfl, ?_⟩
    walk_at "s"
    refine et_yes ⟨rfl, (fun z => nomatch z), fun _ => wv_tup ?_⟩
    walk_at "n"
    refine ⟨rfl, _, rfl, fun j acc' => acc' = ((rows.take i).flatten ++ row.take j).map .str, by simp, ?_, ?_, ?_⟩
    · rintro j e acc' hj rfl
      rw [List.getElem?_map] at hj
      obtain ⟨y, hy, rfl⟩ := Option.map_eq_some_iff.mp hj
      refine gv_name ⟨ltb rfl, ?_⟩
      walk_at "s"
      refine et_yes ⟨fun _ => ?_, (fun z => nomatch z)⟩
      walk_at "n"
      refine ⟨rfl, _, rfl, ?_⟩
      rw [SG.take_snoc hy]
      simp
    · rintro j acc' rfl
      rw [List.length_map, List.length_append, List.length_take]
      omega
    · rintro acc' rfl
      rw [List.length_map, List.take_length, take_rows hrow]
  · rintro acc rfl
    rw [List.length_map, List.take_length]
    walk_at "n"
    obtain ⟨s1, s2, s3⟩ := SG.sort_strs (l := rows.flatten)
    refine cv_sortedD rfl s1 s2 (by rw [List.length_map]; omega) s3 ?_
    walk_at "n"
    exact cv_tupL rfl ⟨_, rfl, rfl⟩
/-! ### tops -/
def topD (row : List Str) : D := match row.getLast? with
  | some y => .str y
  | none => .non
abbrev sp_tops : Sp := spG 1 (fun rows : Rws => [stD rows]) (fun rows => rows.length ≤ 12 ∧ ∀ row ∈ rows, row.length ≤ 12) (fun rows r => r = .tup (rows.map topD)) noX
theorem c_tops {f : Addr} {fd : FuncData} (T : Ty K mg CY CV fV CS fS CN fN CB) (B : DefB K mg "tops" s_tops ["standing"] f fd) : Ca P w K mg base CX0 1 "tops" ["standing"] sp_tops := by
  refine ca_of B sc_tops (fun vs H Q E h => lenG h) (fun cdv A outer s H vs Q E hr h => ⟨_, (pss_one (ps_ret (pe_callTy cr_tup (by rfl) T.z_tuple (by decide +kernel) (pa_cons (pe_lc (own := [("pile", 1)]) rfl sc_tops.nd (pi_tup (pv 0)) (blkOk_by (N := ["standing", "pile"]) (sc := defScope s_tops) (by decide +kernel)) (fun _ _ _ _ _ => (pg_name (i := 1) sc_tops.nd rfl (by first | exact Or.inl rfl | exact Or.inr rfl))) (fun _ _ _ _ _ => pts_nil) (fun _ _ _ _ _ => (pe_ifExp (EX.pt_truthk (K := K) rfl (pv 1) (by intro _; rfl)) (pe_ix (EX.ix_seqk (K := K) rfl) (pv 1) (pe_un un_neg pe_int) (fun _ _ => rfl)) pe_non))) pa_nil)))), entryG (K := K) (by decide) h fun O rows hl hp _ => ?_⟩)
  obtain ⟨h12, hr12⟩ := hp
  walk_at "d0"
  walk_at "n"
  refine ev_lcT rwS (fun _ => true) topD (sets_name 1) (wv_tup ?_)
  walk_at "n"
  refine ⟨rfl, _, rfl, rows, rfl, by omega, fun i row acc hi => ?_, ?_⟩
  · have hrow := hr12 row (List.mem_of_getElem? hi)
    refine gv_name ⟨ltb rfl, ?_⟩
    walk_at "s"
    refine et_yes ⟨rfl, rfl, fun _ => ?_⟩
    walk_at "n"
    refine ev_if (et_truT ?_)
    walk_at "n"
    rcases List.eq_nil_or_concat row with rfl | ⟨r0, y, er⟩
    · refine ⟨(fun z => nomatch z), fun _ => ?_⟩
      walk_at "n"
      exact ⟨rfl, rfl⟩
    · rw [List.concat_eq_append] at er
      subst er
      have e1 : ((r0 ++ [y]).map D.str).isEmpty = false := by simp
      rw [e1]
      refine ⟨fun _ => ?_, fun z => nomatch z⟩
      walk_at "n"
      have a1 : atI ((r0 ++ [y]).map D.str) (-1) = some (.str y) := by
        rw [List.map_append]
        exact atI_last _ _
      refine ov_ixT a1 ?_
      refine ⟨rfl, ?_⟩
      unfold topD
      rw [List.getLast?_append]
      rfl
  · have tf : (rows.filter fun _ => true) = rows := List.filter_eq_self.mpr fun _ _ => rfl
    rw [tf]
    walk_at "n"
    refine cv_tupL rfl ⟨_, rfl, ?_⟩
    rfl
/-! ### place_of, boxes_above -/
abbrev rwF (row : List Str) : D := .ftp (row.map .str)
/-- where a box lies -/
def AtP (rows : Rws) (y : Str) (k l : Nat) : Prop := ∃ row, rows[k]? = some row ∧ y ∈ row ∧ l = row.idxOf y ∧ ∀ (j : Nat) (r : List Str), j < k → rows[j]? = some r → y ∉ r
abbrev sp_place (CN : Addr) : Sp := spG 2 (fun p : Rws × Str => [stF p.1, .str p.2]) (fun p => p.1.length ≤ 12 ∧ ∀ row ∈ p.1, row.length ≤ 12) (fun p r => ∃ k l, AtP p.1 p.2 k l ∧ r = .tup [nD k, nD l]) (fun p C f x => C = CN ∧ f = "name" ∧ x = .str p.2 ∧ p.2 ∉ p.1.flatten)
theorem c_place_of {f : Addr} {fd : FuncData} (T : Ty K mg CY CV fV CS fS CN fN CB) (B : DefB K mg "place_of" s_place_of ["standing", "box"] f fd) : Ca P w K mg base (L2.CX P w) 2 "place_of" ["standing", "box"] (sp_place CN) := by
  refine ca_ofX B sc_place_of (fun vs H Q E h => lenG h) (fun cdv A outer s H vs Q E hr h => ⟨_, (pss_cons (ps_for (passes_of rfl) rfl (EN.pi_enumT (by rfl) T.z_enumerate (pa_cons (pv 0) pa_nil)) (EX.pg_tupk (K := K) (n := 2) rfl rfl (pgs_cons (pg_name (i := 2) sc_place_of.nd rfl (by first | exact Or.inl rfl | exact Or.inr rfl)) (pgs_cons (pg_name (i := 3) sc_place_of.nd rfl (by first | exact Or.inl rfl | exact Or.inr rfl)) pgs_nil)))
     (pss_one (ps_if (pt_cmpR op_in_seq (pv 1) (pv 3) (by first | exact nomark _ | rfl))
      (pss_one (ps_ret (pe_tup (pa_cons (pv 2) (pa_cons (pe_bmF PySem.F.slot_tuple_index PySem.F.type_tuple_index mt_tindex (pv 3) (pa_cons (pv 1) pa_nil)) pa_nil)))))
      pss_nil)))
    (pss_one (EX.ps_raiseF rfl T.x_NoName hr (by first | decide | (simp only [Nat.add_eq]; omega)) (takes_of rfl rfl rfl rfl) (pa_cons (pv 1) pa_nil)))), entryG (K := K) (by decide) h fun O p hl hp hw => ?_⟩)
  obtain ⟨rows, y⟩ := p
  obtain ⟨h12, hr12⟩ := hp
  dsimp only at h12 hr12 hw ⊢
  walk_at "d0"
  refine sv_seq (sv_forT (fun q : List Str × Nat => D.tup [.int (q.2 : Int), rwF q.1]) (wv_enumT ?_))
  walk_at "n"
  refine ⟨rfl, _, rfl, rows.zipIdx, fun i om' sl' => ∃ t2 t3 : Option DL.E, (∀ (j : Nat) (r : List Str), j < i → rows[j]? = some r → y ∉ r) ∧ om' = [] ∧ sl' = [some (.v (stF rows)), some (.v (.str y)), t2, t3], by unfold enD; rw [List.zipIdx_map, List.map_map]; rfl, ⟨_, _, fun j r hj => absurd hj (Nat.not_lt_zero _), rfl, rfl⟩, ?_, ?_⟩
  · rintro i ⟨row, j⟩ om' sl' ha ⟨t2, t3, hb, rfl, rfl⟩
    obtain ⟨he, rfl⟩ := zip_at ha
    refine gv_tup rfl (gsv_cons (gv_name ⟨ltb rfl, gsv_cons (gv_name ⟨ltb rfl, gsv_nil ?_⟩)⟩))
    walk_at "s"
    walk_at "n"
    refine sv_if ?_
    walk_at "n"
    refine ov_inFN ?_
    walk_at "n"
    refine ⟨fun u => ?_, fun u => ?_⟩
    · have u' : y ∈ row := of_decide_eq_true u
      walk_at "n"
      refine ev_bmF ?_
      walk_at "n"
      refine ⟨⟨_, rfl⟩, ?_⟩
      walk_at "n"
      refine mv_tindexF u' ?_
      walk_at "n"
      exact ⟨j, row.idxOf y, ⟨row, he, u', rfl, hb⟩, rfl⟩
    · have u' : y ∉ row := of_decide_eq_false u
      walk_at "n"
      refine ⟨_, _, fun m r hm hr => ?_, rfl, rfl⟩
      rcases Nat.lt_succ_iff_lt_or_eq.mp hm with q | rfl
      · exact hb m r q hr
      · rw [he] at hr
        cases hr
        exact u'
  · rintro om' sl' ⟨t2, t3, hb, rfl, rfl⟩
    refine sv_raise ?_
    walk_at "n"
    refine ⟨rfl, rfl, rfl, fun z => ?_⟩
    obtain ⟨row, hr, hy⟩ := List.mem_flatten.mp z
    obtain ⟨j, hj, e⟩ := List.getElem_of_mem hr
    exact hb j row (by rw [List.length_zipIdx]; exact hj) (by rw [List.getElem?_eq_getElem hj, e]) hy
/-- the boxes above one -/
abbrev sp_above (CN : Addr) : Sp := spG 2 (fun p : Rws × Str => [stF p.1, .str p.2]) (fun p => p.1.length ≤ 12 ∧ ∀ row ∈ p.1, row.length ≤ 12) (fun p r => ∃ k l row, AtP p.1 p.2 k l ∧ p.1[k]? = some row ∧ r = rwS (row.drop (l + 1))) (fun p C f x => C = CN ∧ f = "name" ∧ x = .str p.2 ∧ p.2 ∉ p.1.flatten)
theorem c_boxes_above {f : Addr} {fd : FuncData} (T : Ty K mg CY CV fV CS fS CN fN CB) (c_place_of : Ca P w K mg base (L2.CX P w) 2 "place_of" ["standing", "box"] (sp_place CN)) (B : DefB K mg "boxes_above" s_boxes_above ["standing", "box"] f fd) : Ca P w K mg base (L2.CX P w) 3 "boxes_above" ["standing", "box"] (sp_above CN) := by
  refine ca_ofX B sc_boxes_above (fun vs H Q E h => lenG h) (fun cdv A outer s H vs Q E hr h => ⟨_, (pss_cons (ps_asg (pe_ca c_place_of hr (by first | decide | (simp only [Nat.add_eq]; omega)) (passes_call (W := fun cls d _ H => E cls d H) (takes_of rfl rfl rfl rfl) (fun _ _ _ _ z => z)) (pa_cons (pv 0) (pa_cons (pv 1) pa_nil))) (EX.pg_tupk (K := K) (n := 2) rfl rfl (pgs_cons (pg_name (i := 2) sc_boxes_above.nd rfl (by first | exact Or.inl rfl | exact Or.inr rfl)) (pgs_cons (pg_name (i := 3) sc_boxes_above.nd rfl (by first | exact Or.inl rfl | exact Or.inr rfl)) pgs_nil))))
    (pss_one (ps_ret (pe_slice sl_U (pe_ix ix_seq (pv 0) (pv 2) (fun _ _ => rfl)) (po_some (pe_op op_addU (pv 3) pe_int)) po_none)))), entryG (K := K) (by decide) h fun O p hl hp hw => ?_⟩)
  obtain ⟨rows, y⟩ := p
  obtain ⟨h12, hr12⟩ := hp
  dsimp only at h12 hr12 hw ⊢
  walk_at "d0"
  refine sv_seq (sv_asg ?_)
  walk_at "n"
  refine cv_GW (rows, y) rfl hw rfl rfl ⟨h12, hr12⟩ (fun C f x z => z) fun r hr => ?_
  obtain ⟨k, l, ha, rfl⟩ := hr
  obtain ⟨row, h1, h2, rfl, h4⟩ := ha
  dsimp only at h1 h2 h4 ⊢
  walk_at "n"
  refine gv_tup rfl (gsv_cons (gv_name ⟨ltb rfl, gsv_cons (gv_name ⟨ltb rfl, gsv_nil ?_⟩)⟩))
  walk_at "s"
  walk_at "n"
  refine ov_ixT (atI_n (by rw [List.getElem?_map, h1]; rfl)) ?_
  walk_at "n"
  rw [show ((row.idxOf y : Nat) : Int) + 1 = ((row.idxOf y + 1 : Nat) : Int) by omega]
  refine lv_f ?_ fun z => ?_
  · rw [cut_fr]
    refine ⟨_, rfl, k, row.idxOf y, row, ⟨row, h1, h2, rfl, h4⟩, h1, ?_⟩
    rw [← List.map_drop]
  · exfalso
    rw [cut_fr] at z
    have := congrArg List.length z
    rw [List.length_drop, List.length_map] at this
    have := List.length_pos_of_mem h2
    omega
end
end K01
set_option Elab.async false
set_option linter.all false
set_option maxRecDepth 100000
set_option maxHeartbeats 4000000
/-! a tuple once: the same one; what is compared with an empty one within a block -/
namespace L2
open PySem PySem.Spec PyProof.Rows
theorem tuple_mul1 (l : Addr) (items : Array Value) (n : Nat) (dd : Option Addr) (sl : Array (Option Value)) (u : Tok) :
    Meets (Builtin.«tuple.__mul__» ⟨[.ref l, .int 1 u], []⟩) (fun _ R s => s.heap.get? l = some { cls := .type "tuple", dict := dd, data := .seq items n, slots := sl } ∧
      R (.ok (.ret (Value.ref l))) s) :=
  .of_wp fun prog w A R s h => by
    obtain ⟨hp, g, d, tk, os⟩ := s
    obtain ⟨hl, h⟩ := h
    have f1 := AutoSeq1.idx_int
    have c1 : (items.isEmpty || (1 : Int) == 1) = true := by rw [Bool.or_eq_true]; exact .inr rfl
    wp_walk using wpAny_loadPart' hl
    repeat (first
      | (refine wpAny_ite_false (decide_eq_false (by decide)) ?_; wp_walk using wpAny_loadPart' hl)
      | (refine wpAny_ite_true (decide_eq_true c1) ?_; wp_walk using wpAny_loadPart' hl))
    exact ⟨_, rfl, h⟩
def rRepT1 (K : PySem.W.Frag) : R2 := fun x y H Q => ∃ l xs, x = .ref l ∧ y = .int 1 ∧ SqT K H l xs ∧ Q x H
theorem op_repT1 {X : Cx} : OpR X (binaryOp .Mult) (rRepT1 X.K) := by
  intro pins s σ H x y v u Q I rx ry h
  obtain ⟨l, xs, rfl, rfl, hT, q⟩ := h
  cases rx
  obtain ⟨t, rfl⟩ := ry
  obtain ⟨its, r, ⟨⟨cls, dd, data, sl⟩, ho, hc, n, hd⟩, hs⟩ := I.tuple hT
  simp only at hc hd
  subst hc hd
  exact wpAny_binaryOp_repeat_ref (T := "tuple") (U := "int") (by decide) ⟨_, ho, rfl⟩ (fun s' => typeIs_int s' 1 t) noFill_tuple_mul F.fills_int_mul F.slot_int_rmul repeat_tuple F.slot_int_index.lookup
    (call_meets F.slot_int_rmul (typeIs_int s 1 t) F.entry_int_rmul (F.args_int_rmul_2 _ _) (int_rmul_tuple 1 t l its.toArray n dd sl)
      ⟨ho, rfl, ⟨_, ho, rfl⟩, call_meets F.slot_tuple_mul ⟨_, ho, rfl⟩ F.entry_tuple_mul (F.args_tuple_mul_2 _ _) (tuple_mul1 l its.toArray n dd sl t) ⟨ho, .ref l, _, I, rfl, q⟩⟩)
def rRepTU (K : PySem.W.Frag) : R2 := fun x y H Q => rRepT K x y H Q ∨ rRepT1 K x y H Q
theorem op_repTU {X : Cx} : OpR X (binaryOp .Mult) (rRepTU X.K) := OpR.or op_repT op_repT1
end L2
namespace EX
open PySem PySem.Spec PyProof.Rows L2
theorem op_neEk {X : Cx} (hu : X.A.units < cLine) : OpR X (compareOp .NotEq) rNeE := op_neE hu
theorem call_isik {X : Cx} {K : PySem.W.Frag} (hk : X.K = K) : CallR X (.builtin "isinstance") (rIsi K) := by
  subst hk
  exact call_isi
theorem call_isiTRk {X : Cx} {K : PySem.W.Frag} (hk : X.K = K) : CallR X (.builtin "isinstance") (rIsiTR K) := by
  subst hk
  exact call_isiTR
theorem op_eqEk {X : Cx} (hu : X.A.units < cLine) : OpR X (compareOp .Eq) rEqE := op_eqE hu
end EX
namespace DL
open PySem PySem.Spec PyProof.Rows L2
theorem ov_repTU {c : Cn} {om : Om} {sl : Sl} {P : E → Om → Prop} {xs : List D} {n : Nat} (hx : xs ≠ []) (h : 1 ≤ n ∧ n ≤ 1000 ∧ xs.length ≤ 1000) (p : P (.v (.tup (List.replicate n xs).flatten)) om) : OV c (rRepTU c.K) om sl (.v (.tup xs)) (.v (.int (n : Int))) P := fun σ H O ps s v w rv rw' Q k => by
  by_cases c1 : n = 1
  · subst c1
    cases rw'
    obtain ⟨a, vs, rfl, na, h1, h2⟩ := as_t (show Rl O H v (.tup xs) from rv)
    refine .inr ⟨a, vs, rfl, rfl, sqT h1, ?_⟩
    rw [show (List.replicate 1 xs).flatten = xs by simp] at p
    exact k _ H O ps (.v (.tup xs)) om (Go.refl ..) s rv p
  · exact .inl (ov_repT (c := c) (P := P) (n := (n : Int)) hx ⟨by omega, by omega, h.2.2⟩ (by rw [Int.toNat_natCast]; exact p) σ H O ps s v w rv rw' Q k)
end DL
set_option Elab.async false
set_option linter.all false
set_option maxRecDepth 100000
set_option maxHeartbeats 4000000
/-! comprehensions over a list of one's own, which stays as it is -/
namespace DL
open PySem PySem.Spec PyProof.Rows L2
/-- what is walked, told by the state on the way -/
def WVS (c : Cn) (wi : TI) (om : Om) (sl : Sl) (P : List D → Prop) : Prop := ∀ σ H O ps, St c.F c.O0 c.H0 H om σ sl O ps → ∀ R : It → Hp → Prop,
  (∀ (J : It) (H1 : Hp) (O1 ps1 : List Addr) (G : Hp → Prop) (Y : Nat → Hp → V → Hp → Prop) (xs : List D), P xs → Go O ps H O1 ps1 H1 → St c.F c.O0 c.H0 H1 om σ sl O1 ps1 → Walk J xs.length G Y →
    (∀ H2 O2 ps2 om2 σ2 sl2, Go O1 ps1 H1 O2 ps2 H2 → St c.F c.O0 c.H0 H2 (om ++ om2) σ2 sl2 O2 ps2 → G H2) →
    (∀ i H2 O2 ps2 om2 σ2 sl2 v H3, Go O1 ps1 H1 O2 ps2 H2 → St c.F c.O0 c.H0 H2 (om ++ om2) σ2 sl2 O2 ps2 → i < xs.length → Y i H2 v H3 → ∃ d, xs[i]? = some d ∧ (∀ b o, H2 b = some o → H3 b = some o) ∧ Rl O2 H3 v d) → R J H1) → wi σ H R
section
variable {c : Cn} {Ex : XK} {om : Om} {sl : Sl} {σ : L2.St} {H : Hp} {O ps : List Addr} {P : E → Om → Prop} {PB : Bool → Om → Prop} {PG : Om → Sl → Prop} {te ta tb to : TE} {tt : TT} {tr : TA} {x y : E} {Pq : Po} {t u : TS}
theorem WV.s {wi : TI} {P : List D → Prop} (h : WV c wi om sl P) : WVS c wi om sl P := fun σ H O ps s R k =>
  h σ H O ps s R fun J H1 O1 ps1 G Y xs p g1 s1 w hG hY => k J H1 O1 ps1 G Y xs p g1 s1 w (fun H2 O2 ps2 _ _ _ g _ => hG H2 O2 ps2 g) fun i H2 O2 ps2 _ _ _ v H3 g s2 hi hy => hY i H2 O2 ps2 v H3 g s2.al hi hy
theorem wvs_own {P : List D → Prop} (h : EV c te om sl fun e om1 => om1 = om ∧ ∃ k ds, e = .o k ∧ om[k]? = some (some (.l ds)) ∧ P ds) : WVS c (iList c.K te) om sl P := fun σ H O ps s R k =>
  h σ H O ps s _ fun v H1 O1 ps1 e om1 g1 s1 r1 ⟨ho, i, ds, he, hi, p⟩ => by
    subst he ho
    obtain ⟨a, rfl, hp⟩ := r1
    have hk : i < om1.length := (List.getElem?_eq_some_iff.mp hi).1
    have own : ∀ {H2 : Hp} {O2 ps2 : List Addr} {om2 : Om} {σ2 : L2.St} {sl2 : Sl}, Go O1 ps1 H1 O2 ps2 H2 → DL.St c.F c.O0 c.H0 H2 (om1 ++ om2) σ2 sl2 O2 ps2 → ∃ vs, H2 a = some (.lst vs) ∧ RlA O2 H2 vs ds := fun {H2 O2 ps2 om2 σ2 sl2} g s2 => by
      obtain ⟨q, vs, e1, e2, e3, e4, e5⟩ := s2.ownL (k := i) (ds := ds) (by rw [List.getElem?_append_left hk]; exact hi)
      have : q = a := Option.some.inj (e1.symm.trans (g.pre _ _ hp))
      subst this
      exact ⟨vs, e4, e5⟩
    obtain ⟨vs0, e0, r0⟩ := own (om2 := []) (Go.refl ..) (by rw [List.append_nil]; exact s1)
    refine ⟨a, rfl, ⟨vs0, sqL e0⟩, k (Itl c.K a) H1 O1 ps1 (fun H => ∃ vs, SqL c.K H a vs ∧ vs.length = ds.length) (fun i H x H' => H' = H ∧ ∀ vs, SqL c.K H a vs → vs[i]? = some x) ds p g1 s1 ⟨fun i H hi ⟨vs, q, l⟩ => ⟨vs, vs[i]'(by omega), q, by simp [l, hi]⟩, fun H ⟨vs, q, l⟩ => ⟨vs, q, by omega⟩, fun i H x H' hi q y => y⟩ (fun H2 O2 ps2 om2 σ2 sl2 g s2 => ?_) fun j H2 O2 ps2 om2 σ2 sl2 v H3 g s2 hj hy => ?_⟩
    · obtain ⟨vs, e1, e2⟩ := own g s2
      exact ⟨vs, sqL e1, e2.len⟩
    · obtain ⟨rfl, hv⟩ := hy
      obtain ⟨vs, e1, e2⟩ := own g s2
      have hj' : ds[j]? = some ds[j] := List.getElem?_eq_getElem hj
      obtain ⟨w, h1, h2⟩ := e2.get hj'
      have ew : w = v := Option.some.inj (h1.symm.trans (hv vs (sqL e1)))
      subst ew
      exact ⟨_, hj', fun _ _ z => z, h2⟩
theorem ev_lcS {wi : TI} {g : TG} {vs : List Nat} (hg : Sets g vs) (h : WVS c wi om sl fun xs => ∃ Iv : Nat → List D → Prop, Iv 0 [] ∧
      (∀ i d acc, xs[i]? = some d → Iv i acc → GV c g d (om ++ [some (.l acc)]) (vs.foldr (fun i l => l.set i none) sl) fun om2 sl2 => ET c tt om2 sl2 fun b om3 =>
        (b = true → EV c te om3 sl2 fun e om4 => om4 = om ++ [some (.l acc)] ∧ ∃ y, e = .v y ∧ Iv (i + 1) (acc ++ [y])) ∧ (b = false → om3 = om ++ [some (.l acc)] ∧ Iv (i + 1) acc)) ∧
      (∀ i acc, Iv i acc → acc.length < 100000) ∧ ∀ acc, Iv xs.length acc → P (.v (.lst acc)) om) : EV c (tLc wi g tt te vs) om sl P := fun σ H O ps s Q k =>
  h σ H O ps s _ fun J H1 O1 ps1 G Y xs ⟨Iv, h0, hs, hb, hd⟩ g1 s1 w hG hY Dl hD => by
    obtain ⟨s2, g2, r2⟩ := s1.newOwn (vs := []) (ds := []) hD .nil
    have lp : ps1.length = om.length := s1.len
    have osl : ∀ (i k : Nat), sl[i]? = some (some (.o k)) → k < om.length := fun i k e => by
      obtain ⟨v, _, p, _, e2⟩ := s1.slots i _ e
      rw [← lp]
      exact (List.getElem?_eq_some_iff.mp e2).1
    have osl2 : ∀ (i n : Nat), sl[i]? = some (some (.rs n)) → ∀ j, j < n → 1 + j < om.length := fun i n e j hj => by
      obtain ⟨v, _, q, vs, _, _, _, _, e2⟩ := s1.slots i _ e
      obtain ⟨p, e3, _⟩ := e2 j hj
      rw [← lp]
      exact (List.getElem?_eq_some_iff.mp e3).1
    refine lc_it w (fun i H' => ∃ O' ps' acc, Go (Dl :: O1) (ps1 ++ [Dl]) (upd H1 Dl (.lst [])) O' ps' H' ∧ St c.F c.O0 c.H0 H' (om ++ [some (.l acc)]) σ sl O' ps' ∧ Iv i acc)
      ⟨Dl :: O1, ps1 ++ [Dl], [], Go.refl .., s2, h0⟩ (fun i H' _ ⟨O', ps', acc, g', s', _⟩ => hG H' O' ps' _ _ _ (g2.trans g') s') ?_ ?_
    · rintro i v H2 H3 hi ⟨O2, ps2, acc, g3, s3, p⟩ hy
      obtain ⟨d, e1, k2, r⟩ := hY i H2 O2 ps2 _ _ _ v H3 (g2.trans g3) s3 hi hy
      obtain ⟨s4, g4⟩ := s3.same k2
      refine hg v σ H3 _ (hs i d acc e1 p (wipe σ vs) H3 O2 ps2 (st_wipe s4 vs) v r _ fun σ5 sl5 s5 h5 => ?_)
      refine h5 σ5 H3 O2 ps2 s5 _ fun b H6 O6 ps6 om6 g6 s6 ⟨ht, hf⟩ => ?_
      -- the slots of σ stand as before
      have back : ∀ {H7 : Hp} {O7 ps7 : List Addr} {acc' : List D} {σ7 : L2.St} {sl7 : Sl}, Go O2 ps2 H2 O7 ps7 H7 → St c.F c.O0 c.H0 H7 (om ++ [some (.l acc')]) σ7 sl7 O7 ps7 → St c.F c.O0 c.H0 H7 (om ++ [some (.l acc')]) σ sl O7 ps7 := fun {H7 O7 ps7 acc' σ7 sl7} g7 s7 =>
        ⟨s7.en, s7.fo, s7.oo, s7.ff, s7.al, s7.len, s7.own, s7.inj, s7.pa, s7.dl, fun i e z => by
          obtain ⟨v, z1, z2⟩ := s3.slots i e z
          exact ⟨v, z1, z2.go g7⟩, s3.ln, s7.tb⟩
      cases b with
      | true =>
        refine (if_pos rfl).mpr (ht rfl σ5 H6 O6 ps6 s6 _ fun y H7 O7 ps7 e om7 g7 s7 r7 ⟨ho, z, he, hz⟩ => ?_)
        subst he ho
        obtain ⟨q, ws, e1, e2, e3, e4, e5⟩ := s7.ownL (k := om.length) (ds := acc) (by simp)
        have gg : Go O2 ps2 H2 O7 ps7 H7 := g4.trans (g6.trans g7)
        have eD : (ps1 ++ [Dl])[om.length]? = some Dl := by
          rw [← lp]
          simp
        have eq : q = Dl := Option.some.inj (e1.symm.trans (gg.pre _ _ (g3.pre _ _ eD)))
        subst eq
        have hw := hb _ _ p
        obtain ⟨s8, g8⟩ := s7.write (ds' := acc ++ [z]) (vs' := ws ++ [y]) (by simp : (om ++ [some (Own.l acc)])[om.length]? = some (some (Own.l acc))) e1 (e5.app (.cons (show Rl O7 H7 y z from r7) .nil))
        refine ⟨ws, e4, by rw [e5.len]; exact Nat.lt_of_lt_of_le hw (by decide), O7, ps7, acc ++ [z], g3.trans (gg.trans g8), ?_, hz⟩
        have es : (om ++ [some (Own.l acc)]).set om.length (some (Own.l (acc ++ [z]))) = om ++ [some (Own.l (acc ++ [z]))] := by simp [List.set_append]
        rw [es] at s8
        exact back (gg.trans g8) s8
      | false =>
        obtain ⟨ho, hz⟩ := hf rfl
        subst ho
        refine (if_neg Bool.false_ne_true).mpr ⟨O6, ps6, acc, g3.trans (g4.trans g6), back (g4.trans g6) s6, hz⟩
    · rintro H' ⟨O', ps', acc, g', s', p⟩
      have eD : ps'[om.length]? = some Dl := g'.pre _ _ (by
        rw [← lp]
        simp)
      obtain ⟨s9, x9, r9⟩ := s'.freeze osl osl2 eD
      have gf : Go O1 ps1 H1 (O'.filter fun a => decide (a ≠ Dl)) (ps'.take om.length) H' := ⟨(g2.trans g').ex.trans x9, fun k q e => by
        have hk : k < om.length := by
          rw [← lp]
          exact (List.getElem?_eq_some_iff.mp e).1
        rw [List.getElem?_take_of_lt hk]
        exact (g2.trans g').pre k q e⟩
      exact k _ H' _ _ (.v (.lst acc)) om (g1.trans gf) s9 r9 (hd acc p)
end
end DL
set_option Elab.async false
set_option linter.all false
set_option maxRecDepth 100000
set_option maxHeartbeats 4000000
namespace K01
open PySem PySem.Spec PyProof.Rows L2 DL HL CM STX NM DX TT RO SG SX MV
section
variable {P : Program} {w : World} {K : PySem.W.Frag} {mg : Str → Option Value} {base : Heap} {CY CV fV CS fS CN fN CB : Addr}
/-! ### _law_bent -/
theorem Sh.litS {m : Nat} {x : Str} (h : x.length ≤ 1000) : Sh m (.str x) := .str h
theorem Sh.appT {m n : Nat} {xs ys : List D} (hn : xs.length + ys.length ≤ n) (hx : ∀ x ∈ xs, Sh m x) (hy : ∀ x ∈ ys, Sh m x) (h : m ≤ n) : Sh n (.tup (xs ++ ys)) :=
  .tup (by rw [List.length_append]; exact hn) fun x hx' => (List.mem_append.mp hx').elim (fun q => (hx x q).mono h) fun q => (hy x q).mono h
theorem istup {m : Nat} {d : D} (h : Sh m d) (e : (!isT "tuple" d) = false) : ∃ xs, d = .tup xs ∧ xs.length ≤ m ∧ ∀ x ∈ xs, Sh m x := by
  cases h
  all_goals first | exact ⟨_, rfl, ‹_›, ‹_›⟩ | exact absurd e (by show ¬ (true = false); decide)
theorem et_monoX {c : Cn} {tt : TT} {om : Om} {sl : Sl} {PB' PB : Bool → Om → Prop} (h : ET c tt om sl PB') (i : ∀ b om', PB' b om' → PB b om') : ET c tt om sl PB := fun σ H O ps s Q k => h σ H O ps s Q fun b H' O' ps' om' g s' p => k b H' O' ps' om' g s' (i b om' p)
theorem istup' {m : Nat} {d : D} (h : Sh m d) (e : isT "tuple" d = true) : ∃ xs, d = .tup xs ∧ xs.length ≤ m ∧ ∀ x ∈ xs, Sh m x := istup h (by rw [e]; rfl)
theorem atI_neg {xs : List D} (h : xs ≠ []) : ∃ y ∈ xs, atI xs (-1) = some y := by
  rcases List.eq_nil_or_concat xs with rfl | ⟨r0, y, er⟩
  · exact absurd rfl h
  · rw [List.concat_eq_append] at er
    subst er
    exact ⟨y, by simp, atI_last _ _⟩
theorem cut_mem {xs : List D} {lo hi : Option Int} {x : D} (h : x ∈ DL.cutD xs lo hi) : x ∈ xs := List.mem_of_mem_drop (List.mem_of_mem_take h)
theorem cut_len {xs : List D} {lo hi : Option Int} : (DL.cutD xs lo hi).length ≤ xs.length := by
  unfold DL.cutD
  rw [List.length_take, List.length_drop]
  omega
abbrev sp_bentS : Sp := spGN 3 (fun p : Nat × List Int × D × List Str => [.lst (p.2.1.map .int), p.2.2.1, .lst (p.2.2.2.map .str)]) (fun p => (12 ≤ p.1 ∧ p.1 ≤ 600) ∧ HsOk p.2.1 ∧ Sh p.1 p.2.2.1 ∧ p.2.2.2.length = 13 ∧ ∀ y ∈ p.2.2.2, y.length ≤ 1000) fun p r => Sh (p.1 + 14) r
theorem c__law_bent {f : Addr} {fd : FuncData} (T : Ty K mg CY CV fV CS fS CN fN CB) (c__law_draw : Ca P w K mg base CX0 1 "_law_draw" ["heap", "many"] sp_draw) (c__law_pick : Ca P w K mg base CX0 2 "_law_pick" ["heap", "some"] sp_pick)
    (B : DefB K mg "_law_bent" s__law_bent ["heap", "heights", "value", "spare"] f fd) : Ca P w K mg base CX0 3 "_law_bent" ["heap", "heights", "value", "spare"] sp_bentS := by
  refine ca_of B sc__law_bent (fun vs H Q E h => lenGN h) (fun cdv A outer s H vs Q E hr h => ⟨_, (pss_cons (ps_if (PW.pt (pw_or (pt_not (pt_val (pe_callB call_isi (by rfl) T.z_isinstance (by decide +kernel) (pa_cons (pv 2) (pa_cons (pe_bltn rfl T.z_tuple (by decide +kernel) (v := .ty "tuple") rfl) pa_nil))))) (pw_or1 (pt_cmpR (op_eqE hr.units0) (pv 2) (pe_tup pa_nil) (by first | exact nomark _ | rfl)))))
     (pss_one (ps_ret (pv 2)))
     pss_nil)
    (pss_cons (ps_par (i := 5) (j := 6) (by rfl) sc__law_bent.nd rfl rfl (by decide) rfl rfl (pa_cons (pe_ca c__law_draw hr (by first | decide | (simp only [Nat.add_eq]; omega)) pass0 (pa_cons (pv 0) (pa_cons (pe_callB cr_len (by rfl) T.z_len (by decide +kernel) (pa_cons (pv 2) pa_nil)) pa_nil))) (pa_cons (pe_ca c__law_draw hr (by first | decide | (simp only [Nat.add_eq]; omega)) pass0 (pa_cons (pv 0) (pa_cons pe_int pa_nil))) pa_nil)) (by rfl))
    (pss_cons (ps_par (i := 7) (j := 8) (by rfl) sc__law_bent.nd rfl rfl (by decide) rfl rfl (pa_cons (pe_ix ix_seq (pv 2) (pv 5) (fun _ _ => rfl)) (pa_cons (pe_callTy cr_list (by rfl) T.z_list (by decide +kernel) (pa_cons (pv 2) pa_nil)) pa_nil)) (by rfl))
    (pss_cons (ps_if (pt_cmpR (op_eqU hr.units) (pv 6) pe_int (by first | exact nomark _ | rfl))
     (pss_one (ps_ret (pe_ca c__law_pick hr (by first | decide | (simp only [Nat.add_eq]; omega)) pass0 (pa_cons (pv 0) (pa_cons (pe_lst (pa_cons (pv 8) (pa_cons pe_non (pa_cons pe_str (pa_cons pe_int (pa_cons (pe_tup pa_nil) (pa_cons (pe_op op_repTU (pe_tup (pa_cons (pe_tup pa_nil) pa_nil)) (pe_callB cr_len (by rfl) T.z_len (by decide +kernel) (pa_cons (pv 2) pa_nil))) (pa_cons (pe_ix ix_seq (pv 8) pe_int (fun _ _ => rfl)) (pa_cons pe_bl pa_nil))))))))) pa_nil)))))
     pss_nil)
    (pss_cons (ps_if (pt_cmpR (op_eqU hr.units) (pv 6) pe_int (by first | exact nomark _ | rfl))
     (pss_one (ps_ret (pe_ifExp (pt_cmpR (op_eqU hr.units) (pe_ca c__law_draw hr (by first | decide | (simp only [Nat.add_eq]; omega)) pass0 (pa_cons (pv 0) (pa_cons pe_int pa_nil))) pe_int (by first | exact nomark _ | rfl)) (pe_callTy cr_tup (by rfl) T.z_tuple (by decide +kernel) (pa_cons (pe_op op_addU (pe_slice sl_U (pv 8) po_none (po_some (pv 5))) (pe_slice sl_U (pv 8) (po_some (pe_op op_addU (pv 5) pe_int)) po_none)) pa_nil)) (pe_callTy cr_tup (by rfl) T.z_tuple (by decide +kernel) (pa_cons (pe_op op_addU (pe_op op_addU (pe_slice sl_U (pv 8) po_none (po_some (pv 5))) (pe_lst (pa_cons (pe_tup pa_nil) pa_nil))) (pe_slice sl_U (pv 8) (po_some (pv 5)) po_none)) pa_nil)))))
     pss_nil)
    (pss_cons (ps_if (pt_not (pt_val (pe_callB call_isi (by rfl) T.z_isinstance (by decide +kernel) (pa_cons (pv 7) (pa_cons (pe_bltn rfl T.z_tuple (by decide +kernel) (v := .ty "tuple") rfl) pa_nil)))))
     (pss_one (ps_ret (pv 2)))
     pss_nil)
    (pss_cons (ps_set (i := 4) sc__law_bent.nd rfl (by first | exact Or.inl rfl | exact Or.inr rfl) (pe_ca c__law_draw hr (by first | decide | (simp only [Nat.add_eq]; omega)) pass0 (pa_cons (pv 0) (pa_cons (pe_op op_addU (pe_callB cr_len (by rfl) T.z_len (by decide +kernel) (pa_cons (pv 7) pa_nil)) pe_int) pa_nil))))
    (pss_cons (ps_if (pt_cmpR (op_eqU hr.units) (pv 6) pe_int (by first | exact nomark _ | rfl))
     (pss_one (ps_asg (pe_ca c__law_pick hr (by first | decide | (simp only [Nat.add_eq]; omega)) pass0 (pa_cons (pv 0) (pa_cons (pe_lst (pa_cons (pe_callTy cr_list (by rfl) T.z_list (by decide +kernel) (pa_cons (pv 7) pa_nil)) (pa_cons pe_non (pa_cons pe_str (pa_cons pe_int pa_nil))))) pa_nil))) (pg_sub (pv 8) (pv 5) set_list)))
     pss_nil)
    (pss_cons (ps_if (PW.pt (pw_or (pt_cmpR (op_eqU hr.units) (pv 6) pe_int (by first | exact nomark _ | rfl)) (pw_or1 (pt_cmpR (op_eqU hr.units) (pv 6) pe_int (by first | exact nomark _ | rfl)))))
     (pss_cons (ps_set (i := 9) sc__law_bent.nd rfl (by first | exact Or.inl rfl | exact Or.inr rfl) (pe_ca c__law_pick hr (by first | decide | (simp only [Nat.add_eq]; omega)) pass0 (pa_cons (pv 0) (pa_cons (pe_lst (pa_cons pe_non (pa_cons pe_str (pa_cons pe_str (pa_cons pe_str (pa_cons pe_int (pa_cons pe_bl (pa_cons pe_str (pa_cons (pe_tup (pa_cons pe_str pa_nil)) (pa_cons pe_str (pa_cons (pe_un un_neg pe_int) (pa_cons pe_str pa_nil)))))))))))) pa_nil))))
     (pss_one (ps_asg (pe_op op_addU (pe_op op_addU (pe_slice sl_U (pv 7) po_none (po_some (pv 4))) (pe_tup (pa_cons (pv 9) pa_nil))) (pe_slice sl_U (pv 7) (po_some (pe_op op_addU (pv 4) pe_int)) po_none)) (pg_sub (pv 8) (pv 5) set_list))))
     pss_nil)
    (pss_cons (ps_if (pt_cmpR (op_eqU hr.units) (pv 6) pe_int (by first | exact nomark _ | rfl))
     (pss_one (ps_asg (pe_op op_addU (pv 7) (pe_callTy cr_tup (by rfl) T.z_tuple (by decide +kernel) (pa_cons (pe_slice sl_U (pv 3) po_none (po_some (pe_op op_sub (pe_op op_addU (pe_ix ix_seq (pv 1) (pe_op op_mod (pe_callTy cr_int (by rfl) T.z_int (by decide +kernel) (pa_cons (pv 5) pa_nil)) (pe_callB cr_len (by rfl) T.z_len (by decide +kernel) (pa_cons (pv 1) pa_nil))) (fun _ _ => rfl)) (pe_ca c__law_draw hr (by first | decide | (simp only [Nat.add_eq]; omega)) pass0 (pa_cons (pv 0) (pa_cons pe_int pa_nil)))) (pe_callB cr_len (by rfl) T.z_len (by decide +kernel) (pa_cons (pv 7) pa_nil))))) pa_nil))) (pg_sub (pv 8) (pv 5) set_list)))
     pss_nil)
    (pss_cons (ps_if (pt_cmpR op_gt (pv 6) pe_int (by first | exact nomark _ | rfl))
     (pss_cons (ps_setLc (i := 10) (own := [("other", 12)]) rfl sc__law_bent.nd rfl rfl (sw_true rfl rfl rfl (by decide +kernel)) (pi_list (pv 8)) (blkOk_by (N := ["heap", "heights", "value", "spare", "place", "at", "form", "row", "rows", "odd", "others", "twin", "other"]) (sc := defScope s__law_bent) (by decide +kernel)) (fun _ _ _ _ _ => (pg_name (i := 12) sc__law_bent.nd rfl (by first | exact Or.inl rfl | exact Or.inr rfl))) (fun _ _ _ _ _ => (pts_one (PW.pt (pw_and (pt_val (pe_callB (EX.call_isik (K := K) rfl) (by rfl) T.z_isinstance (by decide +kernel) (pa_cons (pv 12) (pa_cons (pe_bltn rfl T.z_tuple (by decide +kernel) (v := .ty "tuple") rfl) pa_nil)))) (pw_and1 (pt_cmpR (EX.op_neEk (by have := hr.un; show (Around.deeper A _).units < cLine; omega)) (pv 12) (pe_tup pa_nil) (by first | exact nomark _ | rfl))))))) (fun _ _ _ _ _ => (pv 12)))
     (pss_cons (ps_set (i := 11) sc__law_bent.nd rfl (by first | exact Or.inl rfl | exact Or.inr rfl) (pe_ifExp (pt_cmpR (op_neE hr.units0) (pv 10) (pe_lst pa_nil) (by first | exact nomark _ | rfl)) (pe_ix ix_seq (pe_ca c__law_pick hr (by first | decide | (simp only [Nat.add_eq]; omega)) pass0 (pa_cons (pv 0) (pa_cons (pv 10) pa_nil))) (pe_un un_neg pe_int) (fun _ _ => rfl)) (pe_ix ix_seq (pv 3) pe_int (fun _ _ => rfl))))
     (pss_one (ps_asg (pe_op op_addU (pe_op op_addU (pe_slice sl_U (pv 7) po_none (po_some (pv 4))) (pe_tup (pa_cons (pv 11) pa_nil))) (pe_slice sl_U (pv 7) (po_some (pe_op op_addU (pv 4) (pe_ca c__law_draw hr (by first | decide | (simp only [Nat.add_eq]; omega)) pass0 (pa_cons (pv 0) (pa_cons pe_int pa_nil))))) po_none)) (pg_sub (pv 8) (pv 5) set_list)))))
     pss_nil)
    (pss_one (ps_ret (pe_callTy cr_tup (by rfl) T.z_tuple (by decide +kernel) (pa_cons (pv 8) pa_nil))))))))))))))), entryGN (K := K) (by decide) h fun F O p hl hp => ?_⟩)
  obtain ⟨m, hs, d, sp⟩ := p
  obtain ⟨⟨m12, m600⟩, ho, hd, hsl, hsy⟩ := hp
  dsimp only at m12 m600 ho hd hsl hsy ⊢
  have h3 := ho.1
  have h12 := ho.2.1
  walk_at "d0"
  refine sv_seq (sv_if ?_)
  walk_at "n"
  refine EX.ev_raw ?_
  walk_at "n"
  refine cv_isiA T.kY (hd.pl (CY := CY)) (.inr (.inr (.inr rfl))) ?_
  walk_at "n"
  refine ⟨fun e => ?_, fun e => ?_⟩
  case refine_2 =>
    walk_at "n"
    refine ⟨fun _ => ?_, fun z => nomatch z⟩
    walk_at "n"
    exact hd.mono (by omega)
  obtain ⟨xs, rfl, l1, l2⟩ := istup hd e
  walk_at "n"
  refine ov_eqE (.inr ⟨rfl, rfl⟩) ?_
  walk_at "n"
  refine ⟨fun g => ?_, fun g => ?_⟩
  · walk_at "n"
    exact hd.mono (by omega)
  have hne : 1 ≤ xs.length := by
    cases xs with
    | nil => cases g
    | cons _ _ => exact Nat.succ_pos _
  walk_at "n"
  refine sv_par ?_
  walk_at "n"
  refine cv_draw (by omega) (by omega) fun at' hat => ?_
  walk_at "n"
  refine cv_draw (by omega) (by omega) fun form hform => ?_
  walk_at "n"
  refine ⟨_, _, rfl, ⟨ltb rfl, ltb rfl⟩, ?_⟩
  walk_at "s"
  walk_at "n"
  have hatl : at' < xs.length := by omega
  have he : xs[at']? = some xs[at'] := List.getElem?_eq_getElem hatl
  have hrow := l2 xs[at'] (List.getElem_mem hatl)
  obtain ⟨row, erow⟩ : ∃ r, xs[at'] = r := ⟨_, rfl⟩
  rw [erow] at he hrow
  refine sv_par ?_
  walk_at "n"
  refine ov_ixT (atI_n he) ?_
  walk_at "n"
  refine cv_listTO ?_
  walk_at "n"
  refine ⟨_, _, rfl, ⟨ltb rfl, ltb rfl⟩, ?_⟩
  walk_at "s"
  walk_at "n"
  refine sv_if ?_
  walk_at "n"
  have mm : m ≤ m + 14 := by omega
  refine ⟨fun _ => ?_, fun _ => ?_⟩
  · refine sv_freeze 8 0 rfl rfl ?_
    walk_at "s"
    walk_at "n"
    refine ev_lst ?_
    walk_at "n"
    refine ov_repTU (by simp) (by simp; omega) ?_
    walk_at "n"
    have h0 : xs[0]? = some xs[0] := List.getElem?_eq_getElem (by omega)
    refine ov_ixL rfl (atI_n h0) ?_
    walk_at "n"
    refine cv_pick rfl (by simp) (by simp) fun r hr => ?_
    refine ⟨r, rfl, ?_⟩
    simp only [List.mem_cons, List.not_mem_nil, or_false] at hr
    rcases hr with rfl | rfl | rfl | rfl | rfl | rfl | rfl | rfl
    · exact Sh.mono mm (.lst l1 l2)
    · exact .non
    · exact .str (by decide)
    · exact .int _
    · exact .tup (by simp) (by simp)
    · refine .tup (by simp; omega) (fun x hx => ?_)
      have : x = .tup [] := by
        simp at hx
        exact hx.2
      rw [this]
      exact .tup (by simp) (by simp)
    · exact (l2 _ (List.getElem_mem (by omega))).mono mm
    · exact .bl _
  walk_at "n"
  refine sv_if ?_
  walk_at "n"
  refine ⟨fun _ => ?_, fun _ => ?_⟩
  · walk_at "n"
    refine ev_if ?_
    walk_at "n"
    refine cv_draw (by decide) (by decide) fun a ha => ?_
    walk_at "n"
    refine ⟨fun _ => ?_, fun _ => ?_⟩
    · walk_at "n"
      refine lv_l rfl ?_
      walk_at "n"
      refine lv_l rfl ?_
      refine ov_addL rfl rfl ?_ ?_
      · have a1 := cut_len (xs := xs) (lo := none) (hi := some (at' : Int))
        have a2 := cut_len (xs := xs) (lo := some ((at' : Int) + 1)) (hi := none)
        omega
      walk_at "n"
      refine cv_tupL rfl ?_
      refine ⟨_, rfl, ?_⟩
      rw [cut_to, show (at' : Int) + 1 = ((at' + 1 : Nat) : Int) by omega, cut_fr]
      exact Sh.appT (m := m) (by rw [List.length_take, List.length_drop]; omega) (fun x hx => l2 x (List.mem_of_mem_take hx)) (fun x hx => l2 x (List.mem_of_mem_drop hx)) mm
    · walk_at "n"
      refine lv_l rfl ?_
      walk_at "n"
      refine ev_lst ?_
      walk_at "n"
      refine ov_addL rfl rfl ?_ ?_
      · have a1 := cut_len (xs := xs) (lo := none) (hi := some (at' : Int))
        show _ + 1 ≤ _
        omega
      walk_at "n"
      refine lv_l rfl ?_
      refine ov_addL rfl rfl ?_ ?_
      · have a1 := cut_len (xs := xs) (lo := none) (hi := some (at' : Int))
        have a2 := cut_len (xs := xs) (lo := some (at' : Int)) (hi := none)
        rw [List.length_append]
        show _ + 1 + _ ≤ _
        omega
      walk_at "n"
      refine cv_tupL rfl ?_
      refine ⟨_, rfl, ?_⟩
      rw [cut_to, cut_fr]
      refine Sh.appT (m := m) (by rw [List.length_append, List.length_take, List.length_drop]; show _ + 1 + _ ≤ _; omega) (fun x hx => ?_) (fun x hx => l2 x (List.mem_of_mem_drop hx)) mm
      rcases List.mem_append.mp hx with q | q
      · exact l2 x (List.mem_of_mem_take q)
      · rw [List.mem_singleton.mp q]
        exact .tup (by simp) (by simp)
  walk_at "n"
  refine sv_if ?_
  walk_at "n"
  refine EX.ev_raw ?_
  walk_at "n"
  refine cv_isiA T.kY (hrow.pl (CY := CY)) (.inr (.inr (.inr rfl))) ?_
  walk_at "n"
  refine ⟨fun e => ?_, fun e2 => ?_⟩
  · walk_at "n"
    exact hd.mono (by omega)
  obtain ⟨cells, rfl, k1, k2⟩ := istup hrow e2
  walk_at "n"
  refine cv_draw (by omega) (by omega) fun place hpl => ?_
  walk_at "n"
  walk_at "s"
  have plc : place ≤ cells.length := by omega
  /- what stands after each change -/
  have cm : ∀ x ∈ cells, Sh (m + 14) x := fun x hx => (k2 x hx).mono mm
  have ixa : ∀ {rs : List D}, rs.length = xs.length → ixN rs.length (at' : Int) = some at' := fun {rs} h => by
    unfold ixN
    rw [if_pos (by omega), if_pos (by omega)]
    rfl
  have stt : ∀ {rs : List D} {y : D}, (∀ x ∈ rs, Sh (m + 14) x) → Sh (m + 14) y → ∀ x ∈ rs.set at' y, Sh (m + 14) x := fun {rs y} h hy x hx => by
    rcases List.mem_or_eq_of_mem_set hx with q | q
    · exact h x q
    · rw [q]
      exact hy
  have putT : ∀ {y : D} {lo : Nat}, place ≤ lo → Sh (m + 14) y → Sh (m + 14) (.tup (cells.take place ++ [y] ++ cells.drop lo)) := fun {y lo} hlo hy => by
    refine .tup (by simp only [List.length_append, List.length_take, List.length_drop, List.length_singleton]; omega) fun x hx => ?_
    simp only [List.mem_append, List.mem_singleton] at hx
    rcases hx with (q | q) | q
    · exact cm x (List.mem_of_mem_take q)
    · rw [q]
      exact hy
    · exact cm x (List.mem_of_mem_drop q)
  refine sv_cut (M := fun om' sl' => ∃ (rs : List D) (t9 t10 t11 t12 : Option DL.E), rs.length = xs.length ∧ (∀ x ∈ rs, Sh (m + 14) x) ∧ om' = [some (Own.l rs)] ∧ sl' = [some .l, some (.v (.lst (hs.map .int))), some (.v (.tup xs)), some (.v (.lst (sp.map .str))), some (.v (.int (place : Int))), some (.v (.int (at' : Int))), some (.v (.int (form : Int))), some (.v (.tup cells)), some (.o 0), t9, t10, t11, t12]) ?_ ?_
  · refine sv_if ?_
    walk_at "n"
    refine ⟨fun _ => ?_, fun _ => ?_⟩
    · walk_at "n"
      refine ev_lst ?_
      walk_at "n"
      refine cv_listTD ?_
      walk_at "n"
      refine cv_pick rfl (by simp) (by simp) fun r hr => ?_
      walk_at "n"
      refine ⟨_, _, _, rfl, rfl, ixa rfl, xs.set at' r, _, _, _, _, by rw [List.length_set], stt (fun x hx => (l2 x hx).mono mm) ?_, rfl, rfl⟩
      simp only [List.mem_cons, List.not_mem_nil, or_false] at hr
      rcases hr with rfl | rfl | rfl | rfl
      · exact .lst (by omega) cm
      · exact .non
      · exact .str (by decide)
      · exact .int _
    · walk_at "n"
      exact ⟨xs, _, _, _, _, rfl, fun x hx => (l2 x hx).mono mm, rfl, rfl⟩
  rintro om' sl' ⟨rs, t9, t10, t11, t12, rl, rsh, rfl, rfl⟩
  refine sv_seq (sv_cut (M := fun om' sl' => ∃ (rs : List D) (t9 t10 t11 t12 : Option DL.E), rs.length = xs.length ∧ (∀ x ∈ rs, Sh (m + 14) x) ∧ om' = [some (Own.l rs)] ∧ sl' = [some .l, some (.v (.lst (hs.map .int))), some (.v (.tup xs)), some (.v (.lst (sp.map .str))), some (.v (.int (place : Int))), some (.v (.int (at' : Int))), some (.v (.int (form : Int))), some (.v (.tup cells)), some (.o 0), t9, t10, t11, t12]) ?_ ?_)
  · refine sv_if (et_monoX (PB' := fun _ om' => om' = [some (Own.l rs)]) ?_ ?_)
    · walk_at "n"
      refine ⟨fun _ => ?_, fun _ => rfl⟩
      walk_at "n"
      rfl
    rintro b om' rfl
    refine ⟨fun _ => ?_, fun _ => ?_⟩
    · walk_at "n"
      refine ev_lst ?_
      walk_at "n"
      refine cv_pick rfl (by simp) (by simp) fun r hr => ?_
      walk_at "n"
      walk_at "s"
      walk_at "n"
      refine lv_t ?_
      walk_at "n"
      refine ov_addT (by have := cut_len (xs := cells) (lo := none) (hi := some (place : Int)); show _ + 1 ≤ _; omega) ?_
      walk_at "n"
      refine lv_t ?_
      rw [cut_to, show (place : Int) + 1 = ((place + 1 : Nat) : Int) by omega, cut_fr]
      refine ov_addT (by simp only [List.length_append, List.length_take, List.length_drop, List.length_singleton]; omega) ?_
      walk_at "n"
      refine ⟨_, _, _, rfl, rfl, ixa rl, _, _, _, _, _, by rw [List.length_set]; exact rl, stt rsh (putT (Nat.le_succ _) ?_), rfl, rfl⟩
      simp only [List.mem_cons, List.not_mem_nil, or_false] at hr
      rcases hr with rfl | rfl | rfl | rfl | rfl | rfl | rfl | rfl | rfl | rfl | rfl
      · exact .non
      · exact .str (by decide)
      · exact .str (by decide)
      · exact .str (by decide)
      · exact .int _
      · exact .bl _
      · exact .str (by decide)
      · exact .tup (by simp) (by simp; exact .str (by decide))
      · exact .str (by decide)
      · exact .int _
      · exact .str (by decide)
    · walk_at "n"
      exact ⟨rs, _, _, _, _, rl, rsh, rfl, rfl⟩
  clear rl rsh
  rintro om' sl' ⟨rs, t9, t10, t11, t12, rl, rsh, rfl, rfl⟩
  refine sv_seq (sv_cut (M := fun om' sl' => ∃ (rs : List D) (t9 t10 t11 t12 : Option DL.E), rs.length = xs.length ∧ (∀ x ∈ rs, Sh (m + 14) x) ∧ om' = [some (Own.l rs)] ∧ sl' = [some .l, some (.v (.lst (hs.map .int))), some (.v (.tup xs)), some (.v (.lst (sp.map .str))), some (.v (.int (place : Int))), some (.v (.int (at' : Int))), some (.v (.int (form : Int))), some (.v (.tup cells)), some (.o 0), t9, t10, t11, t12]) ?_ ?_)
  · refine sv_if ?_
    walk_at "n"
    refine ⟨fun _ => ?_, fun _ => ?_⟩
    · walk_at "n"
      refine cv_lenL rfl ?_
      walk_at "n"
      rw [List.length_map]
      refine ov_intC (show (0 : Int) < (hs.length : Int) by omega) ?_
      walk_at "n"
      have hml : at' % hs.length < hs.length := Nat.mod_lt _ (by omega)
      rw [show (at' : Int) % (hs.length : Int) = ((at' % hs.length : Nat) : Int) by first | exact (Int.natCast_emod _ _).symm | simp]
      refine ov_ixL rfl (atI_n (by rw [List.getElem?_map, List.getElem?_eq_getElem hml]; rfl)) ?_
      walk_at "n"
      refine cv_draw (by decide) (by decide) fun a ha => ?_
      walk_at "n"
      refine lv_l rfl ?_
      walk_at "n"
      refine cv_tupL rfl ?_
      have a1 := @cut_len (sp.map D.str) none (some (hs[at' % hs.length] + (a : Int) - (cells.length : Int)))
      rw [List.length_map] at a1
      refine ov_addT (by omega) ?_
      walk_at "n"
      refine ⟨_, _, _, rfl, rfl, ixa rl, _, _, _, _, _, by rw [List.length_set]; exact rl, stt rsh (Sh.appT (m := m) (by omega) k2 (fun x hx => ?_) mm), rfl, rfl⟩
      obtain ⟨y, hy, rfl⟩ := List.mem_map.mp (cut_mem hx)
      exact .str (hsy y hy)
    · walk_at "n"
      exact ⟨rs, _, _, _, _, rl, rsh, rfl, rfl⟩
  clear rl rsh
  rintro om' sl' ⟨rs, t9, t10, t11, t12, rl, rsh, rfl, rfl⟩
  refine sv_seq (sv_cut (M := fun om' sl' => ∃ (rs : List D) (t9 t10 t11 t12 : Option DL.E), rs.length = xs.length ∧ (∀ x ∈ rs, Sh (m + 14) x) ∧ om' = [some (Own.l rs)] ∧ sl' = [some .l, some (.v (.lst (hs.map .int))), some (.v (.tup xs)), some (.v (.lst (sp.map .str))), some (.v (.int (place : Int))), some (.v (.int (at' : Int))), some (.v (.int (form : Int))), some (.v (.tup cells)), some (.o 0), t9, t10, t11, t12]) ?_ ?_)
  · refine sv_if ?_
    walk_at "n"
    refine ⟨fun _ => ?_, fun _ => ?_⟩
    · refine sv_seq (sv_set (ev_lcS (sets_name 12) (wvs_own ?_)))
      walk_at "n"
      refine ⟨rfl, 0, rs, rfl, rfl, fun i acc => acc.length ≤ i ∧ i ≤ rs.length ∧ ∀ x ∈ acc, ∃ c, x = .tup c ∧ c ≠ [] ∧ ∀ y ∈ c, Sh (m + 14) y, ⟨Nat.zero_le _, Nat.zero_le _, by simp⟩, ?_, ?_, ?_⟩
      · rintro i d acc hd ⟨b1, b2, b3⟩
        have hi := (List.getElem?_eq_some_iff.mp hd).1
        have hx := rsh d (List.mem_of_getElem? hd)
        refine gv_name ⟨ltb rfl, ?_⟩
        walk_at "s"
        walk_at "n"
        refine EX.ev_raw ?_
        walk_at "n"
        refine cv_isiA T.kY (hx.pl (CY := CY)) (.inr (.inr (.inr rfl))) ?_
        walk_at "n"
        refine ⟨fun e => ?_, fun e => ?_⟩
        · obtain ⟨c, rfl, c1, c2⟩ := istup' hx e
          walk_at "n"
          refine ov_neE (.inr ⟨rfl, rfl⟩) ?_
          walk_at "n"
          refine ⟨fun g => ?_, fun g => ?_⟩
          · walk_at "n"
            refine ⟨rfl, _, rfl, by rw [List.length_append]; show _ + 1 ≤ _; omega, by omega, fun x hx' => ?_⟩
            rcases List.mem_append.mp hx' with q | q
            · exact b3 x q
            · exact ⟨c, List.mem_singleton.mp q, (by rintro rfl; cases g), c2⟩
          · exact ⟨rfl, by omega, by omega, b3⟩
        · refine ⟨(fun z => nomatch z), fun _ => ⟨rfl, by omega, by omega, b3⟩⟩
      · rintro i acc ⟨b1, b2, b3⟩
        omega
      · rintro acc ⟨b1, b2, b3⟩
        refine ⟨ltb rfl, ?_⟩
        walk_at "s"
        refine sv_seq (sv_set (ev_mono (P := fun e om1 => ∃ y, e = .v y ∧ Sh (m + 14) y ∧ om1 = [some (Own.l rs)]) ?_ ?_))
        · refine ev_if ?_
          walk_at "n"
          refine ev_lst ?_
          walk_at "n"
          refine ov_neE (.inl ⟨rfl, rfl⟩) ?_
          walk_at "n"
          refine ⟨fun g => ?_, fun g => ?_⟩
          · walk_at "n"
            refine cv_pick rfl (by cases acc with
              | nil => cases g
              | cons _ _ => exact Nat.succ_pos _) (by omega) fun r hr => ?_
            obtain ⟨c, rfl, c1, c2⟩ := b3 r hr
            obtain ⟨y, hy, ay⟩ := atI_neg c1
            walk_at "n"
            exact ov_ixT ay ⟨y, rfl, c2 y hy, rfl⟩
          · walk_at "n"
            refine ov_ixL rfl (atI_n (j := 0) (by rw [List.getElem?_map, List.getElem?_eq_getElem (by omega)]; rfl)) ?_
            exact ⟨_, rfl, .str (hsy _ (List.getElem_mem _)), rfl⟩
        · rintro e om1 ⟨y, rfl, hy, rfl⟩
          refine ⟨ltb rfl, ?_⟩
          walk_at "s"
          walk_at "n"
          refine lv_t ?_
          walk_at "n"
          refine ov_addT (by have := cut_len (xs := cells) (lo := none) (hi := some (place : Int)); show _ + 1 ≤ _; omega) ?_
          walk_at "n"
          refine cv_draw (by decide) (by decide) fun a ha => ?_
          walk_at "n"
          refine lv_t ?_
          rw [cut_to, show (place : Int) + (a : Int) = ((place + a : Nat) : Int) by omega, cut_fr]
          refine ov_addT (by simp only [List.length_append, List.length_take, List.length_drop, List.length_singleton]; omega) ?_
          walk_at "n"
          exact ⟨_, _, _, rfl, rfl, ixa rl, _, _, _, _, _, by rw [List.length_set]; exact rl, stt rsh (putT (Nat.le_add_right _ _) hy), rfl, rfl⟩
    · walk_at "n"
      exact ⟨rs, _, _, _, _, rl, rsh, rfl, rfl⟩
  clear rl rsh
  rintro om' sl' ⟨rs, t9, t10, t11, t12, rl, rsh, rfl, rfl⟩
  walk_at "n"
  refine cv_tupL rfl ?_
  exact ⟨_, rfl, .tup (by omega) rsh⟩
end
end K01
set_option Elab.async false
set_option linter.all false
set_option maxRecDepth 100000
set_option maxHeartbeats 4000000
/-! a lambda is made: what changes is its maker's table alone -/
namespace LM
open PySem PySem.Spec PyProof.Rows L2 LamX
/-- what the making of a lambda leaves: all as it was, or one more entry in the table at P, of a new code object -/
def LStep (P : Addr) (q : Str) (H H1 : Hp) : Prop := H1 = H ∨ ∃ (ps : Array Value) (e : Addr), H e = none ∧ H1 = upd (upd H P (.tbl ps)) e (CodeO e q)
section
variable {X : Cx} {pins : List (Addr × Obj)} {σ : L2.St} {H : Hp} {s : Shared}
theorem more_tab {H : Hp} {P e : Addr} {q : Str} {ps : Array Value} {pos : Pos} (hP : H P = some (.tbl ps)) (hk : TriplesOk ps.toList) (hq : ∀ (p : Pos) (v : Value), codeAmong p ps.toList = some v → ∃ c, v = .ref c ∧ H c = some (CodeO c q)) (he : H e = none) :
    TabS (upd (upd H P (.tbl (ps ++ #[rawInt pos.line, rawInt pos.col, .ref e]))) e (CodeO e q)) P q := by
  have nP : P ≠ e := fun z => by rw [z, he] at hP; cases hP
  have eq : (ps ++ #[rawInt pos.line, rawInt pos.col, .ref e]).toList = ps.toList ++ [rawInt pos.line, rawInt pos.col, .ref e] := by simp
  refine ⟨_, (upd_ne nP).trans upd_same, (by rw [eq]; exact TriplesOk_snoc _ _ _ _ hk), fun p v hv => ?_⟩
  rw [eq] at hv
  rcases among_app _ hk hv with y | y
  · obtain ⟨d, y1, y2⟩ := hq p v y
    refine ⟨d, y1, ?_⟩
    have d1 : d ≠ e := fun z => by rw [z, he] at y2; cases y2
    have d2 : d ≠ P := fun z => by
      rw [z, hP] at y2
      unfold CodeO at y2
      cases y2
    exact (upd_ne d1).trans ((upd_ne d2).trans y2)
  · exact ⟨e, y, upd_same⟩
theorem lam_mk {c P : Addr} {ar : Arguments} {body : Expr} {sc : Scope} {pos : Pos} {E Q : Value → Shared → Prop} (I : Inv X pins σ H s) (B : TabB X.base X.mg c P) (hc : X.env.code = .ref c) (hT : TabS H P (X.env.qual ++ "<lambda>"))
    (hd : defaultsOf ar X.env = ([], [])) (hf : ∀ y ∈ sc.names, y.2 = .free → ∃ a, X.env.cells.lookup y.1 = some a)
    (go : ∀ (f e : Addr) (pm ct : Value) (G : Hp) (t : Shared), Inv X pins σ G t → LStep P (X.env.qual ++ "<lambda>") H G → TabS G P (X.env.qual ++ "<lambda>") →
      t.heap.get? f = some (PySem.W.kla_obj "<lambda>" (X.env.qual ++ "<lambda>") ar body sc (cloFrom X.env.cells sc.names []) pm e ct) → G f = none → f ∉ frs X.stack → G e = some (CodeO e (X.env.qual ++ "<lambda>")) → Q (.ref f) t) :
    wpAny (model X.prog X.w) X.A (eval (.Lambda ar body sc pos) X.env) Q E s := by
  obtain ⟨ps, hP, hk, hq⟩ := hT
  have realP : s.heap.get? P = some { cls := .none, data := .fields ps } := I.hok P _ hP
  have bnd : s.heap.BuiltinsAt X.mg P := B.bm.keeps I.bk
  have away : ∀ f, s.heap.objs.size ≤ f → f ∉ frs X.stack := fun f hf z => by
    rcases List.mem_cons.mp (I.stkSub _ z) with y | y
    · exact Nat.lt_irrefl _ (Nat.lt_of_le_of_lt hf (y ▸ I.lt))
    · exact I.nofs hf y
  refine PySem.W.kla_eval hd ?_
  cases hx : codeAmong pos ps.toList with
  | some v =>
    obtain ⟨e, rfl, he⟩ := hq pos v hx
    refine PySem.W.kla_makeFunctionHit (closure_ok hf) I.ok.glob (I.mod.glob.keeps I.bk) hc (B.code.keeps I.bk) realP hk hx bnd fun ct h1 tk keep hsz => ?_
    have J : Inv X pins σ H { s with heap := h1.push (PySem.W.kla_obj "<lambda>" (X.env.qual ++ "<lambda>") ar body sc (cloFrom X.env.cells sc.names []) ((X.mg "__name__").getD .none) e ct), toks := tk } := I.kept fun b o y => Heap.get?_push_of_some _ (keep b o y)
    exact go h1.objs.size e _ ct H _ J (.inl rfl) ⟨ps, hP, hk, hq⟩ (Heap.get?_push_size _ rfl) (I.hok.fresh hsz) (away _ hsz) he
  | none =>
    refine PySem.W.kla_makeFunction (closure_ok hf) I.ok.glob (I.mod.glob.keeps I.bk) hc (B.code.keeps I.bk) realP hk hx B.gP bnd fun e ct h1 tk keep ge lt rec tb => ?_
    obtain ⟨e', oc, vs, u, q1, q2, q3, q4⟩ := rec
    cases q1
    have hsz : s.heap.objs.size ≤ h1.objs.size := by omega
    have he : H e = none := I.hok.fresh ge
    have J := inv_table (t' := tk) (more := #[rawInt pos.line, rawInt pos.col, .ref e]) (h' := h1.push (PySem.W.kla_obj "<lambda>" (X.env.qual ++ "<lambda>") ar body sc (cloFrom X.env.cells sc.names []) ((X.mg "__name__").getD .none) e ct)) I hP
      (fun b o hb y => Heap.get?_push_of_some _ (keep b o hb y)) (Heap.get?_push_of_some _ tb) ge ⟨oc, vs, u, Heap.get?_push_of_some _ q2, q3, q4⟩
    have n1 : h1.objs.size ≠ e := by omega
    have n2 : h1.objs.size ≠ P := fun z => Nat.lt_irrefl _ (Nat.lt_of_lt_of_le (Heap.lt_size realP) (z ▸ hsz))
    refine go h1.objs.size e _ ct _ _ J (.inr ⟨_, e, he, rfl⟩) (more_tab hP hk hq he) (Heap.get?_push_size _ rfl) ?_ (away _ hsz) upd_same
    rw [upd_ne n1, upd_ne n2]
    exact I.hok.fresh hsz
end
/-- x(lambda: body): P the maker's table, q the lambda's name -/
def tLamP (P : Addr) (q : Str) (TT : (XK → Hp → VK → Prop) → Hp → VK → Prop) (t : XK → TE) : TE := fun σ H Q => TabS H P q ∧ ∀ H1, LStep P q H H1 → TabS H1 P q → TT (fun E H' Q' => t E σ H' Q') H1 Q
section
variable {X : Cx}
theorem pe_lam {TT : (XK → Hp → VK → Prop) → Hp → VK → Prop} {x a q : Str} {g c P : Addr} {fd : FuncData} {k j : Nat} {st : Stmt} {Ng : List Str} {ar : Arguments} {body : Expr} {sc : Scope} {t : XK → TE} {p lp pos : Pos}
    (B : HL.DefB X.K X.mg x st [a] g fd) (S : FnScope Ng [a] (defScope st)) (n0 : Ng[0]? = some a) (va : Vis (defScope st) a)
    (gv : ∀ cdv : Value, GivesTo X Ng x (defScope st) g cdv (defBody st) a (X.env.qual ++ "<lambda>") TT)
    (TB : TabB X.base X.mg c P) (hc : X.env.code = .ref c) (hr : Room j X.A) (hk : k + 2 ≤ j) (L : LamS X.env.scope sc) (hd : defaultsOf ar X.env = ([], []))
    (hb : ∀ (q : Str) (cl : List (Str × Addr)) (pm cv ct : Value), bindArgs (PySem.W.kla_fn "<lambda>" q ar body sc cl pm cv ct) ⟨[], []⟩ = pure [])
    (he : ∀ (A : Around) (outer : List Env) (s : Shared) (H : Hp) (E : XK) (f e : Addr), Room k (A.deeper (lamEnv X sc s.heap.objs.size f e)) → PE (lamCx X A outer s H E sc f e) body (t E))
    (hq : X.env.qual ++ "<lambda>" = q) (hg : Gl X x := by rfl)
    (d1 : (x == ("__debug__" : Str)) = false := by decide) (d2 : (a == ("__debug__" : Str)) = false := by decide) (d3 : (a == ("__classdict__" : Str)) = false := by decide) :
    PE X (.Call (.Name x p) [.Lambda ar body sc lp] [] pos) (tLamP P q TT t) := by
  subst hq
  obtain ⟨oc, od, kV, doc, pm, an, cdv, ct, osl, rfl, lk, hcd⟩ := B.fn.ex
  refine ⟨fun pins s σ H Q I ⟨hT, h⟩ => ?_⟩
  refine wpAny_Call_Name_kw (ld_glob I hg B.gl (PySem.W.callWith_K I.ok.mod.kin B.fn.kp ?_ (by rfl) (by rfl)) d1)
  show wpAny _ _ (spliced ((false, eval (.Lambda ar body sc lp) X.env) :: backTo pos (starEach [] X.env))) _ _ s
  refine Calls.spliced_cons (lam_mk I TB hc hT hd (L.has I.ok) fun f e pm' ct' G s' J st1 T1 of nf fr co => Calls.spliced_nil ⟨J.kIn, ?_⟩)
  have run : codeAny (model X.prog X.w) X.A (.call (.ref g) ⟨[.ref f], []⟩) (CR C8.CX0 X.stack X.prog X.w G s' Q C8.E0) s' :=
    run_ofS (N := Ng) (ps := [a]) (us := [.ref f]) (vs := [.ref f]) lk hcd S (hr.mono hk) J.env0 (B.b s' [.ref f] J.kIn rfl) (.cons rfl .nil) rfl fun hr' => by
      obtain ⟨u, u1, u2⟩ := gv cdv f e s' G Q (fun E H' Q' => t E σ H' Q') (fun W pn xe E p1 p2 tk hW => pe_act (i := 0) J L of nf fr (hb _ _ _ _ _) tk hW hr' (fun A outer s H hr2 => he A outer s H E f e hr2) n0 va d2 d3) co (h G st1 T1)
      exact ⟨u, u1.nox, u2⟩
  refine wpAny_call (codeAny_mono run fun r s2 hq => ?_)
  rcases r with y | fl
  · exact (show False from hq).elim
  · cases fl <;> first | exact J.after hq | exact False.elim hq
end
end LM
set_option Elab.async false
set_option linter.all false
set_option maxRecDepth 100000
set_option maxHeartbeats 4000000
/-! lambdas and tables in a def's state -/
namespace DL
open PySem PySem.Spec PyProof.Rows L2 LM
/-- each table has one name -/
def FnT (T : List (Addr × Str)) : Prop := ∀ p ∈ T, ∀ q ∈ T, p.1 = q.1 → p.2 = q.2
theorem fnT_one {p : Addr × Str} : FnT [p] := fun a ha b hb _ => by
  rw [List.mem_singleton.mp ha, List.mem_singleton.mp hb]
section
variable {F : FT} {O0 : List Addr} {H0 H : Hp} {om : Om} {σ : L2.St} {sl : Sl} {O ps : List Addr}
theorem St.tF (s : St F O0 H0 H om σ sl O ps) : ∀ p ∈ F.t, p.1 ∈ F := fun p hp => by
  have m := List.mem_map_of_mem (f := fun p : Addr × Str => p.1) hp
  rcases s.dl with z | ⟨h, a, st, ns, z, _⟩
  · exact show p.1 ∈ F.a by rw [z]; exact m
  · exact show p.1 ∈ F.a by rw [z]; exact List.mem_cons_of_mem _ (List.mem_cons_of_mem _ m)
theorem St.tabs (s : St F O0 H0 H om σ sl O ps) : LamX.Tabs F.t H := by
  rcases s.tb with z | z
  · intro p hp
    rw [z] at hp
    cases hp
  · exact z.1
theorem st_lam (s : St F O0 H0 H om σ sl O ps) {P : Addr} {q : Str} (hP : (P, q) ∈ F.t) (fT : FnT F.t) {H1 : Hp} (l : LStep P q H H1) (t1 : LamX.TabS H1 P q) : St F O0 H0 H1 om σ sl O ps ∧ Go O ps H O ps H1 := by
  have t0 := s.tabs _ hP
  have pF : P ∈ F := s.tF _ hP
  have pO : P ∈ O := s.oo _ (s.ff _ pF).1
  have kp : ∀ b o, b ≠ P → H b = some o → H1 b = some o := fun b o hb e => by
    rcases l with l | ⟨vs, c, hc, l⟩
    · rw [l]; exact e
    · rw [l, upd_ne (fun z => by rw [z, hc] at e; cases e), upd_ne hb]
      exact e
  have x : Ext O H O H1 := ⟨fun b o hb e => kp b o (fun z => hb (z ▸ pO)) e, fun _ h => .inl h⟩
  have g : Go O ps H O ps H1 := ⟨x, fun _ _ e => e⟩
  have n1 : H1 P ≠ none := by
    obtain ⟨vs, e, _⟩ := t1
    rw [e]
    exact fun z => nomatch z
  have ne : ∀ b, H b ≠ none → H1 b ≠ none := fun b hb => by
    by_cases c : b = P
    · rw [c]; exact n1
    · cases e : H b with
      | none => exact absurd e hb
      | some o => rw [kp b o c e]; exact fun z => nomatch z
  obtain ⟨vs0, e0, _⟩ := id t0
  refine ⟨⟨fun b o hb e => kp b o (fun z => hb (z ▸ pF)) (s.en b o hb e), s.fo, s.oo, s.ff, fun a ha => ne a (s.al a ha), s.len, fun k w e => ?_, s.inj, fun k p e => ne p (s.pa k p e), ?_, fun i e h => ?_, s.ln, ?_⟩, g⟩
  · obtain ⟨p, h1, h2, h3, h4⟩ := s.own k w e
    exact ⟨p, h1, h2, h3, h4.ext x fun o => kp p o fun z => h2.2 (z ▸ (s.ff _ pF).1)⟩
  · rcases s.dl with z | ⟨h, a, st, ns, z1, z2, z3, z4, z5⟩
    · exact .inl z
    · refine .inr ⟨h, a, st, ns, z1, z2, kp _ _ (fun z => ?_) z3, kp _ _ (fun z => ?_) z4, z5⟩
      · rw [z, e0] at z3; cases z3
      · rw [z, e0] at z4; cases z4
  · obtain ⟨v, h1, h2⟩ := s.slots i e h
    exact ⟨v, h1, h2.go g⟩
  · rcases s.tb with z | ⟨a1, a2⟩
    · rw [z] at hP
      cases hP
    refine .inr ⟨fun p hp => ?_, fun b hb => ?_⟩
    · by_cases c : p.1 = P
      · have := fT p hp (P, q) hP c
        rw [c, this]
        exact t1
      · obtain ⟨vs, y1, y2, y3⟩ := a1 p hp
        refine ⟨vs, kp _ _ c y1, y2, fun pos cv hcv => ?_⟩
        obtain ⟨d, q1, q2⟩ := y3 pos cv hcv
        refine ⟨d, q1, kp d _ (fun z => ?_) q2⟩
        rw [z, e0] at q2
        unfold LamX.CodeO at q2
        cases q2
    · by_cases c : b = P
      · exact .inr (List.mem_map.mpr ⟨_, hP, c.symm⟩)
      · cases e : H b with
        | none => exact absurd e (s.al b hb)
        | some o =>
          rw [kp b o c e, ← e]
          exact a2 b hb
end
/-! ### _law_word(lambda: f(..)) -/
section
variable {α : Type} {ar : Nat} {ds : α → List D} {pre : α → Prop} {R : α → D → Prop} {X : α → Addr → Str → D → Prop} {c : Cn} {om : Om} {sl : Sl} {P : E → Om → Prop}
theorem ev_lamW {Pt C : Addr} {q fld : Str} {tr : TA} (hT : (Pt, q) ∈ c.F.t) (fT : FnT c.F.t) (h : EA c tr om sl fun es om1 => om1 = om ∧ ∃ a, unv es = some (ds a) ∧ (ds a).length = ar ∧ pre a ∧ (∀ C' f x, X a C' f x → C' = C ∧ f = fld ∧ P (.v x) om) ∧ ∀ r, R a r → P (.v .non) om) :
    EV c (tLamP Pt q (TTW C fld) (fun E => tCall (spG ar ds pre R X) [] E tr)) om sl P := fun σ H O ps s Q k => by
  refine ⟨s.tabs _ hT, fun H1 l t1 => ?_⟩
  obtain ⟨s1, g1⟩ := st_lam s hT fT l t1
  show tCall _ [] _ tr σ H1 _
  refine h σ H1 O ps s1 _ fun vs H2 O2 ps2 es om2 g2 s2 r2 ⟨ho, a, he, hl, hp, hx, hr⟩ => ?_
  subst ho
  have he' := unv_eq he
  subst he'
  have ra := ra_data r2
  rw [List.append_nil]
  refine ⟨a, hp, O2, ds a, by rw [ra.len]; exact hl, s2.al, ra, rfl, fun v H3 r' hs hv hR => ?_, fun C' f x d v H3 hs hX rv hd => ?_⟩
  · obtain ⟨s3, g3⟩ := s2.same hs
    exact k _ H3 O2 ps2 (.v .non) _ (g1.trans (g2.trans g3)) s3 Rl.non (hr r' hR)
  · obtain ⟨rfl, rfl, hP⟩ := hx C' f x hX
    refine ⟨rfl, d, v, rfl, upd_same, fun H4 hs4 => ?_⟩
    obtain ⟨s3, g3⟩ := s2.same hs
    obtain ⟨s4, g4⟩ := s3.new (o := .xd [(f, v)]) hd
    obtain ⟨s5, g5⟩ := s4.same hs4
    exact k v H4 O2 ps2 (.v x) _ (g1.trans (g2.trans (g3.trans (g4.trans g5)))) s5 ((show Rl O2 H3 v x from rv).ext (g4.trans g5).ex) hP
end
/-! ### promises of defs that make lambdas: they draw -/
def spGNT {α : Type} (T : List (Addr × Str)) (ar : Nat) (ds : α → List D) (pre : α → Prop) (R : α → D → Prop) : Sp := fun vs H Q _ => ∃ a h p ws O, pre a ∧ vs = .ref h :: ws ∧ ws.length = ar ∧ Al O H ∧ h ∈ O ∧ p ∈ O ∧ DealL h p H ∧ RlA O H ws (ds a) ∧ (∀ t ∈ T, t.1 ∈ O) ∧ TbOk T O H ∧
  ∀ v H' r, (∀ b o, b ∉ h :: p :: T.map (·.1) → H b = some o → H' b = some o) → DealL h p H' → TbOk T O H' → Rl O H' v r → R a r → Q v H'
section
variable {α : Type} {T : List (Addr × Str)} {ar : Nat} {ds : α → List D} {pre : α → Prop} {R : α → D → Prop} {vs : List V} {H : Hp} {Q : VK} {Ex Ew : XK} {K : PySem.W.Frag} {N : List Str} {t : TS} {c : Cn} {om : Om} {sl : Sl} {P : E → Om → Prop} {xs : List E}
theorem lenGNT (h : spGNT T ar ds pre R vs H Q Ex) : vs.length = ar + 1 := by
  obtain ⟨_, _, _, ws, _, _, rfl, hl, _⟩ := h
  rw [List.length_cons, hl]
theorem tbl_ne {O : List Addr} (t : TbOk T O H) : ∀ q ∈ T, ∃ ps, H q.1 = some (.tbl ps) := fun q hq => by
  rcases t with z | z
  · rw [z] at hq; cases hq
  · obtain ⟨ps, e, _⟩ := z.1 q hq
    exact ⟨ps, e⟩
theorem entryGNT (hN : ar + 1 ≤ N.length) (h : spGNT T ar ds pre R vs H Q Ex)
    (b : ∀ (F : FT) (O : List Addr) (a : α), F.t = T → (ds a).length = ar → pre a → SV ⟨F, O, H, K⟩ Ex t [] (some .l :: sl0 (ds a) (N.length - (ar + 1))) { n := fun _ _ => R a .non, r := fun e om => ∃ d, dat om e = some d ∧ R a d }) :
    t { nx := fun _ H' => Q .non H', rt := Q } (L2.start N vs) H := by
  obtain ⟨a, h, p, ws, O, hp, rfl, hl, al, mh, mp, hD, ra, hT, tb, hQ⟩ := h
  have hl2 : (ds a).length = ar := by rw [← ra.len]; exact hl
  cases N with
  | nil => simp at hN
  | cons nm N =>
    obtain ⟨h1, h2⟩ := start_slots (N := N) ra (by rw [hl]; simpa using hN)
    rw [hl2] at h1 h2
    have est : L2.start (nm :: N) (V.ref h :: ws) = some (V.ref h) :: L2.start N ws := by simp [L2.start]
    have esz : (nm :: N).length - (ar + 1) = N.length - ar := by simp
    rw [est]
    have inO : ∀ b ∈ h :: p :: T.map (·.1), b ∈ O := fun b hb => by
      rcases List.mem_cons.mp hb with y | y
      · rw [y]; exact mh
      · rcases List.mem_cons.mp y with y | y
        · rw [y]; exact mp
        · obtain ⟨q, hq, e⟩ := List.mem_map.mp y
          rw [← e]
          exact hT q hq
    have s0 : St ⟨h :: p :: T.map (·.1), T⟩ O H H [] (some (V.ref h) :: L2.start N ws) (some .l :: sl0 (ds a) (N.length - ar)) O [] := ⟨fun _ _ _ h => h, fun _ h => .inl h, fun _ h => h, fun b hb => ⟨inO b hb, al b (inO b hb)⟩, al, rfl, (fun k ds h => by simp at h), (fun j k p h => by simp at h), (fun k p h => by simp at h),
        .inr ⟨h, p, let ⟨st, ns, q⟩ := hD; ⟨st, ns, rfl, q⟩⟩, (fun i e he => by
        cases i with
        | zero =>
          have e' := Option.some.inj (Option.some.inj he)
          rw [← e']
          exact ⟨.ref h, rfl, h, p, rfl, rfl⟩
        | succ j =>
          obtain ⟨v, z1, z2⟩ := h2 j e (by simpa using he)
          refine ⟨v, by simpa using z1, ?_⟩
          cases e with
          | v d => exact z2
          | o k => exact z2
          | l =>
            obtain ⟨_, _, z, _⟩ := z2
            cases z
          | rs n => exact z2), by simp [h1], tb⟩
    have dl1 : ∀ {H' : Hp}, DealOk ⟨h :: p :: T.map (·.1), T⟩ H' → DealL h p H' := fun {H'} z => by
      rcases z with z | ⟨h', a', st, ns, z1, z2⟩
      · have := congrArg List.length z
        simp at this
        omega
      · injection z1 with z3 z4
        injection z4 with z4 _
        rw [z3, z4]
        exact ⟨st, ns, z2⟩
    have q := b ⟨h :: p :: T.map (·.1), T⟩ O a rfl hl2 hp
    rw [esz] at q
    refine q _ H O [] _ s0 (fun σ' H' O' ps' om' sl' g s' p => hQ _ H' .non s'.en (dl1 s'.dl) (s'.tb.sub s'.oo) Rl.non p) (fun v σ' sl' H' O' ps' e om' g s' r ⟨d, hd, p⟩ => hQ v H' d s'.en (dl1 s'.dl) (s'.tb.sub s'.oo) (al_sub s' r hd) p) (fun _ _ _ _ _ _ _ _ z => z.elim) (fun _ _ _ _ _ _ _ _ z => z.elim) ?_
    rintro C f x d v H1 H2 O' ps' g ⟨_, p⟩
    exact p.elim
theorem cv_GNT (a : α) {ys : List E} (hF : c.F.t = T) (hy : xs = .l :: ys) (he : unv ys = some (ds a)) (hl : (ds a).length = ar) (hp : pre a) (h : ∀ r, R a r → P (.v r) om) : CV c (fun vs H Q => spGNT T ar ds pre R vs H Q Ew) om sl xs P := fun σ H O ps s vs r Q k => by
  have he' := unv_eq he
  subst he' hy
  cases r with
  | cons r1 r2 =>
    obtain ⟨hh, p, eF, rfl⟩ := r1
    have ra := ra_data r2
    rw [hF] at eF
    have inF : ∀ b ∈ hh :: p :: T.map (·.1), b ∈ c.F := fun b hb => show b ∈ c.F.a by rw [eF]; exact hb
    have inO : ∀ b ∈ hh :: p :: T.map (·.1), b ∈ O := fun b hb => s.oo _ (s.ff _ (inF b hb)).1
    have hD : DealL hh p H := by
      rcases s.dl with z | ⟨h', a', st, ns, z1, z2⟩
      · have := congrArg List.length z
        rw [eF, hF] at this
        simp at this
        omega
      · rw [eF] at z1
        injection z1 with z3 z4
        injection z4 with z4 _
        rw [z3, z4]
        exact ⟨st, ns, z2⟩
    have tb0 : TbOk T O H := hF ▸ s.tb
    refine ⟨a, hh, p, _, O, hp, rfl, by rw [ra.len]; exact hl, s.al, inO _ List.mem_cons_self, inO _ (List.mem_cons_of_mem _ List.mem_cons_self), hD, ra, fun t ht => inO _ (List.mem_cons_of_mem _ (List.mem_cons_of_mem _ (List.mem_map_of_mem ht))), tb0, fun v H' r' hs hd tb1 hv hR => ?_⟩
    have al' : ∀ b ∈ O, H' b ≠ none := fun b hb => by
      by_cases q : b ∈ hh :: p :: T.map (·.1)
      · obtain ⟨st, ns, _, z3, z4, _⟩ := hd
        rcases List.mem_cons.mp q with y | y
        · rw [y, z3]
          exact fun z => nomatch z
        · rcases List.mem_cons.mp y with y | y
          · rw [y, z4]
            exact fun z => nomatch z
          · obtain ⟨t, ht, e⟩ := List.mem_map.mp y
            obtain ⟨vs, z⟩ := tbl_ne tb1 t ht
            rw [← e, z]
            exact fun z => nomatch z
      · intro z
        cases e : H b with
        | none => exact s.al b hb e
        | some l =>
          rw [hs b _ q e] at z
          cases z
    have x : Ext O H O H' := ⟨fun b o hb e => hs b o (fun z => hb (inO b z)) e, fun _ z => .inl z⟩
    have g : Go O ps H O ps H' := ⟨x, fun _ _ z => z⟩
    refine k v H' O ps (.v r') om g ⟨fun b o hb e => hs b o (fun z => hb (inF b z)) (s.en b o hb e), s.fo, s.oo, s.ff, al', s.len, fun i es e => ?_, s.inj, fun i q e => ?_, .inr ⟨hh, p, let ⟨st, ns, q⟩ := hd; ⟨st, ns, by rw [eF, hF], q⟩⟩, fun i e he => ?_, s.ln, by rw [hF]; exact tb1⟩ hv (h r' hR)
    · obtain ⟨q, e1, e2, e3, e4⟩ := s.own i es e
      refine ⟨q, e1, e2, e3, e4.ext x fun o => hs q _ (fun z => ?_)⟩
      exact (s.ff _ (inF _ z)).2 e3
    · intro z
      cases e3 : H q with
      | none => exact s.pa i q e e3
      | some o =>
        by_cases c : q ∈ hh :: p :: T.map (·.1)
        · exact al' q (inO q c) z
        · rw [hs q _ c e3] at z
          cases z
    · obtain ⟨w, e1, e2⟩ := s.slots i e he
      exact ⟨w, e1, e2.go g⟩
end
end DL
set_option Elab.async false
set_option linter.all false
set_option maxRecDepth 100000
set_option maxHeartbeats 4000000
/-! a def that calls what it got and gives (what that gave, None), or the error's field -/
namespace LM
open PySem PySem.Spec PyProof.Rows L2 DL HL
/-- return (work(), None) -/
def TLRT (n : Nat) (f c' : Addr) (q : Str) (tl : XK → Hp → VK → Prop) (W : WX) : TS := fun D σ H => ∃ Ech : XK, (∀ cls d H' σ', σ'.length = n → Ech cls d H' → W cls d σ' H') ∧ σ[0]? = some (some (.ref f)) ∧ H c' = some (LamX.CodeO c' q) ∧ tl Ech H fun v H' => ∀ p, H' p = none → D.rt (.ref p) (upd H' p (.tup [v, .non]))
section
variable {Z : Cx} {a : Str} {f c' : Addr} {q : Str} {tl : XK → Hp → VK → Prop} {W : WX} {pn : List (Addr × Obj)} {xe : Value → Shared → Prop} {p1 p2 p3 p4 p5 : Pos}
theorem lam_retT {k k2 : Nat} (act : Act Z a f c' q tl) (tk : Takes (Z.tr pn xe) W) : PSs (Z.tr pn xe) [.Return (some (.Tuple [.Call (.Name a p1) [] [] p2, .Constant .none k p4] k2 p5)) p3] (TLRT Z.N.length f c' q tl W) := by
  refine ⟨fun pins s σ H D I h => ?_⟩
  obtain ⟨Ech, h1, h2, h3, h4⟩ := h
  have hp := act _ pn xe Ech p1 p2 (takes_len tk h1) fun _ _ _ _ z => z
  refine (pss_one (ps_ret (pos := p3) (pe_tup (pa_cons hp (pa_cons pe_non pa_nil))))).run pins s σ H D I ⟨h2, h3, ?_⟩
  refine cast ?_ h4
  congr 1
  funext v H'
  refine propext ⟨fun z => ⟨?_, z⟩, fun z => z.2⟩
  show 2 ≤ sizeLine
  rw [sizeLine_eq]
  omega
end
/-- try: return (work(), None) / except: return wrong.f -/
def TTS (C : Addr) (fld : Str) : (XK → Hp → VK → Prop) → Hp → VK → Prop := fun tl H Q =>
  tl (fun cls d H' => cls = .ref C ∧ ∃ D v, d = some D ∧ H' D = some (.xd [(fld, v)]) ∧ ∀ H'', Same H' H'' → Q v H'') H fun v H' => ∀ p, H' p = none → Q (.ref p) (upd H' p (.tup [v, .non]))
end LM
namespace DL
open PySem PySem.Spec PyProof.Rows L2 LM
section
variable {α : Type} {ar : Nat} {ds : α → List D} {pre : α → Prop} {R : α → D → Prop} {X : α → Addr → Str → D → Prop} {c : Cn} {om : Om} {sl : Sl} {P : E → Om → Prop}
theorem ev_lamS {Pt C : Addr} {q fld : Str} {tr : TA} (hT : (Pt, q) ∈ c.F.t) (fT : FnT c.F.t) (h : EA c tr om sl fun es om1 => om1 = om ∧ ∃ a, unv es = some (ds a) ∧ (ds a).length = ar ∧ pre a ∧ (∀ C' f x, X a C' f x → C' = C ∧ f = fld ∧ P (.v x) om) ∧ ∀ r, R a r → P (.v (.tup [r, .non])) om) :
    EV c (tLamP Pt q (TTS C fld) (fun E => tCall (spG ar ds pre R X) [] E tr)) om sl P := fun σ H O ps s Q k => by
  refine ⟨s.tabs _ hT, fun H1 l t1 => ?_⟩
  obtain ⟨s1, g1⟩ := st_lam s hT fT l t1
  show tCall _ [] _ tr σ H1 _
  refine h σ H1 O ps s1 _ fun vs H2 O2 ps2 es om2 g2 s2 r2 ⟨ho, a, he, hl, hp, hx, hr⟩ => ?_
  subst ho
  have he' := unv_eq he
  subst he'
  have ra := ra_data r2
  rw [List.append_nil]
  refine ⟨a, hp, O2, ds a, by rw [ra.len]; exact hl, s2.al, ra, rfl, fun v H3 r' hs hv hR p hnew => ?_, fun C' f x d v H3 hs hX rv hd => ?_⟩
  · obtain ⟨s3, g3⟩ := s2.same hs
    obtain ⟨s4, g4⟩ := s3.new (o := .tup [v, .non]) hnew
    exact k _ _ O2 ps2 (.v (.tup [r', .non])) _ (g1.trans (g2.trans (g3.trans g4))) s4 (Rl.tup (s3.nin hnew) (.inl upd_same) (.cons (hv.ext g4.ex) (.cons .non .nil))) (hr r' hR)
  · obtain ⟨rfl, rfl, hP⟩ := hx C' f x hX
    refine ⟨rfl, d, v, rfl, upd_same, fun H4 hs4 => ?_⟩
    obtain ⟨s3, g3⟩ := s2.same hs
    obtain ⟨s4, g4⟩ := s3.new (o := .xd [(f, v)]) hd
    obtain ⟨s5, g5⟩ := s4.same hs4
    exact k v H4 O2 ps2 (.v x) _ (g1.trans (g2.trans (g3.trans (g4.trans g5)))) s5 ((show Rl O2 H3 v x from rv).ext (g4.trans g5).ex) hP
end
end DL
set_option Elab.async false
set_option linter.all false
set_option maxRecDepth 100000
set_option maxHeartbeats 2000000
/-! the end of a law whose def knows that nothing is guarded around it -/
namespace EG
open PySem PySem.Spec PyProof.Rows L2 HL
section
variable {P : Program} {w : World} {K : PySem.W.Frag} {mg mb : Str → Option Value} {t : Shared} {a : Addr} {vs : List Value} {G : Hp}
/-- what the hidden heap still tells -/
theorem still (hA : ∀ b, G b ≠ none → b = a) {b : Addr} {u : Obj} (hu : t.heap.get? b = some u) (hb : b = a → G a = none) : (hidT t.heap G).get? b = some u := by
  refine hidT_get hu ?_
  cases z : G b with
  | none => rfl
  | some y =>
    have e := hA b (by rw [z]; exact fun q => nomatch q)
    rw [e] at z
    exact (z.symm.trans (hb e))
theorem stillNs (ha : t.heap.get? a = some { cls := .type "list", data := .seq vs.toArray }) (hA : ∀ b, G b ≠ none → b = a) {b : Addr} {m : Str → Option Value} (n : t.heap.Ns b m) : (hidT t.heap G).Ns b m := by
  obtain ⟨u, l, k, h1, h2, h3⟩ := n
  refine ⟨u, l, k, still hA h1 fun e => ?_, h2, h3⟩
  rw [e, ha] at h1
  cases h1
  cases h2
theorem envG (KX : K.In t.heap) (n1 : t.heap.Ns mainGlobals mg) (n2 : t.heap.Ns builtinsNs mb) (n3 : ∀ x : Str, x ≠ "__name__" → mb x = bootBuiltins x) (n4 : t.heap.NoLimit) (hg : t.gens = #[])
    (ha : t.heap.get? a = some { cls := .type "list", data := .seq vs.toArray }) (hok : HOk P w G t.heap) (hA : ∀ b, G b ≠ none → b = a) (hK : G a ≠ none → K.lookup a = none) :
    K.In (hidT t.heap G) ∧ (hidT t.heap G).Ns mainGlobals mg ∧ Env0 P w K mg (hidT t.heap G) callerA [] t G := by
  have k1 : K.In (hidT t.heap G) := fun b u e => still hA (KX b u e) fun z => by
    rw [z] at e
    cases q : G a with
    | none => rfl
    | some y =>
      rw [hK (by rw [q]; exact fun r => nomatch r)] at e
      cases e
  have k2 := stillNs ha hA n1
  obtain ⟨m, l1, l2⟩ := n4
  refine ⟨k1, k2, rfl, ⟨k1, k2, ⟨mb, stillNs ha hA n2, n3⟩, ⟨m, stillNs ha hA l1, l2⟩⟩, fun b u e => of_hidT e, Nat.le_of_eq (hidT_size _ _), trivial, fun b z => ?_, hok, .of_eq hg⟩
  exact absurd (show b ∈ ([] : List Addr) from z) List.not_mem_nil
end
theorem lawG {P : Program} {w : World} {K : PySem.W.Frag} {mg mb : Str → Option Value} {k : Nat} {fa a : Addr} {fd : FuncData} {x : Str} {sp : Sp} {t : Shared} {vs : List Value} {ns : List Int}
    (KX : K.In t.heap) (n1 : t.heap.Ns mainGlobals mg) (n2 : t.heap.Ns builtinsNs mb) (n3 : ∀ x : Str, x ≠ "__name__" → mb x = bootBuiltins x) (n4 : t.heap.NoLimit) (hg : t.gens = #[])
    (ha : t.heap.get? a = some { cls := .type "list", data := .seq vs.toArray }) (hi : IntsAre vs ns) (hl : ns.length ≤ sizeLine) (hr : Room k callerA)
    (F : ∀ base : Heap, K.In base → base.Ns mainGlobals mg → FnG P w K mg base CX0 k fa fd [x] sp) (bind : ∀ (s : Shared) (u : Value), BindsTo s fd ⟨[u], []⟩ [(x, u)])
    (hsp : ∀ G : Hp, SqL K G a (ns.map V.int) → sp [.ref a] G (fun v _ => v = .bl true) fun _ _ _ => False) :
    codeAny (model P w) callerA (.call (.ref fa) ⟨[.ref a], []⟩) (fun r s' => r = .ok (.ret (.bool true)) ∧ OldK t.heap s'.heap ∧ s'.os = t.os ∧ AllBare s'.gens) t := by
  have rv := vals_ints hi
  have go : ∀ G : Hp, (∀ b, G b = none ∨ ∃ o xs, G b = some (.frz o (.lst xs))) → SqL K G a (ns.map V.int) → HOk P w G t.heap → (∀ b, G b ≠ none → b = a) → (G a ≠ none → K.lookup a = none) →
      codeAny (model P w) callerA (.call (.ref fa) ⟨[.ref a], []⟩) (fun r s' => r = .ok (.ret (.bool true)) ∧ OldK t.heap s'.heap ∧ s'.os = t.os ∧ AllBare s'.gens) t := fun G hO hS hok hA hK => by
    obtain ⟨k1, k2, en⟩ := envG (P := P) (w := w) KX n1 n2 n3 n4 hg ha hok hA hK
    have run := (F _ k1 k2).run callerA [] t G ⟨[.ref a], []⟩ [.ref a] [.ref a] _ _ hr rfl en (bind t (.ref a)) (.cons rfl .nil) (hsp G hS)
    refine codeAny_mono run fun r s' h => ?_
    rcases r with e | fl
    · exact h.elim
    · cases fl with
      | ret u =>
        obtain ⟨v, G', os, bare, un, hok', r', q⟩ := h
        have qv : v = .bl true := q
        rw [qv] at r'
        have ru : u = Value.bool true := r'
        refine ⟨by rw [ru], OldK.of_keep fun b o e => ?_, os, bare⟩
        rcases hO b with z | ⟨ob, xs, z⟩
        · exact un.keep b o e z (fun y => absurd (show b ∈ ([] : List Addr) from y) List.not_mem_nil) List.not_mem_nil
        · have e1 := (hok b _ z).1
          have e2 := (hok' b _ (un.frzs b ob _ z)).1
          rw [e] at e1
          cases e1
          exact e2
      | _ => exact h.elim
  cases c : K.lookup a with
  | some o =>
    have e := KX a o c
    rw [ha] at e
    cases e
    refine go (fun _ => none) (fun _ => .inl rfl) (.inr ⟨_, vs.toArray, _, c, rfl, rfl, rfl, ?_, ?_⟩) (fun b u z => nomatch z) (fun b z => absurd rfl z) fun z => absurd rfl z
    · rw [List.size_toArray, hi.length]
      exact hl
    · simpa using rv
  | none =>
    have at_ : ∀ {b : Addr}, b ≠ a → (fun b => if b = a then some (HO.frz { cls := .type "list", data := .seq vs.toArray } (.lst (ns.map V.int))) else none) b = none := fun hb => if_neg hb
    refine go (fun b => if b = a then some (.frz { cls := .type "list", data := .seq vs.toArray } (.lst (ns.map V.int))) else none) (fun b => ?_) (.inl (.inr ⟨_, if_pos rfl⟩)) (fun b u z => ?_) (fun b z => ?_) fun _ => c
    · by_cases hb : b = a
      · exact .inr ⟨_, _, if_pos hb⟩
      · exact .inl (at_ hb)
    · by_cases hb : b = a
      · subst hb
        have z' := (if_pos rfl).symm.trans z
        cases z'
        exact ⟨ha, by rw [List.length_map]; exact hl, vs, _, rv, ha⟩
      · rw [at_ hb] at z
        cases z
    · by_cases hb : b = a
      · exact hb
      · exact absurd (at_ hb) z
theorem walkG {l : PySem.W.OpenLaw} {n k : Nat} {q : Program} {loose : List Str} {XP : (Str → Option Value) → Heap → Prop} {YP : World → Heap → Prop} {d : DefRec} {K : Params → PySem.W.Frag} {sp : PySem.W.Frag → Sp} {x : Str}
    (hn : l.most = some n) (hn2 : n ≤ sizeLine) (hdf : d.params.defaults = []) (hr : Room k callerA) (hY : ∀ (w : World) (h : Heap), YP w h → (K w.params).In h)
    (F : ∀ (w : World) (mg : Str → Option Value) (fa : Addr) (h : Heap), YP w h → (K w.params).In h → h.Ns mainGlobals mg → mg d.name = some (.ref fa) →
      ∃ fd : FuncData, (∀ (s : Shared) (u : Value), BindsTo s fd ⟨[u], []⟩ [(x, u)]) ∧ ∀ base : Heap, (K w.params).In base → base.Ns mainGlobals mg → FnG l.prog w (K w.params) mg base CX0 k fa fd [x] (sp (K w.params)))
    (hsp : ∀ (K : PySem.W.Frag) (G : Hp) (a : Addr) (ns : List Int), ns.length ≤ n → (∀ z ∈ ns, Builtin.Int.intBits z ≤ 1048576) → SqL K G a (ns.map V.int) → sp K [.ref a] G (fun v _ => v = .bl true) fun _ _ _ => False) :
    PySem.W.WalkO q loose XP YP l.row.toRowW d [] (fun f vs => PySem.call f vs) := by
  refine Att.attach_callB hn hdf fun w s₀ t mg mb fa o pm cd doc a vs ns G Y ho hd hcd hmg hobj hints hlen hbits hg => ?_
  obtain ⟨fd, hb, hF⟩ := F w mg fa _ Y (hY w _ Y) G.T.g hmg
  exact lawG (hY w _ Y) G.T.g G.T.b G.T.builtins G.T.nolimit hg hobj hints (Nat.le_trans hlen hn2) hr hF hb fun H hS => hsp _ H a ns hlen hbits hS
end EG
set_option Elab.async false
set_option linter.all false
set_option maxRecDepth 100000
set_option maxHeartbeats 4000000
/-! defs that make lambdas: their code object is known; the law's start and end with tables -/
namespace LM
open PySem PySem.Spec PyProof.Rows L2 DL HL LamX
/-- a def of the text, its code object at c -/
structure DefL (K : PySem.W.Frag) (mg : Str → Option Value) (x : Str) (st : Stmt) (ps : List Str) (f : Addr) (fd : FuncData) (c : Addr) : Prop extends DefB K mg x st ps f fd where
  ex : ∃ (oc : Value) (od : Option Addr) (kV doc pm : Value) (an : Option Addr) (ct : Value) (osl : Array (Option Value)),
    fd = PySem.W.fnOf x x (defArgs st) (defBody st) (defScope st) .none kV doc pm an (.ref c) ct ∧ K.lookup f = some ⟨oc, od, .func fd, osl⟩ ∧ PySem.W.codeIn K (.ref c) x = true
section
variable {P : Program} {w : World} {K : PySem.W.Frag} {mg : Str → Option Value} {base : Heap} {x : Str} {st : Stmt} {ps N : List Str} {f c : Addr} {fd : FuncData} {k : Nat} {sp : Sp}
theorem fnL (B : DefL K mg x st ps f fd c) (S : FnScope N ps (defScope st)) (len : ∀ vs H Q E, sp vs H Q E → vs.length = ps.length)
    (hb : ∀ (A : Around) (outer : List Env) (s : Shared) (H : Hp) (vs : List V) (Q : VK) (E : XK), Room k (A.deeper (envOfC x (defScope st) s.heap.objs.size f (.ref c))) → sp vs H Q E →
      ∃ t, PSs (cxOf CX0 P w K mg base N x (defScope st) f (.ref c) A outer s H E).nox (defBody st) t ∧ t { nx := fun _ H' => Q .non H', rt := Q } (L2.start N vs) H) : FnOk P w K mg base CX0 (k + 1) f fd ps sp := by
  obtain ⟨oc, od, kV, doc, pm, an, ct, osl, rfl, lk, hcd⟩ := B.ex
  refine ⟨len, fun A outer s H args us vs Q E hr e0 hbd r hsp => ?_⟩
  exact run_ofS lk hcd S hr e0 hbd r (len _ _ _ _ hsp) fun hr' => let ⟨t, h1, h2⟩ := hb A outer s H vs Q E hr' hsp; ⟨t, h1.nox, h2⟩
theorem fnLG (B : DefL K mg x st ps f fd c) (S : FnScope N ps (defScope st)) (len : ∀ vs H Q E, sp vs H Q E → vs.length = ps.length)
    (hb : ∀ (A : Around) (outer : List Env) (s : Shared) (H : Hp) (vs : List V) (Q : VK) (E : XK), Room k (A.deeper (envOfC x (defScope st) s.heap.objs.size f (.ref c))) → A.guards = some [] → sp vs H Q E →
      ∃ t, PSs (cxOf CX0 P w K mg base N x (defScope st) f (.ref c) A outer s H E).nox (defBody st) t ∧ t { nx := fun _ H' => Q .non H', rt := Q } (L2.start N vs) H) : FnG P w K mg base CX0 (k + 1) f fd ps sp := by
  obtain ⟨oc, od, kV, doc, pm, an, ct, osl, rfl, lk, hcd⟩ := B.ex
  refine ⟨len, fun A outer s H args us vs Q E hr hg e0 hbd r hsp => ?_⟩
  exact run_ofS lk hcd S hr e0 hbd r (len _ _ _ _ hsp) fun hr' => let ⟨t, h1, h2⟩ := hb A outer s H vs Q E hr' hg hsp; ⟨t, h1.nox, h2⟩
theorem caL (B : DefL K mg x st ps f fd c) (F : FnOk P w K mg base CX0 k f fd ps sp) : Ca P w K mg base CX0 k x ps sp := ⟨f, fd, F, B.gl, B.fn.kp, B.b, B.kb⟩
theorem caLG (B : DefL K mg x st ps f fd c) (F : FnG P w K mg base CX0 k f fd ps sp) : CaG P w K mg base CX0 k x ps sp := ⟨f, fd, F, B.gl, B.fn.kp, B.b⟩
end
/-! ### the law's start -/
/-- the law's promise: the script, and tables that are empty -/
def sp_lawT (T : List (Addr × Str)) : PySem.W.Frag → Sp := fun K vs H Q _ => ∃ (a : Addr) (ns : List Int), vs = [.ref a] ∧ SqL K H a (ns.map V.int) ∧ (∀ n ∈ ns, n.natAbs < 2 ^ 1048640) ∧ (∀ p ∈ T, H p.1 = some (.tbl #[])) ∧ ∀ H', Q (.bl true) H'
theorem deal_of {H : Hp} {v : V} {r : D} (rl : Rl [] H v r) (hr : CM.DealIs r) : ∃ (h p : Addr), v = .ref h ∧ DealL h p H := by
  obtain ⟨ms, st, rfl, s0, s1, l, b⟩ := hr
  cases rl with
  | @lst h xs _ ha hh hx =>
    cases hx with
    | @cons v1 vs1 _ _ r1 hx =>
      cases hx with
      | @cons v2 vs2 _ _ r2 hx =>
        cases hx
        cases r2
        cases r1 with
        | @lst p ys _ hp hpp hy =>
          have e := RlA.ints hy
          subst e
          refine ⟨h, p, rfl, st, ms, fun z => ?_, hh, hpp, s0, s1, l, b⟩
          subst z
          rw [hh] at hpp
          have e2 := HO.lst.inj (Option.some.inj hpp)
          cases ms with
          | nil => cases e2
          | cons m ms => cases e2
theorem law_start {T : List (Addr × Str)} {n : Nat} {t : TS} {K : PySem.W.Frag} {E : XK} {H H1 : Hp} {v : V} {r : D} {Q : VK} {σ : L2.St} (sm : Same H H1) (rl : Rl [] H1 v r) (hr : CM.DealIs r) (ht : ∀ p ∈ T, H p.1 = some (.tbl #[])) (hQ : ∀ H', Q (.bl true) H') (hσ : σ.length = n + 2)
    (hS : ∀ (F : FT) (O : List Addr), F.t = T → SV ⟨F, O, H1, K⟩ E t [] (none :: some .l :: List.replicate n none) { n := fun _ _ => False, r := fun e _ => e = .v (.bl true) }) :
    t { nx := fun _ H' => Q .non H', rt := Q } (σ.set 1 (some v)) H1 := by
  obtain ⟨h, p, rfl, hD⟩ := deal_of rl hr
  obtain ⟨st, ns, hne, hh, hpp, rest⟩ := id hD
  have tb : ∀ q ∈ T, H1 q.1 = some (.tbl #[]) := fun q hq => sm _ _ (ht q hq)
  have al : ∀ b ∈ h :: p :: T.map (·.1), H1 b ≠ none := fun b hb => by
    rcases List.mem_cons.mp hb with y | y
    · rw [y, hh]; exact fun z => nomatch z
    · rcases List.mem_cons.mp y with y | y
      · rw [y, hpp]; exact fun z => nomatch z
      · obtain ⟨q, hq, e⟩ := List.mem_map.mp y
        rw [← e, tb q hq]
        exact fun z => nomatch z
  have st0 : DL.St ⟨h :: p :: T.map (·.1), T⟩ (h :: p :: T.map (·.1)) H1 H1 [] (σ.set 1 (some (.ref h))) (none :: some .l :: List.replicate n none) (h :: p :: T.map (·.1)) [] :=
    ⟨fun _ _ _ e => e, fun _ e => .inl e, fun _ e => e, fun b hb => ⟨hb, al b hb⟩, al, rfl, (fun k ds e => by simp at e), (fun j k p e => by simp at e), (fun k p e => by simp at e), .inr ⟨h, p, st, ns, rfl, hne, hh, hpp, rest⟩, (fun i e he => by
      match i with
      | 0 => cases he
      | 1 =>
        have e' := Option.some.inj (Option.some.inj he)
        rw [← e']
        exact ⟨.ref h, List.getElem?_set_self (by omega), h, p, rfl, rfl⟩
      | i + 2 =>
        have he' : (List.replicate n (none : Option DL.E))[i]? = some (some e) := by simpa using he
        rw [List.getElem?_replicate] at he'
        split at he' <;> cases he'), by simp [hσ], .inr ⟨fun q hq => TabS.nil (tb q hq), fun b hb => by
      rcases List.mem_cons.mp hb with y | y
      · rw [y, hh]; exact .inl notC_lst
      · rcases List.mem_cons.mp y with y | y
        · rw [y, hpp]; exact .inl notC_lst
        · exact .inr y⟩⟩
  refine hS _ _ rfl _ H1 _ [] _ st0 (fun _ _ _ _ _ _ _ _ z => z.elim) (fun v σ' sl' H' O' ps' e om' g s' r hv => ?_) (fun _ _ _ _ _ _ _ _ z => z.elim) (fun _ _ _ _ _ _ _ _ z => z.elim) ?_
  · subst hv
    cases r
    exact hQ H'
  · rintro C f x d v H1 H2 O' ps' g ⟨_, z⟩
    exact z.elim
/-- the same, as the walk asks it -/
theorem law_start' {T : List (Addr × Str)} {n : Nat} {t : TS} {K : PySem.W.Frag} {E : XK} {H H1 : Hp} {v : V} {r : D} {Q R : VK} {σ : L2.St} (sm : Same H H1) (rl : Rl [] H1 v r) (hr : CM.DealIs r) (ht : ∀ p ∈ T, H p.1 = some (.tbl #[])) (hQ : ∀ H', Q (.bl true) H') (hσ : σ.length = n + 2)
    (hS : ∀ (F : FT) (O : List Addr), F.t = T → SV ⟨F, O, H1, K⟩ E t [] (none :: some .l :: List.replicate n none) { n := fun _ _ => False, r := fun e _ => e = .v (.bl true) }) :
    gName 1 v σ H1 ({ nx := t { nx := fun _ H' => Q .non H', rt := Q }, rt := R } : Ends).nx := law_start sm rl hr ht hQ hσ hS
end LM
set_option Elab.async false
set_option linter.all false
set_option maxRecDepth 100000
set_option maxHeartbeats 4000000
/-! the end of a law whose defs make lambdas: the makers' tables are empty at the law's call -/
namespace LM
open PySem PySem.Spec PyProof.Rows L2 HL LamX
section
variable {P : Program} {w : World} {K : PySem.W.Frag} {mg mb : Str → Option Value} {t : Shared} {a : Addr} {vs : List Value} {G : Hp} {cs : List (Addr × Addr)}
abbrev tbs (cs : List (Addr × Addr)) : List Addr := cs.map fun p => p.2
theorem seen (hA : ∀ b, G b ≠ none → b = a ∨ b ∈ tbs cs) (hT : ∀ p ∈ cs, t.heap.get? p.2 = some (PySem.W.tabObj #[])) {b : Addr} {u : Obj} (hu : t.heap.get? b = some u) (h1 : b = a → G a = none) (h2 : b ∈ tbs cs → u ≠ PySem.W.tabObj #[]) : (hidT t.heap G).get? b = some u := by
  refine hidT_get hu ?_
  cases z : G b with
  | none => rfl
  | some y =>
    rcases hA b (by rw [z]; exact fun q => nomatch q) with e | e
    · rw [e] at z
      exact z.symm.trans (h1 e)
    · obtain ⟨p, hp, e2⟩ := List.mem_map.mp e
      have := hT p hp
      rw [e2, hu] at this
      exact absurd (Option.some.inj this) (h2 e)
theorem seenN (ha : t.heap.get? a = some { cls := .type "list", data := .seq vs.toArray }) (hA : ∀ b, G b ≠ none → b = a ∨ b ∈ tbs cs) (hT : ∀ p ∈ cs, t.heap.get? p.2 = some (PySem.W.tabObj #[])) {b : Addr} {m : Str → Option Value} (n : t.heap.Ns b m) : (hidT t.heap G).Ns b m := by
  obtain ⟨u, l, k, h1, h2, h3⟩ := n
  refine ⟨u, l, k, seen hA hT h1 (fun e => ?_) (fun _ e => ?_), h2, h3⟩
  · rw [e, ha] at h1
    cases h1
    cases h2
  · rw [e] at h2
    cases h2
theorem tabB_of (ha : t.heap.get? a = some { cls := .type "list", data := .seq vs.toArray }) (hA : ∀ b, G b ≠ none → b = a ∨ b ∈ tbs cs) (hT : ∀ p ∈ cs, t.heap.get? p.2 = some (PySem.W.tabObj #[])) (n1 : t.heap.Ns mainGlobals mg)
    (hbm : ∃ (bm : Addr) (ob : Obj), mg "__builtins__" = some (.ref bm) ∧ bm ≠ builtinsNs ∧ t.heap.get? bm = some ob ∧ ob.cls = .type "module" ∧ ob.dict = some builtinsNs ∧ ob.data = .plain)
    {p : Addr × Addr} (hp : p ∈ cs) (C : PySem.W.CodeHd t.heap p.1 p.2) : TabB (hidT t.heap G) mg p.1 p.2 := by
  have hp2 := hT p hp
  refine ⟨?_, ?_, fun z => ?_⟩
  · obtain ⟨o, us, f1, f2, f3, f4, f5, f6, f7, e, r1, r2, r3⟩ := C
    refine ⟨o, us, f1, f2, f3, f4, f5, f6, f7, seen hA hT e (fun z => ?_) (fun _ z => ?_), r1, r2, r3⟩
    · rw [z, ha] at e
      cases e
      cases r2
    · rw [z] at r1
      cases r1
  · obtain ⟨bm, ob, b1, b2, b3, b4, b5, b6⟩ := hbm
    refine ⟨bm, ob, b1, b2, (fun q => ?_), (fun q => ?_), seen hA hT b3 (fun z => ?_) (fun _ z => ?_), b4, b5, b6⟩
    · obtain ⟨o, es, ep, e, hd, _⟩ := n1
      rw [q, e] at b3
      cases b3
      rw [hd] at b6
      cases b6
    · rw [q, hp2] at b3
      cases b3
      cases b6
    · rw [z, ha] at b3
      cases b3
      cases b6
    · rw [z] at b6
      cases b6
  · obtain ⟨o, es, ep, e, hd, _⟩ := n1
    rw [z, hp2] at e
    cases e
    cases hd
end
theorem lawGT {P : Program} {w : World} {K : PySem.W.Frag} {mg mb : Str → Option Value} {k : Nat} {fa a : Addr} {cs : List (Addr × Addr)} {fd : FuncData} {x : Str} {sp : Sp} {t : Shared} {vs : List Value} {ns : List Int}
    (KX : K.In t.heap) (n1 : t.heap.Ns mainGlobals mg) (n2 : t.heap.Ns builtinsNs mb) (n3 : ∀ x : Str, x ≠ "__name__" → mb x = bootBuiltins x) (n4 : t.heap.NoLimit) (hg : t.gens = #[])
    (hT : ∀ p ∈ cs, t.heap.get? p.2 = some (PySem.W.tabObj #[])) (nT : ∀ p ∈ cs, K.lookup p.2 = none) (C : ∀ p ∈ cs, PySem.W.CodeHd t.heap p.1 p.2)
    (hbm : ∃ (bm : Addr) (ob : Obj), mg "__builtins__" = some (.ref bm) ∧ bm ≠ builtinsNs ∧ t.heap.get? bm = some ob ∧ ob.cls = .type "module" ∧ ob.dict = some builtinsNs ∧ ob.data = .plain)
    (ha : t.heap.get? a = some { cls := .type "list", data := .seq vs.toArray }) (hi : IntsAre vs ns) (hl : ns.length ≤ sizeLine) (hr : Room k callerA)
    (F : ∀ base : Heap, K.In base → base.Ns mainGlobals mg → (∀ p ∈ cs, TabB base mg p.1 p.2) → FnG P w K mg base CX0 k fa fd [x] sp) (bind : ∀ (s : Shared) (u : Value), BindsTo s fd ⟨[u], []⟩ [(x, u)])
    (hsp : ∀ G : Hp, (∀ p ∈ cs, G p.2 = some (.tbl #[])) → SqL K G a (ns.map V.int) → sp [.ref a] G (fun v _ => v = .bl true) fun _ _ _ => False) :
    codeAny (model P w) callerA (.call (.ref fa) ⟨[.ref a], []⟩) (fun r s' => r = .ok (.ret (.bool true)) ∧ OldK t.heap s'.heap ∧ s'.os = t.os ∧ AllBare s'.gens) t := by
  have rv := vals_ints hi
  have isT : ∀ b ∈ tbs cs, t.heap.get? b = some (PySem.W.tabObj #[]) := fun b hb => by
    obtain ⟨p, hp, e⟩ := List.mem_map.mp hb
    exact e ▸ hT p hp
  have aT : a ∉ tbs cs := fun z => by
    have q := isT a z
    rw [ha] at q
    cases q
  have go : ∀ G : Hp, (∀ b, G b = none ∨ b ∈ tbs cs ∨ ∃ o xs, G b = some (.frz o (.lst xs))) → (∀ p ∈ cs, G p.2 = some (.tbl #[])) → SqL K G a (ns.map V.int) → HOk P w G t.heap → (∀ b, G b ≠ none → b = a ∨ b ∈ tbs cs) → (G a ≠ none → K.lookup a = none) →
      codeAny (model P w) callerA (.call (.ref fa) ⟨[.ref a], []⟩) (fun r s' => r = .ok (.ret (.bool true)) ∧ OldK t.heap s'.heap ∧ s'.os = t.os ∧ AllBare s'.gens) t := fun G hO hG hS hok hA hK => by
    have k1 : K.In (hidT t.heap G) := fun b u e => seen hA hT (KX b u e) (fun z => by
      rw [z] at e
      cases q : G a with
      | none => rfl
      | some y => rw [hK (by rw [q]; exact fun r => nomatch r)] at e; cases e) fun z _ => by
      obtain ⟨p, hp, e2⟩ := List.mem_map.mp z
      rw [← e2, nT p hp] at e
      cases e
    have k2 := seenN ha hA hT n1
    obtain ⟨m, l1, l2⟩ := n4
    have en : Env0 P w K mg (hidT t.heap G) callerA [] t G := ⟨rfl, ⟨k1, k2, ⟨mb, seenN ha hA hT n2, n3⟩, ⟨m, seenN ha hA hT l1, l2⟩⟩, fun b u e => of_hidT e, Nat.le_of_eq (hidT_size _ _), trivial, fun b z => absurd (show b ∈ ([] : List Addr) from z) List.not_mem_nil, hok, .of_eq hg⟩
    have run := (F _ k1 k2 fun p hp => tabB_of ha hA hT n1 hbm hp (C p hp)).run callerA [] t G ⟨[.ref a], []⟩ [.ref a] [.ref a] _ _ hr rfl en (bind t (.ref a)) (.cons rfl .nil) (hsp G hG hS)
    refine codeAny_mono run fun r s' h => ?_
    rcases r with e | fl
    · exact h.elim
    · cases fl with
      | ret u =>
        obtain ⟨v, G', os, bare, un, hok', r', q⟩ := h
        have qv : v = .bl true := q
        rw [qv] at r'
        have ru : u = Value.bool true := r'
        have old : ∀ b o, b ∉ tbs cs → t.heap.get? b = some o → s'.heap.get? b = some o := fun b o hb e => by
          rcases hO b with z | z | ⟨ob, xs, z⟩
          · exact un.keep b o e z (fun y => absurd (show b ∈ ([] : List Addr) from y) List.not_mem_nil) List.not_mem_nil
          · exact absurd z hb
          · have e1 := (hok b _ z).1
            have e2 := (hok' b _ (un.frzs b ob _ z)).1
            rw [e] at e1
            cases e1
            exact e2
        have more : ∀ p ∈ cs, ∃ ys : Array Value, s'.heap.get? p.2 = some { cls := .none, data := .fields ys } := fun p hp => by
          obtain ⟨ys, z⟩ := un.tbls p.2 #[] (hG p hp)
          exact ⟨_, hok' p.2 _ z⟩
        refine ⟨by rw [ru], ⟨fun b o e => ?_, fun b o e => ?_⟩, os, bare⟩
        · by_cases c : b ∈ tbs cs
          · obtain ⟨p, hp, e2⟩ := List.mem_map.mp c
            obtain ⟨ys, z⟩ := more p hp
            subst e2
            have e3 := hT p hp
            rw [e] at e3
            cases e3
            exact .inr (.inl ⟨((C p hp).tab (hT p hp)).isCodeTable, rfl, #[], ys, rfl, by rw [Array.empty_append]; exact z⟩)
          · exact .inl (old b o c e)
        · by_cases c : b ∈ tbs cs
          · obtain ⟨p, hp, e2⟩ := List.mem_map.mp c
            obtain ⟨ys, z⟩ := more p hp
            exact ⟨_, e2 ▸ z⟩
          · exact ⟨o, old b o c e⟩
      | _ => exact h.elim
  cases c : K.lookup a with
  | some o =>
    have e := KX a o c
    rw [ha] at e
    cases e
    refine go (fun b => if b ∈ tbs cs then some (.tbl #[]) else none) (fun b => ?_) (fun p hp => if_pos (List.mem_map_of_mem hp)) (.inr ⟨_, vs.toArray, _, c, rfl, rfl, rfl, ?_, ?_⟩) (fun b u z => ?_) (fun b z => ?_) fun z => absurd (if_neg aT) z
    · by_cases hb : b ∈ tbs cs
      · exact .inr (.inl hb)
      · exact .inl (if_neg hb)
    · rw [List.size_toArray, hi.length]
      exact hl
    · simpa using rv
    · by_cases hb : b ∈ tbs cs
      · have y := (if_pos hb).symm.trans z
        cases y
        exact isT b hb
      · have y := (if_neg hb).symm.trans z
        cases y
    · by_cases hb : b ∈ tbs cs
      · exact .inr hb
      · exact absurd (if_neg hb) z
  | none =>
    have at1 : ∀ {b : Addr}, b ∈ tbs cs → (fun b => if b = a then some (HO.frz { cls := .type "list", data := .seq vs.toArray } (.lst (ns.map V.int))) else if b ∈ tbs cs then some (HO.tbl #[]) else none) b = some (.tbl #[]) := fun {b} hb => (if_neg (fun z : b = a => aT (z ▸ hb))).trans (if_pos hb)
    have at0 : ∀ {b : Addr}, b ≠ a → b ∉ tbs cs → (fun b => if b = a then some (HO.frz { cls := .type "list", data := .seq vs.toArray } (.lst (ns.map V.int))) else if b ∈ tbs cs then some (HO.tbl #[]) else none) b = none := fun {b} h1 h2 => (if_neg h1).trans (if_neg h2)
    refine go (fun b => if b = a then some (.frz { cls := .type "list", data := .seq vs.toArray } (.lst (ns.map V.int))) else if b ∈ tbs cs then some (.tbl #[]) else none) (fun b => ?_) (fun p hp => at1 (List.mem_map_of_mem hp)) (.inl (.inr ⟨_, if_pos rfl⟩)) (fun b u z => ?_) (fun b z => ?_) fun _ => c
    · by_cases hb : b = a
      · exact .inr (.inr ⟨_, _, if_pos hb⟩)
      · by_cases hb2 : b ∈ tbs cs
        · exact .inr (.inl hb2)
        · exact .inl (at0 hb hb2)
    · by_cases hb : b = a
      · subst hb
        have y := (if_pos rfl).symm.trans z
        cases y
        exact ⟨ha, by rw [List.length_map]; exact hl, vs, _, rv, ha⟩
      · by_cases hb2 : b ∈ tbs cs
        · rw [at1 hb2] at z
          cases z
          exact isT b hb2
        · rw [at0 hb hb2] at z
          cases z
    · by_cases hb : b = a
      · exact .inl hb
      · by_cases hb2 : b ∈ tbs cs
        · exact .inr hb2
        · exact absurd (at0 hb hb2) z
/-- the law's walk where the head says that the tables stand empty -/
theorem walkGM {l : PySem.W.OpenLaw} {n k : Nat} {q : Program} {loose : List Str} {XP : (Str → Option Value) → Heap → Prop} {YP : World → Heap → Prop} {d : DefRec} {K : Params → PySem.W.Frag} {sp : PySem.W.Frag → Sp} {x : Str} (cs : List (Addr × Addr))
    (hn : l.most = some n) (hn2 : n ≤ sizeLine) (hdf : d.params.defaults = []) (hr : Room k callerA) (hY : ∀ (w : World) (h : Heap), YP w h → (K w.params).In h)
    (hC : ∀ p ∈ cs, ∀ w : World, PySem.W.codeHdIn (K w.params) p.1 p.2 = true) (hT : ∀ (w : World) (h : Heap), YP w h → ∀ p ∈ cs, h.get? p.2 = some (PySem.W.tabObj #[])) (nT : ∀ p ∈ cs, ∀ w : World, (K w.params).lookup p.2 = none)
    (F : ∀ (w : World) (mg : Str → Option Value) (fa : Addr) (h : Heap), YP w h → (K w.params).In h → h.Ns mainGlobals mg → mg d.name = some (.ref fa) →
      ∃ fd : FuncData, (∀ (s : Shared) (u : Value), BindsTo s fd ⟨[u], []⟩ [(x, u)]) ∧ ∀ base : Heap, (K w.params).In base → base.Ns mainGlobals mg → (∀ p ∈ cs, TabB base mg p.1 p.2) → FnG l.prog w (K w.params) mg base CX0 k fa fd [x] (sp (K w.params)))
    (hsp : ∀ (K : PySem.W.Frag) (G : Hp) (a : Addr) (ns : List Int), ns.length ≤ n → (∀ z ∈ ns, Builtin.Int.intBits z ≤ 1048576) → (∀ p ∈ cs, G p.2 = some (.tbl #[])) → SqL K G a (ns.map V.int) → sp K [.ref a] G (fun v _ => v = .bl true) fun _ _ _ => False) :
    PySem.W.WalkO q loose XP YP l.row.toRowW d [] (fun f vs => PySem.call f vs) := by
  refine Att.attach_callB hn hdf fun w s₀ t mg mb fa o pm cd doc a vs ns G Y ho hd hcd hmg hobj hints hlen hbits hg => ?_
  obtain ⟨fd, hb, hF⟩ := F w mg fa _ Y (hY w _ Y) G.T.g hmg
  have tab : ∀ p ∈ cs, PySem.W.CodeHd t.heap p.1 p.2 ∧ t.heap.get? p.2 = some (PySem.W.tabObj #[]) := fun p hp => ⟨PySem.W.codeHd_of_K (hY w _ Y) (hC p hp w), hT w _ Y p hp⟩
  exact lawGT (hY w _ Y) G.T.g G.T.b G.T.builtins G.T.nolimit hg (fun p hp => (tab p hp).2) (fun p hp => nT p hp w) (fun p hp => (tab p hp).1) G.T.bmain hobj hints (Nat.le_trans hlen hn2) hr hF hb fun H hH hS => hsp _ H a ns hlen hbits hH hS
end LM
set_option Elab.async false
set_option linter.all false
set_option maxRecDepth 100000
set_option maxHeartbeats 4000000
namespace K01
open PySem PySem.Spec PyProof.Rows L2 DL HL CM STX NM DX TT RO LM SG SX MV
abbrev s__law_standing_told : Stmt := topS 41
theorem sc__law_standing_told : FnScope ["work", "wrong"] ["work"] (defScope s__law_standing_told) := ⟨rfl, rfl, rfl, by decide +kernel, rfl, by decide +kernel, by decide +kernel⟩
abbrev s__law_name_told : Stmt := topS 42
theorem sc__law_name_told : FnScope ["work", "wrong"] ["work"] (defScope s__law_name_told) := ⟨rfl, rfl, rfl, by decide +kernel, rfl, by decide +kernel, by decide +kernel⟩
abbrev s__law_lies_right : Stmt := topS 43
theorem sc__law_lies_right : FnScope ["heap", "yard", "heights", "standing", "strange", "boxes", "row", "due", "at", "word", "level", "box"] ["heap", "yard", "heights", "standing", "strange"] (defScope s__law_lies_right) := ⟨rfl, rfl, rfl, by decide +kernel, rfl, by decide +kernel, by decide +kernel⟩
section
variable {P : Program} {w : World} {K : PySem.W.Frag} {mg : Str → Option Value} {base : Heap} {CY CV fV CS fS CN fN CB : Addr}
/-! ### what calling tells -/
theorem gives_name {X : Cx} (T : Ty X.K X.mg CY CV fV CS fS CN fN CB) {g : Addr} {cdv : Value} {q : Str} : LamX.GivesTo X ["work", "wrong"] "_law_name_told" (defScope s__law_name_told) g cdv (defBody s__law_name_told) "work" q (TTW CN "name") := by
  intro f c' s H Q tl act hc h
  refine ⟨_, pss_cons (ps_tryT (i := 1) rfl rfl sc__law_name_told.nd rfl rfl ⟨rfl, by decide, Or.inl T.x_NoName.gC⟩ takes0 (fun W pn xe tk _ => lam_stmt act tk)
    (fun a oe cls d pn hz hf => (pss_one (ps_ret (pe_xf T.x_NoName.xf T.x_NoName.noN hz hf (pv 1))))))
    (pss_one (ps_ret pe_non)), ?_⟩
  refine ⟨_, ?_, rfl, hc, h⟩
  rintro cls d H' σ' hl ⟨rfl, D, v, rfl, e3, e4⟩
  refine ⟨true, T.m_NoName, fun _ a ha => ?_, fun z => nomatch z⟩
  refine suite_run (fld := "name") (K := X.K) (Ex := fun _ _ _ => False) (hl : σ'.length = 2) (show 1 < 2 by decide) e3 e4 ?_
  walk_at "d0"
  walk_at "s"
  walk_at "n"
  exact ⟨_, _, rfl, rfl, rfl⟩
theorem gives_standing {X : Cx} (T : Ty X.K X.mg CY CV fV CS fS CN fN CB) {g : Addr} {cdv : Value} {q : Str} : LamX.GivesTo X ["work", "wrong"] "_law_standing_told" (defScope s__law_standing_told) g cdv (defBody s__law_standing_told) "work" q (TTS CS "at") := by
  intro f c' s H Q tl act hc h
  refine ⟨_, pss_cons (ps_tryT (i := 1) rfl rfl sc__law_standing_told.nd rfl rfl ⟨rfl, by decide, Or.inl T.x_InvalidStanding.gC⟩ takes0 (fun W pn xe tk _ => lam_retT act tk)
    (fun a oe cls d pn hz hf => (pss_one (ps_ret (pe_ifExp (pt_val (pe_callB (call_isXE T.c_InvalidStanding hz hf) (by rfl) T.z_isinstance (by decide +kernel) (pa_cons (pv 1) (pa_cons (pe_glob (v := .ref _) rfl T.g_YardError rfl) pa_nil)))) (pe_xf T.x_InvalidStanding.xf T.x_InvalidStanding.noN hz hf (pv 1)) pe_str))))) pss_nil, ?_⟩
  refine ⟨_, ?_, rfl, hc, h⟩
  rintro cls d H' σ' hl ⟨rfl, D, v, rfl, e3, e4⟩
  refine ⟨true, T.m_InvalidStanding, fun _ a ha => ?_, fun z => nomatch z⟩
  refine suite_run (fld := "at") (K := X.K) (Ex := fun _ _ _ => False) (hl : σ'.length = 2) (show 1 < 2 by decide) e3 e4 ?_
  walk_at "d0"
  walk_at "s"
  walk_at "n"
  refine ev_if ?_
  walk_at "n"
  refine EX.ev_raw ?_
  walk_at "n"
  refine cv_isXE (ClsV.own _) T.b_InvalidStanding ?_
  walk_at "n"
  refine ⟨fun _ => ?_, fun z => nomatch z⟩
  walk_at "n"
  exact ⟨_, _, rfl, rfl, rfl⟩
/-! ### _law_lies_right -/
theorem tw_boxes {rows : Rws} (hl : rows.flatten.length ≤ 144) (h : ∀ y ∈ rows.flatten, NameOk y) : Tw 1 20000 (.tup ((rows.flatten.map .str).mergeSort leD)) := by
  refine (tw_tup (n := 0) (b := 82) fun d hd => ?_).up (Nat.le_refl _) (by rw [List.length_mergeSort, List.length_map]; omega)
  obtain ⟨y, hy, rfl⟩ := List.mem_map.mp (List.mem_mergeSort.mp hd)
  exact tw_name (h y hy)
theorem tw_row {row : List Str} (hl : row.length ≤ 12) (h : ∀ y ∈ row, NameOk y) : Tw 1 1100 (rwS row) := by
  refine (tw_tup (n := 0) (b := 82) fun d hd => ?_).up (Nat.le_refl _) (by rw [List.length_map]; omega)
  obtain ⟨y, hy, rfl⟩ := List.mem_map.mp hd
  exact tw_name (h y hy)
theorem tw_pl {q : Nat × Nat} (h : q.1 < 100 ∧ q.2 < 100) : Tw 1 49 (.tup [nD q.1, nD q.2]) := by
  have p20 : (100 : Nat) < 10 ^ 20 := by decide
  refine (tw_tup (n := 0) (b := 21) fun x hx => ?_).up (Nat.le_refl _) (by show 2 * 21 + 2 * 2 + 3 ≤ 49; decide)
  simp only [List.mem_cons, List.not_mem_nil, or_false] at hx
  rcases hx with e | e
  · rw [e]
    exact tw_int (by rw [Int.natAbs_natCast]; omega)
  · rw [e]
    exact tw_int (by rw [Int.natAbs_natCast]; omega)
abbrev TB2 (Pt Pu : Addr) : List (Addr × Str) := [(Pt, "_law_lies_right.<locals>.<lambda>"), (Pu, "law.<locals>.<lambda>")]
abbrev sp_lies (Pt Pu CY : Addr) : Sp := spGNT (TB2 Pt Pu) 4 (fun p : List Int × Rws × Str => [yardD CY p.1, .lst (p.1.map .int), stF p.2.1, .str p.2.2]) (fun p => HsOk p.1 ∧ StOk p.1 p.2.1) (fun _ r => r = .bl true)
theorem stD_inj {a b : Rws} (h : stD a = stD b) : a = b := by
  have inj : ∀ {x y : List Str}, x.map D.str = y.map D.str → x = y := fun {x} => by
    induction x with
    | nil =>
      intro y h
      cases y with
      | nil => rfl
      | cons _ _ => cases h
    | cons p x ih =>
      intro y h
      cases y with
      | nil => cases h
      | cons q y =>
        rw [List.map_cons, List.map_cons] at h
        injection h with h1 h2
        injection h1 with h1
        rw [h1, ih h2]
  injection h with h
  induction a generalizing b with
  | nil =>
    cases b with
    | nil => rfl
    | cons _ _ => cases h
  | cons p x ih =>
    cases b with
    | nil => cases h
    | cons q y =>
      rw [List.map_cons, List.map_cons] at h
      injection h with h1 h2
      injection h1 with h1
      rw [inj h1, ih h2]
theorem sh_st {hs : List Int} {rows : Rws} (ho : HsOk hs) (so : StOk hs rows) {m : Nat} (h : 12 ≤ m := by decide) : Sh m (stD rows) := by
  have h12 := ho.2.1
  refine .tup (by rw [List.length_map, so.1]; omega) fun x hx => ?_
  obtain ⟨row, hr, rfl⟩ := List.mem_map.mp hx
  refine .tup (by rw [List.length_map]; have := so.row ho hr; omega) fun z hz => ?_
  obtain ⟨y, hy, rfl⟩ := List.mem_map.mp hz
  have := (so.2.2.2 y (List.mem_flatten.mpr ⟨row, hr, hy⟩)).2.1
  exact .str (by omega)
theorem tw_tops {rows : Rws} (hl : rows.length ≤ 12) (h : ∀ y ∈ rows.flatten, NameOk y) : Tw 1 20000 (.tup (rows.map topD)) := by
  refine (tw_tup (n := 0) (b := 82) fun d hd => ?_).up (Nat.le_refl _) (by rw [List.length_map]; omega)
  obtain ⟨row, hr, rfl⟩ := List.mem_map.mp hd
  unfold topD
  cases e : row.getLast? with
  | none => exact tw_non.up (Nat.le_refl _) (by decide)
  | some y => exact tw_name (h y (List.mem_flatten.mpr ⟨row, hr, List.mem_of_getLast? e⟩))
theorem at_uniq {hs : List Int} {rows : Rws} (so : StOk hs rows) {i j : Nat} {row : List Str} {y : Str} (h1 : rows[i]? = some row) (h2 : row[j]? = some y) {k l : Nat} (a : AtP rows y k l) : k = i ∧ l = j := by
  obtain ⟨row', e1, e2, rfl, e4⟩ := a
  have nd := so.2.2.1
  obtain ⟨p1, p2⟩ := List.pairwise_flatten.mp nd
  obtain ⟨hi, hi'⟩ := List.getElem?_eq_some_iff.mp h1
  obtain ⟨hk, hk'⟩ := List.getElem?_eq_some_iff.mp e1
  obtain ⟨hj, hj'⟩ := List.getElem?_eq_some_iff.mp h2
  have my : y ∈ row := List.mem_of_getElem? h2
  have ki : k = i := by
    rcases Nat.lt_trichotomy k i with c | c | c
    · exact absurd rfl ((List.pairwise_iff_getElem.mp p2) k i hk hi c y (by rw [hk']; exact e2) y (by rw [hi']; exact my))
    · exact c
    · exact absurd my (e4 i row c h1)
  subst ki
  have er : row' = row := Option.some.inj (e1.symm.trans h1)
  subst er
  have ndr : row'.Nodup := p1 row' (List.mem_of_getElem? h1)
  refine ⟨rfl, ?_⟩
  rw [← hj']
  exact ndr.idxOf_getElem j hj
theorem at_in {rows : Rws} {y : Str} {k l : Nat} (a : AtP rows y k l) : y ∈ rows.flatten := by
  obtain ⟨row', e1, e2, _⟩ := a
  exact List.mem_flatten.mpr ⟨row', List.mem_of_getElem? e1, e2⟩
theorem fnT_two {p q : Addr × Str} (h : p.1 ≠ q.1) : FnT [p, q] := fun a ha b hb e => by
  simp only [List.mem_cons, List.not_mem_nil, or_false] at ha hb
  rcases ha with rfl | rfl <;> rcases hb with rfl | rfl
  · rfl
  · exact absurd e h
  · exact absurd e.symm h
  · rfl
theorem c__law_lies_right {f c Pt Pu gW : Addr} {fd fdW : FuncData} (T : Ty K mg CY CV fV CS fS CN fN CB) (TB : LamX.TabB base mg c Pt) (ne_P : Pt ≠ Pu) (b__law_name_told : DefB K mg "_law_name_told" s__law_name_told ["work"] gW fdW)
    (c__law_draw : Ca P w K mg base CX0 1 "_law_draw" ["heap", "many"] sp_draw) (c__law_pick : Ca P w K mg base CX0 2 "_law_pick" ["heap", "some"] sp_pick)
    (c_boxes_of : Ca P w K mg base CX0 1 "boxes_of" ["standing"] sp_boxof) (c_tops : Ca P w K mg base CX0 1 "tops" ["standing"] sp_tops) (c_free_places : Ca P w K mg base (L2.CX P w) 4 "free_places" ["yard", "standing"] (sp_free CY CS))
    (c_place_of : Ca P w K mg base (L2.CX P w) 2 "place_of" ["standing", "box"] (sp_place CN)) (c_boxes_above : Ca P w K mg base (L2.CX P w) 3 "boxes_above" ["standing", "box"] (sp_above CN))
    (B : DefL K mg "_law_lies_right" s__law_lies_right ["heap", "yard", "heights", "standing", "strange"] f fd c) : CaG P w K mg base CX0 7 "_law_lies_right" ["heap", "yard", "heights", "standing", "strange"] (sp_lies Pt Pu CY) := by
  refine caLG B (fnLG B sc__law_lies_right (fun vs H Q E h => lenGNT h) (fun A outer s H vs Q E hr hgd h => ⟨_, (pss_cons (ps_set (i := 5) sc__law_lies_right.nd rfl (by first | exact Or.inl rfl | exact Or.inr rfl) (pe_lst pa_nil))
    (pss_cons (ps_for PassesOwn.never rfl (pi_tup (pv 3)) (pg_name (i := 6) sc__law_lies_right.nd rfl (by first | exact Or.inl rfl | exact Or.inr rfl))
     (pss_one (ps_set (i := 5) sc__law_lies_right.nd rfl (by first | exact Or.inl rfl | exact Or.inr rfl) (pe_op op_addU (pv 5) (pe_callTy cr_list (by rfl) T.z_list (by decide +kernel) (pa_cons (pv 6) pa_nil))))))
    (pss_cons (ps_if (PW.pt (pw_or (pt_cmpR (op_neU hr.units) (pe_callB (LR.cr_repr rfl hgd hr.units) (by rfl) T.z_repr (by decide +kernel) (pa_cons (pe_ca c_boxes_of hr (by first | decide | (simp only [Nat.add_eq]; omega)) pass0 (pa_cons (pv 3) pa_nil)) pa_nil)) (pe_callB (LR.cr_repr rfl hgd hr.units) (by rfl) T.z_repr (by decide +kernel) (pa_cons (pe_callTy cr_tup (by rfl) T.z_tuple (by decide +kernel) (pa_cons (pe_callB (cr_sortedD hr.units) (by rfl) T.z_sorted (by decide +kernel) (pa_cons (pv 5) pa_nil)) pa_nil)) pa_nil)) (by first | exact nomark _ | rfl)) (pw_or1 (pt_cmpR (op_neU hr.units) (pe_callB (LR.cr_repr rfl hgd hr.units) (by rfl) T.z_repr (by decide +kernel) (pa_cons (pe_caK c_boxes_of hr (by first | decide | (simp only [Nat.add_eq]; omega)) pass0 (pk_cons (pv 3) pk_nil)) pa_nil)) (pe_callB (LR.cr_repr rfl hgd hr.units) (by rfl) T.z_repr (by decide +kernel) (pa_cons (pe_callTy cr_tup (by rfl) T.z_tuple (by decide +kernel) (pa_cons (pe_callB (cr_sortedD hr.units) (by rfl) T.z_sorted (by decide +kernel) (pa_cons (pv 5) pa_nil)) pa_nil)) pa_nil)) (by first | exact nomark _ | rfl)))))
     (pss_one (ps_ret pe_bl))
     pss_nil)
    (pss_cons (ps_if (pt_cmpR (op_neU hr.units) (pe_callB (LR.cr_repr rfl hgd hr.units) (by rfl) T.z_repr (by decide +kernel) (pa_cons (pe_caK c_free_places hr (by first | decide | (simp only [Nat.add_eq]; omega)) passL (pk_cons (pv 1) (pk_cons (pv 3) pk_nil))) pa_nil)) (pe_callB (LR.cr_repr rfl hgd hr.units) (by rfl) T.z_repr (by decide +kernel) (pa_cons (pe_op op_sub (pe_callB (cr_sumU rfl) (by rfl) T.z_sum (by decide +kernel) (pa_cons (pv 2) pa_nil)) (pe_callB cr_len (by rfl) T.z_len (by decide +kernel) (pa_cons (pv 5) pa_nil))) pa_nil)) (by first | exact nomark _ | rfl))
     (pss_one (ps_ret pe_bl))
     pss_nil)
    (pss_cons (ps_set (i := 7) sc__law_lies_right.nd rfl (by first | exact Or.inl rfl | exact Or.inr rfl) (pe_callTy cr_tup (by rfl) T.z_tuple (by decide +kernel) (pa_cons (pe_lc (own := [("row", 6)]) rfl sc__law_lies_right.nd (pi_tup (pv 3)) (blkOk_by (N := ["heap", "yard", "heights", "standing", "strange", "boxes", "row", "due", "at", "word", "level", "box"]) (sc := defScope s__law_lies_right) (by decide +kernel)) (fun _ _ _ _ _ => (pg_name (i := 6) sc__law_lies_right.nd rfl (by first | exact Or.inl rfl | exact Or.inr rfl))) (fun _ _ _ _ _ => pts_nil) (fun _ _ _ _ _ => (pe_ifExp (pt_cmpR (EX.op_neEk (by have := hr.un; show (Around.deeper A _).units < cLine; omega)) (pv 6) (pe_tup pa_nil) (by first | exact nomark _ | rfl)) (pe_ix (EX.ix_seqk (K := K) rfl) (pv 6) (pe_op op_sub (pe_callB (EX.cr_lenk (K := K) rfl) (by rfl) T.z_len (by decide +kernel) (pa_cons (pv 6) pa_nil)) pe_int) (fun _ _ => rfl)) pe_non))) pa_nil)))
    (pss_cons (ps_if (PW.pt (pw_or (pt_cmpR (op_neU hr.units) (pe_callB (LR.cr_repr rfl hgd hr.units) (by rfl) T.z_repr (by decide +kernel) (pa_cons (pe_ca c_tops hr (by first | decide | (simp only [Nat.add_eq]; omega)) pass0 (pa_cons (pv 3) pa_nil)) pa_nil)) (pe_callB (LR.cr_repr rfl hgd hr.units) (by rfl) T.z_repr (by decide +kernel) (pa_cons (pv 7) pa_nil)) (by first | exact nomark _ | rfl)) (pw_or1 (pt_cmpR (op_neU hr.units) (pe_caK c_tops hr (by first | decide | (simp only [Nat.add_eq]; omega)) pass0 (pk_cons (pv 3) pk_nil)) (pv 7) (by first | exact nomark _ | rfl)))))
     (pss_one (ps_ret pe_bl))
     pss_nil)
    (pss_cons (ps_for PassesOwn.never rfl (pi_range1 (by rfl) T.z_range (pa_cons (pe_callB cr_len (by rfl) T.z_len (by decide +kernel) (pa_cons (pv 3) pa_nil)) pa_nil)) (pg_name (i := 8) sc__law_lies_right.nd rfl (by first | exact Or.inl rfl | exact Or.inr rfl))
     (pss_one (ps_for PassesOwn.never rfl (pi_range1 (by rfl) T.z_range (pa_cons (pe_callB cr_len (by rfl) T.z_len (by decide +kernel) (pa_cons (pe_ix ix_seq (pv 3) (pv 8) (fun _ _ => rfl)) pa_nil)) pa_nil)) (pg_name (i := 10) sc__law_lies_right.nd rfl (by first | exact Or.inl rfl | exact Or.inr rfl))
      (pss_cons (ps_set (i := 11) sc__law_lies_right.nd rfl (by first | exact Or.inl rfl | exact Or.inr rfl) (pe_ix ix_seq (pe_ix ix_seq (pv 3) (pv 8) (fun _ _ => rfl)) (pv 10) (fun _ _ => rfl)))
      (pss_one (ps_if (PW.pt (pw_or (pt_cmpR (op_neU hr.units) (pe_callB (LR.cr_repr rfl hgd hr.units) (by rfl) T.z_repr (by decide +kernel) (pa_cons (pe_ca c_place_of hr (by first | decide | (simp only [Nat.add_eq]; omega)) passL (pa_cons (pv 3) (pa_cons (pv 11) pa_nil))) pa_nil)) (pe_callB (LR.cr_repr rfl hgd hr.units) (by rfl) T.z_repr (by decide +kernel) (pa_cons (pe_tup (pa_cons (pv 8) (pa_cons (pv 10) pa_nil))) pa_nil)) (by first | exact nomark _ | rfl)) (pw_or1 (pt_cmpR (op_neU hr.units) (pe_callB (LR.cr_repr rfl hgd hr.units) (by rfl) T.z_repr (by decide +kernel) (pa_cons (pe_ca c_boxes_above hr (by first | decide | (simp only [Nat.add_eq]; omega)) passL (pa_cons (pv 3) (pa_cons (pv 11) pa_nil))) pa_nil)) (pe_callB (LR.cr_repr rfl hgd hr.units) (by rfl) T.z_repr (by decide +kernel) (pa_cons (pe_slice sl_U (pe_ix ix_seq (pv 3) (pv 8) (fun _ _ => rfl)) (po_some (pe_op op_addU (pv 10) pe_int)) po_none) pa_nil)) (by first | exact nomark _ | rfl)))))
       (pss_one (ps_ret pe_bl))
       pss_nil))))))
    (pss_cons (ps_set (i := 9) sc__law_lies_right.nd rfl (by first | exact Or.inl rfl | exact Or.inr rfl) (pe_ifExp (PW.pt (pw_or (pt_cmpR (op_eqE hr.units0) (pv 5) (pe_lst pa_nil) (by first | exact nomark _ | rfl)) (pw_or1 (pt_cmpR (op_eqU hr.units) (pe_ca c__law_draw hr (by first | decide | (simp only [Nat.add_eq]; omega)) pass0 (pa_cons (pv 0) (pa_cons pe_int pa_nil))) pe_int (by first | exact nomark _ | rfl))))) (pv 4) (pe_op op_addU (pe_slice sl_U (pe_ca c__law_pick hr (by first | decide | (simp only [Nat.add_eq]; omega)) pass0 (pa_cons (pv 0) (pa_cons (pv 5) pa_nil))) po_none (po_some pe_int)) pe_str)))
    (pss_cons (ps_if (pt_cmpR op_notIn_seq (pv 9) (pv 5) (by first | exact nomark _ | rfl))
     (pss_cons (ps_if (pt_cmpR (op_neU hr.units) (LM.pe_lam (k := 3) b__law_name_told sc__law_name_told rfl (.inl (by decide +kernel)) (fun _ => gives_name T) TB rfl hr (by first | decide | (simp only [Nat.add_eq]; omega)) (LamX.lamS_by (sc := defScope s__law_lies_right) (by decide +kernel)) rfl (fun _ _ _ _ _ => rfl) (fun A outer s H E f e hr => (pe_caK c_place_of hr (by first | decide | (simp only [Nat.add_eq]; omega)) (passes_call (W := fun cls d _ H => E cls d H) (takes_of rfl rfl rfl rfl) (fun _ _ _ _ z => z)) (pk_cons (pv 3) (pk_cons (pv 9) pk_nil)))) rfl) (pv 9) (by first | exact nomark _ | rfl))
      (pss_one (ps_ret pe_bl))
      pss_nil)
     (pss_one (ps_ret (pe_cmpR (op_eqU hr.units) (LM.pe_lam (k := 3) b__law_name_told sc__law_name_told rfl (.inl (by decide +kernel)) (fun _ => gives_name T) TB rfl hr (by first | decide | (simp only [Nat.add_eq]; omega)) (LamX.lamS_by (sc := defScope s__law_lies_right) (by decide +kernel)) rfl (fun _ _ _ _ _ => rfl) (fun A outer s H E f e hr => (pe_caK c_boxes_above hr (by first | decide | (simp only [Nat.add_eq]; omega)) (passes_call (W := fun cls d _ H => E cls d H) (takes_of rfl rfl rfl rfl) (fun _ _ _ _ z => z)) (pk_cons (pv 3) (pk_cons (pv 9) pk_nil)))) rfl) (pv 9) (by first | exact nomark _ | rfl)))))
     pss_nil)
    (pss_one (ps_ret pe_bl))))))))))), entryGNT (K := K) (by decide) h fun F O p hF hl hp => ?_⟩))
  obtain ⟨hs, rows, strange⟩ := p
  obtain ⟨ho, so⟩ := hp
  dsimp only at ho so ⊢
  have mT : ∀ {q : Str}, q = "_law_lies_right.<locals>.<lambda>" → (Pt, q) ∈ F.t := fun {q} e => by
    rw [e, hF]
    exact List.mem_cons_self
  have fT : FnT F.t := by
    rw [hF]
    exact fnT_two ne_P
  have rl12 : rows.length ≤ 12 := by rw [so.1]; exact ho.2.1
  have row12 : ∀ row ∈ rows, row.length ≤ 12 := fun row hr => so.row ho hr
  have fl144 : rows.flatten.length ≤ 144 := by
    have := flat_short row12
    omega
  walk_at "d0"
  walk_at "n"
  refine ev_lst ?_
  walk_at "n"
  walk_at "s"
  refine sv_forT rwF (wv_tup ?_)
  walk_at "n"
  refine ⟨rfl, _, rfl, rows, fun i om' sl' => ∃ (t6 : Option DL.E), om' = [] ∧ sl' = [some .l, some (.v (yardD CY hs)), some (.v (.lst (hs.map .int))), some (.v (stF rows)), some (.v (.str strange)), some (.v (.lst ((rows.take i).flatten.map .str))), t6, none, none, none, none, none], rfl, ⟨_, rfl, rfl⟩, ?_, ?_⟩
  · rintro i row om' sl' hrow ⟨t6, rfl, rfl⟩
    have r12 := row12 row (List.mem_of_getElem? hrow)
    have tl : (rows.take i).flatten.length ≤ 144 := by
      have := flat_short (rows := rows.take i) fun x hx => row12 x (List.mem_of_mem_take hx)
      rw [List.length_take] at this
      omega
    refine gv_name ⟨ltb rfl, ?_⟩
    walk_at "s"
    walk_at "n"
    refine cv_listFD ?_
    walk_at "n"
    refine ov_addL rfl rfl (by rw [List.length_map, List.length_map]; omega) ?_
    walk_at "n"
    refine ⟨some (.v (rwF row)), rfl, ?_⟩
    rw [take_rows hrow, List.map_append]
    rfl
  rintro om' sl' ⟨t6, rfl, rfl⟩
  rw [List.take_length]
  have twb := tw_boxes fl144 so.2.2.2
  obtain ⟨q1, q2, q3⟩ := SG.sort_strs (l := rows.flatten)
  walk_at "n"
  refine sv_if ?_
  walk_at "n"
  refine cv_wk (.cons wk_tf .nil) ?_
  refine cv_G rows rfl rfl ⟨rl12, row12⟩ (fun _ _ _ z => z) fun r hr => ?_
  subst hr
  walk_at "n"
  refine cv_reprT rfl twb (by decide) (by decide) ?_
  walk_at "n"
  refine cv_sortedD rfl q1 q2 (by rw [List.length_map]; omega) q3 ?_
  walk_at "n"
  refine cv_tupL rfl ?_
  walk_at "n"
  refine cv_reprT rfl twb (by decide) (by decide) ?_
  walk_at "n"
  rw [decide_eq_true rfl]
  refine ⟨fun _ => ?_, fun z => nomatch z⟩
  walk_at "n"
  refine cv_wk (.cons wk_tf .nil) ?_
  refine cv_G rows rfl rfl ⟨rl12, row12⟩ (fun _ _ _ z => z) fun r hr => ?_
  subst hr
  walk_at "n"
  refine cv_reprT rfl twb (by decide) (by decide) ?_
  walk_at "n"
  refine cv_sortedD rfl q1 q2 (by rw [List.length_map]; omega) q3 ?_
  walk_at "n"
  refine cv_tupL rfl ?_
  walk_at "n"
  refine cv_reprT rfl twb (by decide) (by decide) ?_
  walk_at "n"
  rw [decide_eq_true rfl]
  refine ⟨(fun z => nomatch z), fun _ => ?_⟩
  walk_at "n"
  clear twb q1 q2 q3
  /- free places -/
  have shR : Sh 900 (stD rows) := sh_st ho so
  obtain ⟨s3, s144⟩ := ho.sum
  have p20 : (200 : Nat) < 10 ^ 20 := by decide
  have twi : ∀ {a : Int}, a = hs.sum - (rows.flatten.length : Int) → Tw 0 21 (.int a) := fun {a} e => tw_int (by omega)
  refine sv_if ?_
  walk_at "n"
  refine cv_wk (.cons (wk_refl _) (.cons wk_tf .nil)) ?_
  refine cv_G (hs, stD rows) rfl rfl ⟨ho, shR⟩ (fun C f x z => by obtain ⟨_, _, i, e, _⟩ := z; rw [sF_ok so] at e; cases e) fun r hr => ?_
  obtain ⟨rows', e1, so', rfl⟩ := hr
  have e2 : rows = rows' := stD_inj e1
  subst e2
  walk_at "n"
  refine cv_reprT rfl (twi rfl) (by decide) (by decide) ?_
  walk_at "n"
  refine cv_sumL rfl ?_
  walk_at "n"
  refine cv_lenL rfl ?_
  walk_at "n"
  rw [List.length_map]
  refine cv_reprT rfl (twi rfl) (by decide) (by decide) ?_
  walk_at "n"
  rw [decide_eq_true rfl]
  refine ⟨(fun z => nomatch z), fun _ => ?_⟩
  walk_at "n"
  /- the tops -/
  refine ev_lcT rwF (fun _ => true) topD (sets_name 6) (wv_tup ?_)
  walk_at "n"
  refine ⟨rfl, _, rfl, rows, rfl, by omega, fun i row acc hi => ?_, ?_⟩
  · refine gv_name ⟨ltb rfl, ?_⟩
    walk_at "s"
    refine et_yes ⟨rfl, rfl, fun _ => ?_⟩
    walk_at "n"
    refine ev_if ?_
    walk_at "n"
    refine ov_neF ?_
    walk_at "n"
    rcases List.eq_nil_or_concat row with rfl | ⟨r0, y, er⟩
    · refine ⟨(fun z => nomatch z), fun _ => ?_⟩
      walk_at "n"
      exact ⟨rfl, rfl⟩
    · rw [List.concat_eq_append] at er
      subst er
      refine ⟨fun _ => ?_, fun z => ?_⟩
      · walk_at "n"
        refine cv_lenF ?_
        walk_at "n"
        refine ov_ixF (d := .str y) ?_ ?_
        · rw [show (((r0 ++ [y]).map D.str).length : Int) - 1 = ((r0.length : Nat) : Int) by rw [List.length_map, List.length_append]; simp]
          exact atI_n (by rw [List.getElem?_map]; simp)
        · refine ⟨rfl, ?_⟩
          unfold topD
          rw [List.getLast?_append]
          rfl
      · simp at z
  have tf : (rows.filter fun _ => true) = rows := List.filter_eq_self.mpr fun _ _ => rfl
  rw [tf]
  walk_at "n"
  refine cv_tupL rfl ?_
  walk_at "n"
  walk_at "s"
  have twt : Tw 1 20000 (.tup (rows.map topD)) := tw_tops rl12 so.2.2.2
  refine sv_if ?_
  walk_at "n"
  refine cv_wk (.cons wk_tf .nil) ?_
  refine cv_G rows rfl rfl ⟨rl12, row12⟩ (fun _ _ _ z => z) fun r hr => ?_
  subst hr
  walk_at "n"
  refine cv_reprT rfl twt (by decide) (by decide) ?_
  walk_at "n"
  refine cv_reprT rfl twt (by decide) (by decide) ?_
  walk_at "n"
  rw [decide_eq_true rfl]
  refine ⟨fun _ => ?_, fun z => nomatch z⟩
  walk_at "n"
  refine cv_wk (.cons wk_tf .nil) ?_
  refine cv_G rows rfl rfl ⟨rl12, row12⟩ (fun _ _ _ z => z) fun r hr => ?_
  subst hr
  walk_at "n"
  refine ov_neSame rfl rfl twt (by decide) ?_
  walk_at "n"
  refine ⟨(fun z => nomatch z), fun _ => ?_⟩
  walk_at "n"
  /- each box -/
  refine sv_for (wv_range1 ?_)
  walk_at "n"
  rw [List.length_map]
  refine ⟨rfl, _, rfl, by omega, by omega, fun i om' sl' => ∃ (t8 t10 t11 : Option DL.E), om' = [] ∧ sl' = [some .l, some (.v (yardD CY hs)), some (.v (.lst (hs.map .int))), some (.v (stF rows)), some (.v (.str strange)), some (.v (.lst (rows.flatten.map .str))), t6, some (.v (.tup (rows.map topD))), t8, none, t10, t11], ⟨_, _, _, rfl, rfl⟩, ?_, ?_⟩
  · rintro i d' om' sl' hd' ⟨t8, t10, t11, rfl, rfl⟩
    have hi := (List.getElem?_eq_some_iff.mp hd').1
    rw [rgD_len] at hi
    rw [rgD_get hi, Int.zero_add] at hd'
    cases hd'
    have hil : i < rows.length := by omega
    have hrow : rows[i]? = some rows[i] := List.getElem?_eq_getElem hil
    obtain ⟨row, erow⟩ : ∃ r, rows[i] = r := ⟨_, rfl⟩
    rw [erow] at hrow
    have r12 := row12 row (List.mem_of_getElem? hrow)
    have ixr : atI (rows.map rwF) (i : Int) = some (rwF row) := atI_n (by rw [List.getElem?_map, hrow]; rfl)
    refine gv_name ⟨ltb rfl, ?_⟩
    walk_at "s"
    refine sv_for (wv_range1 ?_)
    walk_at "n"
    refine ov_ixT ixr ?_
    walk_at "n"
    refine cv_lenF ?_
    walk_at "n"
    rw [List.length_map]
    refine ⟨rfl, _, rfl, by omega, by omega, fun j om' sl' => ∃ (t10 t11 : Option DL.E), om' = [] ∧ sl' = [some .l, some (.v (yardD CY hs)), some (.v (.lst (hs.map .int))), some (.v (stF rows)), some (.v (.str strange)), some (.v (.lst (rows.flatten.map .str))), t6, some (.v (.tup (rows.map topD))), some (.v (.int (i : Int))), none, t10, t11], ⟨_, _, rfl, rfl⟩, ?_, ?_⟩
    · rintro j d' om' sl' hd' ⟨t10, t11, rfl, rfl⟩
      have hj := (List.getElem?_eq_some_iff.mp hd').1
      rw [rgD_len] at hj
      rw [rgD_get hj, Int.zero_add] at hd'
      cases hd'
      have hjl : j < row.length := by omega
      have hy : row[j]? = some row[j] := List.getElem?_eq_getElem hjl
      obtain ⟨y, ey⟩ : ∃ r, row[j] = r := ⟨_, rfl⟩
      rw [ey] at hy
      have my : y ∈ rows.flatten := List.mem_flatten.mpr ⟨row, List.mem_of_getElem? hrow, List.mem_of_getElem? hy⟩
      refine gv_name ⟨ltb rfl, ?_⟩
      walk_at "s"
      walk_at "n"
      refine ov_ixT ixr ?_
      walk_at "n"
      refine ov_ixF (atI_n (by rw [List.getElem?_map, hy]; rfl)) ?_
      walk_at "n"
      walk_at "s"
      have tp := tw_pl (q := (i, j)) ⟨by dsimp only; omega, by dsimp only; omega⟩
      have ta : Tw 1 1100 (rwS (row.drop (j + 1))) := tw_row (by rw [List.length_drop]; omega) fun z hz => so.2.2.2 z (List.mem_flatten.mpr ⟨row, List.mem_of_getElem? hrow, List.mem_of_mem_drop hz⟩)
      refine sv_if ?_
      walk_at "n"
      refine cv_G (rows, y) rfl rfl ⟨rl12, row12⟩ (fun C f x z => z.2.2.2 my) fun r hr => ?_
      obtain ⟨k, l, ha, rfl⟩ := hr
      obtain ⟨rfl, rfl⟩ := at_uniq so hrow hy ha
      walk_at "n"
      refine cv_reprT rfl tp (by decide) (by decide) ?_
      walk_at "n"
      refine cv_reprT rfl tp (by decide) (by decide) ?_
      walk_at "n"
      rw [decide_eq_true rfl]
      refine ⟨fun _ => ?_, fun z => nomatch z⟩
      walk_at "n"
      refine cv_G (rows, y) rfl rfl ⟨rl12, row12⟩ (fun C f x z => z.2.2.2 my) fun r hr => ?_
      obtain ⟨k', l', row', ha', hr', rfl⟩ := hr
      obtain ⟨rfl, rfl⟩ := at_uniq so hrow hy ha'
      have er : row = row' := Option.some.inj (hrow.symm.trans hr')
      subst er
      walk_at "n"
      refine cv_reprT rfl ta (by decide) (by decide) ?_
      walk_at "n"
      refine ov_ixT ixr ?_
      walk_at "n"
      rw [show (l' : Int) + 1 = ((l' + 1 : Nat) : Int) by omega]
      refine lv_wk wk_f (lv_t ?_)
      rw [cut_fr, ← List.map_drop]
      walk_at "n"
      refine cv_reprT rfl ta (by decide) (by decide) ?_
      walk_at "n"
      rw [decide_eq_true rfl]
      refine ⟨(fun z => nomatch z), fun _ => ?_⟩
      walk_at "n"
      exact ⟨_, _, rfl, rfl⟩
    · rintro om' sl' ⟨t10, t11, rfl, rfl⟩
      exact ⟨_, _, _, rfl, rfl⟩
  rintro om' sl' ⟨t8, t10, t11, rfl, rfl⟩
  /- a box that is not there -/
  refine sv_seq (sv_set (ev_mono (P := fun e om1 => ∃ y, e = .v (.str y) ∧ om1 = []) ?_ ?_))
  · refine ev_if ?_
    walk_at "n"
    refine ev_lst ?_
    walk_at "n"
    refine ov_eqE (.inl ⟨rfl, rfl⟩) ?_
    walk_at "n"
    refine ⟨fun ne => ?_, fun _ => ⟨fun _ => ?_, fun z => nomatch z⟩⟩
    · walk_at "n"
      refine cv_draw (by decide) (by decide) fun a ha => ?_
      walk_at "n"
      refine ⟨fun _ => ?_, fun _ => ?_⟩
      · walk_at "n"
        rfl
      · walk_at "n"
        refine cv_pick rfl (by cases hr : rows.flatten with
          | nil => rw [hr] at ne; cases ne
          | cons _ _ => exact Nat.succ_pos _) (by rw [List.length_map]; omega) fun r hr => ?_
        obtain ⟨y, hy, rfl⟩ := List.mem_map.mp hr
        have yl := (so.2.2.2 y hy).2.1
        walk_at "n"
        refine lv_s (by omega) ?_
        have := cutS_length y none (some 7)
        walk_at "n"
        refine ov_addS (by show _ + 1 ≤ _; omega) ?_
        exact ⟨_, rfl, rfl⟩
    · walk_at "n"
      rfl
  rintro e om1 ⟨y, rfl, rfl⟩
  refine ⟨ltb rfl, ?_⟩
  walk_at "s"
  refine sv_seq (sv_if ?_)
  walk_at "n"
  refine ov_inLS rfl ?_
  walk_at "n"
  refine ⟨fun u => ?_, fun _ => ?_⟩
  · have u' : y ∉ rows.flatten := by
      intro z
      rw [if_pos rfl, decide_eq_true z] at u
      cases u
    refine sv_seq (sv_if ?_)
    walk_at "n"
    refine ev_lamW (mT rfl) fT ?_
    walk_at "n"
    refine ⟨rfl, (rows, y), rfl, rfl, ⟨rl12, row12⟩, fun C' f x hx => ⟨hx.1, hx.2.1, ?_⟩, fun r hr => absurd (at_in hr.choose_spec.choose_spec.1) u'⟩
    rw [hx.2.2.1]
    clear hx
    walk_at "n"
    rw [decide_eq_true rfl]
    refine ⟨(fun z => nomatch z), fun _ => ?_⟩
    walk_at "n"
    refine ev_lamW (mT rfl) fT ?_
    walk_at "n"
    refine ⟨rfl, (rows, y), rfl, rfl, ⟨rl12, row12⟩, fun C' f x hx => ⟨hx.1, hx.2.1, ?_⟩, fun r hr => absurd (at_in hr.choose_spec.choose_spec.choose_spec.1) u'⟩
    rw [hx.2.2.1]
    clear hx
    walk_at "n"
    exact congrArg D.bl (decide_eq_true rfl)
  · walk_at "n"
    rfl
end
end K01
set_option Elab.async false
set_option linter.all false
set_option maxRecDepth 100000
set_option maxHeartbeats 4000000
namespace K01
open PySem PySem.Spec PyProof.Rows L2 DL HL CM STX NM DX TT RO LM SG SX MV
abbrev s_law : Stmt := topS 44
theorem sc_law : FnScope ["script", "heap", "heights", "names", "turn", "yard", "many", "standing", "change", "value", "due", "told"] ["script"] (defScope s_law) := ⟨rfl, rfl, rfl, by decide +kernel, rfl, by decide +kernel, by decide +kernel⟩
theorem sFgo_lt : ∀ {hs : List Int} {ds : List D} {k : Nat} {sn : List Str} {i : Int}, sFgo hs ds k sn = some i → (k : Int) ≤ i ∧ i < (k : Int) + (hs.length : Int)
  | [], _, _, _, _, h => by cases h
  | _ :: _, [], _, _, _, h => by cases h
  | h0 :: hs, d :: ds, k, sn, i, h => by
    have fin : some (k : Int) = some i → (k : Int) ≤ i ∧ i < (k : Int) + ((h0 :: hs).length : Int) := fun e => by
      cases e
      simp
      omega
    cases d with
    | tup cells =>
      rw [sFgo] at h
      by_cases c : (cells.length : Int) ≤ h0
      · rw [if_pos c] at h
        cases ea : addAll sn cells with
        | none =>
          rw [ea] at h
          exact fin h
        | some s2 =>
          rw [ea] at h
          have := sFgo_lt (hs := hs) (ds := ds) (k := k + 1) h
          rw [List.length_cons]
          omega
      · rw [if_neg c] at h
        exact fin h
    | _ => exact fin h
theorem sF_tw {hs : List Int} (ho : HsOk hs) {d : D} {i : Int} (h : sF hs d = some i) : Tw 0 21 (.int i) := by
  have p20 : (100 : Nat) < 10 ^ 20 := by decide
  have h12 := ho.2.1
  have key : sF hs d = some i → i.natAbs < 100 := fun h => by
    cases d with
    | tup rows =>
      replace h : (if rows.length = hs.length then sFgo hs rows 0 [] else some (-1)) = some i := h
      by_cases c : rows.length = hs.length
      · rw [if_pos c] at h
        have := sFgo_lt h
        omega
      · rw [if_neg c] at h
        cases h
        decide
    | _ => cases h; decide
  exact tw_int (by have := key h; omega)
/-- what is told where there is no fault, or one -/
def toldD : Option Int → D
  | none => .tup [.non, .non]
  | some i => .int i
theorem tw_told {hs : List Int} (ho : HsOk hs) (d : D) : Tw 1 30 (toldD (sF hs d)) := by
  cases e : sF hs d with
  | none =>
    exact (tw_tup (n := 0) (b := 4) (xs := [.non, .non]) fun x hx => by
      simp only [List.mem_cons, List.not_mem_nil, or_false] at hx
      rcases hx with rfl | rfl <;> exact tw_non).up (Nat.le_refl _) (by decide)
  | some i => exact (sF_tw ho e).up (by decide) (by decide)
section
variable {P : Program} {w : World} {K : PySem.W.Frag} {mg : Str → Option Value} {base : Heap} {CY CV fV CS fS CN fN CB : Addr}
theorem k_Yard {f : Addr} {fd : FuncData} (T : Ty K mg CY CV fV CS fS CN fN CB) (M : Mk K CY f) (F : Fun K "__init__" "Yard.__init__" s_Yard__init__ f fd) (kb : KBn K fd ["self", "heights"] 1 ["heights"] (fun us ws => us ++ ws) (fun vs zs => vs ++ zs)) (m : mg "Yard" = some (.ref CY)) (c_is_whole : Ca P w K mg base CX0 1 "is_whole" ["value"] (sp_whole CY)) : CaCK P w K mg base (L2.CX P w) 2 "Yard" CY ["self", "heights"] (sp_y CY CV) := by
  refine ⟨f, fd, M, FnOk.or (fn_YardT T F c_is_whole) (fn_YardL T F c_is_whole) fun vs H Q E h => ?_, m, kb⟩
  obtain ⟨d, H0, x, dx, O, ws, e1, e2, e3, e4, e5, e6, e7, e8, e9, e10, e11⟩ := h
  cases d
  case lst xs => exact .inr ⟨xs, H0, x, dx, O, ws, e1, e2, e3, e4, e5, e6, e7, e8, e9, e10, e11⟩
  all_goals exact .inl ⟨_, H0, x, dx, O, ws, e1, e2, e3, e4, e5, e6, e7, e8, ⟨e9, trivial⟩, e10, e11⟩
theorem laid_ok {hs : List Int} {ns : List Str} {rows : Rws} (h : LaidOk hs ns rows) (nd : ns.Nodup) (nk : ∀ y ∈ ns, NameOk y) : StOk hs rows := by
  obtain ⟨h1, h2, h3⟩ := h
  exact ⟨h1, h3, h2.nodup_iff.mpr nd, fun y hy => nk y (h2.mem_iff.mp hy)⟩
theorem hs_1000 {hs : List Int} (ho : HsOk hs) : hs.length ≤ 1000 ∧ ∀ h ∈ hs, 0 ≤ h ∧ h ≤ 1000 := ⟨by have := ho.2.1; omega, fun h hh => by have := ho.2.2 h hh; omega⟩
theorem c_law {f c Pt Pu gW : Addr} {fd fdW : FuncData} (T : Ty K mg CY CV fV CS fS CN fN CB) (TB : LamX.TabB base mg c Pu) (ne_P : Pt ≠ Pu) (b__law_standing_told : DefB K mg "_law_standing_told" s__law_standing_told ["work"] gW fdW)
    (c__law_heap : Ca P w K mg base CX0 1 "_law_heap" ["script", "base"] (sp_deal K)) (c__law_draw : Ca P w K mg base CX0 1 "_law_draw" ["heap", "many"] sp_draw)
    (c__law_heights : Ca P w K mg base CX0 3 "_law_heights" ["heap"] sp_heights) (c_Yard : CaC P w K mg base (L2.CX P w) 2 "Yard" CY ["self", "heights"] (sp_y CY CV)) (c__law_many : Ca P w K mg base CX0 3 "_law_many" ["heap", "heights", "most"] sp_many) (c__law_names : Ca P w K mg base CX0 3 "_law_names" ["heap", "many"] sp_names)
    (c__law_yard_right : CaG P w K mg base CX0 6 "_law_yard_right" ["heap", "heights"] (sp_yright CY)) (c__law_laid : Ca P w K mg base CX0 3 "_law_laid" ["heap", "heights", "names"] sp_laid) (c__law_bent : Ca P w K mg base CX0 3 "_law_bent" ["heap", "heights", "value", "spare"] sp_bentS) (c__law_standing_fault : Ca P w K mg base CX0 2 "_law_standing_fault" ["heights", "value"] sp_sfault)
    (c_need_standing : Ca P w K mg base (L2.CX P w) 3 "need_standing" ["yard", "value"] (sp_nst CY CS)) (c_free_places : Ca P w K mg base (L2.CX P w) 4 "free_places" ["yard", "standing"] (sp_free CY CS)) (c__law_lies_right : CaG P w K mg base CX0 7 "_law_lies_right" ["heap", "yard", "heights", "standing", "strange"] (sp_lies Pt Pu CY))
    (B : DefL K mg "law" s_law ["script"] f fd c) : FnG P w K mg base CX0 9 f fd ["script"] (sp_lawT (TB2 Pt Pu) K) := by
  refine fnLG B sc_law (fun vs H Q E h => ?_) (fun A outer s H vs Q E hr hgd h => ⟨_, (pss_cons (ps_set (i := 1) sc_law.nd rfl (by first | exact Or.inl rfl | exact Or.inr rfl) (pe_ca c__law_heap hr (by first | decide | (simp only [Nat.add_eq]; omega)) pass0 (pa_cons (pv 0) (pa_cons pe_int pa_nil))))
    (pss_cons (ps_set (i := 2) sc_law.nd rfl (by first | exact Or.inl rfl | exact Or.inr rfl) (pe_ca c__law_heights hr (by first | decide | (simp only [Nat.add_eq]; omega)) pass0 (pa_cons (pv 1) pa_nil)))
    (pss_cons (ps_if (PW.pt (pw_or (pt_not (pt_val (pe_caG c__law_yard_right hr (by first | decide | (simp only [Nat.add_eq]; omega)) hgd pass0 (pa_cons (pv 1) (pa_cons (pv 2) pa_nil))))) (pw_or1 (pt_not (pt_val (pe_caG c__law_yard_right hr (by first | decide | (simp only [Nat.add_eq]; omega)) hgd pass0 (pa_cons (pv 1) (pa_cons (pe_ca c__law_heights hr (by first | decide | (simp only [Nat.add_eq]; omega)) pass0 (pa_cons (pv 1) pa_nil)) pa_nil))))))))
     (pss_one (ps_ret pe_bl))
     pss_nil)
    (pss_cons (ps_asg (pe_tup (pa_cons (pe_mk c_Yard hr (by first | decide | (simp only [Nat.add_eq]; omega)) passL (pa_cons (pv 2) pa_nil)) (pa_cons (pe_ca c__law_many hr (by first | decide | (simp only [Nat.add_eq]; omega)) pass0 (pa_cons (pv 1) (pa_cons (pv 2) (pa_cons pe_int pa_nil)))) pa_nil))) (EX.pg_tupk (K := K) (n := 2) rfl rfl (pgs_cons (pg_name (i := 5) sc_law.nd rfl (by first | exact Or.inl rfl | exact Or.inr rfl)) (pgs_cons (pg_name (i := 6) sc_law.nd rfl (by first | exact Or.inl rfl | exact Or.inr rfl)) pgs_nil))))
    (pss_cons (ps_set (i := 3) sc_law.nd rfl (by first | exact Or.inl rfl | exact Or.inr rfl) (pe_ca c__law_names hr (by first | decide | (simp only [Nat.add_eq]; omega)) pass0 (pa_cons (pv 1) (pa_cons (pe_op op_addU (pv 6) pe_int) pa_nil))))
    (pss_cons (ps_for PassesOwn.never rfl (pi_range1 (by rfl) T.z_range (pa_cons pe_int pa_nil)) (pg_name (i := 4) sc_law.nd rfl (by first | exact Or.inl rfl | exact Or.inr rfl))
     (pss_cons (ps_set (i := 7) sc_law.nd rfl (by first | exact Or.inl rfl | exact Or.inr rfl) (pe_ca c__law_laid hr (by first | decide | (simp only [Nat.add_eq]; omega)) pass0 (pa_cons (pv 1) (pa_cons (pv 2) (pa_cons (pe_slice sl_U (pv 3) po_none (po_some (pv 6))) pa_nil)))))
     (pss_cons (ps_if (PW.pt (pw_or (pt_cmpR (op_neU hr.units) (pe_callB (LR.cr_repr rfl hgd hr.units) (by rfl) T.z_repr (by decide +kernel) (pa_cons (pe_ca c_need_standing hr (by first | decide | (simp only [Nat.add_eq]; omega)) passL (pa_cons (pv 5) (pa_cons (pv 7) pa_nil))) pa_nil)) pe_str (by first | exact nomark _ | rfl)) (pw_or1 (pt_not (pt_val (pe_caG c__law_lies_right hr (by first | decide | (simp only [Nat.add_eq]; omega)) hgd pass0 (pa_cons (pv 1) (pa_cons (pv 5) (pa_cons (pv 2) (pa_cons (pv 7) (pa_cons (pe_ix ix_seq (pv 3) (pv 6) (fun _ _ => rfl)) pa_nil)))))))))))
      (pss_one (ps_ret pe_bl))
      pss_nil)
     (pss_one (ps_for PassesOwn.never rfl (pi_range1 (by rfl) T.z_range (pa_cons pe_int pa_nil)) (pg_name (i := 8) sc_law.nd rfl (by first | exact Or.inl rfl | exact Or.inr rfl))
      (pss_cons (ps_set (i := 9) sc_law.nd rfl (by first | exact Or.inl rfl | exact Or.inr rfl) (pe_ca c__law_bent hr (by first | decide | (simp only [Nat.add_eq]; omega)) pass0 (pa_cons (pv 1) (pa_cons (pv 2) (pa_cons (pv 7) (pa_cons (pe_slice sl_U (pv 3) (po_some (pe_op op_addU (pv 6) pe_int)) po_none) pa_nil))))))
      (pss_cons (ps_set (i := 9) sc_law.nd rfl (by first | exact Or.inl rfl | exact Or.inr rfl) (pe_ifExp (pt_cmpR (op_eqU hr.units) (pe_ca c__law_draw hr (by first | decide | (simp only [Nat.add_eq]; omega)) pass0 (pa_cons (pv 1) (pa_cons pe_int pa_nil))) pe_int (by first | exact nomark _ | rfl)) (pe_ca c__law_bent hr (by first | decide | (simp only [Nat.add_eq]; omega)) pass0 (pa_cons (pv 1) (pa_cons (pv 2) (pa_cons (pv 9) (pa_cons (pe_slice sl_U (pv 3) (po_some (pe_op op_addU (pv 6) pe_int)) po_none) pa_nil))))) (pv 9)))
      (pss_cons (ps_set (i := 10) sc_law.nd rfl (by first | exact Or.inl rfl | exact Or.inr rfl) (pe_ca c__law_standing_fault hr (by first | decide | (simp only [Nat.add_eq]; omega)) pass0 (pa_cons (pv 2) (pa_cons (pv 9) pa_nil))))
      (pss_cons (ps_set (i := 11) sc_law.nd rfl (by first | exact Or.inl rfl | exact Or.inr rfl) (LM.pe_lam (k := 4) b__law_standing_told sc__law_standing_told rfl (.inl (by decide +kernel)) (fun _ => gives_standing T) TB rfl hr (by first | decide | (simp only [Nat.add_eq]; omega)) (LamX.lamS_by (sc := defScope s_law) (by decide +kernel)) rfl (fun _ _ _ _ _ => rfl) (fun A outer s H E f e hr => (pe_caK c_need_standing hr (by first | decide | (simp only [Nat.add_eq]; omega)) (passes_call (W := fun cls d _ H => E cls d H) (takes_of rfl rfl rfl rfl) (fun _ _ _ _ z => z)) (pk_cons (pv 5) (pk_cons (pv 9) pk_nil)))) rfl))
      (pss_cons (ps_if (pt_cmpR (op_neU hr.units) (pe_callB (LR.cr_repr rfl hgd hr.units) (by rfl) T.z_repr (by decide +kernel) (pa_cons (pv 11) pa_nil)) (pe_callB (LR.cr_repr rfl hgd hr.units) (by rfl) T.z_repr (by decide +kernel) (pa_cons (pe_ifExp (pt_cmpR op_notN (pv 10) pe_non (by first | exact nomark _ | rfl)) (pv 10) (pe_tup (pa_cons pe_non (pa_cons pe_non pa_nil)))) pa_nil)) (by first | exact nomark _ | rfl))
       (pss_one (ps_ret pe_bl))
       pss_nil)
      (pss_cons (ps_set (i := 11) sc_law.nd rfl (by first | exact Or.inl rfl | exact Or.inr rfl) (LM.pe_lam (k := 4) b__law_standing_told sc__law_standing_told rfl (.inl (by decide +kernel)) (fun _ => gives_standing T) TB rfl hr (by first | decide | (simp only [Nat.add_eq]; omega)) (LamX.lamS_by (sc := defScope s_law) (by decide +kernel)) rfl (fun _ _ _ _ _ => rfl) (fun A outer s H E f e hr => (pe_ca c_free_places hr (by first | decide | (simp only [Nat.add_eq]; omega)) (passes_call (W := fun cls d _ H => E cls d H) (takes_of rfl rfl rfl rfl) (fun _ _ _ _ z => z)) (pa_cons (pv 5) (pa_cons (pv 9) pa_nil)))) rfl))
      (pss_one (ps_if (PW.pt (pw_and (pt_cmpR op_notN (pv 10) pe_non (by first | exact nomark _ | rfl)) (pw_and1 (pt_cmpR (op_neU hr.units) (pe_callB (LR.cr_repr rfl hgd hr.units) (by rfl) T.z_repr (by decide +kernel) (pa_cons (pv 11) pa_nil)) (pe_callB (LR.cr_repr rfl hgd hr.units) (by rfl) T.z_repr (by decide +kernel) (pa_cons (pv 10) pa_nil)) (by first | exact nomark _ | rfl)))))
       (pss_one (ps_ret pe_bl))
       pss_nil)))))))))))))
    (pss_one (ps_ret pe_bl)))))))), ?_⟩)
  · obtain ⟨a, ns, rfl, _⟩ := h
    rfl
  · obtain ⟨a, ns, rfl, hs, hb, hT, hQ⟩ := h
    dsimp only [cxOf, Cx.nox]
    refine ⟨.ref a, rfl, a, 1, ns, rfl, hs, by decide, by decide, hb, fun v H1 r sm rl hr1 => ?_⟩
    refine law_start' (K := K) (E := E) (n := 10) (T := TB2 Pt Pu) (σ := L2.start ["script", "heap", "heights", "names", "turn", "yard", "many", "standing", "change", "value", "due", "told"] [.ref a]) sm rl hr1 hT hQ rfl fun F O hF => ?_
    clear hs hb hQ sm rl hr1 hT
    have mT : ∀ {q : Str}, q = "law.<locals>.<lambda>" → (Pu, q) ∈ F.t := fun {q} e => by
      rw [e, hF]
      exact List.mem_cons_of_mem _ List.mem_cons_self
    have fT : FnT F.t := by
      rw [hF]
      exact fnT_two ne_P
    walk_at "d0"
    walk_at "n"
    refine cv_GN () rfl rfl rfl trivial fun r hr => ?_
    obtain ⟨hs, rfl, ho⟩ := hr
    obtain ⟨s3, s144⟩ := ho.sum
    have h12 := ho.2.1
    walk_at "n"
    walk_at "s"
    refine sv_if ?_
    walk_at "n"
    refine cv_GN hs rfl rfl rfl ho fun r hr => ?_
    subst hr
    walk_at "n"
    refine ⟨fun _ => ?_, fun z => nomatch z⟩
    walk_at "n"
    refine cv_GN () rfl rfl rfl trivial fun r hr => ?_
    obtain ⟨hs2, rfl, ho2⟩ := hr
    walk_at "n"
    refine cv_GN hs2 rfl rfl rfl ho2 fun r hr => ?_
    subst hr
    walk_at "n"
    refine ⟨(fun z => nomatch z), fun _ => ?_⟩
    walk_at "n"
    clear ho2
    refine sv_asg ?_
    walk_at "n"
    refine ev_makeN ?_
    walk_at "n"
    refine ⟨rfl, .lst (by rw [List.length_map]; omega) (fun x hx => by obtain ⟨h, _, rfl⟩ := List.mem_map.mp hx; exact .int h), fun C f x z => ?_, ?_⟩
    · obtain ⟨_, _, i, e, _⟩ := z
      rw [yF_hs ho rfl] at e
      cases e
    walk_at "n"
    refine cv_GN (hs, 40) rfl rfl rfl ho fun r hr => ?_
    obtain ⟨m, rfl, m40, msum⟩ := hr
    dsimp only at m40 msum
    walk_at "n"
    refine gv_tup rfl (gsv_cons (gv_name ⟨ltb rfl, gsv_cons (gv_name ⟨ltb rfl, gsv_nil ?_⟩)⟩))
    walk_at "s"
    walk_at "n"
    refine cv_GN (m + 14) rfl rfl rfl (by omega) fun r hr => ?_
    obtain ⟨ys, rfl, yl, ynd, yok⟩ := hr
    walk_at "n"
    walk_at "s"
    refine sv_for (wv_range1 ?_)
    walk_at "n"
    refine ⟨rfl, _, rfl, by decide, by decide, fun i om' sl' => ∃ (t4 t7 t8 t9 t10 t11 : Option DL.E), om' = [] ∧ sl' = [none, some .l, some (.v (.lst (hs.map .int))), some (.v (.lst (ys.map .str))), t4, some (.v (yardD CY hs)), some (.v (.int (m : Int))), t7, t8, t9, t10, t11], ⟨_, _, _, _, _, _, rfl, rfl⟩, ?_, ?_⟩
    · rintro i d' om' sl' hd' ⟨t4, t7, t8, t9, t10, t11, rfl, rfl⟩
      have hi := (List.getElem?_eq_some_iff.mp hd').1
      rw [rgD_len] at hi
      rw [rgD_get hi, Int.zero_add] at hd'
      cases hd'
      refine gv_name ⟨ltb rfl, ?_⟩
      walk_at "s"
      walk_at "n"
      refine lv_l rfl ?_
      rw [cut_to, ← List.map_take]
      walk_at "n"
      refine cv_GN (hs, ys.take m) rfl rfl rfl ⟨(hs_1000 ho).1, (hs_1000 ho).2, by show ((ys.take m).length : Int) ≤ hs.sum; rw [List.length_take]; omega, by rw [List.length_take]; omega⟩ fun r hr => ?_
      obtain ⟨rows, rfl, lo⟩ := hr
      have so : StOk hs rows := laid_ok lo (ynd.sublist (List.take_sublist _ _)) fun y hy => yok y (List.mem_of_mem_take hy)
      clear lo
      walk_at "n"
      walk_at "s"
      refine sv_if ?_
      walk_at "n"
      refine cv_wk (.cons (wk_refl _) (.cons wk_tf .nil)) ?_
      refine cv_G (hs, stD rows) rfl rfl ⟨ho, sh_st ho so⟩ (fun C f x z => by obtain ⟨_, _, i, e, _⟩ := z; rw [sF_ok so] at e; cases e) fun r hr => ?_
      obtain ⟨rfl, _⟩ := hr
      walk_at "n"
      refine cv_reprT rfl tw_non (by decide) (by decide) ?_
      walk_at "n"
      rw [show decide ((DL.D.py .non).shown = (Str.ofString "None")) = true from by decide +kernel]
      refine ⟨fun _ => ?_, fun z => nomatch z⟩
      walk_at "n"
      refine ov_ixL rfl (atI_n (by rw [List.getElem?_map, List.getElem?_eq_getElem (by omega)]; rfl)) ?_
      walk_at "n"
      refine cv_GNT (c := ⟨F, O, H1, K⟩) (hs, rows, ys[m]) hF rfl rfl rfl ⟨ho, so⟩ fun r hr => ?_
      subst hr
      walk_at "n"
      refine ⟨(fun z => nomatch z), fun _ => ?_⟩
      walk_at "n"
      refine sv_for (wv_range1 ?_)
      walk_at "n"
      refine ⟨rfl, _, rfl, by decide, by decide, fun j om' sl' => ∃ (t8 t9 t10 t11 : Option DL.E), om' = [] ∧ sl' = [none, some .l, some (.v (.lst (hs.map .int))), some (.v (.lst (ys.map .str))), some (.v (.int (i : Int))), some (.v (yardD CY hs)), some (.v (.int (m : Int))), some (.v (stF rows)), t8, t9, t10, t11], ⟨_, _, _, _, rfl, rfl⟩, ?_, ?_⟩
      · rintro j d' om' sl' hd' ⟨t8, t9, t10, t11, rfl, rfl⟩
        have hj := (List.getElem?_eq_some_iff.mp hd').1
        rw [rgD_len] at hj
        rw [rgD_get hj, Int.zero_add] at hd'
        cases hd'
        refine gv_name ⟨ltb rfl, ?_⟩
        walk_at "s"
        walk_at "n"
        refine lv_l rfl ?_
        rw [show (m : Int) + 1 = ((m + 1 : Nat) : Int) by omega, cut_fr, ← List.map_drop]
        walk_at "n"
        have spl : (ys.drop (m + 1)).length = 13 := by rw [List.length_drop]; omega
        have spy : ∀ y ∈ ys.drop (m + 1), y.length ≤ 1000 := fun y hy => by have := (yok y (List.mem_of_mem_drop hy)).2.1; omega
        refine cv_wk (.cons (wk_refl _) (.cons (wk_refl _) (.cons wk_tf (.cons (wk_refl _) .nil)))) ?_
        refine cv_GN (12, hs, stD rows, ys.drop (m + 1)) rfl rfl rfl ⟨⟨Nat.le_refl 12, show 12 ≤ 600 by decide⟩, ho, sh_st ho so (m := 12), spl, spy⟩ fun d hd1 => ?_
        walk_at "n"
        walk_at "s"
        refine ev_mono (P := fun e om1 => ∃ d, e = .v d ∧ Sh 900 d ∧ om1 = []) ?_ ?_
        · refine ev_if ?_
          walk_at "n"
          refine cv_draw (by decide) (by decide) fun a ha => ?_
          walk_at "n"
          refine ⟨fun _ => ?_, fun _ => ?_⟩
          · walk_at "n"
            refine lv_l rfl ?_
            rw [show (m : Int) + 1 = ((m + 1 : Nat) : Int) by omega, cut_fr, ← List.map_drop]
            walk_at "n"
            refine cv_GN (26, hs, d, ys.drop (m + 1)) rfl rfl rfl ⟨⟨show 12 ≤ 26 by decide, show 26 ≤ 600 by decide⟩, ho, hd1, spl, spy⟩ fun d2 hd2 => ?_
            exact ⟨d2, rfl, hd2.mono (show 26 + 14 ≤ 900 by decide), rfl⟩
          · walk_at "n"
            exact ⟨hd1.mono (show 12 + 14 ≤ 900 by decide), rfl⟩
        clear hd1
        rintro e om1 ⟨d, rfl, hd, rfl⟩
        refine ⟨ltb rfl, ?_⟩
        walk_at "n"
        refine cv_G (hs, d) rfl rfl ⟨ho, hd⟩ (fun _ _ _ z => z) fun r hr => ?_
        subst hr
        walk_at "n"
        refine ev_mono (P := fun e om1 => e = .v (toldD (sF hs d)) ∧ om1 = []) ?_ ?_
        · refine ev_lamS (mT rfl) fT ?_
          walk_at "n"
          refine ⟨rfl, (hs, d), rfl, rfl, ⟨ho, hd⟩, fun C' f x hx => ?_, fun r hr => ?_⟩
          · obtain ⟨h1, h2, i, h3, rfl⟩ := hx
            exact ⟨h1, h2, by rw [h3]; rfl, rfl⟩
          · obtain ⟨rfl, h1⟩ := hr
            exact ⟨by rw [h1]; rfl, rfl⟩
        rintro e om1 ⟨rfl, rfl⟩
        refine ⟨ltb rfl, ?_⟩
        refine sv_seq (sv_if ?_)
        walk_at "n"
        refine cv_reprT rfl (tw_told ho d) (by decide) (by decide) ?_
        walk_at "n"
        refine ev_mono (P := fun e om1 => e = .v (toldD (sF hs d)) ∧ om1 = []) ?_ ?_
        · refine ev_if ?_
          walk_at "n"
          cases e : sF hs d with
          | none =>
            refine ov_notN (b := false) (fun O H v r => by cases r; rfl) ?_
            walk_at "n"
            refine ⟨(fun z => nomatch z), fun _ => ?_⟩
            walk_at "n"
            exact ⟨rfl, rfl⟩
          | some i =>
            refine ov_notN (b := true) (fun O H v r => by cases r; rfl) ?_
            walk_at "n"
            refine ⟨fun _ => ?_, fun z => nomatch z⟩
            walk_at "n"
            exact ⟨rfl, rfl⟩
        rintro e om1 ⟨rfl, rfl⟩
        walk_at "n"
        refine cv_reprT rfl (tw_told ho d) (by decide) (by decide) ?_
        walk_at "n"
        rw [decide_eq_true rfl]
        refine ⟨(fun z => nomatch z), fun _ => ?_⟩
        walk_at "n"
        refine ev_mono (P := fun e om1 => (∃ t, e = .v t ∧ ∀ i, sF hs d = some i → t = .int i) ∧ om1 = []) ?_ ?_
        · refine ev_lamS (mT rfl) fT ?_
          walk_at "n"
          refine ⟨rfl, (hs, d), rfl, rfl, ⟨ho, hd⟩, fun C' f x hx => ?_, fun r hr => ?_⟩
          · obtain ⟨h1, h2, i, h3, rfl⟩ := hx
            exact ⟨h1, h2, ⟨_, rfl, fun i' h4 => by dsimp only at h3; rw [h3] at h4; cases h4; rfl⟩, rfl⟩
          · obtain ⟨rows', h1, h2, rfl⟩ := hr
            dsimp only at h1 h2
            exact ⟨⟨_, rfl, fun i' h4 => by rw [h1, sF_ok h2] at h4; cases h4⟩, rfl⟩
        rintro e om1 ⟨⟨t, rfl, ht⟩, rfl⟩
        refine ⟨ltb rfl, ?_⟩
        refine sv_if ?_
        walk_at "n"
        cases e : sF hs d with
        | none =>
          refine ov_notN (b := false) (fun O H v r => by cases r; rfl) ?_
          walk_at "n"
          refine ⟨(fun z => nomatch z), fun _ => ?_⟩
          refine ⟨(fun z => nomatch z), fun _ => ?_⟩
          walk_at "n"
          exact ⟨_, _, _, _, rfl, rfl⟩
        | some i =>
          have et := ht i e
          subst et
          have tw := sF_tw ho e
          refine ov_notN (b := true) (fun O H v r => by cases r; rfl) ?_
          walk_at "n"
          refine ⟨fun _ => ?_, fun z => nomatch z⟩
          walk_at "n"
          refine cv_reprT rfl tw (by decide) (by decide) ?_
          walk_at "n"
          refine cv_reprT rfl tw (by decide) (by decide) ?_
          walk_at "n"
          rw [show decide ((D.int i).py.shown = (optD (some i)).py.shown) = true from decide_eq_true rfl]
          refine ⟨(fun z => nomatch z), fun _ => ?_⟩
          walk_at "n"
          exact ⟨_, _, _, _, rfl, rfl⟩
      · rintro om' sl' ⟨t8, t9, t10, t11, rfl, rfl⟩
        exact ⟨_, _, _, _, _, _, rfl, rfl⟩
    · rintro om' sl' ⟨t4, t7, t8, t9, t10, t11, rfl, rfl⟩
      walk_at "n"
      rfl
end
end K01
set_option Elab.async false
set_option linter.all false
set_option maxRecDepth 100000
/-! what the head says of a class of errors, checked at once -/
namespace LM
open PySem PySem.Spec PyProof.Rows L2 DL HL
def chkE (K : PySem.W.Frag) (C : Addr) : Bool :=
  decide (PySem.W.findIn K (.ref C) "__getattribute__" = some (some (.builtin "BaseException.__getattribute__"))) && (decide (PySem.W.findIn K (.ref C) "__getattr__" = some none) && (decide (PySem.W.subIn K (.ref C) (.type "BaseException") = some true) &&
  (PySem.W.hasDictIn K C && (decide (PySem.W.findIn K (.ref C) "__class__" = some (some (.builtin "object.__class__"))) && (decide (PySem.W.specialIn K (.builtin "object.__class__") "__get__" = some (some (.builtin "getset_descriptor.__get__"))) &&
  (decide (PySem.W.takesIn K (.builtin "object.__class__") = some true) && decide (PySem.W.mroIn K C (.type "object") = some true)))))))
theorem chkE_ok {K : PySem.W.Frag} {C : Addr} (h : chkE K C = true) : ExcC K C := by
  unfold chkE at h
  simp only [Bool.and_eq_true, decide_eq_true_eq] at h
  obtain ⟨h1, h2, h3, h4, h5, h6, h7, h8⟩ := h
  exact ⟨h1, h2, h3, h4, h5, h6, h7, h8⟩
end LM
set_option Elab.async false
set_option linter.all false
set_option maxRecDepth 100000
set_option maxHeartbeats 0
namespace K01
open PySem PySem.Spec PyProof.Rows L2 DL HL CM STX NM DX TT RO LM SG SX MV
theorem bits_lt {z : Int} (h : Builtin.Int.intBits z ≤ 1048576) : z.natAbs < 2 ^ 1048640 := by
  have e : z.natAbs < 2 ^ (Builtin.Int.intBits z) := by
    unfold Builtin.Int.intBits
    by_cases c : z = 0
    · subst c
      decide
    · have cb : (z == 0) = false := by simpa using c
      rw [cb, if_neg Bool.false_ne_true]
      exact Nat.lt_log2_self
  exact Nat.lt_of_lt_of_le e (Nat.pow_le_pow_right (by decide) (Nat.le_trans h (by decide)))
theorem vals_rev : ∀ {xs : List V} {us : List Value}, Vals xs us → Vals xs.reverse us.reverse
  | _, _, .nil => .nil
  | _, _, .cons a r => by
    rw [List.reverse_cons, List.reverse_cons]
    exact (vals_rev r).append (.cons a .nil)
/-! ### what the head says -/
def chkC (K : PySem.W.Frag) (C : Addr) : Bool :=
  decide (PySem.W.findIn K (.ref C) "__getattribute__" = some (some (.builtin "BaseException.__getattribute__"))) && (decide (PySem.W.findIn K (.ref C) "__getattr__" = some none) && (decide (PySem.W.subIn K (.ref C) (.type "BaseException") = some true) &&
  (PySem.W.hasDictIn K C && (decide (PySem.W.typeIn K (.ref C) = some (.type "type")) && PySem.W.keepIn K (.ref C)))))
def chkX (K : PySem.W.Frag) (C fI : Addr) (f : Str) : Bool :=
  decide (PySem.W.findIn K (.ref C) "__setattr__" = some (some (.builtin "object.__setattr__"))) && (decide (PySem.W.findIn K (.ref C) f = some none) && (decide (PySem.W.typeIn K (.ref fI) = some (.type "function")) && decide (PySem.W.findIn K (.ref C) "__init__" = some (some (.ref fI)))))
theorem mkX {K : PySem.W.Frag} {h : Heap} {mg : Str → Option Value} {nm f : Str} {C fI : Addr} (X : K.In h) (G : h.Ns mainGlobals mg) {B newId initId : String} {bmB bm : List Value} (FB : ExcBaseFacts B newId initId bmB) (ch : EX.Ch B bm) (f3 : EX.F3 f)
    (n : PySem.W.nsIn K mainGlobals nm = some (some (.ref C))) (c : chkC K C = true) (x : chkX K C fI f = true)
    (l : ∃ n q N bs sn sub ab col dd k0 k1 k2 k3 k5, K.lookup C = some (excClassObj n q C N bs bm true sn sub ab col dd k0 k1 k2 k3 k5 newId))
    (fn : ∃ (oc : Value) (od : Option Addr) (doc pm : Value) (an : Option Addr) (cdv ct : Value) (osl : Array (Option Value)) (p1 p2 q1 q2 q3 q4 : Pos) (qn : Str),
      K.lookup fI = some ⟨oc, od, .func (PySem.W.fnOf "__init__" qn (EX.inA f p1 p2) (EX.inB f q1 q2 q3 q4) (EX.inS f) .none .none doc pm an cdv ct), osl⟩ ∧ PySem.W.codeIn K cdv qn = true) : EX.XT K mg nm f C fI := by
  unfold chkC at c
  simp only [Bool.and_eq_true, decide_eq_true_eq] at c
  obtain ⟨c1, c2, c3, c4, c5, c6⟩ := c
  unfold chkX at x
  simp only [Bool.and_eq_true, decide_eq_true_eq] at x
  obtain ⟨x1, x2, x3, x4⟩ := x
  exact ⟨f3, PySem.W.mg_of X G n, ⟨B, newId, initId, bmB, bm, FB, ch, l⟩, x1, c1, c2, x2, x4, x3, c6, c3, c5, c4, fn⟩
def chkY (K : PySem.W.Frag) (C f : Addr) (a : Str) : Bool :=
  PySem.W.plainGet K C Str.empty && (PySem.W.hasDictIn K C && (PySem.W.plainOver K C && (decide (PySem.W.findIn K (.ref C) "__setattr__" = some (some (.builtin "object.__setattr__"))) && (decide (PySem.W.findIn K (.ref C) a = some none) &&
  (PySem.W.makesIn K C && (decide (PySem.W.findIn K (.ref C) "__init__" = some (some (.ref f))) && (PySem.W.isFn K (.ref f) && PySem.W.keepIn K (.ref C))))))))
theorem chkY_ok {K : PySem.W.Frag} {C f : Addr} {a : Str} (c : chkY K C f a = true) : Cls K C ∧ NoAttr K C a ∧ Mk K C f := by
  unfold chkY at c
  simp only [Bool.and_eq_true, decide_eq_true_eq] at c
  obtain ⟨c1, c2, c3, c4, c5, c6, c7, c8, c9⟩ := c
  exact ⟨⟨c1, c2, c3, c4⟩, c5, ⟨c6, c7, c8, c9⟩⟩
/-- a def of the text, as the head tells it -/
theorem db__law_name_told {K : PySem.W.Frag} {h : Heap} {mg : Str → Option Value} (X : K.In h) (G : h.Ns mainGlobals mg) {f : Addr} {oc kV dc pm cd ct : Value} {od an : Option Addr} {sl : Array (Option Value)} (a : PySem.W.nsIn K mainGlobals "_law_name_told" = some (some (.ref f)))
    (l : K.lookup f = some ⟨oc, od, .func (PySem.W.fnOf "_law_name_told" "_law_name_told" (defArgs s__law_name_told) (defBody s__law_name_told) (defScope s__law_name_told) .none kV dc pm an cd ct), sl⟩) (c : PySem.W.codeIn K cd "_law_name_told" = true) (k : PySem.W.keepIn K (.ref f) = true) :
    DefB K mg "_law_name_told" s__law_name_told ["work"] f (PySem.W.fnOf "_law_name_told" "_law_name_told" (defArgs s__law_name_told) (defBody s__law_name_told) (defScope s__law_name_told) .none kV dc pm an cd ct) := by
  have F := fun_mk (st := s__law_name_told) l c k
  refine ⟨F, PySem.W.mg_of X G a, F.binds (ps := ["work"]) (fun _ _ _ _ _ _ us hl => match us, hl with | [_], _ => rfl), ⟨fun s us ws _ hu hw => ?_, fun _ r => r⟩⟩
  match us, ws, hu, hw with
  | [], [_], _, _ => exact .of_eq (by first | rfl | with_unfolding_all rfl)
/-- a def of the text, as the head tells it -/
theorem db__law_standing_told {K : PySem.W.Frag} {h : Heap} {mg : Str → Option Value} (X : K.In h) (G : h.Ns mainGlobals mg) {f : Addr} {oc kV dc pm cd ct : Value} {od an : Option Addr} {sl : Array (Option Value)} (a : PySem.W.nsIn K mainGlobals "_law_standing_told" = some (some (.ref f)))
    (l : K.lookup f = some ⟨oc, od, .func (PySem.W.fnOf "_law_standing_told" "_law_standing_told" (defArgs s__law_standing_told) (defBody s__law_standing_told) (defScope s__law_standing_told) .none kV dc pm an cd ct), sl⟩) (c : PySem.W.codeIn K cd "_law_standing_told" = true) (k : PySem.W.keepIn K (.ref f) = true) :
    DefB K mg "_law_standing_told" s__law_standing_told ["work"] f (PySem.W.fnOf "_law_standing_told" "_law_standing_told" (defArgs s__law_standing_told) (defBody s__law_standing_told) (defScope s__law_standing_told) .none kV dc pm an cd ct) := by
  have F := fun_mk (st := s__law_standing_told) l c k
  refine ⟨F, PySem.W.mg_of X G a, F.binds (ps := ["work"]) (fun _ _ _ _ _ _ us hl => match us, hl with | [_], _ => rfl), ⟨fun s us ws _ hu hw => ?_, fun _ r => r⟩⟩
  match us, ws, hu, hw with
  | [], [_], _, _ => exact .of_eq (by first | rfl | with_unfolding_all rfl)
/-- a def of the text, as the head tells it -/
theorem db__law_draw {K : PySem.W.Frag} {h : Heap} {mg : Str → Option Value} (X : K.In h) (G : h.Ns mainGlobals mg) {f : Addr} {oc kV dc pm cd ct : Value} {od an : Option Addr} {sl : Array (Option Value)} (a : PySem.W.nsIn K mainGlobals "_law_draw" = some (some (.ref f)))
    (l : K.lookup f = some ⟨oc, od, .func (PySem.W.fnOf "_law_draw" "_law_draw" (defArgs s__law_draw) (defBody s__law_draw) (defScope s__law_draw) .none kV dc pm an cd ct), sl⟩) (c : PySem.W.codeIn K cd "_law_draw" = true) (k : PySem.W.keepIn K (.ref f) = true) :
    DefB K mg "_law_draw" s__law_draw ["heap", "many"] f (PySem.W.fnOf "_law_draw" "_law_draw" (defArgs s__law_draw) (defBody s__law_draw) (defScope s__law_draw) .none kV dc pm an cd ct) := by
  have F := fun_mk (st := s__law_draw) l c k
  refine ⟨F, PySem.W.mg_of X G a, F.binds (ps := ["heap", "many"]) (fun _ _ _ _ _ _ us hl => match us, hl with | [_, _], _ => rfl), ⟨fun s us ws _ hu hw => ?_, fun _ r => r⟩⟩
  match us, ws, hu, hw with
  | [], [_, _], _, _ => exact .of_eq (by first | rfl | with_unfolding_all rfl)
/-- a def of the text, as the head tells it -/
theorem db__law_pick {K : PySem.W.Frag} {h : Heap} {mg : Str → Option Value} (X : K.In h) (G : h.Ns mainGlobals mg) {f : Addr} {oc kV dc pm cd ct : Value} {od an : Option Addr} {sl : Array (Option Value)} (a : PySem.W.nsIn K mainGlobals "_law_pick" = some (some (.ref f)))
    (l : K.lookup f = some ⟨oc, od, .func (PySem.W.fnOf "_law_pick" "_law_pick" (defArgs s__law_pick) (defBody s__law_pick) (defScope s__law_pick) .none kV dc pm an cd ct), sl⟩) (c : PySem.W.codeIn K cd "_law_pick" = true) (k : PySem.W.keepIn K (.ref f) = true) :
    DefB K mg "_law_pick" s__law_pick ["heap", "some"] f (PySem.W.fnOf "_law_pick" "_law_pick" (defArgs s__law_pick) (defBody s__law_pick) (defScope s__law_pick) .none kV dc pm an cd ct) := by
  have F := fun_mk (st := s__law_pick) l c k
  refine ⟨F, PySem.W.mg_of X G a, F.binds (ps := ["heap", "some"]) (fun _ _ _ _ _ _ us hl => match us, hl with | [_, _], _ => rfl), ⟨fun s us ws _ hu hw => ?_, fun _ r => r⟩⟩
  match us, ws, hu, hw with
  | [], [_, _], _, _ => exact .of_eq (by first | rfl | with_unfolding_all rfl)
/-- a def of the text, as the head tells it -/
theorem db__law_mixed {K : PySem.W.Frag} {h : Heap} {mg : Str → Option Value} (X : K.In h) (G : h.Ns mainGlobals mg) {f : Addr} {oc kV dc pm cd ct : Value} {od an : Option Addr} {sl : Array (Option Value)} (a : PySem.W.nsIn K mainGlobals "_law_mixed" = some (some (.ref f)))
    (l : K.lookup f = some ⟨oc, od, .func (PySem.W.fnOf "_law_mixed" "_law_mixed" (defArgs s__law_mixed) (defBody s__law_mixed) (defScope s__law_mixed) .none kV dc pm an cd ct), sl⟩) (c : PySem.W.codeIn K cd "_law_mixed" = true) (k : PySem.W.keepIn K (.ref f) = true) :
    DefB K mg "_law_mixed" s__law_mixed ["heap", "some"] f (PySem.W.fnOf "_law_mixed" "_law_mixed" (defArgs s__law_mixed) (defBody s__law_mixed) (defScope s__law_mixed) .none kV dc pm an cd ct) := by
  have F := fun_mk (st := s__law_mixed) l c k
  refine ⟨F, PySem.W.mg_of X G a, F.binds (ps := ["heap", "some"]) (fun _ _ _ _ _ _ us hl => match us, hl with | [_, _], _ => rfl), ⟨fun s us ws _ hu hw => ?_, fun _ r => r⟩⟩
  match us, ws, hu, hw with
  | [], [_, _], _, _ => exact .of_eq (by first | rfl | with_unfolding_all rfl)
/-- a def of the text, as the head tells it -/
theorem db__law_heap {K : PySem.W.Frag} {h : Heap} {mg : Str → Option Value} (X : K.In h) (G : h.Ns mainGlobals mg) {f : Addr} {oc kV dc pm cd ct : Value} {od an : Option Addr} {sl : Array (Option Value)} (a : PySem.W.nsIn K mainGlobals "_law_heap" = some (some (.ref f)))
    (l : K.lookup f = some ⟨oc, od, .func (PySem.W.fnOf "_law_heap" "_law_heap" (defArgs s__law_heap) (defBody s__law_heap) (defScope s__law_heap) .none kV dc pm an cd ct), sl⟩) (c : PySem.W.codeIn K cd "_law_heap" = true) (k : PySem.W.keepIn K (.ref f) = true) :
    DefB K mg "_law_heap" s__law_heap ["script", "base"] f (PySem.W.fnOf "_law_heap" "_law_heap" (defArgs s__law_heap) (defBody s__law_heap) (defScope s__law_heap) .none kV dc pm an cd ct) := by
  have F := fun_mk (st := s__law_heap) l c k
  refine ⟨F, PySem.W.mg_of X G a, F.binds (ps := ["script", "base"]) (fun _ _ _ _ _ _ us hl => match us, hl with | [_, _], _ => rfl), ⟨fun s us ws _ hu hw => ?_, fun _ r => r⟩⟩
  match us, ws, hu, hw with
  | [], [_, _], _, _ => exact .of_eq (by first | rfl | with_unfolding_all rfl)
/-- a def of the text, as the head tells it -/
theorem db__law_heights {K : PySem.W.Frag} {h : Heap} {mg : Str → Option Value} (X : K.In h) (G : h.Ns mainGlobals mg) {f : Addr} {oc kV dc pm cd ct : Value} {od an : Option Addr} {sl : Array (Option Value)} (a : PySem.W.nsIn K mainGlobals "_law_heights" = some (some (.ref f)))
    (l : K.lookup f = some ⟨oc, od, .func (PySem.W.fnOf "_law_heights" "_law_heights" (defArgs s__law_heights) (defBody s__law_heights) (defScope s__law_heights) .none kV dc pm an cd ct), sl⟩) (c : PySem.W.codeIn K cd "_law_heights" = true) (k : PySem.W.keepIn K (.ref f) = true) :
    DefB K mg "_law_heights" s__law_heights ["heap"] f (PySem.W.fnOf "_law_heights" "_law_heights" (defArgs s__law_heights) (defBody s__law_heights) (defScope s__law_heights) .none kV dc pm an cd ct) := by
  have F := fun_mk (st := s__law_heights) l c k
  refine ⟨F, PySem.W.mg_of X G a, F.binds (ps := ["heap"]) (fun _ _ _ _ _ _ us hl => match us, hl with | [_], _ => rfl), ⟨fun s us ws _ hu hw => ?_, fun _ r => r⟩⟩
  match us, ws, hu, hw with
  | [], [_], _, _ => exact .of_eq (by first | rfl | with_unfolding_all rfl)
/-- a def of the text, as the head tells it -/
theorem db__law_many {K : PySem.W.Frag} {h : Heap} {mg : Str → Option Value} (X : K.In h) (G : h.Ns mainGlobals mg) {f : Addr} {oc kV dc pm cd ct : Value} {od an : Option Addr} {sl : Array (Option Value)} (a : PySem.W.nsIn K mainGlobals "_law_many" = some (some (.ref f)))
    (l : K.lookup f = some ⟨oc, od, .func (PySem.W.fnOf "_law_many" "_law_many" (defArgs s__law_many) (defBody s__law_many) (defScope s__law_many) .none kV dc pm an cd ct), sl⟩) (c : PySem.W.codeIn K cd "_law_many" = true) (k : PySem.W.keepIn K (.ref f) = true) :
    DefB K mg "_law_many" s__law_many ["heap", "heights", "most"] f (PySem.W.fnOf "_law_many" "_law_many" (defArgs s__law_many) (defBody s__law_many) (defScope s__law_many) .none kV dc pm an cd ct) := by
  have F := fun_mk (st := s__law_many) l c k
  refine ⟨F, PySem.W.mg_of X G a, F.binds (ps := ["heap", "heights", "most"]) (fun _ _ _ _ _ _ us hl => match us, hl with | [_, _, _], _ => rfl), ⟨fun s us ws _ hu hw => ?_, fun _ r => r⟩⟩
  match us, ws, hu, hw with
  | [], [_, _, _], _, _ => exact .of_eq (by first | rfl | with_unfolding_all rfl)
/-- a def of the text, as the head tells it -/
theorem db__law_laid {K : PySem.W.Frag} {h : Heap} {mg : Str → Option Value} (X : K.In h) (G : h.Ns mainGlobals mg) {f : Addr} {oc kV dc pm cd ct : Value} {od an : Option Addr} {sl : Array (Option Value)} (a : PySem.W.nsIn K mainGlobals "_law_laid" = some (some (.ref f)))
    (l : K.lookup f = some ⟨oc, od, .func (PySem.W.fnOf "_law_laid" "_law_laid" (defArgs s__law_laid) (defBody s__law_laid) (defScope s__law_laid) .none kV dc pm an cd ct), sl⟩) (c : PySem.W.codeIn K cd "_law_laid" = true) (k : PySem.W.keepIn K (.ref f) = true) :
    DefB K mg "_law_laid" s__law_laid ["heap", "heights", "names"] f (PySem.W.fnOf "_law_laid" "_law_laid" (defArgs s__law_laid) (defBody s__law_laid) (defScope s__law_laid) .none kV dc pm an cd ct) := by
  have F := fun_mk (st := s__law_laid) l c k
  refine ⟨F, PySem.W.mg_of X G a, F.binds (ps := ["heap", "heights", "names"]) (fun _ _ _ _ _ _ us hl => match us, hl with | [_, _, _], _ => rfl), ⟨fun s us ws _ hu hw => ?_, fun _ r => r⟩⟩
  match us, ws, hu, hw with
  | [], [_, _, _], _, _ => exact .of_eq (by first | rfl | with_unfolding_all rfl)
/-- a def of the text, as the head tells it -/
theorem db__law_names {K : PySem.W.Frag} {h : Heap} {mg : Str → Option Value} (X : K.In h) (G : h.Ns mainGlobals mg) {f : Addr} {oc kV dc pm cd ct : Value} {od an : Option Addr} {sl : Array (Option Value)} (a : PySem.W.nsIn K mainGlobals "_law_names" = some (some (.ref f)))
    (l : K.lookup f = some ⟨oc, od, .func (PySem.W.fnOf "_law_names" "_law_names" (defArgs s__law_names) (defBody s__law_names) (defScope s__law_names) .none kV dc pm an cd ct), sl⟩) (c : PySem.W.codeIn K cd "_law_names" = true) (k : PySem.W.keepIn K (.ref f) = true) :
    DefB K mg "_law_names" s__law_names ["heap", "many"] f (PySem.W.fnOf "_law_names" "_law_names" (defArgs s__law_names) (defBody s__law_names) (defScope s__law_names) .none kV dc pm an cd ct) := by
  have F := fun_mk (st := s__law_names) l c k
  refine ⟨F, PySem.W.mg_of X G a, F.binds (ps := ["heap", "many"]) (fun _ _ _ _ _ _ us hl => match us, hl with | [_, _], _ => rfl), ⟨fun s us ws _ hu hw => ?_, fun _ r => r⟩⟩
  match us, ws, hu, hw with
  | [], [_, _], _, _ => exact .of_eq (by first | rfl | with_unfolding_all rfl)
/-- a def of the text, as the head tells it -/
theorem db_is_whole {K : PySem.W.Frag} {h : Heap} {mg : Str → Option Value} (X : K.In h) (G : h.Ns mainGlobals mg) {f : Addr} {oc kV dc pm cd ct : Value} {od an : Option Addr} {sl : Array (Option Value)} (a : PySem.W.nsIn K mainGlobals "is_whole" = some (some (.ref f)))
    (l : K.lookup f = some ⟨oc, od, .func (PySem.W.fnOf "is_whole" "is_whole" (defArgs s_is_whole) (defBody s_is_whole) (defScope s_is_whole) .none kV dc pm an cd ct), sl⟩) (c : PySem.W.codeIn K cd "is_whole" = true) (k : PySem.W.keepIn K (.ref f) = true) :
    DefB K mg "is_whole" s_is_whole ["value"] f (PySem.W.fnOf "is_whole" "is_whole" (defArgs s_is_whole) (defBody s_is_whole) (defScope s_is_whole) .none kV dc pm an cd ct) := by
  have F := fun_mk (st := s_is_whole) l c k
  refine ⟨F, PySem.W.mg_of X G a, F.binds (ps := ["value"]) (fun _ _ _ _ _ _ us hl => match us, hl with | [_], _ => rfl), ⟨fun s us ws _ hu hw => ?_, fun _ r => r⟩⟩
  match us, ws, hu, hw with
  | [], [_], _, _ => exact .of_eq (by first | rfl | with_unfolding_all rfl)
/-- a def of the text, as the head tells it -/
theorem db_is_name {K : PySem.W.Frag} {h : Heap} {mg : Str → Option Value} (X : K.In h) (G : h.Ns mainGlobals mg) {f : Addr} {oc kV dc pm cd ct : Value} {od an : Option Addr} {sl : Array (Option Value)} (a : PySem.W.nsIn K mainGlobals "is_name" = some (some (.ref f)))
    (l : K.lookup f = some ⟨oc, od, .func (PySem.W.fnOf "is_name" "is_name" (defArgs s_is_name) (defBody s_is_name) (defScope s_is_name) .none kV dc pm an cd ct), sl⟩) (c : PySem.W.codeIn K cd "is_name" = true) (k : PySem.W.keepIn K (.ref f) = true) :
    DefB K mg "is_name" s_is_name ["value"] f (PySem.W.fnOf "is_name" "is_name" (defArgs s_is_name) (defBody s_is_name) (defScope s_is_name) .none kV dc pm an cd ct) := by
  have F := fun_mk (st := s_is_name) l c k
  refine ⟨F, PySem.W.mg_of X G a, F.binds (ps := ["value"]) (fun _ _ _ _ _ _ us hl => match us, hl with | [_], _ => rfl), ⟨fun s us ws _ hu hw => ?_, fun _ r => r⟩⟩
  match us, ws, hu, hw with
  | [], [_], _, _ => exact .of_eq (by first | rfl | with_unfolding_all rfl)
/-- a def of the text, as the head tells it -/
theorem db__law_odd {K : PySem.W.Frag} {h : Heap} {mg : Str → Option Value} (X : K.In h) (G : h.Ns mainGlobals mg) {f : Addr} {oc kV dc pm cd ct : Value} {od an : Option Addr} {sl : Array (Option Value)} (a : PySem.W.nsIn K mainGlobals "_law_odd" = some (some (.ref f)))
    (l : K.lookup f = some ⟨oc, od, .func (PySem.W.fnOf "_law_odd" "_law_odd" (defArgs s__law_odd) (defBody s__law_odd) (defScope s__law_odd) .none kV dc pm an cd ct), sl⟩) (c : PySem.W.codeIn K cd "_law_odd" = true) (k : PySem.W.keepIn K (.ref f) = true) :
    DefB K mg "_law_odd" s__law_odd ["heap"] f (PySem.W.fnOf "_law_odd" "_law_odd" (defArgs s__law_odd) (defBody s__law_odd) (defScope s__law_odd) .none kV dc pm an cd ct) := by
  have F := fun_mk (st := s__law_odd) l c k
  refine ⟨F, PySem.W.mg_of X G a, F.binds (ps := ["heap"]) (fun _ _ _ _ _ _ us hl => match us, hl with | [_], _ => rfl), ⟨fun s us ws _ hu hw => ?_, fun _ r => r⟩⟩
  match us, ws, hu, hw with
  | [], [_], _, _ => exact .of_eq (by first | rfl | with_unfolding_all rfl)
/-- a def of the text, as the head tells it -/
theorem db__law_bent_heights {K : PySem.W.Frag} {h : Heap} {mg : Str → Option Value} (X : K.In h) (G : h.Ns mainGlobals mg) {f : Addr} {oc kV dc pm cd ct : Value} {od an : Option Addr} {sl : Array (Option Value)} (a : PySem.W.nsIn K mainGlobals "_law_bent_heights" = some (some (.ref f)))
    (l : K.lookup f = some ⟨oc, od, .func (PySem.W.fnOf "_law_bent_heights" "_law_bent_heights" (defArgs s__law_bent_heights) (defBody s__law_bent_heights) (defScope s__law_bent_heights) .none kV dc pm an cd ct), sl⟩) (c : PySem.W.codeIn K cd "_law_bent_heights" = true) (k : PySem.W.keepIn K (.ref f) = true) :
    DefB K mg "_law_bent_heights" s__law_bent_heights ["heap", "heights"] f (PySem.W.fnOf "_law_bent_heights" "_law_bent_heights" (defArgs s__law_bent_heights) (defBody s__law_bent_heights) (defScope s__law_bent_heights) .none kV dc pm an cd ct) := by
  have F := fun_mk (st := s__law_bent_heights) l c k
  refine ⟨F, PySem.W.mg_of X G a, F.binds (ps := ["heap", "heights"]) (fun _ _ _ _ _ _ us hl => match us, hl with | [_, _], _ => rfl), ⟨fun s us ws _ hu hw => ?_, fun _ r => r⟩⟩
  match us, ws, hu, hw with
  | [], [_, _], _, _ => exact .of_eq (by first | rfl | with_unfolding_all rfl)
/-- a def of the text, as the head tells it -/
theorem db__law_yard_fault {K : PySem.W.Frag} {h : Heap} {mg : Str → Option Value} (X : K.In h) (G : h.Ns mainGlobals mg) {f : Addr} {oc kV dc pm cd ct : Value} {od an : Option Addr} {sl : Array (Option Value)} (a : PySem.W.nsIn K mainGlobals "_law_yard_fault" = some (some (.ref f)))
    (l : K.lookup f = some ⟨oc, od, .func (PySem.W.fnOf "_law_yard_fault" "_law_yard_fault" (defArgs s__law_yard_fault) (defBody s__law_yard_fault) (defScope s__law_yard_fault) .none kV dc pm an cd ct), sl⟩) (c : PySem.W.codeIn K cd "_law_yard_fault" = true) (k : PySem.W.keepIn K (.ref f) = true) :
    DefB K mg "_law_yard_fault" s__law_yard_fault ["value"] f (PySem.W.fnOf "_law_yard_fault" "_law_yard_fault" (defArgs s__law_yard_fault) (defBody s__law_yard_fault) (defScope s__law_yard_fault) .none kV dc pm an cd ct) := by
  have F := fun_mk (st := s__law_yard_fault) l c k
  refine ⟨F, PySem.W.mg_of X G a, F.binds (ps := ["value"]) (fun _ _ _ _ _ _ us hl => match us, hl with | [_], _ => rfl), ⟨fun s us ws _ hu hw => ?_, fun _ r => r⟩⟩
  match us, ws, hu, hw with
  | [], [_], _, _ => exact .of_eq (by first | rfl | with_unfolding_all rfl)
/-- a def of the text, as the head tells it -/
theorem db__law_yard_told {K : PySem.W.Frag} {h : Heap} {mg : Str → Option Value} (X : K.In h) (G : h.Ns mainGlobals mg) {f : Addr} {oc kV dc pm cd ct : Value} {od an : Option Addr} {sl : Array (Option Value)} (a : PySem.W.nsIn K mainGlobals "_law_yard_told" = some (some (.ref f)))
    (l : K.lookup f = some ⟨oc, od, .func (PySem.W.fnOf "_law_yard_told" "_law_yard_told" (defArgs s__law_yard_told) (defBody s__law_yard_told) (defScope s__law_yard_told) .none kV dc pm an cd ct), sl⟩) (c : PySem.W.codeIn K cd "_law_yard_told" = true) (k : PySem.W.keepIn K (.ref f) = true) :
    DefB K mg "_law_yard_told" s__law_yard_told ["value"] f (PySem.W.fnOf "_law_yard_told" "_law_yard_told" (defArgs s__law_yard_told) (defBody s__law_yard_told) (defScope s__law_yard_told) .none kV dc pm an cd ct) := by
  have F := fun_mk (st := s__law_yard_told) l c k
  refine ⟨F, PySem.W.mg_of X G a, F.binds (ps := ["value"]) (fun _ _ _ _ _ _ us hl => match us, hl with | [_], _ => rfl), ⟨fun s us ws _ hu hw => ?_, fun _ r => r⟩⟩
  match us, ws, hu, hw with
  | [], [_], _, _ => exact .of_eq (by first | rfl | with_unfolding_all rfl)
/-- a def of the text, as the head tells it -/
theorem db__law_yard_right {K : PySem.W.Frag} {h : Heap} {mg : Str → Option Value} (X : K.In h) (G : h.Ns mainGlobals mg) {f : Addr} {oc kV dc pm cd ct : Value} {od an : Option Addr} {sl : Array (Option Value)} (a : PySem.W.nsIn K mainGlobals "_law_yard_right" = some (some (.ref f)))
    (l : K.lookup f = some ⟨oc, od, .func (PySem.W.fnOf "_law_yard_right" "_law_yard_right" (defArgs s__law_yard_right) (defBody s__law_yard_right) (defScope s__law_yard_right) .none kV dc pm an cd ct), sl⟩) (c : PySem.W.codeIn K cd "_law_yard_right" = true) (k : PySem.W.keepIn K (.ref f) = true) :
    DefB K mg "_law_yard_right" s__law_yard_right ["heap", "heights"] f (PySem.W.fnOf "_law_yard_right" "_law_yard_right" (defArgs s__law_yard_right) (defBody s__law_yard_right) (defScope s__law_yard_right) .none kV dc pm an cd ct) := by
  have F := fun_mk (st := s__law_yard_right) l c k
  refine ⟨F, PySem.W.mg_of X G a, F.binds (ps := ["heap", "heights"]) (fun _ _ _ _ _ _ us hl => match us, hl with | [_, _], _ => rfl), ⟨fun s us ws _ hu hw => ?_, fun _ r => r⟩⟩
  match us, ws, hu, hw with
  | [], [_, _], _, _ => exact .of_eq (by first | rfl | with_unfolding_all rfl)
/-- a def of the text, as the head tells it -/
theorem db__is_pile {K : PySem.W.Frag} {h : Heap} {mg : Str → Option Value} (X : K.In h) (G : h.Ns mainGlobals mg) {f : Addr} {oc kV dc pm cd ct : Value} {od an : Option Addr} {sl : Array (Option Value)} (a : PySem.W.nsIn K mainGlobals "_is_pile" = some (some (.ref f)))
    (l : K.lookup f = some ⟨oc, od, .func (PySem.W.fnOf "_is_pile" "_is_pile" (defArgs s__is_pile) (defBody s__is_pile) (defScope s__is_pile) .none kV dc pm an cd ct), sl⟩) (c : PySem.W.codeIn K cd "_is_pile" = true) (k : PySem.W.keepIn K (.ref f) = true) :
    DefB K mg "_is_pile" s__is_pile ["value", "height"] f (PySem.W.fnOf "_is_pile" "_is_pile" (defArgs s__is_pile) (defBody s__is_pile) (defScope s__is_pile) .none kV dc pm an cd ct) := by
  have F := fun_mk (st := s__is_pile) l c k
  refine ⟨F, PySem.W.mg_of X G a, F.binds (ps := ["value", "height"]) (fun _ _ _ _ _ _ us hl => match us, hl with | [_, _], _ => rfl), ⟨fun s us ws _ hu hw => ?_, fun _ r => r⟩⟩
  match us, ws, hu, hw with
  | [], [_, _], _, _ => exact .of_eq (by first | rfl | with_unfolding_all rfl)
/-- a def of the text, as the head tells it -/
theorem db_need_standing {K : PySem.W.Frag} {h : Heap} {mg : Str → Option Value} (X : K.In h) (G : h.Ns mainGlobals mg) {f : Addr} {oc kV dc pm cd ct : Value} {od an : Option Addr} {sl : Array (Option Value)} (a : PySem.W.nsIn K mainGlobals "need_standing" = some (some (.ref f)))
    (l : K.lookup f = some ⟨oc, od, .func (PySem.W.fnOf "need_standing" "need_standing" (defArgs s_need_standing) (defBody s_need_standing) (defScope s_need_standing) .none kV dc pm an cd ct), sl⟩) (c : PySem.W.codeIn K cd "need_standing" = true) (k : PySem.W.keepIn K (.ref f) = true) :
    DefB K mg "need_standing" s_need_standing ["yard", "value"] f (PySem.W.fnOf "need_standing" "need_standing" (defArgs s_need_standing) (defBody s_need_standing) (defScope s_need_standing) .none kV dc pm an cd ct) := by
  have F := fun_mk (st := s_need_standing) l c k
  refine ⟨F, PySem.W.mg_of X G a, F.binds (ps := ["yard", "value"]) (fun _ _ _ _ _ _ us hl => match us, hl with | [_, _], _ => rfl), ⟨fun s us ws _ hu hw => ?_, fun _ r => r⟩⟩
  match us, ws, hu, hw with
  | [], [_, _], _, _ => exact .of_eq (by first | rfl | with_unfolding_all rfl)
/-- a def of the text, as the head tells it -/
theorem db__law_is_name {K : PySem.W.Frag} {h : Heap} {mg : Str → Option Value} (X : K.In h) (G : h.Ns mainGlobals mg) {f : Addr} {oc kV dc pm cd ct : Value} {od an : Option Addr} {sl : Array (Option Value)} (a : PySem.W.nsIn K mainGlobals "_law_is_name" = some (some (.ref f)))
    (l : K.lookup f = some ⟨oc, od, .func (PySem.W.fnOf "_law_is_name" "_law_is_name" (defArgs s__law_is_name) (defBody s__law_is_name) (defScope s__law_is_name) .none kV dc pm an cd ct), sl⟩) (c : PySem.W.codeIn K cd "_law_is_name" = true) (k : PySem.W.keepIn K (.ref f) = true) :
    DefB K mg "_law_is_name" s__law_is_name ["value"] f (PySem.W.fnOf "_law_is_name" "_law_is_name" (defArgs s__law_is_name) (defBody s__law_is_name) (defScope s__law_is_name) .none kV dc pm an cd ct) := by
  have F := fun_mk (st := s__law_is_name) l c k
  refine ⟨F, PySem.W.mg_of X G a, F.binds (ps := ["value"]) (fun _ _ _ _ _ _ us hl => match us, hl with | [_], _ => rfl), ⟨fun s us ws _ hu hw => ?_, fun _ r => r⟩⟩
  match us, ws, hu, hw with
  | [], [_], _, _ => exact .of_eq (by first | rfl | with_unfolding_all rfl)
/-- a def of the text, as the head tells it -/
theorem db__law_standing_fault {K : PySem.W.Frag} {h : Heap} {mg : Str → Option Value} (X : K.In h) (G : h.Ns mainGlobals mg) {f : Addr} {oc kV dc pm cd ct : Value} {od an : Option Addr} {sl : Array (Option Value)} (a : PySem.W.nsIn K mainGlobals "_law_standing_fault" = some (some (.ref f)))
    (l : K.lookup f = some ⟨oc, od, .func (PySem.W.fnOf "_law_standing_fault" "_law_standing_fault" (defArgs s__law_standing_fault) (defBody s__law_standing_fault) (defScope s__law_standing_fault) .none kV dc pm an cd ct), sl⟩) (c : PySem.W.codeIn K cd "_law_standing_fault" = true) (k : PySem.W.keepIn K (.ref f) = true) :
    DefB K mg "_law_standing_fault" s__law_standing_fault ["heights", "value"] f (PySem.W.fnOf "_law_standing_fault" "_law_standing_fault" (defArgs s__law_standing_fault) (defBody s__law_standing_fault) (defScope s__law_standing_fault) .none kV dc pm an cd ct) := by
  have F := fun_mk (st := s__law_standing_fault) l c k
  refine ⟨F, PySem.W.mg_of X G a, F.binds (ps := ["heights", "value"]) (fun _ _ _ _ _ _ us hl => match us, hl with | [_, _], _ => rfl), ⟨fun s us ws _ hu hw => ?_, fun _ r => r⟩⟩
  match us, ws, hu, hw with
  | [], [_, _], _, _ => exact .of_eq (by first | rfl | with_unfolding_all rfl)
/-- a def of the text, as the head tells it -/
theorem db_places {K : PySem.W.Frag} {h : Heap} {mg : Str → Option Value} (X : K.In h) (G : h.Ns mainGlobals mg) {f : Addr} {oc kV dc pm cd ct : Value} {od an : Option Addr} {sl : Array (Option Value)} (a : PySem.W.nsIn K mainGlobals "places" = some (some (.ref f)))
    (l : K.lookup f = some ⟨oc, od, .func (PySem.W.fnOf "places" "places" (defArgs s_places) (defBody s_places) (defScope s_places) .none kV dc pm an cd ct), sl⟩) (c : PySem.W.codeIn K cd "places" = true) (k : PySem.W.keepIn K (.ref f) = true) :
    DefB K mg "places" s_places ["yard"] f (PySem.W.fnOf "places" "places" (defArgs s_places) (defBody s_places) (defScope s_places) .none kV dc pm an cd ct) := by
  have F := fun_mk (st := s_places) l c k
  refine ⟨F, PySem.W.mg_of X G a, F.binds (ps := ["yard"]) (fun _ _ _ _ _ _ us hl => match us, hl with | [_], _ => rfl), ⟨fun s us ws _ hu hw => ?_, fun _ r => r⟩⟩
  match us, ws, hu, hw with
  | [], [_], _, _ => exact .of_eq (by first | rfl | with_unfolding_all rfl)
/-- a def of the text, as the head tells it -/
theorem db_count_boxes {K : PySem.W.Frag} {h : Heap} {mg : Str → Option Value} (X : K.In h) (G : h.Ns mainGlobals mg) {f : Addr} {oc kV dc pm cd ct : Value} {od an : Option Addr} {sl : Array (Option Value)} (a : PySem.W.nsIn K mainGlobals "count_boxes" = some (some (.ref f)))
    (l : K.lookup f = some ⟨oc, od, .func (PySem.W.fnOf "count_boxes" "count_boxes" (defArgs s_count_boxes) (defBody s_count_boxes) (defScope s_count_boxes) .none kV dc pm an cd ct), sl⟩) (c : PySem.W.codeIn K cd "count_boxes" = true) (k : PySem.W.keepIn K (.ref f) = true) :
    DefB K mg "count_boxes" s_count_boxes ["standing"] f (PySem.W.fnOf "count_boxes" "count_boxes" (defArgs s_count_boxes) (defBody s_count_boxes) (defScope s_count_boxes) .none kV dc pm an cd ct) := by
  have F := fun_mk (st := s_count_boxes) l c k
  refine ⟨F, PySem.W.mg_of X G a, F.binds (ps := ["standing"]) (fun _ _ _ _ _ _ us hl => match us, hl with | [_], _ => rfl), ⟨fun s us ws _ hu hw => ?_, fun _ r => r⟩⟩
  match us, ws, hu, hw with
  | [], [_], _, _ => exact .of_eq (by first | rfl | with_unfolding_all rfl)
/-- a def of the text, as the head tells it -/
theorem db_free_places {K : PySem.W.Frag} {h : Heap} {mg : Str → Option Value} (X : K.In h) (G : h.Ns mainGlobals mg) {f : Addr} {oc kV dc pm cd ct : Value} {od an : Option Addr} {sl : Array (Option Value)} (a : PySem.W.nsIn K mainGlobals "free_places" = some (some (.ref f)))
    (l : K.lookup f = some ⟨oc, od, .func (PySem.W.fnOf "free_places" "free_places" (defArgs s_free_places) (defBody s_free_places) (defScope s_free_places) .none kV dc pm an cd ct), sl⟩) (c : PySem.W.codeIn K cd "free_places" = true) (k : PySem.W.keepIn K (.ref f) = true) :
    DefB K mg "free_places" s_free_places ["yard", "standing"] f (PySem.W.fnOf "free_places" "free_places" (defArgs s_free_places) (defBody s_free_places) (defScope s_free_places) .none kV dc pm an cd ct) := by
  have F := fun_mk (st := s_free_places) l c k
  refine ⟨F, PySem.W.mg_of X G a, F.binds (ps := ["yard", "standing"]) (fun _ _ _ _ _ _ us hl => match us, hl with | [_, _], _ => rfl), ⟨fun s us ws _ hu hw => ?_, fun _ r => r⟩⟩
  match us, ws, hu, hw with
  | [], [_, _], _, _ => exact .of_eq (by first | rfl | with_unfolding_all rfl)
/-- a def of the text, as the head tells it -/
theorem db_boxes_of {K : PySem.W.Frag} {h : Heap} {mg : Str → Option Value} (X : K.In h) (G : h.Ns mainGlobals mg) {f : Addr} {oc kV dc pm cd ct : Value} {od an : Option Addr} {sl : Array (Option Value)} (a : PySem.W.nsIn K mainGlobals "boxes_of" = some (some (.ref f)))
    (l : K.lookup f = some ⟨oc, od, .func (PySem.W.fnOf "boxes_of" "boxes_of" (defArgs s_boxes_of) (defBody s_boxes_of) (defScope s_boxes_of) .none kV dc pm an cd ct), sl⟩) (c : PySem.W.codeIn K cd "boxes_of" = true) (k : PySem.W.keepIn K (.ref f) = true) :
    DefB K mg "boxes_of" s_boxes_of ["standing"] f (PySem.W.fnOf "boxes_of" "boxes_of" (defArgs s_boxes_of) (defBody s_boxes_of) (defScope s_boxes_of) .none kV dc pm an cd ct) := by
  have F := fun_mk (st := s_boxes_of) l c k
  refine ⟨F, PySem.W.mg_of X G a, F.binds (ps := ["standing"]) (fun _ _ _ _ _ _ us hl => match us, hl with | [_], _ => rfl), ⟨fun s us ws _ hu hw => ?_, fun _ r => r⟩⟩
  match us, ws, hu, hw with
  | [], [_], _, _ => exact .of_eq (by first | rfl | with_unfolding_all rfl)
/-- a def of the text, as the head tells it -/
theorem db_tops {K : PySem.W.Frag} {h : Heap} {mg : Str → Option Value} (X : K.In h) (G : h.Ns mainGlobals mg) {f : Addr} {oc kV dc pm cd ct : Value} {od an : Option Addr} {sl : Array (Option Value)} (a : PySem.W.nsIn K mainGlobals "tops" = some (some (.ref f)))
    (l : K.lookup f = some ⟨oc, od, .func (PySem.W.fnOf "tops" "tops" (defArgs s_tops) (defBody s_tops) (defScope s_tops) .none kV dc pm an cd ct), sl⟩) (c : PySem.W.codeIn K cd "tops" = true) (k : PySem.W.keepIn K (.ref f) = true) :
    DefB K mg "tops" s_tops ["standing"] f (PySem.W.fnOf "tops" "tops" (defArgs s_tops) (defBody s_tops) (defScope s_tops) .none kV dc pm an cd ct) := by
  have F := fun_mk (st := s_tops) l c k
  refine ⟨F, PySem.W.mg_of X G a, F.binds (ps := ["standing"]) (fun _ _ _ _ _ _ us hl => match us, hl with | [_], _ => rfl), ⟨fun s us ws _ hu hw => ?_, fun _ r => r⟩⟩
  match us, ws, hu, hw with
  | [], [_], _, _ => exact .of_eq (by first | rfl | with_unfolding_all rfl)
/-- a def of the text, as the head tells it -/
theorem db_place_of {K : PySem.W.Frag} {h : Heap} {mg : Str → Option Value} (X : K.In h) (G : h.Ns mainGlobals mg) {f : Addr} {oc kV dc pm cd ct : Value} {od an : Option Addr} {sl : Array (Option Value)} (a : PySem.W.nsIn K mainGlobals "place_of" = some (some (.ref f)))
    (l : K.lookup f = some ⟨oc, od, .func (PySem.W.fnOf "place_of" "place_of" (defArgs s_place_of) (defBody s_place_of) (defScope s_place_of) .none kV dc pm an cd ct), sl⟩) (c : PySem.W.codeIn K cd "place_of" = true) (k : PySem.W.keepIn K (.ref f) = true) :
    DefB K mg "place_of" s_place_of ["standing", "box"] f (PySem.W.fnOf "place_of" "place_of" (defArgs s_place_of) (defBody s_place_of) (defScope s_place_of) .none kV dc pm an cd ct) := by
  have F := fun_mk (st := s_place_of) l c k
  refine ⟨F, PySem.W.mg_of X G a, F.binds (ps := ["standing", "box"]) (fun _ _ _ _ _ _ us hl => match us, hl with | [_, _], _ => rfl), ⟨fun s us ws _ hu hw => ?_, fun _ r => r⟩⟩
  match us, ws, hu, hw with
  | [], [_, _], _, _ => exact .of_eq (by first | rfl | with_unfolding_all rfl)
/-- a def of the text, as the head tells it -/
theorem db_boxes_above {K : PySem.W.Frag} {h : Heap} {mg : Str → Option Value} (X : K.In h) (G : h.Ns mainGlobals mg) {f : Addr} {oc kV dc pm cd ct : Value} {od an : Option Addr} {sl : Array (Option Value)} (a : PySem.W.nsIn K mainGlobals "boxes_above" = some (some (.ref f)))
    (l : K.lookup f = some ⟨oc, od, .func (PySem.W.fnOf "boxes_above" "boxes_above" (defArgs s_boxes_above) (defBody s_boxes_above) (defScope s_boxes_above) .none kV dc pm an cd ct), sl⟩) (c : PySem.W.codeIn K cd "boxes_above" = true) (k : PySem.W.keepIn K (.ref f) = true) :
    DefB K mg "boxes_above" s_boxes_above ["standing", "box"] f (PySem.W.fnOf "boxes_above" "boxes_above" (defArgs s_boxes_above) (defBody s_boxes_above) (defScope s_boxes_above) .none kV dc pm an cd ct) := by
  have F := fun_mk (st := s_boxes_above) l c k
  refine ⟨F, PySem.W.mg_of X G a, F.binds (ps := ["standing", "box"]) (fun _ _ _ _ _ _ us hl => match us, hl with | [_, _], _ => rfl), ⟨fun s us ws _ hu hw => ?_, fun _ r => r⟩⟩
  match us, ws, hu, hw with
  | [], [_, _], _, _ => exact .of_eq (by first | rfl | with_unfolding_all rfl)
/-- a def of the text, as the head tells it -/
theorem db__law_bent {K : PySem.W.Frag} {h : Heap} {mg : Str → Option Value} (X : K.In h) (G : h.Ns mainGlobals mg) {f : Addr} {oc kV dc pm cd ct : Value} {od an : Option Addr} {sl : Array (Option Value)} (a : PySem.W.nsIn K mainGlobals "_law_bent" = some (some (.ref f)))
    (l : K.lookup f = some ⟨oc, od, .func (PySem.W.fnOf "_law_bent" "_law_bent" (defArgs s__law_bent) (defBody s__law_bent) (defScope s__law_bent) .none kV dc pm an cd ct), sl⟩) (c : PySem.W.codeIn K cd "_law_bent" = true) (k : PySem.W.keepIn K (.ref f) = true) :
    DefB K mg "_law_bent" s__law_bent ["heap", "heights", "value", "spare"] f (PySem.W.fnOf "_law_bent" "_law_bent" (defArgs s__law_bent) (defBody s__law_bent) (defScope s__law_bent) .none kV dc pm an cd ct) := by
  have F := fun_mk (st := s__law_bent) l c k
  refine ⟨F, PySem.W.mg_of X G a, F.binds (ps := ["heap", "heights", "value", "spare"]) (fun _ _ _ _ _ _ us hl => match us, hl with | [_, _, _, _], _ => rfl), ⟨fun s us ws _ hu hw => ?_, fun _ r => r⟩⟩
  match us, ws, hu, hw with
  | [], [_, _, _, _], _, _ => exact .of_eq (by first | rfl | with_unfolding_all rfl)
/-- a def of the text, as the head tells it -/
theorem db__law_lies_right {K : PySem.W.Frag} {h : Heap} {mg : Str → Option Value} (X : K.In h) (G : h.Ns mainGlobals mg) {f : Addr} {oc kV dc pm cd ct : Value} {od an : Option Addr} {sl : Array (Option Value)} (a : PySem.W.nsIn K mainGlobals "_law_lies_right" = some (some (.ref f)))
    (l : K.lookup f = some ⟨oc, od, .func (PySem.W.fnOf "_law_lies_right" "_law_lies_right" (defArgs s__law_lies_right) (defBody s__law_lies_right) (defScope s__law_lies_right) .none kV dc pm an cd ct), sl⟩) (c : PySem.W.codeIn K cd "_law_lies_right" = true) (k : PySem.W.keepIn K (.ref f) = true) :
    DefB K mg "_law_lies_right" s__law_lies_right ["heap", "yard", "heights", "standing", "strange"] f (PySem.W.fnOf "_law_lies_right" "_law_lies_right" (defArgs s__law_lies_right) (defBody s__law_lies_right) (defScope s__law_lies_right) .none kV dc pm an cd ct) := by
  have F := fun_mk (st := s__law_lies_right) l c k
  refine ⟨F, PySem.W.mg_of X G a, F.binds (ps := ["heap", "yard", "heights", "standing", "strange"]) (fun _ _ _ _ _ _ us hl => match us, hl with | [_, _, _, _, _], _ => rfl), ⟨fun s us ws _ hu hw => ?_, fun _ r => r⟩⟩
  match us, ws, hu, hw with
  | [], [_, _, _, _, _], _, _ => exact .of_eq (by first | rfl | with_unfolding_all rfl)
/-- a def of the text, as the head tells it -/
theorem db_law {K : PySem.W.Frag} {h : Heap} {mg : Str → Option Value} (X : K.In h) (G : h.Ns mainGlobals mg) {f : Addr} {oc kV dc pm cd ct : Value} {od an : Option Addr} {sl : Array (Option Value)} (a : PySem.W.nsIn K mainGlobals "law" = some (some (.ref f)))
    (l : K.lookup f = some ⟨oc, od, .func (PySem.W.fnOf "law" "law" (defArgs s_law) (defBody s_law) (defScope s_law) .none kV dc pm an cd ct), sl⟩) (c : PySem.W.codeIn K cd "law" = true) (k : PySem.W.keepIn K (.ref f) = true) :
    DefB K mg "law" s_law ["script"] f (PySem.W.fnOf "law" "law" (defArgs s_law) (defBody s_law) (defScope s_law) .none kV dc pm an cd ct) := by
  have F := fun_mk (st := s_law) l c k
  refine ⟨F, PySem.W.mg_of X G a, F.binds (ps := ["script"]) (fun _ _ _ _ _ _ us hl => match us, hl with | [_], _ => rfl), ⟨fun s us ws _ hu hw => ?_, fun _ r => r⟩⟩
  match us, ws, hu, hw with
  | [], [_], _, _ => exact .of_eq (by first | rfl | with_unfolding_all rfl)
theorem bi_Yard {K : PySem.W.Frag} {f : Addr} {oc kV dc pm cd ct : Value} {od an : Option Addr} {sl : Array (Option Value)}
    (l : K.lookup f = some ⟨oc, od, .func (PySem.W.fnOf "__init__" "Yard.__init__" (defArgs s_Yard__init__) (defBody s_Yard__init__) (defScope s_Yard__init__) .none kV dc pm an cd ct), sl⟩) (c : PySem.W.codeIn K cd "Yard.__init__" = true) (k : PySem.W.keepIn K (.ref f) = true) :
    ∃ fd, Fun K "__init__" "Yard.__init__" s_Yard__init__ f fd ∧ Binds K fd ["self", "heights"] [] ∧ KBn K fd ["self", "heights"] 1 ["heights"] (fun us ws => us ++ ws) (fun vs zs => vs ++ zs) := by
  have F := fun_mk (st := s_Yard__init__) l c k
  exact ⟨_, F, F.binds (ps := ["self", "heights"]) (fun _ _ _ _ _ _ us hl => match us, hl with | [_, _], _ => rfl), ⟨fun s us ws _ hu hw => by
    match us, ws, hu, hw with
    | [_], [_], _, _ => exact .of_eq (by first | rfl | with_unfolding_all rfl), fun r1 r2 => Vals.append r1 r2⟩⟩
theorem bi_YardEq {K : PySem.W.Frag} {f : Addr} {oc kV dc pm cd ct : Value} {od an : Option Addr} {sl : Array (Option Value)}
    (l : K.lookup f = some ⟨oc, od, .func (PySem.W.fnOf "__eq__" "Yard.__eq__" (defArgs s_Yard__eq__) (defBody s_Yard__eq__) (defScope s_Yard__eq__) .none kV dc pm an cd ct), sl⟩) (c : PySem.W.codeIn K cd "Yard.__eq__" = true) (k : PySem.W.keepIn K (.ref f) = true) :
    ∃ fd, Fun K "__eq__" "Yard.__eq__" s_Yard__eq__ f fd ∧ Binds K fd ["self", "other"] [] := by
  have F := fun_mk (st := s_Yard__eq__) l c k
  exact ⟨_, F, F.binds (ps := ["self", "other"]) (fun _ _ _ _ _ _ us hl => match us, hl with | [_, _], _ => rfl)⟩
theorem all_mk {P : Program} {w : World} {K : PySem.W.Frag} {h : Heap} {mg : Str → Option Value} {fa : Addr} (X : K.In h) (G : h.Ns mainGlobals mg) (hfa : mg "law" = some (.ref fa))
    {C1 CY fY : Addr} {g0 g1 g2 g3 g4 g5 g6 g7 g8 g9 g10 g11 g12 g13 g14 g15 g16 g17 g18 g19 g20 g21 g22 g23 g24 g25 g26 g27 g28 g29 g30 : Addr} {CV fV CS fS CN fN : Addr} {t_LONGEST_NAME t_FEWEST_STACKS t_MOST_STACKS t_GREATEST_HEIGHT : Tok}
    {nV qV : Str} {NV : Addr} {bsV subV : List Value} {snV : List Str} {abV : Bool} {colV : Option Bool} {ddV : Option Addr} {kaV kbV kcV kdV keV : Option Value} {ocV docV pmV cdvV ctV : Value} {odV anV : Option Addr} {oslV : Array (Option Value)} {paV pbV qaV qbV qcV qdV : Pos} {qnV : Str}
    {nS qS : Str} {NS : Addr} {bsS subS : List Value} {snS : List Str} {abS : Bool} {colS : Option Bool} {ddS : Option Addr} {kaS kbS kcS kdS keS : Option Value} {ocS docS pmS cdvS ctS : Value} {odS anS : Option Addr} {oslS : Array (Option Value)} {paS pbS qaS qbS qcS qdS : Pos} {qnS : Str}
    {nN qN : Str} {NN : Addr} {bsN subN : List Value} {snN : List Str} {abN : Bool} {colN : Option Bool} {ddN : Option Addr} {kaN kbN kcN kdN keN : Option Value} {ocN docN pmN cdvN ctN : Value} {odN anN : Option Addr} {oslN : Array (Option Value)} {paN pbN qaN qbN qcN qdN : Pos} {qnN : Str}
    (n_V : PySem.W.nsIn K mainGlobals "InvalidYard" = some (some (.ref CV)))
    (x_V : K.lookup CV = some (excClassObj nV qV CV NV bsV [.ref C1, .type "Exception", .type "BaseException", .type "object"] true snV subV abV colV ddV kaV kbV kcV kdV keV "Exception.__new__"))
    (i_V : PySem.W.findIn K (.ref CV) "__init__" = some (some (.ref fV)))
    (l_V : K.lookup fV = some ⟨ocV, odV, .func (PySem.W.fnOf "__init__" qnV (EX.inA "at" paV pbV) (EX.inB "at" qaV qbV qcV qdV) (EX.inS "at") .none .none docV pmV anV cdvV ctV), oslV⟩)
    (c_V : PySem.W.codeIn K cdvV qnV = true)
    (y_V : chkX K CV fV "at" = true)
    (k_V : chkC K CV = true)
    (m_V : PySem.W.exmOne K (.ref CV) (.ref CV) = some true)
    (n_S : PySem.W.nsIn K mainGlobals "InvalidStanding" = some (some (.ref CS)))
    (x_S : K.lookup CS = some (excClassObj nS qS CS NS bsS [.ref C1, .type "Exception", .type "BaseException", .type "object"] true snS subS abS colS ddS kaS kbS kcS kdS keS "Exception.__new__"))
    (i_S : PySem.W.findIn K (.ref CS) "__init__" = some (some (.ref fS)))
    (l_S : K.lookup fS = some ⟨ocS, odS, .func (PySem.W.fnOf "__init__" qnS (EX.inA "at" paS pbS) (EX.inB "at" qaS qbS qcS qdS) (EX.inS "at") .none .none docS pmS anS cdvS ctS), oslS⟩)
    (c_S : PySem.W.codeIn K cdvS qnS = true)
    (y_S : chkX K CS fS "at" = true)
    (k_S : chkC K CS = true)
    (m_S : PySem.W.exmOne K (.ref CS) (.ref CS) = some true)
    (n_N : PySem.W.nsIn K mainGlobals "NoName" = some (some (.ref CN)))
    (x_N : K.lookup CN = some (excClassObj nN qN CN NN bsN [.type "KeyError", .type "LookupError", .type "Exception", .type "BaseException", .type "object"] true snN subN abN colN ddN kaN kbN kcN kdN keN "LookupError.__new__"))
    (i_N : PySem.W.findIn K (.ref CN) "__init__" = some (some (.ref fN)))
    (l_N : K.lookup fN = some ⟨ocN, odN, .func (PySem.W.fnOf "__init__" qnN (EX.inA "name" paN pbN) (EX.inB "name" qaN qbN qcN qdN) (EX.inS "name") .none .none docN pmN anN cdvN ctN), oslN⟩)
    (c_N : PySem.W.codeIn K cdvN qnN = true)
    (y_N : chkX K CN fN "name" = true)
    (k_N : chkC K CN = true)
    (m_N : PySem.W.exmOne K (.ref CN) (.ref CN) = some true)
    (e_V : LM.chkE K CV = true)
    (e_S : LM.chkE K CS = true)
    {CB : Addr}
    (n_CB : PySem.W.nsIn K mainGlobals "YardError" = some (some (.ref CB)))
    (kt_V : PySem.W.kitOne K (.ref CV) (.ref CB) = some true)
    (kt_S : PySem.W.kitOne K (.ref CS) (.ref CB) = some true)
    (q_fi : PySem.W.findIn K (.ref CY) "__class__" = some (some (.builtin "object.__class__")))
    (q_sp : PySem.W.specialIn K (.builtin "object.__class__") "__get__" = some (some (.builtin "getset_descriptor.__get__")))
    (q_tk : PySem.W.takesIn K (.builtin "object.__class__") = some true)
    (q_mr : PySem.W.mroIn K CY (.type "object") = some true)
    (q_me : PySem.W.kitOne K (.ref CY) (.ref CY) = some true)
    (q_i : PySem.W.kitOne K (.ref CY) (.type "int") = some false)
    (q_b : PySem.W.kitOne K (.ref CY) (.type "bool") = some false)
    (q_s : PySem.W.kitOne K (.ref CY) (.type "str") = some false)
    (q_t : PySem.W.kitOne K (.ref CY) (.type "tuple") = some false)
    (q_lt : PySem.W.kitAny K (.ref CY) [.type "list", .type "tuple"] = some false)
    (q_lY : PySem.W.kitOne K (.type "list") (.ref CY) = some false)
    (q_tY : PySem.W.kitOne K (.type "tuple") (.ref CY) = some false)
    (q_nt : PySem.W.notFirst K CY (.type "tuple") = true)
    (q_nl : PySem.W.notFirst K CY (.type "list") = true)
    (n_Y : PySem.W.nsIn K mainGlobals "Yard" = some (some (.ref CY)))
    (i_Y : PySem.W.findIn K (.ref CY) "__init__" = some (some (.ref fY)))
    {ocY kVY dcY pmY cdY ctY : Value} {odY anY : Option Addr} {slY : Array (Option Value)}
    (l_Y : K.lookup fY = some ⟨ocY, odY, .func (PySem.W.fnOf "__init__" "Yard.__init__" (defArgs s_Yard__init__) (defBody s_Yard__init__) (defScope s_Yard__init__) .none kVY dcY pmY anY cdY ctY), slY⟩)
    (c_Y : PySem.W.codeIn K cdY "Yard.__init__" = true)
    (p_Y : PySem.W.keepIn K (.ref fY) = true)
    (k_Y : chkY K CY fY "heights" = true)
    {gE : Addr} {ocE kVE dcE pmE cdE ctE : Value} {odE anE : Option Addr} {slE : Array (Option Value)}
    (i_E : PySem.W.findIn K (.ref CY) "__eq__" = some (some (.ref gE)))
    (l_E : K.lookup gE = some ⟨ocE, odE, .func (PySem.W.fnOf "__eq__" "Yard.__eq__" (defArgs s_Yard__eq__) (defBody s_Yard__eq__) (defScope s_Yard__eq__) .none kVE dcE pmE anE cdE ctE), slE⟩)
    (c_E : PySem.W.codeIn K cdE "Yard.__eq__" = true)
    (p_E : PySem.W.keepIn K (.ref gE) = true)
    (e_ne : PySem.W.findIn K (.ref CY) "__ne__" = some (some (.builtin "object.__ne__")))
    (e_fn : PySem.W.isFn K (.ref gE) = true)
    (e_nf : PySem.W.notFirst K CY (.ref CY) = true)
    (v_LONGEST_NAME : PySem.W.nsIn K mainGlobals "LONGEST_NAME" = some (some (.int 8 t_LONGEST_NAME)))
    (v_FEWEST_STACKS : PySem.W.nsIn K mainGlobals "FEWEST_STACKS" = some (some (.int 3 t_FEWEST_STACKS)))
    (v_MOST_STACKS : PySem.W.nsIn K mainGlobals "MOST_STACKS" = some (some (.int 12 t_MOST_STACKS)))
    (v_GREATEST_HEIGHT : PySem.W.nsIn K mainGlobals "GREATEST_HEIGHT" = some (some (.int 12 t_GREATEST_HEIGHT)))
    (z_len : PySem.W.nsIn K mainGlobals "len" = some none)
    (z_range : PySem.W.nsIn K mainGlobals "range" = some none)
    (z_int : PySem.W.nsIn K mainGlobals "int" = some none)
    (z_list : PySem.W.nsIn K mainGlobals "list" = some none)
    (z_tuple : PySem.W.nsIn K mainGlobals "tuple" = some none)
    (z_sum : PySem.W.nsIn K mainGlobals "sum" = some none)
    (z_max : PySem.W.nsIn K mainGlobals "max" = some none)
    (z_min : PySem.W.nsIn K mainGlobals "min" = some none)
    (z_abs : PySem.W.nsIn K mainGlobals "abs" = some none)
    (z_repr : PySem.W.nsIn K mainGlobals "repr" = some none)
    (z_isinstance : PySem.W.nsIn K mainGlobals "isinstance" = some none)
    (z_enumerate : PySem.W.nsIn K mainGlobals "enumerate" = some none)
    (z_all : PySem.W.nsIn K mainGlobals "all" = some none)
    (z_str : PySem.W.nsIn K mainGlobals "str" = some none)
    (z_set : PySem.W.nsIn K mainGlobals "set" = some none)
    (z_bool : PySem.W.nsIn K mainGlobals "bool" = some none)
    (z_sorted : PySem.W.nsIn K mainGlobals "sorted" = some none)
    {doc_0 kV_0 dc_0 pmm_0 cd_0 ctt_0 : Value} {odd_0 ann_0 : Option Addr} {sl_0 : Array (Option Value)}
    (a_0 : PySem.W.nsIn K mainGlobals "_law_name_told" = some (some (.ref g0)))
    (d_0 : K.lookup g0 = some ⟨doc_0, odd_0, .func (PySem.W.fnOf "_law_name_told" "_law_name_told" (defArgs s__law_name_told) (defBody s__law_name_told) (defScope s__law_name_told) .none kV_0 dc_0 pmm_0 ann_0 cd_0 ctt_0), sl_0⟩)
    (o_0 : PySem.W.codeIn K cd_0 "_law_name_told" = true)
    (p_0 : PySem.W.keepIn K (.ref g0) = true)
    {doc_1 kV_1 dc_1 pmm_1 cd_1 ctt_1 : Value} {odd_1 ann_1 : Option Addr} {sl_1 : Array (Option Value)}
    (a_1 : PySem.W.nsIn K mainGlobals "_law_standing_told" = some (some (.ref g1)))
    (d_1 : K.lookup g1 = some ⟨doc_1, odd_1, .func (PySem.W.fnOf "_law_standing_told" "_law_standing_told" (defArgs s__law_standing_told) (defBody s__law_standing_told) (defScope s__law_standing_told) .none kV_1 dc_1 pmm_1 ann_1 cd_1 ctt_1), sl_1⟩)
    (o_1 : PySem.W.codeIn K cd_1 "_law_standing_told" = true)
    (p_1 : PySem.W.keepIn K (.ref g1) = true)
    {doc_2 kV_2 dc_2 pmm_2 cd_2 ctt_2 : Value} {odd_2 ann_2 : Option Addr} {sl_2 : Array (Option Value)}
    (a_2 : PySem.W.nsIn K mainGlobals "_law_draw" = some (some (.ref g2)))
    (d_2 : K.lookup g2 = some ⟨doc_2, odd_2, .func (PySem.W.fnOf "_law_draw" "_law_draw" (defArgs s__law_draw) (defBody s__law_draw) (defScope s__law_draw) .none kV_2 dc_2 pmm_2 ann_2 cd_2 ctt_2), sl_2⟩)
    (o_2 : PySem.W.codeIn K cd_2 "_law_draw" = true)
    (p_2 : PySem.W.keepIn K (.ref g2) = true)
    {doc_3 kV_3 dc_3 pmm_3 cd_3 ctt_3 : Value} {odd_3 ann_3 : Option Addr} {sl_3 : Array (Option Value)}
    (a_3 : PySem.W.nsIn K mainGlobals "_law_pick" = some (some (.ref g3)))
    (d_3 : K.lookup g3 = some ⟨doc_3, odd_3, .func (PySem.W.fnOf "_law_pick" "_law_pick" (defArgs s__law_pick) (defBody s__law_pick) (defScope s__law_pick) .none kV_3 dc_3 pmm_3 ann_3 cd_3 ctt_3), sl_3⟩)
    (o_3 : PySem.W.codeIn K cd_3 "_law_pick" = true)
    (p_3 : PySem.W.keepIn K (.ref g3) = true)
    {doc_4 kV_4 dc_4 pmm_4 cd_4 ctt_4 : Value} {odd_4 ann_4 : Option Addr} {sl_4 : Array (Option Value)}
    (a_4 : PySem.W.nsIn K mainGlobals "_law_mixed" = some (some (.ref g4)))
    (d_4 : K.lookup g4 = some ⟨doc_4, odd_4, .func (PySem.W.fnOf "_law_mixed" "_law_mixed" (defArgs s__law_mixed) (defBody s__law_mixed) (defScope s__law_mixed) .none kV_4 dc_4 pmm_4 ann_4 cd_4 ctt_4), sl_4⟩)
    (o_4 : PySem.W.codeIn K cd_4 "_law_mixed" = true)
    (p_4 : PySem.W.keepIn K (.ref g4) = true)
    {doc_5 kV_5 dc_5 pmm_5 cd_5 ctt_5 : Value} {odd_5 ann_5 : Option Addr} {sl_5 : Array (Option Value)}
    (a_5 : PySem.W.nsIn K mainGlobals "_law_heap" = some (some (.ref g5)))
    (d_5 : K.lookup g5 = some ⟨doc_5, odd_5, .func (PySem.W.fnOf "_law_heap" "_law_heap" (defArgs s__law_heap) (defBody s__law_heap) (defScope s__law_heap) .none kV_5 dc_5 pmm_5 ann_5 cd_5 ctt_5), sl_5⟩)
    (o_5 : PySem.W.codeIn K cd_5 "_law_heap" = true)
    (p_5 : PySem.W.keepIn K (.ref g5) = true)
    {doc_6 kV_6 dc_6 pmm_6 cd_6 ctt_6 : Value} {odd_6 ann_6 : Option Addr} {sl_6 : Array (Option Value)}
    (a_6 : PySem.W.nsIn K mainGlobals "_law_heights" = some (some (.ref g6)))
    (d_6 : K.lookup g6 = some ⟨doc_6, odd_6, .func (PySem.W.fnOf "_law_heights" "_law_heights" (defArgs s__law_heights) (defBody s__law_heights) (defScope s__law_heights) .none kV_6 dc_6 pmm_6 ann_6 cd_6 ctt_6), sl_6⟩)
    (o_6 : PySem.W.codeIn K cd_6 "_law_heights" = true)
    (p_6 : PySem.W.keepIn K (.ref g6) = true)
    {doc_7 kV_7 dc_7 pmm_7 cd_7 ctt_7 : Value} {odd_7 ann_7 : Option Addr} {sl_7 : Array (Option Value)}
    (a_7 : PySem.W.nsIn K mainGlobals "_law_many" = some (some (.ref g7)))
    (d_7 : K.lookup g7 = some ⟨doc_7, odd_7, .func (PySem.W.fnOf "_law_many" "_law_many" (defArgs s__law_many) (defBody s__law_many) (defScope s__law_many) .none kV_7 dc_7 pmm_7 ann_7 cd_7 ctt_7), sl_7⟩)
    (o_7 : PySem.W.codeIn K cd_7 "_law_many" = true)
    (p_7 : PySem.W.keepIn K (.ref g7) = true)
    {doc_8 kV_8 dc_8 pmm_8 cd_8 ctt_8 : Value} {odd_8 ann_8 : Option Addr} {sl_8 : Array (Option Value)}
    (a_8 : PySem.W.nsIn K mainGlobals "_law_laid" = some (some (.ref g8)))
    (d_8 : K.lookup g8 = some ⟨doc_8, odd_8, .func (PySem.W.fnOf "_law_laid" "_law_laid" (defArgs s__law_laid) (defBody s__law_laid) (defScope s__law_laid) .none kV_8 dc_8 pmm_8 ann_8 cd_8 ctt_8), sl_8⟩)
    (o_8 : PySem.W.codeIn K cd_8 "_law_laid" = true)
    (p_8 : PySem.W.keepIn K (.ref g8) = true)
    {doc_9 kV_9 dc_9 pmm_9 cd_9 ctt_9 : Value} {odd_9 ann_9 : Option Addr} {sl_9 : Array (Option Value)}
    (a_9 : PySem.W.nsIn K mainGlobals "_law_names" = some (some (.ref g9)))
    (d_9 : K.lookup g9 = some ⟨doc_9, odd_9, .func (PySem.W.fnOf "_law_names" "_law_names" (defArgs s__law_names) (defBody s__law_names) (defScope s__law_names) .none kV_9 dc_9 pmm_9 ann_9 cd_9 ctt_9), sl_9⟩)
    (o_9 : PySem.W.codeIn K cd_9 "_law_names" = true)
    (p_9 : PySem.W.keepIn K (.ref g9) = true)
    {doc_10 kV_10 dc_10 pmm_10 cd_10 ctt_10 : Value} {odd_10 ann_10 : Option Addr} {sl_10 : Array (Option Value)}
    (a_10 : PySem.W.nsIn K mainGlobals "is_whole" = some (some (.ref g10)))
    (d_10 : K.lookup g10 = some ⟨doc_10, odd_10, .func (PySem.W.fnOf "is_whole" "is_whole" (defArgs s_is_whole) (defBody s_is_whole) (defScope s_is_whole) .none kV_10 dc_10 pmm_10 ann_10 cd_10 ctt_10), sl_10⟩)
    (o_10 : PySem.W.codeIn K cd_10 "is_whole" = true)
    (p_10 : PySem.W.keepIn K (.ref g10) = true)
    {doc_11 kV_11 dc_11 pmm_11 cd_11 ctt_11 : Value} {odd_11 ann_11 : Option Addr} {sl_11 : Array (Option Value)}
    (a_11 : PySem.W.nsIn K mainGlobals "is_name" = some (some (.ref g11)))
    (d_11 : K.lookup g11 = some ⟨doc_11, odd_11, .func (PySem.W.fnOf "is_name" "is_name" (defArgs s_is_name) (defBody s_is_name) (defScope s_is_name) .none kV_11 dc_11 pmm_11 ann_11 cd_11 ctt_11), sl_11⟩)
    (o_11 : PySem.W.codeIn K cd_11 "is_name" = true)
    (p_11 : PySem.W.keepIn K (.ref g11) = true)
    {doc_12 kV_12 dc_12 pmm_12 cd_12 ctt_12 : Value} {odd_12 ann_12 : Option Addr} {sl_12 : Array (Option Value)}
    (a_12 : PySem.W.nsIn K mainGlobals "_law_odd" = some (some (.ref g12)))
    (d_12 : K.lookup g12 = some ⟨doc_12, odd_12, .func (PySem.W.fnOf "_law_odd" "_law_odd" (defArgs s__law_odd) (defBody s__law_odd) (defScope s__law_odd) .none kV_12 dc_12 pmm_12 ann_12 cd_12 ctt_12), sl_12⟩)
    (o_12 : PySem.W.codeIn K cd_12 "_law_odd" = true)
    (p_12 : PySem.W.keepIn K (.ref g12) = true)
    {doc_13 kV_13 dc_13 pmm_13 cd_13 ctt_13 : Value} {odd_13 ann_13 : Option Addr} {sl_13 : Array (Option Value)}
    (a_13 : PySem.W.nsIn K mainGlobals "_law_bent_heights" = some (some (.ref g13)))
    (d_13 : K.lookup g13 = some ⟨doc_13, odd_13, .func (PySem.W.fnOf "_law_bent_heights" "_law_bent_heights" (defArgs s__law_bent_heights) (defBody s__law_bent_heights) (defScope s__law_bent_heights) .none kV_13 dc_13 pmm_13 ann_13 cd_13 ctt_13), sl_13⟩)
    (o_13 : PySem.W.codeIn K cd_13 "_law_bent_heights" = true)
    (p_13 : PySem.W.keepIn K (.ref g13) = true)
    {doc_14 kV_14 dc_14 pmm_14 cd_14 ctt_14 : Value} {odd_14 ann_14 : Option Addr} {sl_14 : Array (Option Value)}
    (a_14 : PySem.W.nsIn K mainGlobals "_law_yard_fault" = some (some (.ref g14)))
    (d_14 : K.lookup g14 = some ⟨doc_14, odd_14, .func (PySem.W.fnOf "_law_yard_fault" "_law_yard_fault" (defArgs s__law_yard_fault) (defBody s__law_yard_fault) (defScope s__law_yard_fault) .none kV_14 dc_14 pmm_14 ann_14 cd_14 ctt_14), sl_14⟩)
    (o_14 : PySem.W.codeIn K cd_14 "_law_yard_fault" = true)
    (p_14 : PySem.W.keepIn K (.ref g14) = true)
    {doc_15 kV_15 dc_15 pmm_15 cd_15 ctt_15 : Value} {odd_15 ann_15 : Option Addr} {sl_15 : Array (Option Value)}
    (a_15 : PySem.W.nsIn K mainGlobals "_law_yard_told" = some (some (.ref g15)))
    (d_15 : K.lookup g15 = some ⟨doc_15, odd_15, .func (PySem.W.fnOf "_law_yard_told" "_law_yard_told" (defArgs s__law_yard_told) (defBody s__law_yard_told) (defScope s__law_yard_told) .none kV_15 dc_15 pmm_15 ann_15 cd_15 ctt_15), sl_15⟩)
    (o_15 : PySem.W.codeIn K cd_15 "_law_yard_told" = true)
    (p_15 : PySem.W.keepIn K (.ref g15) = true)
    {doc_16 kV_16 dc_16 pmm_16 cd_16 ctt_16 : Value} {odd_16 ann_16 : Option Addr} {sl_16 : Array (Option Value)}
    (a_16 : PySem.W.nsIn K mainGlobals "_law_yard_right" = some (some (.ref g16)))
    (d_16 : K.lookup g16 = some ⟨doc_16, odd_16, .func (PySem.W.fnOf "_law_yard_right" "_law_yard_right" (defArgs s__law_yard_right) (defBody s__law_yard_right) (defScope s__law_yard_right) .none kV_16 dc_16 pmm_16 ann_16 cd_16 ctt_16), sl_16⟩)
    (o_16 : PySem.W.codeIn K cd_16 "_law_yard_right" = true)
    (p_16 : PySem.W.keepIn K (.ref g16) = true)
    {doc_17 kV_17 dc_17 pmm_17 cd_17 ctt_17 : Value} {odd_17 ann_17 : Option Addr} {sl_17 : Array (Option Value)}
    (a_17 : PySem.W.nsIn K mainGlobals "_is_pile" = some (some (.ref g17)))
    (d_17 : K.lookup g17 = some ⟨doc_17, odd_17, .func (PySem.W.fnOf "_is_pile" "_is_pile" (defArgs s__is_pile) (defBody s__is_pile) (defScope s__is_pile) .none kV_17 dc_17 pmm_17 ann_17 cd_17 ctt_17), sl_17⟩)
    (o_17 : PySem.W.codeIn K cd_17 "_is_pile" = true)
    (p_17 : PySem.W.keepIn K (.ref g17) = true)
    {doc_18 kV_18 dc_18 pmm_18 cd_18 ctt_18 : Value} {odd_18 ann_18 : Option Addr} {sl_18 : Array (Option Value)}
    (a_18 : PySem.W.nsIn K mainGlobals "need_standing" = some (some (.ref g18)))
    (d_18 : K.lookup g18 = some ⟨doc_18, odd_18, .func (PySem.W.fnOf "need_standing" "need_standing" (defArgs s_need_standing) (defBody s_need_standing) (defScope s_need_standing) .none kV_18 dc_18 pmm_18 ann_18 cd_18 ctt_18), sl_18⟩)
    (o_18 : PySem.W.codeIn K cd_18 "need_standing" = true)
    (p_18 : PySem.W.keepIn K (.ref g18) = true)
    {doc_19 kV_19 dc_19 pmm_19 cd_19 ctt_19 : Value} {odd_19 ann_19 : Option Addr} {sl_19 : Array (Option Value)}
    (a_19 : PySem.W.nsIn K mainGlobals "_law_is_name" = some (some (.ref g19)))
    (d_19 : K.lookup g19 = some ⟨doc_19, odd_19, .func (PySem.W.fnOf "_law_is_name" "_law_is_name" (defArgs s__law_is_name) (defBody s__law_is_name) (defScope s__law_is_name) .none kV_19 dc_19 pmm_19 ann_19 cd_19 ctt_19), sl_19⟩)
    (o_19 : PySem.W.codeIn K cd_19 "_law_is_name" = true)
    (p_19 : PySem.W.keepIn K (.ref g19) = true)
    {doc_20 kV_20 dc_20 pmm_20 cd_20 ctt_20 : Value} {odd_20 ann_20 : Option Addr} {sl_20 : Array (Option Value)}
    (a_20 : PySem.W.nsIn K mainGlobals "_law_standing_fault" = some (some (.ref g20)))
    (d_20 : K.lookup g20 = some ⟨doc_20, odd_20, .func (PySem.W.fnOf "_law_standing_fault" "_law_standing_fault" (defArgs s__law_standing_fault) (defBody s__law_standing_fault) (defScope s__law_standing_fault) .none kV_20 dc_20 pmm_20 ann_20 cd_20 ctt_20), sl_20⟩)
    (o_20 : PySem.W.codeIn K cd_20 "_law_standing_fault" = true)
    (p_20 : PySem.W.keepIn K (.ref g20) = true)
    {doc_21 kV_21 dc_21 pmm_21 cd_21 ctt_21 : Value} {odd_21 ann_21 : Option Addr} {sl_21 : Array (Option Value)}
    (a_21 : PySem.W.nsIn K mainGlobals "places" = some (some (.ref g21)))
    (d_21 : K.lookup g21 = some ⟨doc_21, odd_21, .func (PySem.W.fnOf "places" "places" (defArgs s_places) (defBody s_places) (defScope s_places) .none kV_21 dc_21 pmm_21 ann_21 cd_21 ctt_21), sl_21⟩)
    (o_21 : PySem.W.codeIn K cd_21 "places" = true)
    (p_21 : PySem.W.keepIn K (.ref g21) = true)
    {doc_22 kV_22 dc_22 pmm_22 cd_22 ctt_22 : Value} {odd_22 ann_22 : Option Addr} {sl_22 : Array (Option Value)}
    (a_22 : PySem.W.nsIn K mainGlobals "count_boxes" = some (some (.ref g22)))
    (d_22 : K.lookup g22 = some ⟨doc_22, odd_22, .func (PySem.W.fnOf "count_boxes" "count_boxes" (defArgs s_count_boxes) (defBody s_count_boxes) (defScope s_count_boxes) .none kV_22 dc_22 pmm_22 ann_22 cd_22 ctt_22), sl_22⟩)
    (o_22 : PySem.W.codeIn K cd_22 "count_boxes" = true)
    (p_22 : PySem.W.keepIn K (.ref g22) = true)
    {doc_23 kV_23 dc_23 pmm_23 cd_23 ctt_23 : Value} {odd_23 ann_23 : Option Addr} {sl_23 : Array (Option Value)}
    (a_23 : PySem.W.nsIn K mainGlobals "free_places" = some (some (.ref g23)))
    (d_23 : K.lookup g23 = some ⟨doc_23, odd_23, .func (PySem.W.fnOf "free_places" "free_places" (defArgs s_free_places) (defBody s_free_places) (defScope s_free_places) .none kV_23 dc_23 pmm_23 ann_23 cd_23 ctt_23), sl_23⟩)
    (o_23 : PySem.W.codeIn K cd_23 "free_places" = true)
    (p_23 : PySem.W.keepIn K (.ref g23) = true)
    {doc_24 kV_24 dc_24 pmm_24 cd_24 ctt_24 : Value} {odd_24 ann_24 : Option Addr} {sl_24 : Array (Option Value)}
    (a_24 : PySem.W.nsIn K mainGlobals "boxes_of" = some (some (.ref g24)))
    (d_24 : K.lookup g24 = some ⟨doc_24, odd_24, .func (PySem.W.fnOf "boxes_of" "boxes_of" (defArgs s_boxes_of) (defBody s_boxes_of) (defScope s_boxes_of) .none kV_24 dc_24 pmm_24 ann_24 cd_24 ctt_24), sl_24⟩)
    (o_24 : PySem.W.codeIn K cd_24 "boxes_of" = true)
    (p_24 : PySem.W.keepIn K (.ref g24) = true)
    {doc_25 kV_25 dc_25 pmm_25 cd_25 ctt_25 : Value} {odd_25 ann_25 : Option Addr} {sl_25 : Array (Option Value)}
    (a_25 : PySem.W.nsIn K mainGlobals "tops" = some (some (.ref g25)))
    (d_25 : K.lookup g25 = some ⟨doc_25, odd_25, .func (PySem.W.fnOf "tops" "tops" (defArgs s_tops) (defBody s_tops) (defScope s_tops) .none kV_25 dc_25 pmm_25 ann_25 cd_25 ctt_25), sl_25⟩)
    (o_25 : PySem.W.codeIn K cd_25 "tops" = true)
    (p_25 : PySem.W.keepIn K (.ref g25) = true)
    {doc_26 kV_26 dc_26 pmm_26 cd_26 ctt_26 : Value} {odd_26 ann_26 : Option Addr} {sl_26 : Array (Option Value)}
    (a_26 : PySem.W.nsIn K mainGlobals "place_of" = some (some (.ref g26)))
    (d_26 : K.lookup g26 = some ⟨doc_26, odd_26, .func (PySem.W.fnOf "place_of" "place_of" (defArgs s_place_of) (defBody s_place_of) (defScope s_place_of) .none kV_26 dc_26 pmm_26 ann_26 cd_26 ctt_26), sl_26⟩)
    (o_26 : PySem.W.codeIn K cd_26 "place_of" = true)
    (p_26 : PySem.W.keepIn K (.ref g26) = true)
    {doc_27 kV_27 dc_27 pmm_27 cd_27 ctt_27 : Value} {odd_27 ann_27 : Option Addr} {sl_27 : Array (Option Value)}
    (a_27 : PySem.W.nsIn K mainGlobals "boxes_above" = some (some (.ref g27)))
    (d_27 : K.lookup g27 = some ⟨doc_27, odd_27, .func (PySem.W.fnOf "boxes_above" "boxes_above" (defArgs s_boxes_above) (defBody s_boxes_above) (defScope s_boxes_above) .none kV_27 dc_27 pmm_27 ann_27 cd_27 ctt_27), sl_27⟩)
    (o_27 : PySem.W.codeIn K cd_27 "boxes_above" = true)
    (p_27 : PySem.W.keepIn K (.ref g27) = true)
    {doc_28 kV_28 dc_28 pmm_28 cd_28 ctt_28 : Value} {odd_28 ann_28 : Option Addr} {sl_28 : Array (Option Value)}
    (a_28 : PySem.W.nsIn K mainGlobals "_law_bent" = some (some (.ref g28)))
    (d_28 : K.lookup g28 = some ⟨doc_28, odd_28, .func (PySem.W.fnOf "_law_bent" "_law_bent" (defArgs s__law_bent) (defBody s__law_bent) (defScope s__law_bent) .none kV_28 dc_28 pmm_28 ann_28 cd_28 ctt_28), sl_28⟩)
    (o_28 : PySem.W.codeIn K cd_28 "_law_bent" = true)
    (p_28 : PySem.W.keepIn K (.ref g28) = true)
    {lc_29 lP_29 : Addr}
    {doc_29 kV_29 dc_29 pmm_29 ctt_29 : Value} {odd_29 ann_29 : Option Addr} {sl_29 : Array (Option Value)}
    (a_29 : PySem.W.nsIn K mainGlobals "_law_lies_right" = some (some (.ref g29)))
    (d_29 : K.lookup g29 = some ⟨doc_29, odd_29, .func (PySem.W.fnOf "_law_lies_right" "_law_lies_right" (defArgs s__law_lies_right) (defBody s__law_lies_right) (defScope s__law_lies_right) .none kV_29 dc_29 pmm_29 ann_29 (.ref lc_29) ctt_29), sl_29⟩)
    (o_29 : PySem.W.codeIn K (.ref lc_29) "_law_lies_right" = true)
    (p_29 : PySem.W.keepIn K (.ref g29) = true)
    {lc_30 lP_30 : Addr}
    {doc_30 kV_30 dc_30 pmm_30 ctt_30 : Value} {odd_30 ann_30 : Option Addr} {sl_30 : Array (Option Value)}
    (a_30 : PySem.W.nsIn K mainGlobals "law" = some (some (.ref g30)))
    (d_30 : K.lookup g30 = some ⟨doc_30, odd_30, .func (PySem.W.fnOf "law" "law" (defArgs s_law) (defBody s_law) (defScope s_law) .none kV_30 dc_30 pmm_30 ann_30 (.ref lc_30) ctt_30), sl_30⟩)
    (o_30 : PySem.W.codeIn K (.ref lc_30) "law" = true)
    (p_30 : PySem.W.keepIn K (.ref g30) = true)
    (ne_P : lP_29 ≠ lP_30)
    : ∃ fd : FuncData, (∀ (s : Shared) (u : Value), BindsTo s fd ⟨[u], []⟩ [("script", u)]) ∧ ∀ base : Heap, K.In base → base.Ns mainGlobals mg → (∀ p ∈ [(lc_29, lP_29), (lc_30, lP_30)], LamX.TabB base mg p.1 p.2) → FnG P w K mg base CX0 9 fa fd ["script"] (sp_lawT (TB2 lP_29 lP_30) K) := by
  have e := hfa.symm.trans (PySem.W.mg_of X G a_30)
  cases e
  have xV : EX.XT K mg "InvalidYard" "at" CV fV := mkX X G F.excBase_Exception (EX.ch_Y C1) (Or.inl rfl) n_V k_V y_V ⟨_, _, _, _, _, _, _, _, _, _, _, _, _, _, x_V⟩ ⟨_, _, _, _, _, _, _, _, _, _, _, _, _, _, _, l_V, c_V⟩
  have xS : EX.XT K mg "InvalidStanding" "at" CS fS := mkX X G F.excBase_Exception (EX.ch_Y C1) (Or.inl rfl) n_S k_S y_S ⟨_, _, _, _, _, _, _, _, _, _, _, _, _, _, x_S⟩ ⟨_, _, _, _, _, _, _, _, _, _, _, _, _, _, _, l_S, c_S⟩
  have xN : EX.XT K mg "NoName" "name" CN fN := mkX X G F.excBase_LookupError EX.ch_K (Or.inr (Or.inr rfl)) n_N k_N y_N ⟨_, _, _, _, _, _, _, _, _, _, _, _, _, _, x_N⟩ ⟨_, _, _, _, _, _, _, _, _, _, _, _, _, _, _, l_N, c_N⟩
  obtain ⟨hcY, hnY, hmY⟩ := chkY_ok k_Y
  have T : Ty K mg CY CV fV CS fS CN fN CB := {
    z_len := PySem.W.mg_none_of X G z_len,
    z_range := PySem.W.mg_none_of X G z_range,
    z_int := PySem.W.mg_none_of X G z_int,
    z_list := PySem.W.mg_none_of X G z_list,
    z_tuple := PySem.W.mg_none_of X G z_tuple,
    z_sum := PySem.W.mg_none_of X G z_sum,
    z_max := PySem.W.mg_none_of X G z_max,
    z_min := PySem.W.mg_none_of X G z_min,
    z_abs := PySem.W.mg_none_of X G z_abs,
    z_repr := PySem.W.mg_none_of X G z_repr,
    z_isinstance := PySem.W.mg_none_of X G z_isinstance,
    z_enumerate := PySem.W.mg_none_of X G z_enumerate,
    z_all := PySem.W.mg_none_of X G z_all,
    z_str := PySem.W.mg_none_of X G z_str,
    z_set := PySem.W.mg_none_of X G z_set,
    z_bool := PySem.W.mg_none_of X G z_bool,
    z_sorted := PySem.W.mg_none_of X G z_sorted,
    k_LONGEST_NAME := ⟨_, PySem.W.mg_of X G v_LONGEST_NAME, ⟨_, rfl⟩⟩,
    k_FEWEST_STACKS := ⟨_, PySem.W.mg_of X G v_FEWEST_STACKS, ⟨_, rfl⟩⟩,
    k_MOST_STACKS := ⟨_, PySem.W.mg_of X G v_MOST_STACKS, ⟨_, rfl⟩⟩,
    k_GREATEST_HEIGHT := ⟨_, PySem.W.mg_of X G v_GREATEST_HEIGHT, ⟨_, rfl⟩⟩,
    x_InvalidYard := xV, m_InvalidYard := m_V,
    x_InvalidStanding := xS, m_InvalidStanding := m_S,
    x_NoName := xN, m_NoName := m_N,
    c_InvalidYard := LM.chkE_ok e_V,
    c_InvalidStanding := LM.chkE_ok e_S,
    g_YardError := PySem.W.mg_of X G n_CB,
    b_InvalidYard := kt_V,
    b_InvalidStanding := kt_S,
    g_Yard := PySem.W.mg_of X G n_Y,
    kY := ⟨⟨hcY, q_fi, q_sp, q_tk, q_mr, q_me⟩, q_i, q_b, q_s, q_t, q_lt⟩,
    k_lY := q_lY,
    k_tY := q_tY,
    nf_t := q_nt,
    nf_l := q_nl,
    cY := hcY, nY := hnY }
  have B0 := db__law_name_told X G a_0 d_0 o_0 p_0
  have B1 := db__law_standing_told X G a_1 d_1 o_1 p_1
  have B2 := db__law_draw X G a_2 d_2 o_2 p_2
  have B3 := db__law_pick X G a_3 d_3 o_3 p_3
  have B4 := db__law_mixed X G a_4 d_4 o_4 p_4
  have B5 := db__law_heap X G a_5 d_5 o_5 p_5
  have B6 := db__law_heights X G a_6 d_6 o_6 p_6
  have B7 := db__law_many X G a_7 d_7 o_7 p_7
  have B8 := db__law_laid X G a_8 d_8 o_8 p_8
  have B9 := db__law_names X G a_9 d_9 o_9 p_9
  have B10 := db_is_whole X G a_10 d_10 o_10 p_10
  have B11 := db_is_name X G a_11 d_11 o_11 p_11
  have B12 := db__law_odd X G a_12 d_12 o_12 p_12
  have B13 := db__law_bent_heights X G a_13 d_13 o_13 p_13
  have B14 := db__law_yard_fault X G a_14 d_14 o_14 p_14
  have B15 := db__law_yard_told X G a_15 d_15 o_15 p_15
  have B16 := db__law_yard_right X G a_16 d_16 o_16 p_16
  have B17 := db__is_pile X G a_17 d_17 o_17 p_17
  have B18 := db_need_standing X G a_18 d_18 o_18 p_18
  have B19 := db__law_is_name X G a_19 d_19 o_19 p_19
  have B20 := db__law_standing_fault X G a_20 d_20 o_20 p_20
  have B21 := db_places X G a_21 d_21 o_21 p_21
  have B22 := db_count_boxes X G a_22 d_22 o_22 p_22
  have B23 := db_free_places X G a_23 d_23 o_23 p_23
  have B24 := db_boxes_of X G a_24 d_24 o_24 p_24
  have B25 := db_tops X G a_25 d_25 o_25 p_25
  have B26 := db_place_of X G a_26 d_26 o_26 p_26
  have B27 := db_boxes_above X G a_27 d_27 o_27 p_27
  have B28 := db__law_bent X G a_28 d_28 o_28 p_28
  have B29 := db__law_lies_right X G a_29 d_29 o_29 p_29
  have L29 : DefL K mg "_law_lies_right" s__law_lies_right _ _ _ lc_29 := ⟨B29, ⟨_, _, _, _, _, _, _, _, rfl, d_29, o_29⟩⟩
  have B30 := db_law X G a_30 d_30 o_30 p_30
  have L30 : DefL K mg "law" s_law _ _ _ lc_30 := ⟨B30, ⟨_, _, _, _, _, _, _, _, rfl, d_30, o_30⟩⟩
  obtain ⟨fdY, FY, bY, kY1⟩ := bi_Yard l_Y c_Y p_Y
  obtain ⟨fdE, FE, bE⟩ := bi_YardEq l_E c_E p_E
  refine ⟨PySem.W.fnOf "law" "law" (defArgs s_law) (defBody s_law) (defScope s_law) .none kV_30 dc_30 pmm_30 ann_30 (.ref lc_30) ctt_30, fun s u => .of_eq (by first | rfl | with_unfolding_all rfl), fun base _ _ tb => ?_⟩
  have tb29 : LamX.TabB base mg lc_29 lP_29 := tb (lc_29, lP_29) (by simp)
  have tb30 : LamX.TabB base mg lc_30 lP_30 := tb (lc_30, lP_30) (by simp)
  have h_0 := c__law_draw (P := P) (w := w) (base := base) T.toTx B2
  have h_1 := c__law_pick (P := P) (w := w) (base := base) T.toTx h_0 B3
  have h_2 := c__law_mixed (P := P) (w := w) (base := base) T.toTx h_0 B4
  have h_3 := c__law_heap (P := P) (w := w) (base := base) T.toTx B5
  have h_4 := c__law_heights (P := P) (w := w) (base := base) T.toTx h_0 h_1 B6
  have h_5 := c__law_many (P := P) (w := w) (base := base) T.toTx h_0 h_1 B7
  have h_6 := c__law_laid (P := P) (w := w) (base := base) T.toTx h_1 B8
  have h_7 := c__law_names (P := P) (w := w) (base := base) T.toTx h_0 h_1 h_2 B9
  have h_8 := c_is_whole (P := P) (w := w) (base := base) T B10
  have h_9 := c_is_name (P := P) (w := w) (base := base) T B11
  have h_10 := c_Yard (P := P) (w := w) (base := base) T hmY FY bY (PySem.W.mg_of X G n_Y) h_8
  have h_11 := k_Yard (P := P) (w := w) (base := base) T hmY FY kY1 (PySem.W.mg_of X G n_Y) h_8
  have h_12 := c__law_odd (P := P) (w := w) (base := base) T h_1 h_10 B12
  have h_13 := c__law_bent_heights (P := P) (w := w) (base := base) T h_0 h_1 h_12 B13
  have h_14 := c__law_yard_fault (P := P) (w := w) (base := base) T B14
  have h_15 := c__law_yard_told (P := P) (w := w) (base := base) T h_10 B15
  have h_16 := c_YardEq (P := P) (w := w) (base := base) T ⟨e_ne, q_mr, i_E, e_fn, e_nf⟩ FE bE
  have h_17 := c__law_yard_right (P := P) (w := w) (base := base) T h_0 h_1 h_13 h_10 h_11 h_16 h_14 h_15 B16
  have h_18 := c__is_pile (P := P) (w := w) (base := base) T h_9 B17
  have h_19 := c_need_standing (P := P) (w := w) (base := base) T h_18 B18
  have h_20 := c__law_is_name (P := P) (w := w) (base := base) T B19
  have h_21 := c__law_standing_fault (P := P) (w := w) (base := base) T h_20 B20
  have h_22 := c_places (P := P) (w := w) (base := base) T B21
  have h_23 := c_count_boxes (P := P) (w := w) (base := base) T B22
  have h_24 := c_free_places (P := P) (w := w) (base := base) T h_22 h_23 h_19 B23
  have h_25 := c_boxes_of (P := P) (w := w) (base := base) T B24
  have h_26 := c_tops (P := P) (w := w) (base := base) T B25
  have h_27 := c_place_of (P := P) (w := w) (base := base) T B26
  have h_28 := c_boxes_above (P := P) (w := w) (base := base) T h_27 B27
  have h_29 := c__law_bent (P := P) (w := w) (base := base) T h_0 h_1 B28
  have h_30 := c__law_lies_right (P := P) (w := w) (base := base) T tb29 ne_P B0 h_0 h_1 h_25 h_26 h_24 h_27 h_28 L29
  exact c_law (P := P) (w := w) (base := base) T tb30 ne_P B1 h_3 h_0 h_4 h_10 h_5 h_7 h_17 h_6 h_29 h_21 h_19 h_24 h_30 L30
end K01
open PySem PySem.W PyProof.Rows
theorem PySem.Challenge.cw_staysdeep_k01_yards_and_standings_holds : PySem.Challenge.rw_staysdeep_k01_yards_and_standings.Holds := by
  w_on; o_law; k_head; (case hw => w_witness2); k_fill
  refine LM.walkGM (l := PySem.Challenge.rw_staysdeep_k01_yards_and_standings) (n := 63) (k := 9) (x := "script") (sp := fun K => LM.sp_lawT (K01.TB2 296 301) K) [(298, 296), (305, 301)] rfl (by decide) rfl ⟨rfl, by decide, by decide⟩ (fun w h Y => PySem.W.km_in_of Y) ?gC ?gT ?gN ?F ?S
  case gC =>
    intro p hp
    simp only [List.mem_cons, List.not_mem_nil, or_false] at hp
    rcases hp with rfl | rfl <;> (intro w; kernel_rfl)
  case gT =>
    intro w h Y p hp
    simp only [List.mem_cons, List.not_mem_nil, or_false] at hp
    rcases hp with rfl | rfl <;> exact PySem.W.km_tabs_of Y _ (by simp)
  case gN =>
    intro p hp w
    simp only [List.mem_cons, List.not_mem_nil, or_false] at hp
    rcases hp with rfl | rfl <;> kernel_rfl
  case F =>
    intro w mg fa h Y KX G hmg
    refine' K01.all_mk KX G hmg (lc_29 := 298) (lP_29 := 296) (lc_30 := 305) (lP_30 := 301) ?n_V ?x_V ?i_V ?l_V ?c_V ?y_V ?k_V ?m_V ?n_S ?x_S ?i_S ?l_S ?c_S ?y_S ?k_S ?m_S ?n_N ?x_N ?i_N ?l_N ?c_N ?y_N ?k_N ?m_N ?e_V ?e_S ?n_CB ?kt_V ?kt_S ?q_fi ?q_sp ?q_tk ?q_mr ?q_me ?q_i ?q_b ?q_s ?q_t ?q_lt ?q_lY ?q_tY ?q_nt ?q_nl ?n_Y ?i_Y ?l_Y ?c_Y ?p_Y ?k_Y ?i_E ?l_E ?c_E ?p_E ?e_ne ?e_fn ?e_nf ?v_LONGEST_NAME ?v_FEWEST_STACKS ?v_MOST_STACKS ?v_GREATEST_HEIGHT ?z_len ?z_range ?z_int ?z_list ?z_tuple ?z_sum ?z_max ?z_min ?z_abs ?z_repr ?z_isinstance ?z_enumerate ?z_all ?z_str ?z_set ?z_bool ?z_sorted ?a_0 ?d_0 ?o_0 ?p_0 ?a_1 ?d_1 ?o_1 ?p_1 ?a_2 ?d_2 ?o_2 ?p_2 ?a_3 ?d_3 ?o_3 ?p_3 ?a_4 ?d_4 ?o_4 ?p_4 ?a_5 ?d_5 ?o_5 ?p_5 ?a_6 ?d_6 ?o_6 ?p_6 ?a_7 ?d_7 ?o_7 ?p_7 ?a_8 ?d_8 ?o_8 ?p_8 ?a_9 ?d_9 ?o_9 ?p_9 ?a_10 ?d_10 ?o_10 ?p_10 ?a_11 ?d_11 ?o_11 ?p_11 ?a_12 ?d_12 ?o_12 ?p_12 ?a_13 ?d_13 ?o_13 ?p_13 ?a_14 ?d_14 ?o_14 ?p_14 ?a_15 ?d_15 ?o_15 ?p_15 ?a_16 ?d_16 ?o_16 ?p_16 ?a_17 ?d_17 ?o_17 ?p_17 ?a_18 ?d_18 ?o_18 ?p_18 ?a_19 ?d_19 ?o_19 ?p_19 ?a_20 ?d_20 ?o_20 ?p_20 ?a_21 ?d_21 ?o_21 ?p_21 ?a_22 ?d_22 ?o_22 ?p_22 ?a_23 ?d_23 ?o_23 ?p_23 ?a_24 ?d_24 ?o_24 ?p_24 ?a_25 ?d_25 ?o_25 ?p_25 ?a_26 ?d_26 ?o_26 ?p_26 ?a_27 ?d_27 ?o_27 ?p_27 ?a_28 ?d_28 ?o_28 ?p_28 ?a_29 ?d_29 ?o_29 ?p_29 ?a_30 ?d_30 ?o_30 ?p_30 ?ne_P
    (case n_V => k_is); (case x_V => k_is); (case i_V => k_is); (case l_V => k_is); (case c_V => k_is); (case y_V => kernel_rfl)
    (case k_V => kernel_rfl); (case m_V => kernel_rfl); (case n_S => k_is); (case x_S => k_is); (case i_S => k_is); (case l_S => k_is)
    (case c_S => k_is); (case y_S => kernel_rfl); (case k_S => kernel_rfl); (case m_S => kernel_rfl); (case n_N => k_is); (case x_N => k_is)
    (case i_N => k_is); (case l_N => k_is); (case c_N => k_is); (case y_N => kernel_rfl); (case k_N => kernel_rfl); (case m_N => kernel_rfl)
    (case e_V => kernel_rfl); (case e_S => kernel_rfl); (case n_CB => k_is); (case kt_V => kernel_rfl); (case kt_S => kernel_rfl); (case q_fi => kernel_rfl)
    (case q_sp => kernel_rfl); (case q_tk => kernel_rfl); (case q_mr => kernel_rfl); (case q_me => kernel_rfl); (case q_i => kernel_rfl); (case q_b => kernel_rfl)
    (case q_s => kernel_rfl); (case q_t => kernel_rfl); (case q_lt => kernel_rfl); (case q_lY => kernel_rfl); (case q_tY => kernel_rfl); (case q_nt => kernel_rfl)
    (case q_nl => kernel_rfl); (case n_Y => k_is); (case i_Y => k_is); (case l_Y => k_is); (case c_Y => k_is); (case p_Y => k_is)
    (case k_Y => kernel_rfl); (case i_E => k_is); (case l_E => k_is); (case c_E => k_is); (case p_E => k_is); (case e_ne => kernel_rfl)
    (case e_fn => kernel_rfl); (case e_nf => kernel_rfl); (case v_LONGEST_NAME => k_is); (case v_FEWEST_STACKS => k_is); (case v_MOST_STACKS => k_is); (case v_GREATEST_HEIGHT => k_is)
    (case z_len => k_is); (case z_range => k_is); (case z_int => k_is); (case z_list => k_is); (case z_tuple => k_is); (case z_sum => k_is)
    (case z_max => k_is); (case z_min => k_is); (case z_abs => k_is); (case z_repr => k_is); (case z_isinstance => k_is); (case z_enumerate => k_is)
    (case z_all => k_is); (case z_str => k_is); (case z_set => k_is); (case z_bool => k_is); (case z_sorted => k_is); (case a_0 => k_is)
    (case d_0 => k_is); (case o_0 => k_is); (case p_0 => k_is); (case a_1 => k_is); (case d_1 => k_is); (case o_1 => k_is)
    (case p_1 => k_is); (case a_2 => k_is); (case d_2 => k_is); (case o_2 => k_is); (case p_2 => k_is); (case a_3 => k_is)
    (case d_3 => k_is); (case o_3 => k_is); (case p_3 => k_is); (case a_4 => k_is); (case d_4 => k_is); (case o_4 => k_is)
    (case p_4 => k_is); (case a_5 => k_is); (case d_5 => k_is); (case o_5 => k_is); (case p_5 => k_is); (case a_6 => k_is)
    (case d_6 => k_is); (case o_6 => k_is); (case p_6 => k_is); (case a_7 => k_is); (case d_7 => k_is); (case o_7 => k_is)
    (case p_7 => k_is); (case a_8 => k_is); (case d_8 => k_is); (case o_8 => k_is); (case p_8 => k_is); (case a_9 => k_is)
    (case d_9 => k_is); (case o_9 => k_is); (case p_9 => k_is); (case a_10 => k_is); (case d_10 => k_is); (case o_10 => k_is)
    (case p_10 => k_is); (case a_11 => k_is); (case d_11 => k_is); (case o_11 => k_is); (case p_11 => k_is); (case a_12 => k_is)
    (case d_12 => k_is); (case o_12 => k_is); (case p_12 => k_is); (case a_13 => k_is); (case d_13 => k_is); (case o_13 => k_is)
    (case p_13 => k_is); (case a_14 => k_is); (case d_14 => k_is); (case o_14 => k_is); (case p_14 => k_is); (case a_15 => k_is)
    (case d_15 => k_is); (case o_15 => k_is); (case p_15 => k_is); (case a_16 => k_is); (case d_16 => k_is); (case o_16 => k_is)
    (case p_16 => k_is); (case a_17 => k_is); (case d_17 => k_is); (case o_17 => k_is); (case p_17 => k_is); (case a_18 => k_is)
    (case d_18 => k_is); (case o_18 => k_is); (case p_18 => k_is); (case a_19 => k_is); (case d_19 => k_is); (case o_19 => k_is)
    (case p_19 => k_is); (case a_20 => k_is); (case d_20 => k_is); (case o_20 => k_is); (case p_20 => k_is); (case a_21 => k_is)
    (case d_21 => k_is); (case o_21 => k_is); (case p_21 => k_is); (case a_22 => k_is); (case d_22 => k_is); (case o_22 => k_is)
    (case p_22 => k_is); (case a_23 => k_is); (case d_23 => k_is); (case o_23 => k_is); (case p_23 => k_is); (case a_24 => k_is)
    (case d_24 => k_is); (case o_24 => k_is); (case p_24 => k_is); (case a_25 => k_is); (case d_25 => k_is); (case o_25 => k_is)
    (case p_25 => k_is); (case a_26 => k_is); (case d_26 => k_is); (case o_26 => k_is); (case p_26 => k_is); (case a_27 => k_is)
    (case d_27 => k_is); (case o_27 => k_is); (case p_27 => k_is); (case a_28 => k_is); (case d_28 => k_is); (case o_28 => k_is)
    (case p_28 => k_is); (case a_29 => k_is); (case d_29 => k_is); (case o_29 => k_is); (case p_29 => k_is); (case a_30 => k_is)
    (case d_30 => k_is); (case o_30 => k_is); (case p_30 => k_is); (case ne_P => decide)
  case S =>
    intro K H a ns hl hb hG hS
    exact ⟨a, ns, rfl, hS, fun z hz => K01.bits_lt (hb z hz), fun p hp => by
      simp only [K01.TB2, List.mem_cons, List.not_mem_nil, or_false] at hp
      rcases hp with rfl | rfl
      · exact hG (298, 296) (by simp)
      · exact hG (305, 301) (by simp), fun _ => rfl⟩
