import PyProof.Rows.All
import Wide.All
import OpenK.AllK
import Wide.FinOn
import HandS.ForMost
import HandS.ForExc
import HandS.Evl
import HandS.TupAny
import HandS.IsInst
import HandS.WideBits
import HandS.SetFor
import HandS.TryMany
import HandS.ExcInit
import HandS.ExcField
import HandS.NoneIn
import HandS.Walk
import HandS.Zip
import HandS.HeadHook1
import HandS.HeadHook2
import HandS.CallSlots
import KE.KExcIs
import HandS.ExcIs
import HandS.Property
import HandS.Iter
import HandS.GenList
import HandS.GenYield
import HandS.SlotsOwn
import HandS.OwnIter
import KE.GoesMore
import KE.OsArith
import KE.IntBitsLaws
import HandS.Head0
import HandS.Head1
import HandS.Head2
import HandS.HeadEnd
import HandS.EndBits
import HandS.HeadNt
import PySem.Challenge.RW_copyrates_k06_whole_grades_by_sources
set_option Elab.async false
set_option linter.all false
set_option maxRecDepth 100000
set_option maxHeartbeats 0
-- DL
namespace DL
open PySem L2
abbrev D := PyData
abbrev Ex := Evl.Ex
abbrev ob (C : Str) (ns : List Str) (ds : List PyData) : PyData := .dict [(.str C, .none), (.list (ns.map PyData.str), .list ds)]
mutual
inductive Dd (K : PySem.W.Frag) (H : Hp) : V → PyData → Prop
  | non : Dd K H .non .none
  | bl (b : Bool) : Dd K H (.bl b) (.bool b)
  | int (i : Int) : Dd K H (.int i) (.int i)
  | str (x : Str) : Dd K H (.str x) (.str x)
  | lst {a : Addr} {xs : List V} {ds : List PyData} : H a = some (.lst xs) → DdAll K H xs ds → Dd K H (.ref a) (.list ds)
  | tup {a : Addr} {xs : List V} {ds : List PyData} : SqT K H a xs → DdAll K H xs ds → Dd K H (.ref a) (.tuple ds)
  | obj {a dx : Addr} {C : Str} {ns : List Str} {xs : List V} {ds : List PyData} : H a = some (.ins (He.ga K C) dx (ns.zip xs)) → ns.length = ds.length → DdAll K H xs ds → Dd K H (.ref a) (ob C ns ds)
inductive DdAll (K : PySem.W.Frag) (H : Hp) : List V → List PyData → Prop
  | nil : DdAll K H [] []
  | cons {v : V} {vs : List V} {d : PyData} {ds : List PyData} : Dd K H v d → DdAll K H vs ds → DdAll K H (v :: vs) (d :: ds)
end
section
variable {K : PySem.W.Frag}
mutual
theorem dp_of {H : Hp} : ∀ {v : V} {d : D}, Dd K H v d → d.canLay0 = true → Dp K H v d
  | _, _, .non, _ => .non
  | _, _, .bl b, _ => .bl b
  | _, _, .int i, _ => .int i
  | _, _, .str x, _ => .str x
  | _, _, .lst h r, c => .lst (.of h) (dpa_of r (by simpa [PyData.canLay0] using c))
  | _, _, .tup h r, c => .tup h (dpa_of r (by simpa [PyData.canLay0] using c))
  | _, _, .obj h l r, c => by simp [PyData.canLay0] at c
theorem dpa_of {H : Hp} : ∀ {vs : List V} {ds : List D}, DdAll K H vs ds → PyData.canLayAll0 ds = true → DpAll K H vs ds
  | _, _, .nil, _ => .nil
  | _, _, .cons a b, c => by
    rw [PyData.canLayAll0, Bool.and_eq_true] at c
    exact .cons (dp_of a c.1) (dpa_of b c.2)
end
mutual
theorem dp_ex {H H' : Hp} (e : Ex H H') : ∀ {v : V} {d : D}, Dd K H v d → Dd K H' v d
  | _, _, .non => .non
  | _, _, .bl b => .bl b
  | _, _, .int i => .int i
  | _, _, .str x => .str x
  | _, _, .lst h r => .lst (e _ _ h) (dpa_ex e r)
  | _, _, .tup h r => .tup (Evl.ex_t e h) (dpa_ex e r)
  | _, _, .obj h l r => .obj (e _ _ h) l (dpa_ex e r)
theorem dpa_ex {H H' : Hp} (e : Ex H H') : ∀ {vs : List V} {ds : List D}, DdAll K H vs ds → DdAll K H' vs ds
  | _, _, .nil => .nil
  | _, _, .cons a b => .cons (dp_ex e a) (dpa_ex e b)
end
theorem dpa_len {H : Hp} : ∀ {vs : List V} {ds : List D}, DdAll K H vs ds → vs.length = ds.length
  | _, _, .nil => rfl
  | _, _, .cons _ b => by rw [List.length_cons, List.length_cons, dpa_len b]
theorem dpa_get {H : Hp} : ∀ {vs : List V} {ds : List D}, DdAll K H vs ds → ∀ {i : Nat} {d : D}, ds[i]? = some d → ∃ v, vs[i]? = some v ∧ Dd K H v d
  | _, _, .nil, i, d, h => by simp at h
  | _, _, .cons a b, 0, d, h => by
    have e := Option.some.inj h
    subst e
    exact ⟨_, rfl, a⟩
  | _, _, .cons a b, i + 1, d, h => by
    obtain ⟨v, h1, h2⟩ := dpa_get b (i := i) (d := d) (by simpa using h)
    exact ⟨v, by simpa using h1, h2⟩
theorem dpa_get' {H : Hp} : ∀ {vs : List V} {ds : List D}, DdAll K H vs ds → ∀ {i : Nat} {v : V}, vs[i]? = some v → ∃ d, ds[i]? = some d ∧ Dd K H v d
  | _, _, .nil, i, d, h => by simp at h
  | _, _, .cons a b, 0, d, h => by
    have e := Option.some.inj h
    subst e
    exact ⟨_, rfl, a⟩
  | _, _, .cons a b, i + 1, v, h => by
    obtain ⟨d, h1, h2⟩ := dpa_get' b (i := i) (v := v) (by simpa using h)
    exact ⟨d, by simpa using h1, h2⟩
theorem dpa_app {H : Hp} : ∀ {vs ws : List V} {ds es : List D}, DdAll K H vs ds → DdAll K H ws es → DdAll K H (vs ++ ws) (ds ++ es)
  | _, _, _, _, .nil, s => s
  | _, _, _, _, .cons a b, s => .cons a (dpa_app b s)
theorem dpa_take {H : Hp} : ∀ {vs : List V} {ds : List D} (n : Nat), DdAll K H vs ds → DdAll K H (vs.take n) (ds.take n)
  | _, _, 0, _ => .nil
  | _, _, _ + 1, .nil => .nil
  | _, _, n + 1, .cons a b => .cons a (dpa_take n b)
theorem dpa_drop {H : Hp} : ∀ {vs : List V} {ds : List D} (n : Nat), DdAll K H vs ds → DdAll K H (vs.drop n) (ds.drop n)
  | _, _, 0, h => h
  | _, _, _ + 1, .nil => .nil
  | _, _, n + 1, .cons _ b => dpa_drop n b
theorem dpa_set {H : Hp} {v : V} {d : D} (h : Dd K H v d) : ∀ {vs : List V} {ds : List D} (i : Nat), DdAll K H vs ds → DdAll K H (vs.set i v) (ds.set i d)
  | _, _, _, .nil => .nil
  | _, _, 0, .cons _ b => .cons h b
  | _, _, i + 1, .cons a b => .cons a (dpa_set h i b)
theorem dpa_rev {H : Hp} {vs : List V} {ds : List D} (h : DdAll K H vs ds) : DdAll K H vs.reverse ds.reverse := by
  induction h using DdAll.rec (motive_1 := fun _ _ _ => True) with
  | nil => exact .nil
  | cons a b _ ih =>
    rw [List.reverse_cons, List.reverse_cons]
    exact dpa_app ih (.cons a .nil)
  | _ => trivial
theorem dpa_ints {H : Hp} : ∀ {vs : List V} {ns : List Int}, DdAll K H vs (ns.map PyData.int) → vs = ns.map V.int
  | [], [], _ => rfl
  | v :: vs, n :: ns, h => by
    cases h with
    | cons a b =>
      cases a
      rw [dpa_ints b]
      rfl
  | [], _ :: _, h => by cases h
  | _ :: _, [], h => by cases h
theorem dpa_of_ints {H : Hp} : ∀ (ns : List Int), DdAll K H (ns.map V.int) (ns.map PyData.int)
  | [] => .nil
  | n :: ns => .cons (.int n) (dpa_of_ints ns)
theorem dpa_strs {H : Hp} : ∀ {vs : List V} {ns : List Str}, DdAll K H vs (ns.map PyData.str) → vs = ns.map V.str
  | [], [], _ => rfl
  | v :: vs, n :: ns, h => by
    cases h with
    | cons a b =>
      cases a
      rw [dpa_strs b]
      rfl
  | [], _ :: _, h => by cases h
  | _ :: _, [], h => by cases h
theorem dp_int {H : Hp} {v : V} {i : Int} (h : Dd K H v (.int i)) : v = .int i := by cases h; rfl
theorem dp_bl {H : Hp} {v : V} {i : Bool} (h : Dd K H v (.bool i)) : v = .bl i := by cases h; rfl
theorem dp_str {H : Hp} {v : V} {i : Str} (h : Dd K H v (.str i)) : v = .str i := by cases h; rfl
theorem dp_non {H : Hp} {v : V} (h : Dd K H v .none) : v = .non := by cases h; rfl
theorem dp_lst {H : Hp} {v : V} {ds : List D} (h : Dd K H v (.list ds)) : ∃ a xs, v = .ref a ∧ H a = some (.lst xs) ∧ DdAll K H xs ds := by
  cases h with
  | lst h r => exact ⟨_, _, rfl, h, r⟩
theorem dp_tup {H : Hp} {v : V} {ds : List D} (h : Dd K H v (.tuple ds)) : ∃ a xs, v = .ref a ∧ SqT K H a xs ∧ DdAll K H xs ds := by
  cases h with
  | tup h r => exact ⟨_, _, rfl, h, r⟩
theorem str_inj : ∀ {ns ms : List Str}, ns.map PyData.str = ms.map PyData.str → ns = ms
  | [], [], _ => rfl
  | _ :: _, _ :: _, h => by
    rw [List.map_cons, List.map_cons] at h
    injection h with h1 h2
    injection h1 with h1
    rw [h1, str_inj h2]
  | [], _ :: _, h => by cases h
  | _ :: _, [], h => by cases h
theorem dp_obj {H : Hp} {v : V} {C : Str} {ns : List Str} {ds : List D} (h : Dd K H v (ob C ns ds)) : ∃ a dx xs, v = .ref a ∧ H a = some (.ins (He.ga K C) dx (ns.zip xs)) ∧ ns.length = ds.length ∧ DdAll K H xs ds := by
  generalize e : ob C ns ds = d at h
  cases h with
  | obj h l r =>
    injection e with e
    injection e with e1 e2
    injection e1 with e1 _
    injection e1 with e1
    injection e2 with e2 _
    injection e2 with e2 e3
    injection e2 with e2
    injection e3 with e3
    have e2 := str_inj e2
    subst e1 e2 e3
    exact ⟨_, _, _, rfl, h, l, r⟩
  | _ => cases e
theorem dpa_cons {H : Hp} {v : V} {vs : List V} {d : D} {ds : List D} (h : DdAll K H (v :: vs) (d :: ds)) : Dd K H v d ∧ DdAll K H vs ds := by
  cases h with
  | cons a b => exact ⟨a, b⟩
theorem dpa_nil' {H : Hp} {vs : List V} (h : DdAll K H vs []) : vs = [] := by cases h; rfl
theorem dpa_cons' {H : Hp} {vs : List V} {d : D} {ds : List D} (h : DdAll K H vs (d :: ds)) : ∃ v ws, vs = v :: ws ∧ Dd K H v d ∧ DdAll K H ws ds := by
  cases h with
  | cons a b => exact ⟨_, _, rfl, a, b⟩

inductive Ct where
  | lst (xs : List D)
  | ins (C : Str) (dx : Addr) (ns : List Str) (xs : List D)
def COk (K : PySem.W.Frag) (G H : Hp) (a : Addr) : Ct → Prop
  | .lst xs => ∃ vs, H a = some (.lst vs) ∧ DdAll K G vs xs
  | .ins C dx ns xs => ∃ vs, H a = some (.ins (He.ga K C) dx (ns.zip vs)) ∧ ns.length = xs.length ∧ DdAll K G vs xs
theorem COk.on {G H G' H' : Hp} {a : Addr} {c : Ct} (h : COk K G H a c) (e : Ex G G') (q : ∀ u, H a = some u → H' a = some u) : COk K G' H' a c := by
  cases c with
  | lst xs =>
    obtain ⟨vs, h1, h2⟩ := h
    exact ⟨vs, q _ h1, dpa_ex e h2⟩
  | ins C dx ns xs =>
    obtain ⟨vs, h1, h2, h3⟩ := h
    exact ⟨vs, q _ h1, h2, dpa_ex e h3⟩
theorem COk.is {G H : Hp} {a : Addr} {c : Ct} (h : COk K G H a c) : ∃ u, H a = some u := by
  cases c with
  | lst xs =>
    obtain ⟨vs, h1, h2⟩ := h
    exact ⟨_, h1⟩
  | ins C dx ns xs =>
    obtain ⟨vs, h1, h2, h3⟩ := h
    exact ⟨_, h1⟩
inductive SD where
  | un
  | d (x : D)
  | l (a : Addr) (c : Ct)
  | p (φ : V → Hp → Prop)
def Mono (φ : V → Hp → Prop) : Prop := ∀ v G G', Ex G G' → φ v G → φ v G'
def SOk (K : PySem.W.Frag) (G H : Hp) : SD → Option V → Prop
  | .un, _ => True
  | .d x, ov => ∃ v, ov = some v ∧ Dd K G v x
  | .l a c, ov => ov = some (.ref a) ∧ G a = none ∧ COk K G H a c
  | .p φ, ov => Mono φ ∧ ∃ v, ov = some v ∧ φ v G
def own (S : List SD) (a : Addr) : Prop := ∃ (i : Nat) (c : Ct), S[i]? = some (SD.l a c)
structure Sl (K : PySem.W.Frag) (S : List SD) (σ : L2.St) (G H : Hp) : Prop where
  len : σ.length = S.length
  ok : ∀ (i : Nat) (s : SD), S[i]? = some s → ∃ ov, σ[i]? = some ov ∧ SOk K G H s ov
  ne : ∀ (i j : Nat) (a : Addr) (c c' : Ct), S[i]? = some (SD.l a c) → S[j]? = some (SD.l a c') → i = j
  ex : Ex G H
structure Stp (o : Addr → Prop) (G H G' H' : Hp) : Prop where
  g : Ex G G'
  h : Ex G' H'
  k : ∀ a u, G a = none → H a = some u → ¬ o a → G' a = none ∧ H' a = some u
  d : ∀ a, H' a = none → H a = none
def oF (m : Bool) (S : List SD) (a : Addr) : Prop := m = true ∧ own S a
theorem Stp.refl {o : Addr → Prop} {G H : Hp} (e : Ex G H) : Stp o G H G H := ⟨Evl.Ex.refl G, e, fun a u h1 h2 _ => ⟨h1, h2⟩, fun _ h => h⟩
theorem Stp.trans {o o1 o2 : Addr → Prop} {G H G1 H1 G2 H2 : Hp} (s : Stp o G H G1 H1) (t : Stp o1 G1 H1 G2 H2) (h0 : ∀ a, o a → o2 a) (h1 : ∀ a u, G a = none → H a = some u → ¬ o2 a → ¬ o1 a) : Stp o2 G H G2 H2 :=
  ⟨s.g.trans t.g, t.h, fun a u e1 e2 n => by
    obtain ⟨f1, f2⟩ := s.k a u e1 e2 fun z => n (h0 a z)
    exact t.k a u f1 f2 (h1 a u e1 e2 n), fun a h => s.d a (t.d a h)⟩
theorem Stp.imp {o o1 : Addr → Prop} {G H G1 H1 : Hp} (s : Stp o G H G1 H1) (h0 : ∀ a, o a → o1 a) : Stp o1 G H G1 H1 := ⟨s.g, s.h, fun a u e1 e2 n => s.k a u e1 e2 fun z => n (h0 a z), s.d⟩
abbrev no : Addr → Prop := fun _ => False
theorem oF_no {S : List SD} {a : Addr} (h : oF false S a) : False := by cases h.1
theorem Stp.all {G H G1 H1 : Hp} (s : Stp no G H G1 H1) (e : Ex G H) : Ex H H1 := fun a u h => by
  cases q : G a with
  | none => exact (s.k a u q h id).2
  | some u' =>
    have h' := e a u' q
    rw [h] at h'
    cases h'
    exact s.h a u (s.g a u q)
theorem Stp.no_of {S : List SD} {G H G1 H1 : Hp} (s : Stp (oF false S) G H G1 H1) : Stp no G H G1 H1 := s.imp fun a h => oF_no h
theorem dom_upd {H : Hp} {p a : Addr} {u : HO} (h : upd H p u a = none) : H a = none := by
  by_cases c : a = p
  · subst c
    rw [upd_same] at h
    cases h
  · rw [upd_ne c] at h
    exact h
theorem Stp.new {o : Addr → Prop} {G H : Hp} {p : Addr} {u : HO} (e : Ex G H) (hp : H p = none) : Stp o G H (upd G p u) (upd H p u) := by
  have gp : G p = none := by
    cases q : G p with
    | none => rfl
    | some z => rw [e p z q] at hp; cases hp
  refine ⟨Evl.Ex.new gp, fun a z h => ?_, fun a z h1 h2 _ => ?_, fun a h => dom_upd h⟩
  · by_cases c : a = p
    · subst c
      rw [upd_same] at h ⊢
      exact h
    · rw [upd_ne c] at h ⊢
      exact e a z h
  · have c : a ≠ p := fun z => by subst z; rw [hp] at h2; cases h2
    rw [upd_ne c, upd_ne c]
    exact ⟨h1, h2⟩
theorem Stp.made {o : Addr → Prop} {G H : Hp} {p : Addr} {u : HO} (e : Ex G H) (hp : H p = none) : Stp o G H G (upd H p u) := by
  have gp : G p = none := by
    cases q : G p with
    | none => rfl
    | some z => rw [e p z q] at hp; cases hp
  refine ⟨Evl.Ex.refl G, fun a z h => ?_, fun a z h1 h2 _ => ?_, fun a h => dom_upd h⟩
  · rw [upd_ne (ne_of_none h gp)]
    exact e a z h
  · have c : a ≠ p := fun z => by subst z; rw [hp] at h2; cases h2
    rw [upd_ne c]
    exact ⟨h1, h2⟩
theorem free_of {G H : Hp} {p : Addr} (e : Ex G H) (hp : H p = none) : G p = none := by
  cases q : G p with
  | none => rfl
  | some z => rw [e p z q] at hp; cases hp
theorem SOk.on {G H G' H' : Hp} {s : SD} {ov : Option V} (h : SOk K G H s ov) (st : Stp no G H G' H') : SOk K G' H' s ov := by
  cases s with
  | un => trivial
  | d x =>
    obtain ⟨v, e, q⟩ := h
    exact ⟨v, e, dp_ex st.g q⟩
  | l a xs =>
    obtain ⟨e, g, q⟩ := h
    obtain ⟨u, hu⟩ := q.is
    exact ⟨e, (st.k a u g hu id).1, q.on st.g fun u hu => (st.k a u g hu id).2⟩
  | p φ =>
    obtain ⟨m, v, e, q⟩ := h
    exact ⟨m, v, e, m v _ _ st.g q⟩
theorem Sl.on {S : List SD} {σ : L2.St} {G H G' H' : Hp} (h : Sl K S σ G H) (st : Stp no G H G' H') : Sl K S σ G' H' :=
  ⟨h.len, fun i s e => let ⟨ov, q, r⟩ := h.ok i s e; ⟨ov, q, r.on st⟩, h.ne, st.h⟩

abbrev XO := Str → Str → D → Prop
abbrev nox : XO := fun _ _ _ => False
structure ExcAt (K : PySem.W.Frag) (χ : XO) (G H : Hp) (C : Str) (dd : Addr) (G' H' : Hp) : Prop where
  ex : ∃ f x v, χ C f x ∧ G' dd = some (.xd [(f, v)]) ∧ Dd K G' v x
  st : Stp no G H G' H'
def J (K : PySem.W.Frag) (E : L2.St → XK) (m : Bool) (te : TE) (S S' : List SD) (φ : V → Hp → Hp → Prop) (χ : XO) : Prop :=
  ∀ σ G H, Sl K S σ G H → ∀ Q : VK, (∀ v G' H', Stp (oF m S) G H G' H' → Sl K S' σ G' H' → (∀ a, own S' a → own S a) → φ v G' H' → Q v H') →
    (∀ C dd G' H', ExcAt K χ G H C dd G' H' → E σ (.ref (He.ga K C)) (some dd) H') → te σ H Q
abbrev dd (K : PySem.W.Frag) (x : D) : V → Hp → Hp → Prop := fun v G _ => Dd K G v x
abbrev td (K : PySem.W.Frag) (x : D) : V → Hp → Hp → Prop := fun v _ H => Dd K H v x
variable {E : L2.St → XK} {m : Bool} {te ta tb : TE} {S S' S1 S2 : List SD} {φ ψ : V → Hp → Hp → Prop} {χ : XO} {x y z : D}
theorem J.imp (h : J K E m te S S' φ χ) (q : ∀ v G H, Ex G H → φ v G H → ψ v G H) : J K E m te S S' ψ χ := fun σ G H s Q k e => h σ G H s Q (fun v G' H' st s' o f => k v G' H' st s' o (q v G' H' st.h f)) e
theorem J.td (h : J K E m te S S' (dd K x) χ) : J K E m te S S' (td K x) χ := h.imp fun v G H e q => dp_ex e q
theorem J.up (h : J K E false te S S' φ χ) : J K E m te S S' φ χ := fun σ G H s Q k e => h σ G H s Q (fun v G' H' st => k v G' H' (st.no_of.imp fun _ z => z.elim)) e
theorem ExcAt.later {G H G1 H1 : Hp} {C : Str} {d : Addr} {G' H' : Hp} (s : Stp no G H G1 H1) (h : ExcAt K χ G1 H1 C d G' H') : ExcAt K χ G H C d G' H' := ⟨h.ex, s.trans h.st (fun _ z => z) fun _ _ _ _ n => n⟩
theorem Stp.tr {S1 : List SD} {G H G1 H1 G2 H2 : Hp} (s : Stp (oF m S) G H G1 H1) (t : Stp (oF m S1) G1 H1 G2 H2) (ow : ∀ a, own S1 a → own S a) : Stp (oF m S) G H G2 H2 :=
  s.trans t (fun _ z => z) fun a u _ _ n z => n ⟨z.1, ow a z.2⟩
theorem Stp.weak {G H G1 H1 : Hp} (s : Stp no G H G1 H1) : Stp (oF m S) G H G1 H1 := s.imp fun _ z => z.elim

theorem j_var {i : Nat} (h : S[i]? = some (.d x)) : J K E m (tVar i) S S (dd K x) χ := fun σ G H s Q k _ => by
  obtain ⟨ov, e, v, rfl, q⟩ := s.ok i _ h
  exact ⟨v, e, k v G H (.refl s.ex) s (fun _ z => z) q⟩
theorem j_varL {i : Nat} {a : Addr} {xs : List D} (h : S[i]? = some (.l a (.lst xs))) : J K E m (tVar i) S S (td K (.list xs)) χ := fun σ G H s Q k _ => by
  obtain ⟨ov, e, rfl, g, vs, q, r⟩ := s.ok i _ h
  exact ⟨.ref a, e, k _ G H (.refl s.ex) s (fun _ z => z) (.lst q (dpa_ex s.ex r))⟩
theorem j_varP {i : Nat} {ρ : V → Hp → Prop} (h : S[i]? = some (.p ρ)) : J K E m (tVar i) S S (fun v G _ => ρ v G) χ := fun σ G H s Q k _ => by
  obtain ⟨ov, e, mo, v, rfl, q⟩ := s.ok i _ h
  exact ⟨v, e, k v G H (.refl s.ex) s (fun _ z => z) q⟩
theorem j_int {i : Int} : J K E m (tC (.int i)) S S (dd K (.int i)) χ := fun σ G H s Q k _ => k _ G H (.refl s.ex) s (fun _ z => z) (.int i)
theorem j_bl {i : Bool} : J K E m (tC (.bl i)) S S (dd K (.bool i)) χ := fun σ G H s Q k _ => k _ G H (.refl s.ex) s (fun _ z => z) (.bl i)
theorem j_str {i : Str} : J K E m (tC (.str i)) S S (dd K (.str i)) χ := fun σ G H s Q k _ => k _ G H (.refl s.ex) s (fun _ z => z) (.str i)
theorem j_non : J K E m (tC .non) S S (dd K .none) χ := fun σ G H s Q k _ => k _ G H (.refl s.ex) s (fun _ z => z) .non
theorem j_val {v : V} : J K E m (tC v) S S (fun w _ _ => w = v) χ := fun σ G H s Q k _ => k _ G H (.refl s.ex) s (fun _ z => z) rfl

def OPV (K : PySem.W.Frag) (r : R2) (x y : D) (φ : V → Hp → Hp → Prop) : Prop :=
  ∀ v w G H, Ex G H → Dd K H v x → Dd K H w y → ∀ Q : VK, (∀ z G' H', Stp no G H G' H' → φ z G' H' → Q z H') → r v w H Q
theorem j_op {r : R2} (ha : J K E m ta S S1 (dd K x) χ) (hb : J K E m tb S1 S2 (td K y) nox) (hr : OPV K r x y φ) : J K E m (tOp r ta tb) S S2 φ χ := fun σ G H s Q k e =>
  ha σ G H s _ (fun v G1 H1 st1 s1 o1 d1 => hb σ G1 H1 s1 _ (fun w G2 H2 st2 s2 o2 d2 => hr v w G2 H2 st2.h (dp_ex st2.h (dp_ex st2.g d1)) d2 Q fun z G3 H3 st3 f =>
    k z G3 H3 ((st1.tr st2 o1).trans st3 (fun _ z => z) fun _ _ _ _ _ z => z) (s2.on st3) (fun a z => o1 a (o2 a z)) f) fun _ _ _ _ z => z.ex.elim fun _ ⟨_, _, q, _⟩ => q.elim) e
theorem j_opT {r : R2} (ha : J K E m ta S S1 (td K x) χ) (hb : J K E false tb S1 S1 (td K y) nox) (hr : OPV K r x y φ) : J K E m (tOp r ta tb) S S1 φ χ := fun σ G H s Q k e =>
  ha σ G H s _ (fun v G1 H1 st1 s1 o1 d1 => hb σ G1 H1 s1 _ (fun w G2 H2 st2 s2 o2 d2 => hr v w G2 H2 st2.h (dp_ex (st2.no_of.all s1.ex) d1) d2 Q fun z G3 H3 st3 f =>
    k z G3 H3 ((st1.tr st2.no_of.weak o1).trans st3 (fun _ z => z) fun _ _ _ _ _ z => z) (s2.on st3) (fun a z => o1 a (o2 a z)) f) fun _ _ _ _ z => z.ex.elim fun _ ⟨_, _, q, _⟩ => q.elim) e
theorem opv_i {C : Int → Int → Prop} {f : Int → Int → Int} {i j : Int} (hc : C i j) : OPV K (rI C fun i j => .int (f i j)) (.int i) (.int j) (dd K (.int (f i j))) := fun v w G H e a b Q k =>
  ⟨i, j, dp_int a, dp_int b, hc, k _ G H (.refl e) (.int _)⟩
theorem opv_i0 {f : Int → Int → Int} {i j : Int} : OPV K (rI0 fun i j => .int (f i j)) (.int i) (.int j) (dd K (.int (f i j))) := fun v w G H e a b Q k =>
  ⟨i, j, dp_int a, dp_int b, k _ G H (.refl e) (.int _)⟩
theorem opv_b0 {f : Int → Int → Bool} {i j : Int} : OPV K (rI0 fun i j => .bl (f i j)) (.int i) (.int j) (dd K (.bool (f i j))) := fun v w G H e a b Q k =>
  ⟨i, j, dp_int a, dp_int b, k _ G H (.refl e) (.bl _)⟩
theorem opv_eqD (hx : SeqAt.shaped x = true) (hy : SeqAt.shaped y = true) : OPV K (rEqD K) x y (dd K (.bool (PyData.eqv x y))) := fun v w G H e a b Q k =>
  ⟨x, y, dp_of a (SeqAt.canLay_of_shaped hx), dp_of b (SeqAt.canLay_of_shaped hy), hx, hy, k _ G H (.refl e) (.bl _)⟩
theorem opv_neD (hx : SeqAt.shaped x = true) (hy : SeqAt.shaped y = true) : OPV K (rNeD K) x y (dd K (.bool (!PyData.eqv x y))) := fun v w G H e a b Q k =>
  ⟨x, y, dp_of a (SeqAt.canLay_of_shaped hx), dp_of b (SeqAt.canLay_of_shaped hy), hx, hy, k _ G H (.refl e) (.bl _)⟩
def isNon : D → Bool
  | .none => true
  | _ => false
theorem isNon_dec {H : Hp} {v : V} (h : Dd K H v x) : decide (v = .non) = isNon x := by
  cases h <;> first | rfl | exact decide_eq_false (fun z => nomatch z)
theorem opv_isN : OPV K (fun x y H Q => y = .non ∧ Q (.bl (decide (x = .non))) H) x .none (dd K (.bool (isNon x))) := fun v w G H e a b Q k => ⟨dp_non b, by
  rw [isNon_dec a]
  exact k _ G H (.refl e) (.bl _)⟩
theorem opv_notN : OPV K (fun x y H Q => y = .non ∧ Q (.bl (!decide (x = .non))) H) x .none (dd K (.bool (!isNon x))) := fun v w G H e a b Q k => ⟨dp_non b, by
  rw [isNon_dec a]
  exact k _ G H (.refl e) (.bl _)⟩
theorem j_ixT {xs : List D} {i : Int} (ha : J K E m ta S S1 (dd K (.tuple xs)) χ) (hb : J K E m tb S1 S2 (td K (.int i)) nox) (hx : atI xs i = some x) : J K E m (tOp (rIxT K) ta tb) S S2 (dd K x) χ := fun σ G H s Q k e =>
  ha σ G H s _ (fun v G1 H1 st1 s1 o1 d1 => hb σ G1 H1 s1 _ (fun w G2 H2 st2 s2 o2 d2 => by
    obtain ⟨a, vs, rfl, q, r⟩ := dp_tup (dp_ex st2.g d1)
    obtain rfl := dp_int d2
    have hl := dpa_len r
    unfold atI at hx
    cases c : ixN xs.length i with
    | none => rw [c] at hx; cases hx
    | some j =>
      rw [c] at hx
      obtain ⟨u, h1, h2⟩ := dpa_get r (show xs[j]? = some x from hx)
      exact ⟨a, vs, i, u, rfl, rfl, Evl.ex_t st2.h q, by unfold atI; rw [hl, c]; exact h1, k _ G2 H2 (st1.tr st2 o1) s2 (fun a z => o1 a (o2 a z)) h2⟩) fun _ _ _ _ z => z.ex.elim fun _ ⟨_, _, q, _⟩ => q.elim) e
theorem j_ixL {xs : List D} {i : Int} (ha : J K E m ta S S1 (dd K (.list xs)) χ) (hb : J K E m tb S1 S2 (td K (.int i)) nox) (hx : atI xs i = some x) : J K E m (tOp (rIxL K) ta tb) S S2 (dd K x) χ := fun σ G H s Q k e =>
  ha σ G H s _ (fun v G1 H1 st1 s1 o1 d1 => hb σ G1 H1 s1 _ (fun w G2 H2 st2 s2 o2 d2 => by
    obtain ⟨a, vs, rfl, q, r⟩ := dp_lst (dp_ex st2.g d1)
    obtain rfl := dp_int d2
    have hl := dpa_len r
    unfold atI at hx
    cases c : ixN xs.length i with
    | none => rw [c] at hx; cases hx
    | some j =>
      rw [c] at hx
      obtain ⟨u, h1, h2⟩ := dpa_get r (show xs[j]? = some x from hx)
      exact ⟨a, vs, i, u, rfl, rfl, .of (st2.h _ _ q), by unfold atI; rw [hl, c]; exact h1, k _ G2 H2 (st1.tr st2 o1) s2 (fun a z => o1 a (o2 a z)) h2⟩) fun _ _ _ _ z => z.ex.elim fun _ ⟨_, _, q, _⟩ => q.elim) e
theorem j_ixO {xs : List D} {i : Int} {n : Nat} {a : Addr} (ha : S[n]? = some (.l a (.lst xs))) (hb : J K E false tb S S (td K (.int i)) nox) (hx : atI xs i = some x) : J K E m (tOp (rIxL K) (tVar n) tb) S S (dd K x) χ := fun σ G H s Q k e => by
  obtain ⟨ov, e0, rfl, g, vs, q, r⟩ := s.ok n _ ha
  refine ⟨.ref a, e0, hb σ G H s _ (fun w G2 H2 st2 s2 o2 d2 => ?_) fun _ _ _ _ z => z.ex.elim fun _ ⟨_, _, q, _⟩ => q.elim⟩
  obtain rfl := dp_int d2
  have hl := dpa_len r
  obtain ⟨k1, k2⟩ := st2.no_of.k a _ g q id
  unfold atI at hx
  cases c : ixN xs.length i with
  | none => rw [c] at hx; cases hx
  | some j =>
    rw [c] at hx
    obtain ⟨u, h1, h2⟩ := dpa_get r (show xs[j]? = some x from hx)
    exact ⟨a, vs, i, u, rfl, rfl, .of k2, by unfold atI; rw [hl, c]; exact h1, k _ G2 H2 st2.no_of.weak s2 o2 (dp_ex st2.g h2)⟩

def JT (K : PySem.W.Frag) (E : L2.St → XK) (m : Bool) (tt : TT) (S S' : List SD) (b : Bool) (χ : XO) : Prop :=
  ∀ σ G H, Sl K S σ G H → ∀ Q : Bool → Hp → Prop, (∀ G' H', Stp (oF m S) G H G' H' → Sl K S' σ G' H' → (∀ a, own S' a → own S a) → Q b H') →
    (∀ C dd G' H', ExcAt K χ G H C dd G' H' → E σ (.ref (He.ga K C)) (some dd) H') → tt σ H Q
variable {t u : TT} {a b c : Bool}
theorem jt_test (h : J K E m te S S' (td K (.bool b)) χ) : JT K E m (tTest te) S S' b χ := fun σ G H s Q k e => h σ G H s _ (fun v G' H' st s' o f => ⟨b, dp_bl f, k G' H' st s' o⟩) e
theorem jt_B (h : J K E m te S S' (td K (.bool b)) χ) : JT K E m (tB te) S S' b χ := fun σ G H s Q k e => h σ G H s _ (fun v G' H' st s' o f => ⟨b, dp_bl f, k G' H' st s' o⟩) e
theorem jt_not (h : JT K E m t S S' b χ) : JT K E m (tNot t) S S' (!b) χ := fun σ G H s Q k e => h σ G H s _ (fun G' H' st s' o => k G' H' st s' o) e
theorem jt_andF (h : JT K E m t S S' false χ) : JT K E m (tAnd t u) S S' false χ := fun σ G H s Q k e => h σ G H s _ (fun G' H' st s' o => k G' H' st s' o) e
theorem jt_andT (h : JT K E m t S S1 true χ) (h2 : JT K E m u S1 S2 b nox) : JT K E m (tAnd t u) S S2 b χ := fun σ G H s Q k e => h σ G H s _ (fun G' H' st s' o => h2 σ G' H' s' _ (fun G2 H2 st2 s2 o2 => k G2 H2 (st.tr st2 o) s2 fun a z => o a (o2 a z)) fun _ _ _ _ z => z.ex.elim fun _ ⟨_, _, q, _⟩ => q.elim) e
theorem jt_orT (h : JT K E m t S S' true χ) : JT K E m (tOr t u) S S' true χ := fun σ G H s Q k e => h σ G H s _ (fun G' H' st s' o => k G' H' st s' o) e
theorem jt_orF (h : JT K E m t S S1 false χ) (h2 : JT K E m u S1 S2 b nox) : JT K E m (tOr t u) S S2 b χ := fun σ G H s Q k e => h σ G H s _ (fun G' H' st s' o => h2 σ G' H' s' _ (fun G2 H2 st2 s2 o2 => k G2 H2 (st.tr st2 o) s2 fun a z => o a (o2 a z)) fun _ _ _ _ z => z.ex.elim fun _ ⟨_, _, q, _⟩ => q.elim) e
theorem jt_and (h : JT K E m t S S a χ) (h2 : a = true → JT K E m u S S b nox) : JT K E m (tAnd t u) S S (a && b) χ := by
  cases a with
  | false => exact jt_andF h
  | true => exact jt_andT h (h2 rfl)
theorem jt_or (h : JT K E m t S S a χ) (h2 : a = false → JT K E m u S S b nox) : JT K E m (tOr t u) S S (a || b) χ := by
  cases a with
  | true => exact jt_orT h
  | false => exact jt_orF h (h2 rfl)
theorem jt_is (h : JT K E m t S S' a χ) (e : a = b) : JT K E m t S S' b χ := by subst e; exact h
theorem j_is (h : J K E m te S S' (dd K x) χ) (e : x = y) : J K E m te S S' (dd K y) χ := by subst e; exact h
theorem jt_yes : JT K E m tYes S S true χ := fun σ G H s Q k _ => k G H (.refl s.ex) s fun _ z => z
theorem j_andF (h : J K E m ta S S' (td K (.bool false)) χ) : J K E m (tAndV ta tb) S S' (dd K (.bool false)) χ := fun σ G H s Q k e => h σ G H s _ (fun v G' H' st s' o f => ⟨false, dp_bl f, k _ G' H' st s' o (.bl _)⟩) e
theorem j_andT (h : J K E m ta S S1 (td K (.bool true)) χ) (h2 : J K E m tb S1 S2 φ nox) : J K E m (tAndV ta tb) S S2 φ χ := fun σ G H s Q k e => h σ G H s _ (fun v G' H' st s' o f => ⟨true, dp_bl f, h2 σ G' H' s' _ (fun w G2 H2 st2 s2 o2 => k w G2 H2 (st.tr st2 o) s2 fun a z => o a (o2 a z)) fun _ _ _ _ z => z.ex.elim fun _ ⟨_, _, q, _⟩ => q.elim⟩) e
theorem j_and (h : J K E m ta S S (td K (.bool a)) χ) (h2 : a = true → J K E m tb S S (dd K (.bool b)) nox) : J K E m (tAndV ta tb) S S (dd K (.bool (a && b))) χ := by
  cases a with
  | false => exact j_andF h
  | true => exact j_andT h (h2 rfl)
theorem j_orT (h : J K E m ta S S' (td K (.bool true)) χ) : J K E m (tOrV ta tb) S S' (dd K (.bool true)) χ := fun σ G H s Q k e => h σ G H s _ (fun v G' H' st s' o f => ⟨true, dp_bl f, k _ G' H' st s' o (.bl _)⟩) e
theorem j_orF (h : J K E m ta S S1 (td K (.bool false)) χ) (h2 : J K E m tb S1 S2 φ nox) : J K E m (tOrV ta tb) S S2 φ χ := fun σ G H s Q k e => h σ G H s _ (fun v G' H' st s' o f => ⟨false, dp_bl f, h2 σ G' H' s' _ (fun w G2 H2 st2 s2 o2 => k w G2 H2 (st.tr st2 o) s2 fun a z => o a (o2 a z)) fun _ _ _ _ z => z.ex.elim fun _ ⟨_, _, q, _⟩ => q.elim⟩) e
theorem j_or (h : J K E m ta S S (td K (.bool a)) χ) (h2 : a = false → J K E m tb S S (dd K (.bool b)) nox) : J K E m (tOrV ta tb) S S (dd K (.bool (a || b))) χ := by
  cases a with
  | true => exact j_orT h
  | false => exact j_orF h (h2 rfl)
theorem j_not (h : J K E m ta S S' (td K (.bool a)) χ) : J K E m (tNotV ta) S S' (dd K (.bool (!a))) χ := fun σ G H s Q k e => h σ G H s _ (fun v G' H' st s' o f => ⟨a, dp_bl f, k _ G' H' st s' o (.bl _)⟩) e
theorem j_ifT (h : JT K E m t S S1 true χ) (h2 : J K E m ta S1 S2 φ nox) : J K E m (tIf t ta tb) S S2 φ χ := fun σ G H s Q k e => h σ G H s _ (fun G' H' st s' o => h2 σ G' H' s' _ (fun w G2 H2 st2 s2 o2 => k w G2 H2 (st.tr st2 o) s2 fun a z => o a (o2 a z)) fun _ _ _ _ z => z.ex.elim fun _ ⟨_, _, q, _⟩ => q.elim) e
theorem j_ifF (h : JT K E m t S S1 false χ) (h2 : J K E m tb S1 S2 φ nox) : J K E m (tIf t ta tb) S S2 φ χ := fun σ G H s Q k e => h σ G H s _ (fun G' H' st s' o => h2 σ G' H' s' _ (fun w G2 H2 st2 s2 o2 => k w G2 H2 (st.tr st2 o) s2 fun a z => o a (o2 a z)) fun _ _ _ _ z => z.ex.elim fun _ ⟨_, _, q, _⟩ => q.elim) e
theorem j_if (h : JT K E m t S S b χ) (h1 : b = true → J K E m ta S S (dd K x) nox) (h2 : b = false → J K E m tb S S (dd K y) nox) : J K E m (tIf t ta tb) S S (dd K (if b then x else y)) χ := by
  cases b with
  | true => exact j_ifT h (h1 rfl)
  | false => exact j_ifF h (h2 rfl)
theorem j_chain {r r' : R2} {i j k : Int} {f g : Int → Int → Bool} {tc : TE} (ha : J K E m ta S S (dd K (.int i)) χ) (hb : J K E m tb S S (dd K (.int j)) nox) (hc : J K E m tc S S (dd K (.int k)) nox)
    (hr : r = rI0 fun i j => .bl (f i j)) (hr' : r' = rI0 fun i j => .bl (g i j)) : J K E m (tChain r r' ta tb tc) S S (dd K (.bool (f i j && g j k))) χ := fun σ G H s Q q e => by
  subst hr hr'
  refine ha σ G H s _ (fun v G1 H1 st1 s1 o1 d1 => hb σ G1 H1 s1 _ (fun w G2 H2 st2 s2 o2 d2 => ?_) fun _ _ _ _ z => z.ex.elim fun _ ⟨_, _, q, _⟩ => q.elim) e
  obtain rfl := dp_int d1
  obtain rfl := dp_int d2
  refine ⟨i, j, rfl, rfl, f i j, rfl, ?_⟩
  cases c : f i j with
  | false => exact q _ G2 H2 (st1.tr st2 o1) s2 (fun a z => o1 a (o2 a z)) (show Dd K G2 (.bl false) (.bool (f i j && g j k)) by rw [c]; exact .bl _)
  | true =>
    refine hc σ G2 H2 s2 _ (fun u G3 H3 st3 s3 o3 d3 => ?_) fun _ _ _ _ z => z.ex.elim fun _ ⟨_, _, q, _⟩ => q.elim
    obtain rfl := dp_int d3
    exact ⟨j, k, rfl, rfl, q _ G3 H3 ((st1.tr st2 o1).tr st3 fun a z => o1 a (o2 a z)) s3 (fun a z => o1 a (o2 a (o3 a z))) (show Dd K G3 (.bl (g j k)) (.bool (f i j && g j k)) by rw [c]; exact .bl _)⟩

def JA (K : PySem.W.Frag) (E : L2.St → XK) (m : Bool) (ta : TA) (S S' : List SD) (Φ : List V → Hp → Hp → Prop) (χ : XO) : Prop :=
  ∀ σ G H, Sl K S σ G H → ∀ Q : List V → Hp → Prop, (∀ vs G' H', Stp (oF m S) G H G' H' → Sl K S' σ G' H' → (∀ a, own S' a → own S a) → Φ vs G' H' → Q vs H') →
    (∀ C dd G' H', ExcAt K χ G H C dd G' H' → E σ (.ref (He.ga K C)) (some dd) H') → ta σ H Q
abbrev da (K : PySem.W.Frag) (xs : List D) : List V → Hp → Hp → Prop := fun vs G _ => DdAll K G vs xs
abbrev ta' (K : PySem.W.Frag) (xs : List D) : List V → Hp → Hp → Prop := fun vs _ H => DdAll K H vs xs
variable {tr : TA} {xs ys ds : List D} {tas : TA}
theorem ja_nil : JA K E m tNil S S (da K []) χ := fun σ G H s Q k _ => k [] G H (.refl s.ex) s (fun _ z => z) .nil
theorem ja_nilT : JA K E m tNil S S (ta' K []) χ := fun σ G H s Q k _ => k [] G H (.refl s.ex) s (fun _ z => z) .nil
theorem ja_cons (h : J K E m te S S1 (dd K x) χ) (hr : JA K E m tr S1 S2 (da K xs) nox) : JA K E m (tCons te tr) S S2 (da K (x :: xs)) χ := fun σ G H s Q k e =>
  h σ G H s _ (fun v G1 H1 st1 s1 o1 d1 => hr σ G1 H1 s1 _ (fun vs G2 H2 st2 s2 o2 d2 => k (v :: vs) G2 H2 (st1.tr st2 o1) s2 (fun a z => o1 a (o2 a z)) (.cons (dp_ex st2.g d1) d2)) fun _ _ _ _ z => z.ex.elim fun _ ⟨_, _, q, _⟩ => q.elim) e
theorem ja_consT (h : J K E m te S S1 (td K x) χ) (hr : JA K E false tr S1 S1 (ta' K xs) nox) : JA K E m (tCons te tr) S S1 (ta' K (x :: xs)) χ := fun σ G H s Q k e =>
  h σ G H s _ (fun v G1 H1 st1 s1 o1 d1 => hr σ G1 H1 s1 _ (fun vs G2 H2 st2 s2 o2 d2 => k (v :: vs) G2 H2 (st1.tr st2.no_of.weak o1) s2 (fun a z => o1 a (o2 a z)) (.cons (dp_ex (st2.no_of.all s1.ex) d1) d2)) fun _ _ _ _ z => z.ex.elim fun _ ⟨_, _, q, _⟩ => q.elim) e
theorem ja_one (h : J K E m te S S' (td K x) χ) : JA K E m (tCons te tNil) S S' (ta' K [x]) χ := fun σ G H s Q k e =>
  h σ G H s _ (fun v G1 H1 st1 s1 o1 d1 => k [v] G1 H1 st1 s1 o1 (.cons d1 .nil)) e
theorem JA.td (h : JA K E m tas S S' (da K xs) χ) : JA K E m tas S S' (ta' K xs) χ := fun σ G H s Q k e => h σ G H s Q (fun vs G' H' st s' o f => k vs G' H' st s' o (dpa_ex st.h f)) e
def JL (K : PySem.W.Frag) (E : L2.St → XK) (m : Bool) (te : TE) (S S' : List SD) (ds : List D) (χ : XO) : Prop :=
  ∀ σ G H, Sl K S σ G H → ∀ Q : VK, (∀ p vs G' H', Stp (oF m S) G H G' H' → Sl K S' σ G' H' → (∀ a, own S' a → own S a) → H p = none → G' p = none → H' p = some (.lst vs) → DdAll K G' vs ds → Q (.ref p) H') →
    (∀ C dd G' H', ExcAt K χ G H C dd G' H' → E σ (.ref (He.ga K C)) (some dd) H') → te σ H Q
theorem Sl.ownH {σ : L2.St} {G H : Hp} {a : Addr} (s : Sl K S σ G H) (o : own S a) : ∃ u, H a = some u := by
  obtain ⟨i, xs, e⟩ := o
  obtain ⟨ov, _, _, _, q⟩ := s.ok i _ e
  exact q.is
theorem Stp.frz {G H G' H' : Hp} {p : Addr} {u : HO} (st : Stp (oF m S) G H G' H') (hp : H p = none) (gp : G' p = none) (h : H' p = some u) : Stp (oF m S) G H (upd G' p u) H' :=
  ⟨fun a z q => by rw [upd_ne (ne_of_none (st.g a z q) gp)]; exact st.g a z q, fun a z q => by
    by_cases c : a = p
    · subst c
      rw [upd_same] at q
      rw [h]
      exact q
    · rw [upd_ne c] at q
      exact st.h a z q, fun a z q1 q2 n => by
    have c : a ≠ p := fun z => by subst z; rw [hp] at q2; cases q2
    rw [upd_ne c]
    exact st.k a z q1 q2 n, st.d⟩
theorem Sl.frz {σ : L2.St} {G' H' : Hp} {p : Addr} {u : HO} (s : Sl K S σ G' H') (gp : G' p = none) (h : H' p = some u) (n : ¬ own S p) : Sl K S σ (upd G' p u) H' :=
  ⟨s.len, fun i z e => by
    obtain ⟨ov, q, r⟩ := s.ok i z e
    refine ⟨ov, q, ?_⟩
    cases z with
    | un => trivial
    | d x =>
      obtain ⟨v, e1, q1⟩ := r
      exact ⟨v, e1, dp_ex (Evl.Ex.new gp) q1⟩
    | l a xs =>
      obtain ⟨e1, g, q1⟩ := r
      have c : a ≠ p := fun z => n (z ▸ ⟨i, xs, e⟩)
      exact ⟨e1, by rw [upd_ne c]; exact g, q1.on (Evl.Ex.new gp) fun _ z => z⟩
    | p φ =>
      obtain ⟨mo, v, e1, q1⟩ := r
      exact ⟨mo, v, e1, mo v _ _ (Evl.Ex.new gp) q1⟩, s.ne, fun a z q => by
    by_cases c : a = p
    · subst c
      rw [upd_same] at q
      rw [h]
      exact q
    · rw [upd_ne c] at q
      exact s.ex a z q⟩
theorem JL.dd (h : JL K E m te S S' ds χ) : J K E m te S S' (DL.dd K (.list ds)) χ := fun σ G H s Q k e => h σ G H s Q (fun p vs G' H' st s' o hp gp q r => by
  have n : ¬ own S' p := fun z => by
    obtain ⟨vs, q⟩ := s.ownH (o p z)
    rw [hp] at q
    cases q
  exact k (.ref p) (upd G' p (.lst vs)) H' (st.frz hp gp q) (s'.frz gp q n) o (.lst upd_same (dpa_ex (Evl.Ex.new gp) r))) e
theorem Sl.made {σ : L2.St} {G H : Hp} {p : Addr} {u : HO} (s : Sl K S σ G H) (hp : H p = none) : Sl K S σ G (upd H p u) := s.on (.made s.ex hp)
theorem jl_lst (h : JA K E m tas S S' (da K ds) χ) (hl : ds.length ≤ sizeLine) : JL K E m (tLst tas) S S' ds χ := fun σ G H s Q k e =>
  h σ G H s _ (fun vs G1 H1 st1 s1 o1 d1 => ⟨by rw [dpa_len d1]; exact hl, fun p hp => by
    have g1 := free_of s1.ex hp
    exact k p vs G1 _ (st1.trans (Stp.made s1.ex hp (o := no)) (fun _ z => z) fun _ _ _ _ _ z => z) (s1.made hp) o1 (st1.d p hp) g1 upd_same d1⟩) e

theorem Stp.sz {o : Addr → Prop} {G H G' H' : Hp} (s : Stp o G H G' H') {a : Addr} (h : H' a = none) : H a = none := s.d a h
theorem Stp.news {G H G1 H1 : Hp} {p : Addr} {u : HO} (st : Stp (oF m S) G H G1 H1) (e : Ex G1 H1) (hp : H1 p = none) : Stp (oF m S) G H (upd G1 p u) (upd H1 p u) :=
  st.trans (Stp.new e hp (o := no)) (fun _ z => z) fun _ _ _ _ _ z => z
theorem Sl.news {σ : L2.St} {G H : Hp} {p : Addr} {u : HO} (s : Sl K S σ G H) (hp : H p = none) : Sl K S σ (upd G p u) (upd H p u) := s.on (.new s.ex hp)
theorem j_tup (h : JA K E m tas S S' (da K ds) χ) (hl : ds.length ≤ sizeLine) : J K E m (tTup tas) S S' (DL.dd K (.tuple ds)) χ := fun σ G H s Q k e =>
  h σ G H s _ (fun vs G1 H1 st1 s1 o1 d1 => ⟨by rw [dpa_len d1]; exact hl, fun p hp =>
    k (.ref p) _ _ (st1.news s1.ex hp) (s1.news hp) o1 (.tup (.of upd_same) (dpa_ex (Evl.Ex.new (free_of s1.ex hp)) d1))⟩) e
abbrev sdL (K : PySem.W.Frag) (xs : List D) : V → Hp → Hp → Prop := fun v G H => ∃ a vs, v = .ref a ∧ H a = some (.lst vs) ∧ DdAll K G vs xs
abbrev sdT (K : PySem.W.Frag) (xs : List D) : V → Hp → Hp → Prop := fun v G H => ∃ a vs, v = .ref a ∧ SqT K H a vs ∧ DdAll K G vs xs
theorem J.sdL (h : J K E m te S S' (DL.dd K (.list xs)) χ) : J K E m te S S' (DL.sdL K xs) χ := h.imp fun v G H e q => by
  obtain ⟨a, vs, rfl, q1, q2⟩ := dp_lst q
  exact ⟨a, vs, rfl, e _ _ q1, q2⟩
theorem J.sdT (h : J K E m te S S' (DL.dd K (.tuple xs)) χ) : J K E m te S S' (DL.sdT K xs) χ := h.imp fun v G H e q => by
  obtain ⟨a, vs, rfl, q1, q2⟩ := dp_tup q
  exact ⟨a, vs, rfl, Evl.ex_t e q1, q2⟩
theorem j_varS {i : Nat} {a : Addr} {xs : List D} (h : S[i]? = some (.l a (.lst xs))) : J K E m (tVar i) S S (DL.sdL K xs) χ := fun σ G H s Q k _ => by
  obtain ⟨ov, e, rfl, g, vs, q, r⟩ := s.ok i _ h
  exact ⟨.ref a, e, k _ G H (.refl s.ex) s (fun _ z => z) ⟨a, vs, rfl, q, r⟩⟩
theorem JL.sdL (h : JL K E m te S S' xs χ) : J K E m te S S' (DL.sdL K xs) χ := fun σ G H s Q k e => h σ G H s Q (fun p vs G' H' st s' o hp gp q r => k (.ref p) G' H' st s' o ⟨p, vs, rfl, q, r⟩) e
theorem JL.td (h : JL K E m te S S' xs χ) : J K E m te S S' (DL.td K (.list xs)) χ := fun σ G H s Q k e => h σ G H s Q (fun p vs G' H' st s' o hp gp q r => k (.ref p) G' H' st s' o (.lst q (dpa_ex st.h r))) e
def CBV (K : PySem.W.Frag) (r : List V → Hp → VK → Prop) (xs : List D) (φ : V → Hp → Hp → Prop) : Prop :=
  ∀ vs G H, Ex G H → DdAll K H vs xs → ∀ Q : VK, (∀ z G' H', Stp no G H G' H' → φ z G' H' → Q z H') → r vs H Q
theorem j_cb {r : List V → Hp → VK → Prop} (h : JA K E m tas S S' (ta' K xs) χ) (hr : CBV K r xs φ) : J K E m (tCB r tas) S S' φ χ := fun σ G H s Q k e =>
  h σ G H s _ (fun vs G1 H1 st1 s1 o1 d1 => hr vs G1 H1 st1.h d1 Q fun z G2 H2 st2 f => k z G2 H2 (st1.trans st2 (fun _ z => z) fun _ _ _ _ _ z => z) (s1.on st2) o1 f) e
theorem one_of {H : Hp} {vs : List V} (h : DdAll K H vs [x]) : ∃ v, vs = [v] ∧ Dd K H v x := by
  obtain ⟨v, ws, rfl, h1, h2⟩ := dpa_cons' h
  rw [dpa_nil' h2]
  exact ⟨v, rfl, h1⟩
theorem two_of {H : Hp} {vs : List V} (h : DdAll K H vs [x, y]) : ∃ v w, vs = [v, w] ∧ Dd K H v x ∧ Dd K H w y := by
  obtain ⟨v, ws, rfl, h1, h2⟩ := dpa_cons' h
  obtain ⟨w, rfl, h3⟩ := one_of h2
  exact ⟨v, w, rfl, h1, h3⟩
abbrev rLenQ (K : PySem.W.Frag) : List V → Hp → VK → Prop := fun xs H Q => ∃ p ys, xs = [.ref p] ∧ (SqL K H p ys ∨ SqT K H p ys) ∧ Q (.int ys.length) H
theorem cb_lenL : CBV K (rLenQ K) [.list xs] (DL.dd K (.int xs.length)) := fun vs G H e d Q k => by
  obtain ⟨v, rfl, h⟩ := one_of d
  obtain ⟨a, ws, rfl, q1, q2⟩ := dp_lst h
  exact ⟨a, ws, rfl, .inl (.of q1), by rw [dpa_len q2]; exact k _ G H (.refl e) (.int _)⟩
theorem cb_lenT : CBV K (rLenQ K) [.tuple xs] (DL.dd K (.int xs.length)) := fun vs G H e d Q k => by
  obtain ⟨v, rfl, h⟩ := one_of d
  obtain ⟨a, ws, rfl, q1, q2⟩ := dp_tup h
  exact ⟨a, ws, rfl, .inr q1, by rw [dpa_len q2]; exact k _ G H (.refl e) (.int _)⟩
theorem cb_int {i : Int} : CBV K (fun xs H Q => (∃ i, xs = [.int i] ∧ Q (.int i) H) ∨ ∃ k, xs = [.bl k] ∧ Q (.int (if k then 1 else 0)) H) [.int i] (DL.dd K (.int i)) := fun vs G H e d Q k => by
  obtain ⟨v, rfl, h⟩ := one_of d
  rw [dp_int h]
  exact .inl ⟨i, rfl, k _ G H (.refl e) (.int _)⟩
theorem cb_intB {b : Bool} : CBV K (fun xs H Q => (∃ i, xs = [.int i] ∧ Q (.int i) H) ∨ ∃ k, xs = [.bl k] ∧ Q (.int (if k then 1 else 0)) H) [.bool b] (DL.dd K (.int (if b then 1 else 0))) := fun vs G H e d Q k => by
  obtain ⟨v, rfl, h⟩ := one_of d
  rw [dp_bl h]
  exact .inr ⟨b, rfl, k _ G H (.refl e) (.int _)⟩
theorem cb_max2 {i j : Int} : CBV K (fun xs H Q => ∃ i j, xs = [.int i, .int j] ∧ Q (.int (if j > i then j else i)) H) [.int i, .int j] (DL.dd K (.int (if j > i then j else i))) := fun vs G H e d Q k => by
  obtain ⟨v, w, rfl, h1, h2⟩ := two_of d
  rw [dp_int h1, dp_int h2]
  exact ⟨i, j, rfl, k _ G H (.refl e) (.int _)⟩
theorem cb_min2 {i j : Int} : CBV K (fun xs H Q => ∃ i j, xs = [.int i, .int j] ∧ Q (.int (if j < i then j else i)) H) [.int i, .int j] (DL.dd K (.int (if j < i then j else i))) := fun vs G H e d Q k => by
  obtain ⟨v, w, rfl, h1, h2⟩ := two_of d
  rw [dp_int h1, dp_int h2]
  exact ⟨i, j, rfl, k _ G H (.refl e) (.int _)⟩
theorem cb_sum {ns : List Int} : CBV K (rSum K) [.list (ns.map PyData.int)] (DL.dd K (.int ns.sum)) := fun vs G H e d Q k => by
  obtain ⟨v, rfl, h⟩ := one_of d
  obtain ⟨a, ws, rfl, q1, q2⟩ := dp_lst h
  rw [dpa_ints q2] at q1
  exact ⟨a, ns, rfl, .of q1, k _ G H (.refl e) (.int _)⟩
theorem cb_max {ns : List Int} {b : Int} (h1 : b ∈ ns) (h2 : ∀ y ∈ ns, y ≤ b) : CBV K (rMax K) [.list (ns.map PyData.int)] (DL.dd K (.int b)) := fun vs G H e d Q k => by
  obtain ⟨v, rfl, h⟩ := one_of d
  obtain ⟨a, ws, rfl, q1, q2⟩ := dp_lst h
  rw [dpa_ints q2] at q1
  refine ⟨a, ns, rfl, .of q1, List.length_pos_of_mem h1, fun c c1 c2 => ?_⟩
  have : c = b := Int.le_antisymm (h2 c c1) (c2 b h1)
  subst this
  exact k _ G H (.refl e) (.int _)
theorem cb_min {ns : List Int} {b : Int} (h1 : b ∈ ns) (h2 : ∀ y ∈ ns, b ≤ y) : CBV K (rMin K) [.list (ns.map PyData.int)] (DL.dd K (.int b)) := fun vs G H e d Q k => by
  obtain ⟨v, rfl, h⟩ := one_of d
  obtain ⟨a, ws, rfl, q1, q2⟩ := dp_lst h
  rw [dpa_ints q2] at q1
  refine ⟨a, ns, rfl, .of q1, List.length_pos_of_mem h1, fun c c1 c2 => ?_⟩
  have : c = b := Int.le_antisymm (c2 b h1) (h2 c c1)
  subst this
  exact k _ G H (.refl e) (.int _)
abbrev rListQ (K : PySem.W.Frag) : List V → Hp → VK → Prop := fun xs H Q => ∃ p ys, xs = [.ref p] ∧ (SqL K H p ys ∨ SqT K H p ys) ∧ ∀ l, H l = none → Q (.ref l) (upd H l (.lst ys))
abbrev rTupQ (K : PySem.W.Frag) : List V → Hp → VK → Prop := fun xs H Q => ∃ p ys, xs = [.ref p] ∧ ((SqL K H p ys ∧ ∀ l, H l = none → Q (.ref l) (upd H l (.tup ys))) ∨ (SqT K H p ys ∧ Q (.ref p) H))
theorem jl_listL (h : J K E m te S S' (DL.sdL K xs) χ) : JL K E m (tCB (rListQ K) (tCons te tNil)) S S' xs χ := fun σ G H s Q k e =>
  h σ G H s _ (fun v G1 H1 st1 s1 o1 d1 => by
    obtain ⟨a, vs, rfl, q1, q2⟩ := d1
    exact ⟨a, vs, rfl, .inl (.of q1), fun p hp => k p vs G1 _ (st1.trans (Stp.made s1.ex hp (o := no)) (fun _ z => z) fun _ _ _ _ _ z => z) (s1.made hp) o1 (st1.d p hp) (free_of s1.ex hp) upd_same q2⟩) e
theorem jl_listT (h : J K E m te S S' (DL.sdT K xs) χ) : JL K E m (tCB (rListQ K) (tCons te tNil)) S S' xs χ := fun σ G H s Q k e =>
  h σ G H s _ (fun v G1 H1 st1 s1 o1 d1 => by
    obtain ⟨a, vs, rfl, q1, q2⟩ := d1
    exact ⟨a, vs, rfl, .inr q1, fun p hp => k p vs G1 _ (st1.trans (Stp.made s1.ex hp (o := no)) (fun _ z => z) fun _ _ _ _ _ z => z) (s1.made hp) o1 (st1.d p hp) (free_of s1.ex hp) upd_same q2⟩) e
theorem j_tupL (h : J K E m te S S' (DL.sdL K xs) χ) : J K E m (tCB (rTupQ K) (tCons te tNil)) S S' (DL.dd K (.tuple xs)) χ := fun σ G H s Q k e =>
  h σ G H s _ (fun v G1 H1 st1 s1 o1 d1 => by
    obtain ⟨a, vs, rfl, q1, q2⟩ := d1
    exact ⟨a, vs, rfl, .inl ⟨.of q1, fun p hp => k (.ref p) _ _ (st1.news s1.ex hp) (s1.news hp) o1 (.tup (.of upd_same) (dpa_ex (Evl.Ex.new (free_of s1.ex hp)) q2))⟩⟩) e
theorem j_tupT (h : J K E m te S S' (DL.dd K (.tuple xs)) χ) : J K E m (tCB (rTupQ K) (tCons te tNil)) S S' (DL.dd K (.tuple xs)) χ := fun σ G H s Q k e =>
  h σ G H s _ (fun v G1 H1 st1 s1 o1 d1 => by
    obtain ⟨a, vs, rfl, q1, q2⟩ := dp_tup d1
    exact ⟨a, vs, rfl, .inr ⟨Evl.ex_t st1.h q1, k (.ref a) _ _ st1 s1 o1 (.tup q1 q2)⟩⟩) e
def cutD (xs : List D) (lo hi : Option Int) : List D := (xs.drop (HT.sIx xs.length 0 lo)).take (HT.sIx xs.length xs.length hi - HT.sIx xs.length 0 lo)
theorem dpa_cut {H : Hp} {vs : List V} (h : DdAll K H vs xs) (lo hi : Option Int) : DdAll K H (cutV vs lo hi) (cutD xs lo hi) := by
  unfold cutV cutD
  rw [dpa_len h]
  exact dpa_take _ (dpa_drop _ h)
def JO (K : PySem.W.Frag) (E : L2.St → XK) (to : TO) (S : List SD) (o : Option Int) : Prop :=
  ∀ σ G H, Sl K S σ G H → ∀ Q : Option Int → Hp → Prop, (∀ G' H', Stp no G H G' H' → Q o H') → to σ H Q
theorem jo_none : JO K E tNoPart S none := fun σ G H s Q k => k G H (.refl s.ex)
theorem jo_some {i : Int} (h : J K E false te S S (DL.td K (.int i)) nox) : JO K E (tPart te) S (some i) := fun σ G H s Q k => h σ G H s _ (fun v G' H' st _ _ d => ⟨i, dp_int d, k G' H' st.no_of⟩) fun _ _ _ _ z => z.ex.elim fun _ ⟨_, _, q, _⟩ => q.elim
theorem jl_sl {tl th : TO} {lo hi : Option Int} (h : J K E m te S S' (DL.sdL K xs) χ) (hl : JO K E tl S' lo) (hh : JO K E th S' hi) : JL K E m (tSl (rSlL K) te tl th) S S' (cutD xs lo hi) χ := fun σ G H s Q k e =>
  h σ G H s _ (fun v G1 H1 st1 s1 o1 d1 => hl σ G1 H1 s1 _ fun G2 H2 st2 => hh σ G2 H2 (s1.on st2) _ fun G3 H3 st3 => by
    obtain ⟨a, vs, rfl, q1, q2⟩ := d1
    have st := st2.trans st3 (o2 := no) (fun _ z => z) fun _ _ _ _ _ z => z
    have s3 := s1.on st
    refine ⟨a, vs, rfl, .of (st.all s1.ex _ _ q1), fun p hp => ?_⟩
    have st' := st1.trans st (o2 := oF m S) (fun _ z => z) fun _ _ _ _ _ z => z
    exact k p _ G3 _ (st'.trans (Stp.made s3.ex hp (o := no)) (fun _ z => z) fun _ _ _ _ _ z => z) (s3.made hp) o1 (st'.d p hp) (free_of s3.ex hp) upd_same (dpa_cut (dpa_ex st.g q2) lo hi)) e
theorem cut_whole {xs : List D} {lo hi : Option Int} (h : HT.sIx xs.length 0 lo = 0 ∧ HT.sIx xs.length xs.length hi = xs.length) : cutD xs lo hi = xs := by
  unfold cutD
  rw [h.1, h.2]
  simp
theorem j_slT {tl th : TO} {lo hi : Option Int} (h : J K E m te S S' (DL.dd K (.tuple xs)) χ) (hl : JO K E tl S' lo) (hh : JO K E th S' hi) : J K E m (tSl (rSlA K) te tl th) S S' (DL.dd K (.tuple (cutD xs lo hi))) χ := fun σ G H s Q k e =>
  h σ G H s _ (fun v G1 H1 st1 s1 o1 d1 => hl σ G1 H1 s1 _ fun G2 H2 st2 => hh σ G2 H2 (s1.on st2) _ fun G3 H3 st3 => by
    obtain ⟨a, vs, rfl, q1, q2⟩ := dp_tup d1
    have st := st2.trans st3 (o2 := no) (fun _ z => z) fun _ _ _ _ _ z => z
    have s3 := s1.on st
    have st' := st1.trans st (o2 := oF m S) (fun _ z => z) fun _ _ _ _ _ z => z
    have hlen := dpa_len q2
    refine ⟨a, vs, rfl, Evl.ex_t (st.all s1.ex) (Evl.ex_t st1.h q1), fun w => ?_, fun w p hp => ?_⟩
    · rw [hlen] at w
      exact k _ G3 H3 st' s3 o1 (by rw [cut_whole w]; exact dp_ex st.g d1)
    · exact k (.ref p) _ _ (st'.news s3.ex hp) (s3.news hp) o1 (.tup (.of upd_same) (dpa_ex (Evl.Ex.new (free_of s3.ex hp)) (dpa_cut (dpa_ex st.g q2) lo hi)))) e
theorem two_op {r : R2} {P : V → Hp → Hp → Prop} (ha : J K E m ta S S1 φ χ) (hb : J K E m tb S1 S2 ψ nox) (hp : ∀ v w G1 H1 G2 H2, Stp (oF m S1) G1 H1 G2 H2 → Ex G1 H1 → Ex G2 H2 → φ v G1 H1 → ψ w G2 H2 →
    ∀ Q : VK, (∀ z G3 H3, Stp no G2 H2 G3 H3 → P z G3 H3 → Q z H3) → r v w H2 Q) : J K E m (tOp r ta tb) S S2 P χ := fun σ G H s Q k e =>
  ha σ G H s _ (fun v G1 H1 st1 s1 o1 d1 => hb σ G1 H1 s1 _ (fun w G2 H2 st2 s2 o2 d2 => hp v w G1 H1 G2 H2 st2 s1.ex st2.h d1 d2 Q fun z G3 H3 st3 f =>
    k z G3 H3 ((st1.tr st2 o1).trans st3 (fun _ z => z) fun _ _ _ _ _ z => z) (s2.on st3) (fun a z => o1 a (o2 a z)) f) fun _ _ _ _ z => z.ex.elim fun _ ⟨_, _, q, _⟩ => q.elim) e
theorem j_catT (ha : J K E m ta S S1 (DL.dd K (.tuple xs)) χ) (hb : J K E m tb S1 S2 (DL.dd K (.tuple ys)) nox) (hl : xs.length + ys.length ≤ sizeLine) : J K E m (tOp (rCatA K) ta tb) S S2 (DL.dd K (.tuple (xs ++ ys))) χ :=
  two_op ha hb fun v w G1 H1 G2 H2 st e1 e2 d1 d2 Q k => by
    obtain ⟨a, vs, rfl, q1, q2⟩ := dp_tup (dp_ex st.g d1)
    obtain ⟨b, ws, rfl, q3, q4⟩ := dp_tup d2
    refine ⟨a, b, vs, ws, rfl, rfl, Evl.ex_t e2 q1, Evl.ex_t e2 q3, by rw [dpa_len q2, dpa_len q4]; exact hl, fun h => ?_, fun _ h => ?_, fun _ _ p hp => ?_⟩
    · subst h
      have : xs = [] := by cases xs with | nil => rfl | cons _ _ => cases q2
      subst this
      exact k _ G2 H2 (.refl e2) d2
    · subst h
      have : ys = [] := by cases ys with | nil => rfl | cons _ _ => cases q4
      subst this
      refine k _ G2 H2 (.refl e2) ?_
      show Dd K G2 (.ref a) (.tuple (xs ++ []))
      rw [List.append_nil]
      exact dp_ex st.g d1
    · exact k _ _ _ (.new e2 hp) (.tup (.of upd_same) (dpa_ex (Evl.Ex.new (free_of e2 hp)) (dpa_app q2 q4)))
end
end DL
-- DS
namespace DL
open PySem L2
section
variable {K : PySem.W.Frag} {E : L2.St → XK} {m : Bool} {te ta tb : TE} {tas : TA} {S S' S1 S2 : List SD} {φ ψ : V → Hp → Hp → Prop} {χ : XO} {x y z : D} {xs ys ds : List D} {t u : TS} {tt : TT} {b : Bool} {i j : Nat}
theorem jl_cat (ha : J K E m ta S S1 (DL.sdL K xs) χ) (hb : J K E false tb S1 S1 (DL.sdL K ys) nox) (hl : xs.length + ys.length ≤ sizeLine) : JL K E m (tOp rCat ta tb) S S1 (xs ++ ys) χ := fun σ G H s Q k e =>
  ha σ G H s _ (fun v G1 H1 st1 s1 o1 d1 => hb σ G1 H1 s1 _ (fun w G2 H2 st2 s2 o2 d2 => by
    obtain ⟨a, vs, rfl, q1, q2⟩ := d1
    obtain ⟨b, ws, rfl, q3, q4⟩ := d2
    have st := st1.tr st2.no_of.weak o1
    exact ⟨a, b, vs, ws, rfl, rfl, st2.no_of.all s1.ex _ _ q1, q3, by rw [dpa_len q2, dpa_len q4]; exact hl, fun p hp =>
      k p _ G2 _ (st.trans (Stp.made s2.ex hp (o := no)) (fun _ z => z) fun _ _ _ _ _ z => z) (s2.made hp) o1 (st.d p hp) (free_of s2.ex hp) upd_same (dpa_app (dpa_ex st2.g q2) q4)⟩) fun _ _ _ _ z => z.ex.elim fun _ ⟨_, _, q, _⟩ => q.elim) e
theorem dpa_rep {H : Hp} {vs : List V} (h : DdAll K H vs xs) : ∀ n, DdAll K H (List.replicate n vs).flatten (List.replicate n xs).flatten
  | 0 => .nil
  | n + 1 => by
    rw [List.replicate_succ, List.replicate_succ, List.flatten_cons, List.flatten_cons]
    exact dpa_app h (dpa_rep h n)
theorem jl_rep {k : Int} (ha : J K E m ta S S1 (DL.sdL K xs) χ) (hb : J K E false tb S1 S1 (DL.td K (.int k)) nox) (hk : -(2 ^ 63) ≤ k ∧ k < 2 ^ 63) (hl : xs.length * k.toNat ≤ sizeLine) : JL K E m (tOp rRep ta tb) S S1 (List.replicate k.toNat xs).flatten χ := fun σ G H s Q q e =>
  ha σ G H s _ (fun v G1 H1 st1 s1 o1 d1 => hb σ G1 H1 s1 _ (fun w G2 H2 st2 s2 o2 d2 => by
    obtain ⟨a, vs, rfl, q1, q2⟩ := d1
    have st := st1.tr st2.no_of.weak o1
    exact ⟨a, k, vs, rfl, dp_int d2, st2.no_of.all s1.ex _ _ q1, hk.1, hk.2, by rw [dpa_len q2]; exact hl, fun p hp =>
      q p _ G2 _ (st.trans (Stp.made s2.ex hp (o := no)) (fun _ z => z) fun _ _ _ _ _ z => z) (s2.made hp) o1 (st.d p hp) (free_of s2.ex hp) upd_same (dpa_rep (dpa_ex st2.g q2) _)⟩) fun _ _ _ _ z => z.ex.elim fun _ ⟨_, _, q, _⟩ => q.elim) e
def insI (a : Int) : List Int → List Int
  | [] => [a]
  | b :: l => if a ≤ b then a :: b :: l else b :: insI a l
def sortI : List Int → List Int
  | [] => []
  | a :: l => insI a (sortI l)
theorem insI_perm (a : Int) : ∀ l, (insI a l).Perm (a :: l)
  | [] => .refl _
  | b :: l => by
    unfold insI
    split
    · exact .refl _
    · exact (List.Perm.cons b (insI_perm a l)).trans (.swap a b l)
theorem sortI_perm : ∀ l, (sortI l).Perm l
  | [] => .refl _
  | a :: l => (insI_perm a _).trans (.cons a (sortI_perm l))
theorem insI_pw (a : Int) : ∀ l, l.Pairwise (· ≤ ·) → (insI a l).Pairwise (· ≤ ·)
  | [], _ => by simp [insI]
  | b :: l, h => by
    unfold insI
    have h' := List.pairwise_cons.mp h
    split
    · rename_i c
      refine List.pairwise_cons.mpr ⟨fun x hx => ?_, h⟩
      rcases List.mem_cons.mp hx with rfl | hx
      · exact c
      · exact Int.le_trans c (h'.1 x hx)
    · rename_i c
      refine List.pairwise_cons.mpr ⟨fun x hx => ?_, insI_pw a l h'.2⟩
      rcases List.mem_cons.mp ((insI_perm a l).mem_iff.mp hx) with rfl | hx
      · omega
      · exact h'.1 x hx
theorem sortI_pw : ∀ l, (sortI l).Pairwise (· ≤ ·)
  | [] => .nil
  | a :: l => insI_pw a _ (sortI_pw l)
theorem sorted_uniq : ∀ {l l' : List Int}, l.Perm l' → l.Pairwise (· ≤ ·) → l'.Pairwise (· ≤ ·) → l = l'
  | [], l', p, _, _ => (List.Perm.nil_eq p)
  | a :: l, [], p, _, _ => by have := p.length_eq; simp at this
  | a :: l, b :: l', p, h, h' => by
    have h1 := List.pairwise_cons.mp h
    have h2 := List.pairwise_cons.mp h'
    have e : a = b := by
      have ha : a ∈ b :: l' := p.mem_iff.mp List.mem_cons_self
      have hb : b ∈ a :: l := p.mem_iff.mpr List.mem_cons_self
      rcases List.mem_cons.mp ha with e | ha
      · exact e
      · rcases List.mem_cons.mp hb with e | hb
        · exact e.symm
        · exact Int.le_antisymm (h1.1 b hb) (h2.1 a ha)
    subst e
    rw [sorted_uniq (List.Perm.cons_inv p) h1.2 h2.2]
theorem jl_sorted {ns : List Int} (h : J K E m te S S' (DL.td K (.list (ns.map PyData.int))) χ) (hl : ns.length < 64) : JL K E m (tCB (rSorted K) (tCons te tNil)) S S' ((sortI ns).map PyData.int) χ := fun σ G H s Q k e =>
  h σ G H s _ (fun v G1 H1 st1 s1 o1 d1 => by
    obtain ⟨a, vs, rfl, q1, q2⟩ := dp_lst d1
    rw [dpa_ints q2] at q1
    refine ⟨a, ns, rfl, .of q1, hl, fun ns' p h1 h2 hp => ?_⟩
    rw [sorted_uniq (h1.trans (sortI_perm ns).symm) h2 (sortI_pw ns)]
    exact k p _ G1 _ (st1.trans (Stp.made s1.ex hp (o := no)) (fun _ z => z) fun _ _ _ _ _ z => z) (s1.made hp) o1 (st1.d p hp) (free_of s1.ex hp) upd_same (dpa_of_ints _)) e
def flatD : D → Bool
  | .none => true
  | .bool _ => true
  | .int _ => true
  | .str _ => true
  | _ => false
theorem flat_v {H : Hp} {v : V} (h : Dd K H v x) (f : flatD x = true) : flatV v = true := by
  cases h <;> first | rfl | cases f
theorem flat_vs {H : Hp} : ∀ {vs : List V} {xs : List D}, DdAll K H vs xs → xs.all flatD = true → vs.all flatV = true
  | _, _, .nil, _ => rfl
  | _, _, .cons a b, f => by
    rw [List.all_cons, Bool.and_eq_true] at f ⊢
    exact ⟨flat_v a f.1, flat_vs b f.2⟩
theorem eqV_d {H : Hp} {v w : V} (h : Dd K H v x) (h' : Dd K H w y) (f : flatD x = true) (g : flatD y = true) : eqV v w = PyData.eqv x y := by
  cases h <;> cases h' <;> first | rfl | cases f | cases g | (simp [eqV, PyData.eqv]; done)

def inD (x : D) (xs : List D) : Bool := xs.any fun y => PyData.eqv y x
theorem inV_d {H : Hp} {v : V} (h : Dd K H v x) (f : flatD x = true) : ∀ {vs : List V} {xs : List D}, DdAll K H vs xs → xs.all flatD = true → inV v vs = inD x xs
  | _, _, .nil, _ => rfl
  | _, _, .cons a r, g => by
    rw [List.all_cons, Bool.and_eq_true] at g
    have ih := inV_d h f r g.2
    unfold inV inD at ih ⊢
    rw [List.any_cons, List.any_cons, ih, eqV_d a h g.1 f]
theorem opv_inL (hx : flatD x = true) (hs : xs.all flatD = true) : OPV K (rIn K false) x (.list xs) (DL.dd K (.bool (inD x xs))) := fun v w G H e a b Q k => by
  obtain ⟨p, vs, rfl, q1, q2⟩ := dp_lst b
  exact ⟨p, vs, rfl, .inl (.of q1), flat_v a hx, flat_vs q2 hs, by rw [inV_d a hx q2 hs]; exact k _ G H (.refl e) (.bl _)⟩
theorem opv_inT (hx : flatD x = true) (hs : xs.all flatD = true) : OPV K (rIn K false) x (.tuple xs) (DL.dd K (.bool (inD x xs))) := fun v w G H e a b Q k => by
  obtain ⟨p, vs, rfl, q1, q2⟩ := dp_tup b
  exact ⟨p, vs, rfl, .inr q1, flat_v a hx, flat_vs q2 hs, by rw [inV_d a hx q2 hs]; exact k _ G H (.refl e) (.bl _)⟩
theorem opv_niL (hx : flatD x = true) (hs : xs.all flatD = true) : OPV K (rIn K true) x (.list xs) (DL.dd K (.bool (!inD x xs))) := fun v w G H e a b Q k => by
  obtain ⟨p, vs, rfl, q1, q2⟩ := dp_lst b
  exact ⟨p, vs, rfl, .inl (.of q1), flat_v a hx, flat_vs q2 hs, by rw [inV_d a hx q2 hs]; exact k _ G H (.refl e) (.bl _)⟩
theorem opv_niT (hx : flatD x = true) (hs : xs.all flatD = true) : OPV K (rIn K true) x (.tuple xs) (DL.dd K (.bool (!inD x xs))) := fun v w G H e a b Q k => by
  obtain ⟨p, vs, rfl, q1, q2⟩ := dp_tup b
  exact ⟨p, vs, rfl, .inr q1, flat_v a hx, flat_vs q2 hs, by rw [inV_d a hx q2 hs]; exact k _ G H (.refl e) (.bl _)⟩

structure Post where
  nx : List SD → Prop
  rt : V → Hp → Hp → List SD → Prop
  xc : Str → Str → D → List SD → Prop
  bk : List SD → Prop := fun _ => False
  ct : List SD → Prop := fun _ => False
def Sub (S S' : List SD) (H : Hp) : Prop := ∀ a, own S' a → own S a ∨ H a = none
structure Good (K : PySem.W.Frag) (E : L2.St → XK) (P : Post) (De : Ends) (S : List SD) (G H : Hp) : Prop where
  nx : ∀ S' σ' G' H', P.nx S' → Sl K S' σ' G' H' → Stp (own S) G H G' H' → Sub S S' H → De.nx σ' H'
  rt : ∀ v S' σ' G' H', P.rt v G' H' S' → Sl K S' σ' G' H' → Stp (own S) G H G' H' → Sub S S' H → De.rt v H'
  xc : ∀ C f x dd v S' σ' G' H', P.xc C f x S' → Sl K S' σ' G' H' → Stp (own S) G H G' H' → Sub S S' H → G' dd = some (.xd [(f, v)]) → Dd K G' v x → E σ' (.ref (He.ga K C)) (some dd) H'
  bk : ∀ S' σ' G' H', P.bk S' → Sl K S' σ' G' H' → Stp (own S) G H G' H' → Sub S S' H → De.bk σ' H'
  ct : ∀ S' σ' G' H', P.ct S' → Sl K S' σ' G' H' → Stp (own S) G H G' H' → Sub S S' H → De.ct σ' H'
def ST (K : PySem.W.Frag) (E : L2.St → XK) (t : TS) (S : List SD) (P : Post) : Prop :=
  ∀ De σ G H, Sl K S σ G H → Good K E P De S G H → t De σ H
variable {P P' : Post}
theorem Stp.then {G H G1 H1 G2 H2 : Hp} (s : Stp (own S) G H G1 H1) (t : Stp (own S1) G1 H1 G2 H2) (b : Sub S S1 H) : Stp (own S) G H G2 H2 :=
  s.trans t (fun _ z => z) fun a u _ h n z => (b a z).elim n fun q => by rw [h] at q; cases q
theorem Sub.then {G H G1 H1 : Hp} (s : Stp (own S) G H G1 H1) (b : Sub S S1 H) (c : Sub S1 S2 H1) : Sub S S2 H := fun a o => (c a o).elim (b a) fun q => .inr (s.d a q)
theorem Good.step {De : Ends} {G H G1 H1 : Hp} (g : Good K E P De S G H) (s : Stp (own S) G H G1 H1) (b : Sub S S1 H) : Good K E P De S1 G1 H1 :=
  ⟨fun S' σ' G' H' p q st sb => g.nx S' σ' G' H' p q (s.then st b) (Sub.then s b sb), fun v S' σ' G' H' p q st sb => g.rt v S' σ' G' H' p q (s.then st b) (Sub.then s b sb),
    fun C f x dd v S' σ' G' H' p q st sb h1 h2 => g.xc C f x dd v S' σ' G' H' p q (s.then st b) (Sub.then s b sb) h1 h2,
    fun S' σ' G' H' p q st sb => g.bk S' σ' G' H' p q (s.then st b) (Sub.then s b sb), fun S' σ' G' H' p q st sb => g.ct S' σ' G' H' p q (s.then st b) (Sub.then s b sb)⟩
theorem Stp.oM {G H G1 H1 : Hp} (s : Stp (oF m S) G H G1 H1) : Stp (own S) G H G1 H1 := s.imp fun _ z => z.2
theorem Sub.of {H : Hp} (o : ∀ a, own S' a → own S a) : Sub S S' H := fun a z => .inl (o a z)
def xin (χ : XO) (S : List SD) (P : Post) : Prop := ∀ C f x, χ C f x → P.xc C f x S
theorem Good.err {De : Ends} {σ : L2.St} {G H : Hp} (g : Good K E P De S G H) (hx : xin χ S P) (s : Sl K S σ G H) : ∀ C dd G' H', ExcAt K χ G H C dd G' H' → E σ (.ref (He.ga K C)) (some dd) H' := fun C dd G' H' ⟨⟨f, x, v, h1, h2, h3⟩, st⟩ =>
  g.xc C f x dd v S σ G' H' (hx C f x h1) (s.on st) (st.imp fun _ z => z.elim) (fun _ z => .inl z) h2 h3
theorem xin_no : xin nox S P := fun _ _ _ h => h.elim
theorem ST.imp (h : ST K E t S P) (h1 : ∀ S', P.nx S' → P'.nx S') (h2 : ∀ v G H S', P.rt v G H S' → P'.rt v G H S') (h3 : ∀ C f x S', P.xc C f x S' → P'.xc C f x S') (h4 : ∀ S', P.bk S' → P'.bk S') (h5 : ∀ S', P.ct S' → P'.ct S') : ST K E t S P' := fun De σ G H s g =>
  h De σ G H s ⟨fun S' σ' G' H' p => g.nx S' σ' G' H' (h1 S' p), fun v S' σ' G' H' p => g.rt v S' σ' G' H' (h2 v G' H' S' p), fun C f x dd v S' σ' G' H' p => g.xc C f x dd v S' σ' G' H' (h3 C f x S' p), fun S' σ' G' H' p => g.bk S' σ' G' H' (h4 S' p), fun S' σ' G' H' p => g.ct S' σ' G' H' (h5 S' p)⟩
theorem st_seq (N : List SD → Prop) (h1 : ST K E t S { P with nx := N }) (h2 : ∀ S1, N S1 → ST K E u S1 P) : ST K E (tSeq t u) S P := fun De σ G H s g =>
  h1 { De with nx := u De } σ G H s ⟨fun S' σ' G' H' p q st sb => h2 S' p De σ' G' H' q (g.step st sb), g.rt, g.xc, g.bk, g.ct⟩
theorem st_seq1 (S1 : List SD) (h1 : ST K E t S { P with nx := fun S' => S' = S1 }) (h2 : ST K E u S1 P) : ST K E (tSeq t u) S P := st_seq _ h1 fun _ e => by subst e; exact h2
theorem st_next (h : P.nx S) : ST K E tNext S P := fun De σ G H s g => g.nx S σ G H h s (.refl s.ex) fun a o => .inl o
theorem st_break (h : P.bk S) : ST K E tBreak S P := fun De σ G H s g => g.bk S σ G H h s (.refl s.ex) fun a o => .inl o
theorem st_cont (h : P.ct S) : ST K E tCont S P := fun De σ G H s g => g.ct S σ G H h s (.refl s.ex) fun a o => .inl o
theorem st_drop (h : J K E m te S S' φ χ) (n : P.nx S') (hx : xin χ S P) : ST K E (tDrop te) S P := fun De σ G H s g =>
  h σ G H s _ (fun v G' H' st s' o _ => g.nx S' σ G' H' n s' st.oM (.of o)) (g.err hx s)
theorem st_ret (h : J K E m te S S' φ χ) (n : ∀ v G' H', φ v G' H' → P.rt v G' H' S') (hx : xin χ S P) : ST K E (tRet te) S P := fun De σ G H s g =>
  h σ G H s _ (fun v G' H' st s' o f => g.rt v S' σ G' H' (n v G' H' f) s' st.oM (.of o)) (g.err hx s)
theorem st_retN (n : ∀ G' H', P.rt .non G' H' S) : ST K E tRetN S P := fun De σ G H s g => g.rt .non S σ G H (n G H) s (.refl s.ex) fun _ z => .inl z
theorem st_if (h : JT K E m tt S S' b χ) (h1 : b = true → ST K E t S' P) (h2 : b = false → ST K E u S' P) (hx : xin χ S P) : ST K E (tIfS tt t u) S P := fun De σ G H s g =>
  h σ G H s _ (fun G' H' st s' o => by
    cases b with
    | true => exact h1 rfl De σ G' H' s' (g.step st.oM (.of o))
    | false => exact h2 rfl De σ G' H' s' (g.step st.oM (.of o))) (g.err hx s)
theorem own_set (h : own (S.set i (.d x)) i') : own S i' := by
  obtain ⟨j, xs, e⟩ := h
  by_cases c : i = j
  · subst c
    rw [List.getElem?_set_self'] at e
    cases q : S[i]? with
    | none => rw [q] at e; cases e
    | some z => rw [q] at e; cases e
  · rw [List.getElem?_set_ne c] at e
    exact ⟨j, xs, e⟩
theorem own_set' {s : SD} {a : Addr} (hs : ∀ b xs, s ≠ .l b xs) (h : own (S.set i s) a) : own S a := by
  obtain ⟨j, xs, e⟩ := h
  by_cases c : i = j
  · subst c
    rw [List.getElem?_set_self'] at e
    cases q : S[i]? with
    | none => rw [q] at e; cases e
    | some z =>
      rw [q] at e
      exact (hs a xs (Option.some.inj e)).elim
  · rw [List.getElem?_set_ne c] at e
    exact ⟨j, xs, e⟩
theorem Sl.set {σ : L2.St} {G H : Hp} {s : SD} {ov : Option V} (q : Sl K S σ G H) (h : SOk K G H s ov) (hn : ∀ a xs, s = .l a xs → ∀ (j : Nat) ys, j ≠ i → S[j]? ≠ some (.l a ys)) : Sl K (S.set i s) (σ.set i ov) G H :=
  ⟨by rw [List.length_set, List.length_set]; exact q.len, fun j z e => by
    by_cases c : i = j
    · subst c
      rw [List.getElem?_set_self'] at e
      cases w : S[i]? with
      | none => rw [w] at e; cases e
      | some z' =>
        rw [w] at e
        have e' : s = z := Option.some.inj e
        subst e'
        obtain ⟨ov', w2, _⟩ := q.ok i _ w
        refine ⟨ov, ?_, h⟩
        rw [List.getElem?_set_self', w2]
        rfl
    · rw [List.getElem?_set_ne c] at e
      obtain ⟨ov', w2, w3⟩ := q.ok j z e
      exact ⟨ov', by rw [List.getElem?_set_ne c]; exact w2, w3⟩, fun j k a xs ys e1 e2 => by
    by_cases c1 : i = j
    · by_cases c2 : i = k
      · exact c1.symm.trans c2
      · subst c1
        rw [List.getElem?_set_ne c2] at e2
        rw [List.getElem?_set_self'] at e1
        cases w : S[i]? with
        | none => rw [w] at e1; cases e1
        | some z' =>
          rw [w] at e1
          exact (hn a xs (Option.some.inj e1) k ys (Ne.symm c2) e2).elim
    · by_cases c2 : i = k
      · subst c2
        rw [List.getElem?_set_ne c1] at e1
        rw [List.getElem?_set_self'] at e2
        cases w : S[i]? with
        | none => rw [w] at e2; cases e2
        | some z' =>
          rw [w] at e2
          exact (hn a ys (Option.some.inj e2) j xs (Ne.symm c1) e1).elim
      · rw [List.getElem?_set_ne c1] at e1
        rw [List.getElem?_set_ne c2] at e2
        exact q.ne j k a xs ys e1 e2, q.ex⟩
theorem Sl.setD {σ : L2.St} {G H : Hp} {v : V} (q : Sl K S σ G H) (h : Dd K G v x) : Sl K (S.set i (.d x)) (σ.set i (some v)) G H := q.set ⟨v, rfl, h⟩ fun a xs e => nomatch e
theorem Sl.un {σ : L2.St} {G H : Hp} (q : Sl K S σ G H) (i : Nat) : Sl K (S.set i .un) σ G H :=
  ⟨by rw [List.length_set]; exact q.len, fun j z e => by
    by_cases c : i = j
    · subst c
      rw [List.getElem?_set_self'] at e
      cases w : S[i]? with
      | none => rw [w] at e; cases e
      | some z' =>
        rw [w] at e
        have e' : SD.un = z := Option.some.inj e
        subst e'
        obtain ⟨ov', w2, _⟩ := q.ok i _ w
        exact ⟨ov', w2, trivial⟩
    · rw [List.getElem?_set_ne c] at e
      exact q.ok j z e, fun j k a xs ys e1 e2 => by
    have h1 : ∀ (j : Nat) (zs : Ct), (S.set i SD.un)[j]? = some (.l a zs) → S[j]? = some (.l a zs) := fun j zs e => by
      by_cases c : i = j
      · subst c
        rw [List.getElem?_set_self'] at e
        cases w : S[i]? with
        | none => rw [w] at e; cases e
        | some z' => rw [w] at e; cases e
      · rw [List.getElem?_set_ne c] at e
        exact e
    exact q.ne j k a xs ys (h1 j xs e1) (h1 k ys e2), q.ex⟩
theorem st_set (h : J K E m te S S' (DL.dd K x) χ) (n : P.nx (S'.set i (.d x))) (hx : xin χ S P) : ST K E (tAsg te (gName i)) S P := fun De σ G H s g =>
  h σ G H s _ (fun v G' H' st s' o f => g.nx _ _ G' H' n (s'.setD f) st.oM fun a z => .inl (o a (own_set' (fun _ _ e => SD.noConfusion e) z))) (g.err hx s)
theorem st_setP {ρ : V → Hp → Prop} (mo : Mono ρ) (h : J K E m te S S' (fun v G _ => ρ v G) χ) (n : P.nx (S'.set i (.p ρ))) (hx : xin χ S P) : ST K E (tAsg te (gName i)) S P := fun De σ G H s g =>
  h σ G H s _ (fun v G' H' st s' o f => g.nx _ _ G' H' n (s'.set ⟨mo, v, rfl, f⟩ fun a xs e => nomatch e) st.oM fun a z => .inl (o a (own_set' (fun _ _ e => SD.noConfusion e) z))) (g.err hx s)
theorem st_setL (h : JL K E m te S S' ds χ) (n : ∀ a, P.nx (S'.set i (.l a (.lst ds)))) (hx : xin χ S P) : ST K E (tAsg te (gName i)) S P := fun De σ G H s g =>
  h σ G H s _ (fun p vs G' H' st s' o hp gp q r => g.nx _ _ G' H' (n p) (s'.set ⟨rfl, gp, vs, q, r⟩ fun a xs e j ys _ w => by
    cases e
    obtain ⟨us, q2⟩ := s.ownH (o p ⟨j, ys, w⟩)
    rw [hp] at q2
    cases q2) st.oM fun a z => by
    by_cases c : a = p
    · subst c
      exact .inr hp
    · obtain ⟨j, xs, e⟩ := z
      by_cases d : i = j
      · subst d
        rw [List.getElem?_set_self'] at e
        cases w : S'[i]? with
        | none => rw [w] at e; cases e
        | some z' =>
          rw [w] at e
          cases (Option.some.inj e)
          exact (c rfl).elim
      · rw [List.getElem?_set_ne d] at e
        exact .inl (o a ⟨j, xs, e⟩)) (g.err hx s)
theorem st_frz {a : Addr} (hi : S[i]? = some (.l a (.lst xs))) (h : ST K E t (S.set i (.d (.list xs))) P) : ST K E t S P := fun De σ G H s g => by
  obtain ⟨ov, e, rfl, ga, vs, q, r⟩ := s.ok i _ hi
  have oa : own S a := ⟨i, _, hi⟩
  have st : Stp (own S) G H (upd G a (.lst vs)) H := ⟨Evl.Ex.new ga, fun b u w => by
    by_cases c : b = a
    · subst c
      rw [upd_same] at w
      rw [q]
      exact w
    · rw [upd_ne c] at w
      exact s.ex b u w, fun b u h1 h2 n => by
    have c : b ≠ a := fun z => n (z ▸ oa)
    rw [upd_ne c]
    exact ⟨h1, h2⟩, fun _ h => h⟩
  have n2 : ¬ own (S.set i SD.un) a := fun ⟨j, ys, w⟩ => by
    by_cases c : i = j
    · subst c
      rw [List.getElem?_set_self', hi] at w
      cases w
    · rw [List.getElem?_set_ne c] at w
      exact c (s.ne i j a _ ys hi w)
  have s1 := (s.un i).frz ga q n2
  have s2 : Sl K (S.set i (.d (.list xs))) σ (upd G a (.lst vs)) H := by
    have s3 := s1.setD (i := i) (v := .ref a) (x := .list xs) (.lst upd_same (dpa_ex (Evl.Ex.new ga) r))
    have e2 : σ.set i (some (.ref a)) = σ := by
      apply List.ext_getElem?
      intro j
      by_cases c : i = j
      · subst c
        rw [List.getElem?_set_self', e]
        rfl
      · rw [List.getElem?_set_ne c]
    rw [List.set_set, e2] at s3
    exact s3
  exact h De σ _ H s2 (g.step st fun b z => .inl (own_set' (fun _ _ e => SD.noConfusion e) z))
theorem st_un (i : Nat) (hi : ∀ a xs, S[i]? ≠ some (.l a xs)) (h : ST K E t (S.set i .un) P) : ST K E t S P := fun De σ G H s g =>
  h De σ G H (s.un i) (g.step (.refl s.ex) fun b z => .inl (own_set' (fun _ _ e => SD.noConfusion e) z))
end
end DL
-- DF
namespace DL
open PySem L2
section
variable {K : PySem.W.Frag} {E : L2.St → XK} {m : Bool} {te ta tb : TE} {tas : TA} {S S' S1 S2 : List SD} {φ ψ : V → Hp → Hp → Prop} {χ : XO} {x y z : D} {xs ys ds : List D} {t u : TS} {tt : TT} {b : Bool} {i j : Nat} {P : Post} {a : Addr}
theorem Sl.setL {σ : L2.St} {G H : Hp} {u : HO} {c c' : Ct} (s : Sl K S σ G H) (hi : S[i]? = some (.l a c)) (r : COk K G (upd H a u) a c') : Sl K (S.set i (.l a c')) σ G (upd H a u) := by
  have oi := hi
  obtain ⟨ov, e, rfl, ga, q⟩ := s.ok i _ hi
  refine ⟨by rw [List.length_set]; exact s.len, fun j z w => ?_, fun j k b zs ws e1 e2 => ?_, fun b u w => ?_⟩
  · by_cases cc : i = j
    · subst cc
      rw [List.getElem?_set_self', hi] at w
      have w' := Option.some.inj w
      subst w'
      exact ⟨_, e, rfl, ga, r⟩
    · rw [List.getElem?_set_ne cc] at w
      obtain ⟨ov', w2, w3⟩ := s.ok j z w
      refine ⟨ov', w2, ?_⟩
      cases z with
      | un => trivial
      | d x => exact w3
      | p φ => exact w3
      | l b zs =>
        obtain ⟨q1, q2, q3⟩ := w3
        have n : b ≠ a := fun z => by
          subst z
          exact cc (s.ne i j b _ zs hi w)
        exact ⟨q1, q2, q3.on (Evl.Ex.refl G) fun u z => by rw [upd_ne n]; exact z⟩
  · have h1 : ∀ (j : Nat) (zs : Ct), (S.set i (SD.l a c'))[j]? = some (.l b zs) → ∃ zs', S[j]? = some (.l b zs') := fun j zs w => by
      by_cases cc : i = j
      · subst cc
        rw [List.getElem?_set_self', hi] at w
        cases (Option.some.inj w)
        exact ⟨_, hi⟩
      · rw [List.getElem?_set_ne cc] at w
        exact ⟨_, w⟩
    obtain ⟨z1, f1⟩ := h1 j zs e1
    obtain ⟨z2, f2⟩ := h1 k ws e2
    exact s.ne j k b z1 z2 f1 f2
  · rw [upd_ne (ne_of_none w ga)]
    exact s.ex b u w
theorem Stp.own {G H : Hp} {u : HO} (s : Ex G H) (ga : G a = none) (o : own S a) : Stp (own S) G H G (upd H a u) :=
  ⟨Evl.Ex.refl G, fun b z w => by rw [upd_ne (ne_of_none w ga)]; exact s b z w, fun b z h1 h2 n => by
    have c : b ≠ a := fun e => n (e ▸ o)
    rw [upd_ne c]
    exact ⟨h1, h2⟩, fun b h => dom_upd h⟩
theorem own_setL {c c' : Ct} (hi : S[i]? = some (.l a c)) {b : Addr} (h : own (S.set i (.l a c')) b) : own S b := by
  obtain ⟨j, zs, w⟩ := h
  by_cases cc : i = j
  · subst cc
    rw [List.getElem?_set_self', hi] at w
    cases (Option.some.inj w)
    exact ⟨i, _, hi⟩
  · rw [List.getElem?_set_ne cc] at w
    exact ⟨j, zs, w⟩
theorem tyL {H : Hp} {vs : List V} (h : H a = some (.lst vs)) : tyV K "list" (.ref a) H := Or.inl ⟨rfl, _, Or.inl (Or.inl h)⟩
theorem st_app (h : J K E m te S S' (DL.dd K x) χ) (hi : S'[i]? = some (.l a (.lst xs))) (hl : xs.length < sizeLine) (n : P.nx (S'.set i (.l a (.lst (xs ++ [x]))))) (hx : xin χ S P) (h0 : S[i]? = some (.l a (.lst ys))) :
    ST K E (tDrop (tBM K "list" rAppend (tVar i) (tCons te tNil))) S P := fun De σ G H s g => by
  obtain ⟨ov, e, rfl, ga, vs0, q0, r0⟩ := s.ok i _ h0
  refine ⟨.ref a, e, tyL q0, h σ G H s _ (fun v G1 H1 st1 s1 o1 d1 => ?_) (g.err hx s)⟩
  obtain ⟨ov1, e1, f1, ga1, vs, q, r⟩ := s1.ok i _ hi
  refine ⟨a, vs, v, rfl, rfl, q, by rw [dpa_len r]; exact hl, ?_⟩
  have oa : own S' a := ⟨i, _, hi⟩
  have st := Stp.own (u := .lst (vs ++ [v])) s1.ex ga1 oa
  exact g.nx _ σ G1 _ n (s1.setL hi ⟨_, upd_same, dpa_app r (.cons d1 .nil)⟩) (st1.oM.then st fun b z => .inl (o1 b z)) fun b z => .inl (o1 b (own_setL hi z))
theorem st_item {ti : TE} {k : Int} (h : J K E m te S S1 (DL.dd K x) χ) (hi : S1[i]? = some (.l a (.lst xs))) (hk : J K E false ti S1 S1 (DL.td K (.int k)) nox) (hj : ixN xs.length k = some j) (n : P.nx (S1.set i (.l a (.lst (xs.set j x))))) (hx : xin χ S P) :
    ST K E (tAsg te (gSub (tVar i) ti rSetL)) S P := fun De σ G H s g =>
  h σ G H s _ (fun v G1 H1 st1 s1 o1 d1 => by
    obtain ⟨ov1, e1, rfl, ga1, vs1, q1, r1⟩ := s1.ok i _ hi
    refine ⟨.ref a, e1, hk σ G1 H1 s1 _ (fun w G2 H2 st2 s2 o2 d2 => ?_) fun _ _ _ _ z => z.ex.elim fun _ ⟨_, _, q, _⟩ => q.elim⟩
    obtain ⟨ov2, e2, f2, ga2, vs, q, r⟩ := s2.ok i _ hi
    refine ⟨a, vs, k, j, rfl, dp_int d2, q, by rw [dpa_len r]; exact hj, ?_⟩
    have oa : own S1 a := ⟨i, _, hi⟩
    have st := Stp.own (u := .lst (vs.set j v)) s2.ex ga2 oa
    have d1' : Dd K G2 v x := dp_ex st2.g d1
    exact g.nx _ σ G2 _ n (s2.setL hi ⟨_, upd_same, dpa_set d1' j r⟩) ((st1.tr st2.no_of.weak o1).oM.then st fun b z => .inl (o1 b z)) fun b z => .inl (o1 b (own_setL hi z))) (g.err hx s)
theorem st_rev (h0 : S[i]? = some (.l a (.lst xs))) (n : P.nx (S.set i (.l a (.lst xs.reverse)))) : ST K E (tDrop (tBM0 K "list" rReverse (tVar i))) S P := fun De σ G H s g => by
  obtain ⟨ov, e, rfl, ga, vs, q, r⟩ := s.ok i _ h0
  refine ⟨.ref a, e, tyL q, a, vs, rfl, rfl, q, ?_⟩
  have oa : own S a := ⟨i, _, h0⟩
  exact g.nx _ σ G _ n (s.setL h0 ⟨_, upd_same, dpa_rev r⟩) (Stp.own s.ex ga oa) fun b z => .inl (own_setL h0 z)
theorem st_remI {ns : List Int} {k : Int} (h0 : S[i]? = some (.l a (.lst (ns.map PyData.int)))) (h : J K E false te S S (DL.td K (.int k)) nox) (hj : ns[j]? = some k) (hm : ∀ m : Nat, m < j → ns[m]? ≠ some k) (n : P.nx (S.set i (.l a (.lst ((ns.eraseIdx j).map PyData.int))))) :
    ST K E (tDrop (tBM K "list" rRemI (tVar i) (tCons te tNil))) S P := fun De σ G H s g => by
  obtain ⟨ov, e, rfl, ga, vs0, q0, r0⟩ := s.ok i _ h0
  refine ⟨.ref a, e, tyL q0, h σ G H s _ (fun v G1 H1 st1 s1 o1 d1 => ?_) fun _ _ _ _ z => z.ex.elim fun _ ⟨_, _, q, _⟩ => q.elim⟩
  obtain ⟨ov1, e1, f1, ga1, vs, q, r⟩ := s1.ok i _ h0
  rw [dpa_ints r] at q
  rw [dp_int d1]
  refine ⟨a, ns, k, j, rfl, rfl, q, hj, hm, ?_⟩
  have oa : own S a := ⟨i, _, h0⟩
  exact g.nx _ σ G1 _ n (s1.setL h0 ⟨_, upd_same, dpa_of_ints _⟩) ((st1.oM).then (Stp.own s1.ex ga1 oa) fun b z => .inl z) fun b z => .inl (own_setL h0 z)
theorem dpa_dropLast {H : Hp} {vs : List V} (h : DdAll K H vs xs) : DdAll K H vs.dropLast xs.dropLast := by
  rw [List.dropLast_eq_take, List.dropLast_eq_take, dpa_len h]
  exact dpa_take _ h
theorem j_pop (h0 : S[i]? = some (.l a (.lst xs))) (hx : xs[xs.length - 1]? = some x) : J K E true (tBM0 K "list" rPop (tVar i)) S (S.set i (.l a (.lst xs.dropLast))) (DL.dd K x) χ := fun σ G H s Q k _ => by
  obtain ⟨ov, e, rfl, ga, vs, q, r⟩ := s.ok i _ h0
  obtain ⟨v, hv, dv⟩ := dpa_get r hx
  refine ⟨.ref a, e, tyL q, a, vs, v, rfl, rfl, q, by rw [dpa_len r]; exact hv, ?_⟩
  have oa : own S a := ⟨i, _, h0⟩
  exact k v G _ ((Stp.own s.ex ga oa).imp fun b z => ⟨rfl, z⟩) (s.setL h0 ⟨_, upd_same, dpa_dropLast r⟩) (fun b z => own_setL h0 z) dv
theorem dpa_erase {H : Hp} : ∀ {vs : List V} {xs : List D} (n : Nat), DdAll K H vs xs → DdAll K H (vs.eraseIdx n) (xs.eraseIdx n)
  | _, _, _, .nil => .nil
  | _, _, 0, .cons _ b => b
  | _, _, n + 1, .cons a b => .cons a (dpa_erase n b)
theorem wipe_set {σ : L2.St} {v : Option V} : ∀ {vs : List Nat}, j ∈ vs → wipe (σ.set j v) vs = wipe σ vs
  | k :: vs, h => by
    show (wipe (σ.set j v) vs).set k none = (wipe σ vs).set k none
    by_cases c : j ∈ vs
    · rw [wipe_set c]
    · have e : j = k := by
        rcases List.mem_cons.mp h with e | e
        · exact e
        · exact (c e).elim
      subst e
      have w : ∀ vs : List Nat, j ∉ vs → wipe (σ.set j v) vs = (wipe σ vs).set j v := by
        intro vs
        induction vs with
        | nil => intro _; rfl
        | cons l vs ih =>
          intro n
          show (wipe (σ.set j v) vs).set l none = ((wipe σ vs).set l none).set j v
          rw [ih fun z => n (List.mem_cons_of_mem _ z), List.set_comm]
          intro e
          exact n (e ▸ List.mem_cons_self)
      rw [w vs c, List.set_set]
def JG (K : PySem.W.Frag) (g : TG) (d : D) (S S' : List SD) (vs : List Nat) : Prop :=
  ∀ v σ G H, Sl K S σ G H → Dd K G v d → ∀ Q : L2.St → Hp → Prop, (∀ σ', Sl K S' σ' G H → (∀ a, own S' a → own S a) → wipe σ' vs = wipe σ vs → Q σ' H) → g v σ H Q
def JGs (K : PySem.W.Frag) (g : TGs) (ds : List D) (S S' : List SD) (vs : List Nat) : Prop :=
  ∀ us σ G H, Sl K S σ G H → DdAll K G us ds → ∀ Q : L2.St → Hp → Prop, (∀ σ', Sl K S' σ' G H → (∀ a, own S' a → own S a) → wipe σ' vs = wipe σ vs → Q σ' H) → g us σ H Q
variable {d : D} {vs : List Nat}
theorem jg_name (hj : j ∈ vs) : JG K (gName j) d S (S.set j (.d d)) vs := fun v σ G H s h Q k => k _ (s.setD h) (fun a z => own_set' (fun _ _ e => SD.noConfusion e) z) (wipe_set hj)
theorem jgs_nil : JGs K gNil [] S S vs := fun us σ G H s h Q k => ⟨dpa_nil' h, k σ s (fun _ z => z) rfl⟩
theorem jgs_cons {g : TG} {gs : TGs} (h1 : JG K g d S S1 vs) (h2 : JGs K gs ds S1 S2 vs) : JGs K (gCons g gs) (d :: ds) S S2 vs := fun us σ G H s h Q k => by
  obtain ⟨v, ws, rfl, a, b⟩ := dpa_cons' h
  exact ⟨v, ws, rfl, h1 v σ G H s a _ fun σ' s' o' w' => h2 ws σ' G H s' b Q fun σ2 s2 o2 w2 => k σ2 s2 (fun a z => o' a (o2 a z)) (w2.trans w')⟩
theorem jg_tup {gs : TGs} {n : Nat} (h : JGs K gs ds S S' vs) (hn : ds.length = n) : JG K (gTup K n gs) (.tuple ds) S S' vs := fun v σ G H s q Q k => by
  obtain ⟨a, us, rfl, q1, q2⟩ := dp_tup q
  exact ⟨a, us, rfl, Evl.ex_t s.ex q1, by rw [dpa_len q2]; exact hn, h us σ G H s q2 Q k⟩
theorem jg_unl {gs : TGs} {n : Nat} (h : JGs K gs ds S S' vs) (hn : ds.length = n) : JG K (gUnl K n gs) (.list ds) S S' vs := fun v σ G H s q Q k => by
  obtain ⟨a, us, rfl, q1, q2⟩ := dp_lst q
  exact ⟨a, us, rfl, .of (s.ex _ _ q1), by rw [dpa_len q2]; exact hn, h us σ G H s q2 Q k⟩
theorem st_tgt {g : TG} (h : J K E m te S S1 (DL.dd K x) χ) (hg : JG K g x S1 S2 vs) (n : P.nx S2) (hx : xin χ S P) : ST K E (tAsg te g) S P := fun De σ G H s gd =>
  h σ G H s _ (fun v G1 H1 st1 s1 o1 d1 => hg v σ G1 H1 s1 d1 _ fun σ' s' o' _ => gd.nx _ σ' G1 H1 n s' st1.oM fun a z => .inl (o1 a (o' a z))) (gd.err hx s)
def JI (K : PySem.W.Frag) (E : L2.St → XK) (m : Bool) (wi : TI) (S S' : List SD) (ds : List D) (χ : XO) : Prop :=
  ∀ σ G H, Sl K S σ G H → ∀ R : It → Hp → Prop, (∀ (Jt : It) G' H' (Gp : Hp → Prop) (Y : Nat → Hp → V → Hp → Prop), Stp (oF m S) G H G' H' → Sl K S' σ G' H' → (∀ a, own S' a → own S a) → Walk Jt ds.length Gp Y → (∀ H2, Ex G' H2 → Gp H2) →
      (∀ i H2 v H3 G2, i < ds.length → Ex G' G2 → Ex G2 H2 → Y i H2 v H3 → ∃ G3 d, Stp no G2 H2 G3 H3 ∧ ds[i]? = some d ∧ Dd K G3 v d) → R Jt H') →
    (∀ C dd G' H', ExcAt K χ G H C dd G' H' → E σ (.ref (He.ga K C)) (some dd) H') → wi σ H R
theorem ji_list (h : J K E m te S S' (DL.dd K (.list ds)) χ) : JI K E m (iList K te) S S' ds χ := fun σ G H s R k e =>
  h σ G H s _ (fun v G1 H1 st1 s1 o1 d1 => by
    obtain ⟨a, vs, rfl, q1, q2⟩ := dp_lst d1
    refine ⟨a, rfl, ⟨vs, .of (st1.h _ _ q1)⟩, k _ G1 H1 _ _ st1 s1 o1 (by rw [← dpa_len q2]; exact walk_list) (fun H2 e2 => SqL.of (e2 _ _ q1)) fun i H2 v H3 G2 hi e1 e2 y => ?_⟩
    obtain ⟨rfl, y2⟩ := y
    obtain ⟨d, h1, h2⟩ := dpa_get' q2 y2
    exact ⟨G2, d, .refl e2, h1, dp_ex e1 h2⟩) e
theorem ji_tup (h : J K E m te S S' (DL.dd K (.tuple ds)) χ) : JI K E m (iTup K te) S S' ds χ := fun σ G H s R k e =>
  h σ G H s _ (fun v G1 H1 st1 s1 o1 d1 => by
    obtain ⟨a, vs, rfl, q1, q2⟩ := dp_tup d1
    refine ⟨a, rfl, ⟨vs, Evl.ex_t st1.h q1⟩, k _ G1 H1 _ _ st1 s1 o1 (by rw [← dpa_len q2]; exact walk_tup) (fun H2 e2 => Evl.ex_t e2 q1) fun i H2 v H3 G2 hi e1 e2 y => ?_⟩
    obtain ⟨rfl, y2⟩ := y
    obtain ⟨d, h1, h2⟩ := dpa_get' q2 y2
    exact ⟨G2, d, .refl e2, h1, dp_ex e1 h2⟩) e
def rgD (lo : Int) (n : Nat) : List D := (List.range n).map fun i => .int (lo + (i : Nat))
theorem rgD_len {lo : Int} {n : Nat} : (rgD lo n).length = n := by simp [rgD]
theorem rgD_get {lo : Int} {n i : Nat} (h : i < n) : (rgD lo n)[i]? = some (.int (lo + (i : Nat))) := by simp [rgD, h]
theorem ji_rng1 {n : Int} (h : JA K E m tas S S' (ta' K [.int n]) χ) (hn : n < 2 ^ 62) (h0 : -(2 ^ 62) ≤ n) : JI K E m (iRng1 tas) S S' (rgD 0 n.toNat) χ := fun σ G H s R k e =>
  h σ G H s _ (fun vs G1 H1 st1 s1 o1 d1 => by
    obtain ⟨v, rfl, q⟩ := one_of d1
    rw [dp_int q]
    refine ⟨n, rfl, h0, hn, k _ G1 H1 (fun _ => True) _ st1 s1 o1 (by rw [rgD_len]; exact walk_range) (fun _ _ => trivial) fun i H2 v H3 G2 hi e1 e2 y => ?_⟩
    obtain ⟨rfl, rfl⟩ := y
    rw [rgD_len] at hi
    exact ⟨G2, _, .refl e2, rgD_get hi, .int _⟩) e
theorem ji_rng2 {lo hi : Int} (h : JA K E m tas S S' (ta' K [.int lo, .int hi]) χ) (hb : -(2 ^ 62) ≤ lo ∧ lo < 2 ^ 62 ∧ -(2 ^ 62) ≤ hi ∧ hi < 2 ^ 62) : JI K E m (iRng2 tas) S S' (rgD lo (hi - lo).toNat) χ := fun σ G H s R k e =>
  h σ G H s _ (fun vs G1 H1 st1 s1 o1 d1 => by
    obtain ⟨v, w, rfl, q, q'⟩ := two_of d1
    rw [dp_int q, dp_int q']
    refine ⟨lo, hi, rfl, hb, k _ G1 H1 (fun _ => True) _ st1 s1 o1 (by rw [rgD_len]; exact walk_range) (fun _ _ => trivial) fun i H2 v H3 G2 hi e1 e2 y => ?_⟩
    obtain ⟨rfl, rfl⟩ := y
    rw [rgD_len] at hi
    exact ⟨G2, _, .refl e2, rgD_get hi, .int _⟩) e
def enD (xs : List D) : List D := xs.zipIdx.map fun p => .tuple [.int (p.2 : Nat), p.1]
theorem enD_len : (enD xs).length = xs.length := by simp [enD]
theorem enD_get (h : xs[i]? = some x) : (enD xs)[i]? = some (.tuple [.int (i : Nat), x]) := by
  unfold enD
  rw [List.getElem?_map, List.getElem?_zipIdx, h]
  simp
theorem ji_enum (h : JA K E m tas S S' (da K [.list xs]) χ) : JI K E m (iEnum K tas) S S' (enD xs) χ := fun σ G H s R k e =>
  h σ G H s _ (fun vs G1 H1 st1 s1 o1 d1 => by
    obtain ⟨v, rfl, q⟩ := one_of d1
    obtain ⟨a, us, rfl, q1, q2⟩ := dp_lst q
    refine ⟨a, us, rfl, .of (st1.h _ _ q1), k _ G1 H1 _ _ st1 s1 o1 (by rw [enD_len, ← dpa_len q2]; exact walk_enum) (fun H2 e2 => SqL.of (e2 _ _ q1)) fun i H2 v H3 G2 hi e1 e2 y => ?_⟩
    obtain ⟨T, x, y, rfl, hT, rfl, h1, h2⟩ := y
    obtain ⟨d, h3, h4⟩ := dpa_get' q2 h2
    have := Option.some.inj h1
    subst this
    exact ⟨upd G2 T _, _, .new e2 hT, enD_get h3, .tup (.of upd_same) (.cons (.int _) (.cons (dp_ex (e1.trans (Evl.Ex.new (free_of e2 hT))) h4) .nil))⟩) e
theorem st_for {wi : TI} {g : TG} (h : JI K E m wi S S1 ds χ) (hx : xin χ S P) (vs : List Nat) (I : Nat → List SD → Prop) (h0 : I 0 S1)
    (turn : ∀ i d S2, ds[i]? = some d → I i S2 → ∃ S3, JG K g d S2 S3 vs ∧ ST K E t S3 { P with nx := I (i + 1), ct := I (i + 1), bk := P.nx }) (fin : ∀ S2, I ds.length S2 → P.nx S2) :
    ST K E (tFor wi g t) S P := fun De σ G H s gd =>
  h σ G H s _ (fun Jt G1 H1 Gp Y st1 s1 o1 w hG hY => by
    have g1 := gd.step st1.oM (.of o1)
    refine for_it w (fun i σ' H' => ∃ S2 G2, I i S2 ∧ Sl K S2 σ' G2 H' ∧ Stp (own S1) G1 H1 G2 H' ∧ Sub S1 S2 H1) ⟨S1, G1, h0, s1, .refl s1.ex, fun a z => .inl z⟩ (fun i σ' H' _ ⟨S2, G2, _, s2, st2, _⟩ => hG H' (st2.g.trans s2.ex)) (fun i v σ' H' H'' hi ⟨S2, G2, hI, s2, st2, b2⟩ y => ?_) fun σ' H' ⟨S2, G2, hI, s2, st2, b2⟩ => g1.nx S2 σ' G2 H' (fin S2 hI) s2 st2 b2
    obtain ⟨G3, d, st3, hd, q3⟩ := hY i H' v H'' G2 hi st2.g s2.ex y
    obtain ⟨S3, hg, hb⟩ := turn i d S2 hd hI
    have st23 : Stp (own S1) G1 H1 G3 H'' := st2.trans st3 (fun _ z => z) fun _ _ _ _ _ z => z
    refine hg v σ' G3 H'' (s2.on st3) q3 _ fun σ3 s3 o3 _ => hb _ σ3 G3 H'' s3 ?_
    have b3 : Sub S1 S3 H1 := fun a z => b2 a (o3 a z)
    have g3 := g1.step st23 b3
    exact ⟨fun S' σ4 G4 H4 p q st sb => ⟨S', G4, p, q, st23.then st b3, Sub.then st23 b3 sb⟩, g3.rt, g3.xc, g3.nx, fun S' σ4 G4 H4 p q st sb => ⟨S', G4, p, q, st23.then st b3, Sub.then st23 b3 sb⟩⟩) (gd.err hx s)
def unl (S : List SD) : List Nat → List SD
  | [] => S
  | v :: vs => (unl S vs).set v .un
theorem unl_len (S : List SD) : ∀ vs, (unl S vs).length = S.length
  | [] => rfl
  | v :: vs => by show ((unl S vs).set v .un).length = S.length; rw [List.length_set, unl_len S vs]
theorem unl_mem (S : List SD) : ∀ {vs : List Nat} {j : Nat}, j ∈ vs → j < S.length → (unl S vs)[j]? = some .un
  | v :: vs, j, h, hl => by
    show ((unl S vs).set v .un)[j]? = some .un
    by_cases c : v = j
    · subst c
      rw [List.getElem?_set_self']
      rw [List.getElem?_eq_getElem (by rw [unl_len]; exact hl)]
      rfl
    · rw [List.getElem?_set_ne c]
      rcases List.mem_cons.mp h with e | e
      · exact (c e.symm).elim
      · exact unl_mem S e hl
theorem Sl.unl {σ : L2.St} {G H : Hp} (s : Sl K S σ G H) : ∀ vs, Sl K (unl S vs) σ G H
  | [] => s
  | v :: vs => (Sl.unl s vs).un v
theorem wipe_get {σ : L2.St} : ∀ {vs : List Nat} {j : Nat}, j ∉ vs → (wipe σ vs)[j]? = σ[j]?
  | [], _, _ => rfl
  | v :: vs, j, h => by
    show ((wipe σ vs).set v none)[j]? = σ[j]?
    rw [List.getElem?_set_ne (fun e : v = j => h (by rw [← e]; exact List.mem_cons_self))]
    exact wipe_get fun z => h (List.mem_cons_of_mem _ z)
theorem Sl.wipe {σ : L2.St} {G H : Hp} (s : Sl K S σ G H) (hu : ∀ j ∈ vs, ∀ z, S[j]? = some z → z = .un) : Sl K S (wipe σ vs) G H :=
  ⟨by rw [wipe_length]; exact s.len, fun j z e => by
    by_cases c : j ∈ vs
    · have := hu j c z e
      subst this
      have hl : j < (L2.wipe σ vs).length := by
        rw [wipe_length, s.len]
        exact (List.getElem?_eq_some_iff.mp e).1
      exact ⟨_, List.getElem?_eq_getElem hl, trivial⟩
    · rw [wipe_get c]
      exact s.ok j z e, s.ne, s.ex⟩
theorem Sl.unwipe {σ : L2.St} {G H : Hp} (s : Sl K S (L2.wipe σ vs) G H) (hu : ∀ j ∈ vs, ∀ z, S[j]? = some z → z = .un) : Sl K S σ G H :=
  ⟨by rw [← s.len, wipe_length], fun j z e => by
    by_cases c : j ∈ vs
    · have := hu j c z e
      subst this
      have hl : j < σ.length := by
        rw [← wipe_length σ vs, s.len]
        exact (List.getElem?_eq_some_iff.mp e).1
      exact ⟨_, List.getElem?_eq_getElem hl, trivial⟩
    · rw [← wipe_get (σ := σ) c]
      exact s.ok j z e, s.ne, s.ex⟩
theorem own_unl : ∀ {vs : List Nat} {a : Addr}, own (unl S vs) a → own S a
  | [], a, h => h
  | v :: vs, a, h => own_unl (vs := vs) (own_set' (fun _ _ e => SD.noConfusion e) h)
theorem Sl.put {σ : L2.St} {G H : Hp} {p : Addr} {u : HO} (s : Sl K S σ G H) (gp : G p = none) (n : ¬ own S p) : Sl K S σ G (upd H p u) :=
  ⟨s.len, fun i z e => by
    obtain ⟨ov, q, r⟩ := s.ok i z e
    refine ⟨ov, q, ?_⟩
    cases z with
    | un => trivial
    | d x => exact r
    | l a xs =>
      obtain ⟨e1, g, q1⟩ := r
      have c : a ≠ p := fun z => n (z ▸ ⟨i, xs, e⟩)
      exact ⟨e1, g, q1.on (Evl.Ex.refl G) fun u z => by rw [upd_ne c]; exact z⟩
    | p φ => exact r, s.ne, fun a z q => by
    rw [upd_ne (ne_of_none q gp)]
    exact s.ex a z q⟩
theorem Stp.put {o : Addr → Prop} {G H G' H' : Hp} {p : Addr} {u : HO} (s : Stp o G H G' H') (hp : H p = none) (gp : G' p = none) : Stp o G H G' (upd H' p u) :=
  ⟨s.g, fun a z q => by rw [upd_ne (ne_of_none q gp)]; exact s.h a z q, fun a z h1 h2 n => by
    have c : a ≠ p := fun e => by subst e; rw [hp] at h2; cases h2
    rw [upd_ne c]
    exact s.k a z h1 h2 n, fun a h => s.d a (dom_upd h)⟩
theorem jl_lc {wi : TI} {g : TG} (h : JI K E m wi S S1 ds χ) (T : Nat → List SD) (A : Nat → List D) (h0 : T 0 = S1) (a0 : A 0 = []) (hu : ∀ i, i ≤ ds.length → ∀ j ∈ vs, ∀ z, (T i)[j]? = some z → z = .un)
    (turn : ∀ i d, ds[i]? = some d → ∃ B, JG K g d (T i) B vs ∧ ((∃ U, JT K E m tt B U false nox ∧ unl U vs = T (i + 1) ∧ A (i + 1) = A i) ∨
      ∃ U W y, JT K E m tt B U true nox ∧ J K E m te U W (DL.dd K y) nox ∧ unl W vs = T (i + 1) ∧ A (i + 1) = A i ++ [y])) (hl : ds.length ≤ sizeLine) :
    JL K E m (tLc wi g tt te vs) S (T ds.length) (A ds.length) χ := fun σ G H s Q k e => by
  have hlen : ∀ i, i ≤ ds.length → (A i).length ≤ i := by
    intro i
    induction i with
    | zero => intro _; rw [a0]; exact Nat.le_refl _
    | succ i ih =>
      intro hi
      have hi' : i < ds.length := hi
      obtain ⟨B, _, q⟩ := turn i ds[i] (List.getElem?_eq_getElem hi')
      have := ih (Nat.le_of_lt hi')
      rcases q with ⟨_, _, _, q⟩ | ⟨_, _, _, _, _, _, q⟩
      · rw [q]; omega
      · rw [q, List.length_append]; simp; omega
  refine h σ G H s _ (fun Jt G1 H1 Gp Y st1 s1 o1 w hG hY => ?_) e
  intro p hp
  have np : ∀ {S2 : List SD}, (∀ a, own S2 a → own S1 a) → ¬ own S2 p := fun hs z => by
    obtain ⟨us, q⟩ := s1.ownH (hs p z)
    rw [hp] at q
    cases q
  have s1' : Sl K (T 0) (L2.wipe σ vs) G1 H1 := by
    rw [h0]
    exact s1.wipe (by rw [← h0]; exact hu 0 (Nat.zero_le _))
  refine lc_it w (fun i H' => ∃ G' acc, Sl K (T i) (L2.wipe σ vs) G' H' ∧ Stp (oF m S1) G1 H1 G' H' ∧ (∀ a, own (T i) a → own S1 a) ∧ H' p = some (.lst acc) ∧ G' p = none ∧ DdAll K G' acc (A i))
    ⟨G1, [], s1'.made hp, .made s1.ex hp, fun a z => h0 ▸ z, upd_same, free_of s1.ex hp, by rw [a0]; exact .nil⟩ (fun i H' _ ⟨G', acc, s2, st2, _⟩ => hG H' (st2.g.trans s2.ex)) (fun i v H' H'' hi ⟨G2, acc, s2, st2, o2, hacc, gp, r⟩ y => ?_) fun H' ⟨G', acc, s2, st2, o2, hacc, gp, r⟩ => ?_
  · obtain ⟨G3, d, st3, hd, q3⟩ := hY i H' v H'' G2 hi st2.g s2.ex y
    obtain ⟨B, hg, hb⟩ := turn i d hd
    have s3 := s2.on st3
    refine hg v _ G3 H'' s3 q3 _ fun σ3 s3' o3 w3 => ?_
    have wi3 : L2.wipe (L2.wipe σ vs) vs = L2.wipe σ vs := by
      have : ∀ us : List Nat, (∀ j ∈ us, j ∈ vs) → L2.wipe (L2.wipe σ vs) us = L2.wipe σ vs := by
        intro us
        induction us with
        | nil => intro _; rfl
        | cons u us ih =>
          intro hh
          show (L2.wipe (L2.wipe σ vs) us).set u none = L2.wipe σ vs
          rw [ih fun j hj => hh j (List.mem_cons_of_mem _ hj)]
          apply List.ext_getElem?
          intro j
          by_cases c : u = j
          · subst c
            rw [List.getElem?_set_self']
            have hm := hh u List.mem_cons_self
            have : ∀ ws : List Nat, u ∈ ws → ∀ z, (L2.wipe σ ws)[u]? = some z → z = none := by
              intro ws
              induction ws with
              | nil => intro h; cases h
              | cons l ws ihw =>
                intro hm z hz
                have hz' : ((L2.wipe σ ws).set l none)[u]? = some z := hz
                by_cases c : l = u
                · subst c
                  rw [List.getElem?_set_self'] at hz'
                  cases q : (L2.wipe σ ws)[l]? with
                  | none => rw [q] at hz'; cases hz'
                  | some _ => rw [q] at hz'; exact (Option.some.inj hz').symm
                · rw [List.getElem?_set_ne c] at hz'
                  rcases List.mem_cons.mp hm with e | e
                  · exact (c e.symm).elim
                  · exact ihw e z hz'
            cases q : (L2.wipe σ vs)[u]? with
            | none => rfl
            | some z =>
              rw [this vs hm z q]
              rfl
          · rw [List.getElem?_set_ne c]
      exact this vs fun _ h => h
    refine ⟨w3.trans wi3, ?_⟩
    have stA : Stp (oF m S1) G1 H1 G3 H'' := st2.trans st3 (fun _ z => z) fun _ _ _ _ _ z => z
    have pA : H'' p = some (.lst acc) ∧ G3 p = none := (st3.k p _ gp hacc id).symm
    have oB : ∀ a, own B a → own S1 a := fun a z => o2 a (o3 a z)
    rcases hb with ⟨U, ht, eU, eA⟩ | ⟨U, W, yd, ht, hte, eW, eA⟩
    · refine ht σ3 G3 H'' s3' _ (fun G4 H4 st4 s4 o4 => ?_) fun _ _ _ _ z => z.ex.elim fun _ ⟨_, _, q, _⟩ => q.elim
      refine iteF ?_
      have k4 := st4.k p _ pA.2 pA.1 fun z => np oB z.2
      refine ⟨G4, acc, ?_, stA.tr st4 oB, fun a z => oB a (o4 a (own_unl (vs := vs) (eU ▸ z))), k4.2, k4.1, by rw [eA]; exact dpa_ex (st3.g.trans st4.g) r⟩
      rw [← eU]
      have := (s4.unl vs).wipe (vs := vs) fun j hj z hz => by
        have hl : j < U.length := by
          have := (List.getElem?_eq_some_iff.mp hz).1
          rw [unl_len] at this
          exact this
        rw [unl_mem U hj hl] at hz
        exact (Option.some.inj hz).symm
      rw [w3, wi3] at this
      exact this
    · refine ht σ3 G3 H'' s3' _ (fun G4 H4 st4 s4 o4 => ?_) fun _ _ _ _ z => z.ex.elim fun _ ⟨_, _, q, _⟩ => q.elim
      refine iteT ?_
      have oU : ∀ a, own U a → own S1 a := fun a z => oB a (o4 a z)
      refine hte σ3 G4 H4 s4 _ (fun yv G5 H5 st5 s5 o5 d5 => ?_) fun _ _ _ _ z => z.ex.elim fun _ ⟨_, _, q, _⟩ => q.elim
      have k4 := st4.k p _ pA.2 pA.1 fun z => np oB z.2
      have k5 := st5.k p _ k4.1 k4.2 fun z => np oU z.2
      have rr := dpa_ex ((st3.g.trans st4.g).trans st5.g) r
      refine ⟨acc, k5.2, ?_, G5, acc ++ [yv], ?_, ?_, fun a z => oU a (o5 a (own_unl (vs := vs) (eW ▸ z))), upd_same, k5.1, by rw [eA]; exact dpa_app rr (.cons d5 .nil)⟩
      · rw [dpa_len r]
        have := hlen i (Nat.le_of_lt hi)
        omega
      · rw [← eW]
        have := (s5.unl vs).wipe (vs := vs) fun j hj z hz => by
          have hl : j < W.length := by
            have := (List.getElem?_eq_some_iff.mp hz).1
            rw [unl_len] at this
            exact this
          rw [unl_mem W hj hl] at hz
          exact (Option.some.inj hz).symm
        rw [w3, wi3] at this
        have n5 : ¬ own (unl W vs) p := fun z => np oU (o5 p (own_unl z))
        exact this.put k5.1 n5
      · exact ((stA.tr st4 oB).tr st5 oU).put hp k5.1
  · have s2' : Sl K (T ds.length) σ G' H' := s2.unwipe (hu ds.length (Nat.le_refl _))
    exact k p acc G' H' (st1.tr st2 o1) s2' (fun a z => o1 a (o2 a z)) (st1.d p hp) gp hacc r
end
end DL
-- DX
namespace L2
open PySem PySem.Spec PyProof.Rows
def rIsX (K : PySem.W.Frag) (D a d : Addr) : List V → Hp → VK → Prop := fun xs H Q => ∃ (c : V) (cv : Value) (b : Bool) (fs : List (Str × V)), xs = [.ref a, c] ∧ (∀ u, RelV c u → u = cv) ∧ H d = some (.xd fs) ∧ PySem.W.kitOne K (.ref D) cv = some b ∧ Q (.bl b) H
theorem call_isX {X : Cx} {a D : Addr} {oe : Obj} {cls : Value} {d : Option Addr} {pn : List (Addr × Obj)} (C : ExcC X.K D) (hz : Zc cls d oe) (hf : ∃ vs, oe.data = .fields vs) :
    CallR (X.suite a ((a, oe) :: pn)) (.builtin "isinstance") (fun xs H Q => ∃ dd, cls = .ref D ∧ d = some dd ∧ rIsX X.K D a dd xs H Q) := by
  intro pins s σ H xs us Q I r h
  obtain ⟨dd, rfl, rfl, c, cv, b, fs, rfl, hcv, hd, e, q⟩ := h
  cases r with
  | cons rx rr =>
    cases rr with
    | cons rt rr =>
      cases rr
      cases rx
      have ec := hcv _ rt
      subst ec
      obtain ⟨hget, _⟩ := I.pin (a, oe) (List.mem_append.mpr (.inl List.mem_cons_self))
      obtain ⟨vs, hv⟩ := hf
      have hx : ObjOk X.prog X.w H s.heap dd (.xd fs) := I.hok dd _ hd
      obtain ⟨mA, hns, _⟩ := hx
      obtain ⟨od, ho, _⟩ := lookIn_ns hns
      have J : PySem.W.InstAt s.heap a oe D (some od) := ⟨hget, hz.1, by unfold PySem.W.notCls; rw [hv] <;> rfl, by rw [hz.2]; exact ho⟩
      exact PySem.W.kia_one (PySem.W.kitx_exc (by obtain ⟨cd, hc, _⟩ := PySem.W.any_some C.hd; rw [hc]; rfl) C.hg C.hk C.hs C.ha C.hn C.ht C.hm) I.kIn J e (fun z => nomatch z) fun tk => ⟨.bl b, H, I.kept (t' := tk) fun _ _ z => z, rfl, q⟩

def wManyAs (K : PySem.W.Frag) (i : Nat) (Wout : WX) (D : Ends) : List (Value × (Addr → Value → Option Addr → TS)) → WX
  | [] => Wout
  | (c, ts) :: r => fun cls d σ H => ∃ b, PySem.W.exmOne K cls c = some b ∧ (b = true → ∀ a, H a = none → ts a cls d { nx := fun σ' H' => D.nx (σ'.set i none) H', rt := D.rt, bk := fun σ' H' => D.bk (σ'.set i none) H', ct := fun σ' H' => D.ct (σ'.set i none) H' } (σ.set i (some (.ref a))) H) ∧
    (b = false → wManyAs K i Wout D r cls d σ H)
inductive HdsAs (X : Cx) (n : Str) : List ExceptHandler → List (Value × (Addr → Value → Option Addr → TS)) → Prop
  | nil : HdsAs X n [] []
  | cons {x : Str} {c : Value} {ts : Addr → Value → Option Addr → TS} {b₀ : Stmt} {suite : List Stmt} {np pos' : Pos} {hds : List ExceptHandler} {l : List (Value × (Addr → Value → Option Addr → TS))} (hc : Names X x c)
      (hsu : ∀ (a : Addr) (oe : Obj) (cls : Value) (d : Option Addr) (pn : List (Addr × Obj)), Zc cls d oe → (∃ vs, oe.data = .fields vs) → PSs (X.suite a ((a, oe) :: pn)) (b₀ :: suite) (ts a cls d)) (r : HdsAs X n hds l) :
      HdsAs X n (.ExceptHandler (some (.Name x np)) (some n) (b₀ :: suite) pos' :: hds) ((c, ts) :: l)
section
variable {X : Cx} {n : Str} {i : Nat} {body : List Stmt} {h₀ : ExceptHandler} {hds : List ExceptHandler} {l : List (Value × (Addr → Value → Option Addr → TS))} {pos : Pos} {tb : WX → TS} {Wout : WX}
theorem ps_try_manyAs (hs : X.stack = X.env :: X.outer) (hf : X.env.frame = some X.env.locals) (hN : X.N.Nodup) (hi : X.N[i]? = some n) (hln : X.env.kindOf n = some .local) (tk : Takes X Wout)
    (hb : ∀ (W : WX) (pn : List (Addr × Obj)) (xe : Value → Shared → Prop), Takes (X.tr pn xe) W → PassesOwn (model X.prog X.w) X.A X.env xe → PSs (X.tr pn xe) body (tb W))
    (hh : HdsAs X n (h₀ :: hds) l) : PS X (.Try body (h₀ :: hds) [] [] pos) (fun D σ H => tb (wManyAs X.K i Wout D l) D σ H) := by
  refine ⟨fun pins s σ H D I h => ?_⟩
  have ok := I.ok
  have hfr : X.A.frames = some (X.env :: X.outer) := by rw [ok.frames, hs]
  have hloc : Loc X.env.scope n := .inl hln
  refine wpAny_Try_except ?_
  refine wpAny_mono ((hb (wManyAs X.K i Wout D l) (X.pn ++ pins) (fun e s₁ => wpAny (model X.prog X.w) X.A (noteFrame e X.env) (fun _ s₂ => wpAny (model X.prog X.w) X.A (setFlight e none) (fun _ s₃ =>
    wpAny (model X.prog X.w) X.A (handleBy e X.env (h₀ :: hds)) (SP X pins D) X.xe s₃) X.xe s₂) X.xe s₁) (fun u s' xx => ?_) PassesOwn.looking).run [] s σ H D (I.toTry _) h) (fun f s1 hsp => ?_) (fun e s1 he => he)
  · -- the catch
    obtain ⟨a, B, sI, pins', σ', H', cls, d, rfl, J', nb, up, sky, na, os, ag, w⟩ := xx
    have J : Inv X pins σ' H' sI := J'.ofTry ok
    have sky' : Sky B (X.env :: X.outer) a (Zc cls d) X.env.locals s'.heap := by rw [← hs]; exact sky
    show wpAny (model X.prog X.w) X.A (noteFrame (.ref a) X.env) _ _ _
    refine Sky.land Zc.steady hfr hf sky' fun h3 fl3 up3 => ?_
    have J3 : Inv X pins σ' H' { s' with heap := h3 } := J.landed nb fl3.1 (up.trans up3) os ag
    obtain ⟨oe3, vs3, he3, hz3, hd3⟩ := fl3.there
    have notFr : ∀ {h : Heap} {o : Obj} {vs : Array Value}, h.FunFrames B (X.env :: X.outer) → h.get? a = some o → o.data = .fields vs → a ∉ frs (X.env :: X.outer) := fun {h o vs} ff e dd hm => by
      obtain ⟨_, o', e', hnf⟩ := ff.mem hm
      rw [e] at e'; cases e'
      exact hnf _ dd
    have nfr := notFr fl3.2.2.1 he3 hd3
    have nL : a ≠ X.env.locals := fun z => nfr (List.mem_filterMap.mpr ⟨X.env, List.mem_cons_self, by rw [hf, z]⟩)
    have nF : a ∉ X.fs := fun hm => by
      obtain ⟨e, he, q⟩ := List.mem_filterMap.mp hm
      exact nfr (List.mem_filterMap.mpr ⟨e, List.mem_cons_of_mem _ he, q⟩)
    have S3 := J3.suite he3 hd3 na nL nF
    have go : ∀ {hds' : List ExceptHandler} {l' : List (Value × (Addr → Value → Option Addr → TS))}, HdsAs X n hds' l' → wManyAs X.K i Wout D l' cls d σ' H' →
        wpAny (model X.prog X.w) X.A (handleBy (.ref a) X.env hds') (SP X pins D) X.xe { s' with heap := h3 } := by
      intro hds' l' hk
      induction hk with
      | nil =>
        intro w
        refine wpAny_handleBy_nil ?_
        obtain ⟨k1, k2, k3, oe, vs, T, oT, ts', he, hz, hd, h1, hr⟩ := id fl3
        unfold PySem.passOn
        refine wpAny_bind (wpAny_field he hd h1 ?_)
        rw [if_neg (show ¬ ((Value.ref T == Value.none) = true) from by simp)]
        have fin : wpAny (model X.prog X.w) X.A (setFlight (.ref a) X.env.frame) (fun _ s4 => wpAny (model X.prog X.w) X.A (throw (.ref a) : Sem Flow) (SP X pins D) X.xe s4) X.xe { s' with heap := h3 } := by
          rw [hf]
          refine HandSPX.setFlight_upZ fl3 fun h4 hh4 up4 => wpAny_throw (tk _ _ ?_)
          exact ⟨a, B, sI, pins, σ', H', cls, d, rfl, J, nb, (up.trans up3).trans up4, .inr (.inr (by rw [hs]; exact hh4)), na, os, ag, w⟩
        first
          | exact wpAny_bind (wpAny_pure (wpAny_bind fin))
          | exact wpAny_bind fin
      | @cons x c ts b₀ suite np pos' hds2 l2 hc hsu r ih =>
        intro w
        obtain ⟨b, hb1, hyes, hno⟩ := w
        refine wpAny_handleBy_cons (codeAny_handlers_test ?_) (by intro q; cases q)
        have LT : PySem.W.Looks (model X.prog X.w) h3 (typeOf (.ref a)) cls := fun A Q E s k q => wpAny_typeOf_ref (k _ _ he3) (by rw [hz3.1]; exact q)
        have LM := PySem.W.exm_one (M := model X.prog X.w) (J3.kIn) LT hb1
        have test : ∀ {Q : Value → Shared → Prop} {E : Value → Shared → Prop}, Q c { s' with heap := h3 } → wpAny (model X.prog X.w) (X.A.mark (some (.ref a))) (eval (.Name x np) X.env) Q E { s' with heap := h3 } := fun {Q E} q => by
          obtain ⟨hg, hdbg, hm | ⟨hm, hv, hnn⟩⟩ := hc
          · exact ld_glob (X := X.suite a ((a, oe3) :: (X.pn ++ pins))) S3 hg hm q hdbg
          · exact ld_blt (X := X.suite a ((a, oe3) :: (X.pn ++ pins))) S3 hg hm hv q hnn hdbg
        refine test (LM.here ?_)
        cases b with
        | true =>
          refine codeAny_handlers_suite_as ?_
          refine HandSPX.lands_againZ fl3 fun h4 fl4 up4 => ?_
          have J4 : Inv X pins σ' H' { s' with heap := h4 } := J.landed nb fl4.1 ((up.trans up3).trans up4) os ag
          obtain ⟨oe4, vs4, he4, hz4, hd4⟩ := fl4.there
          have S4 := J4.suite he4 hd4 na nL nF
          refine store_ok (X := X.suite a ((a, oe4) :: (X.pn ++ pins))) (v := .ref a) S4 hN hi hloc rfl (fun s5 S5 => ?_) (.inr hln)
          refine wpAny_mono ((hsu a oe4 cls d (X.pn ++ pins) hz4 ⟨_, hd4⟩).run [] s5 _ H' _ S5 (hyes rfl a na)) (fun f s6 hsp => ?_) (fun _ _ z => False.elim z)
          have end_ : ∀ {σ6 : St} {H6 : Hp} {Q : Shared → Prop}, Inv (X.suite a ((a, oe4) :: (X.pn ++ pins))) [] σ6 H6 s6 → (∀ s7, Inv X pins (σ6.set i none) H6 s7 → Q s7) →
              wpAny (model X.prog X.w) X.A (do bindName X.env n .none; unbindBehindTheSuite X.env n pos') (fun _ s7 => Q s7) X.xe s6 := fun {σ6 H6 Q} S6 hq => gone_ok (S6.unsuite ok) hN hi hln hq
          cases f with
          | next =>
            obtain ⟨σ6, H6, S6, q6⟩ := hsp
            exact end_ S6 fun s7 J7 => ⟨_, _, J7, q6⟩
          | brk =>
            obtain ⟨σ6, H6, S6, q6⟩ := hsp
            exact end_ S6 fun s7 J7 => ⟨_, _, J7, q6⟩
          | cont =>
            obtain ⟨σ6, H6, S6, q6⟩ := hsp
            exact end_ S6 fun s7 J7 => ⟨_, _, J7, q6⟩
          | ret u =>
            obtain ⟨v6, σ6, H6, S6, r6, q6⟩ := hsp
            exact end_ S6 fun s7 J7 => ⟨_, _, _, J7, r6, q6⟩
        | false =>
          show wpAny _ X.A (handleBy (.ref a) X.env hds2) _ _ _
          exact ih (hno rfl)
    exact go hh w
  · cases f with
    | next =>
      obtain ⟨σ', H', J', q⟩ := hsp
      exact wpAny_execs_nil ⟨σ', H', J'.ofTry ok, q⟩
    | brk =>
      obtain ⟨σ', H', J', q⟩ := hsp
      exact ⟨σ', H', J'.ofTry ok, q⟩
    | cont =>
      obtain ⟨σ', H', J', q⟩ := hsp
      exact ⟨σ', H', J'.ofTry ok, q⟩
    | ret u =>
      obtain ⟨v, σ', H', J', r, q⟩ := hsp
      exact ⟨v, σ', H', J'.ofTry ok, r, q⟩
end
end L2
-- DC
namespace L2
open PySem PySem.Spec PyProof.Rows
section
variable {X : Cx} {CX : CXT} {k : Nat} {f C : Addr} {fd : FuncData} {ps : List Str} {sp : Sp} {dvs : List V} {ds : List Value} {E : St → XK} {x m : Str} {p pos apos : Pos} {e o : Expr} {es : List Expr} {ta : TE} {t : TA}
def tMethSD (C : Addr) (m : Str) (sp : Sp) (dvs : List V) (E : St → XK) (ta : TE) (t : TA) : TE := fun σ H Q => ta σ H fun x H1 => ∃ a dx fs, x = .ref a ∧ H1 a = some (.ins C dx fs) ∧ fs.lookup m = none ∧
  t σ H1 fun vs H2 => sp (x :: (vs ++ dvs)) H2 Q (E σ)
theorem pe_methSD {pl : Sem Bool} (he : PE X o ta) (c : Cls X.K C) (hm : Meth X.K C m f) (F : FnOk X.prog X.w X.K X.mg X.base CX k f fd ps sp) (hr : Room k X.A) (hb : Binds X.K fd ps ds) (hd : Vals dvs ds) (hx : ∀ σ, PassesAt CX X σ (E σ)) (ha : PA X (e :: es) t)
    (hst : starEach (e :: es) X.env = (false, eval e X.env) :: starEach es X.env := by rfl) (hpl : (backTo pos (starEach es X.env)).any (·.1) = false := by rfl)
    (ht : eval (.Call (.Attribute o m apos) (e :: es) [] pos) X.env = (do
      let ov ← eval o X.env
      standAt apos.atName
      let (f, first) ← holding [ov] (getMethod ov m pl)
      callWith pos f first (backTo pos (starEach (e :: es) X.env)) (backToKw pos (keywordEach [] X.env))) := by rfl) :
    PE X (.Call (.Attribute o m apos) (e :: es) [] pos) (tMethSD C m sp dvs E ta t) := by
  refine ⟨fun pins s σ H Q I h => ?_⟩
  refine PySem.W.methodCall_KW (pl := pl) (thn (he.run pins s σ H _ I h) fun u s1 ⟨x, H1, I1, rx, a, dx, fs, ex, ea, l, q⟩ => ?_) ht
  subst ex
  obtain rfl : u = Value.ref a := rx
  refine getmeth_ok I1 ea c hm l ?_
  refine PySem.W.callWith_K (first := [.ref a]) (h₀ := X.base) I.ok.mod.kin hm.kp (thn (ha.run pos pins s1 σ H1 _ I1 q) fun us s2 ⟨vs, H2, I2, r, q2⟩ => ⟨I2.kIn, ?_⟩) hst hpl
  exact run_fnSD (us := .ref a :: us) (vs := .ref a :: vs) F hr hb hd (hx σ) I2 (.cons rfl r) q2
theorem pe_methSD0 {pl : Sem Bool} (he : PE X o ta) (c : Cls X.K C) (hm : Meth X.K C m f) (F : FnOk X.prog X.w X.K X.mg X.base CX k f fd ps sp) (hr : Room k X.A) (hb : Binds X.K fd ps ds) (hd : Vals dvs ds) (hx : ∀ σ, PassesAt CX X σ (E σ))
    (ht : eval (.Call (.Attribute o m apos) [] [] pos) X.env = (do
      let ov ← eval o X.env
      standAt apos.atName
      let (f, first) ← holding [ov] (getMethod ov m pl)
      callWith pos f first (backTo pos (starEach [] X.env)) (backToKw pos (keywordEach [] X.env))) := by rfl) :
    PE X (.Call (.Attribute o m apos) [] [] pos) (tMethSD C m sp dvs E ta tNil) := by
  refine ⟨fun pins s σ H Q I h => ?_⟩
  refine PySem.W.methodCall_KW (pl := pl) (thn (he.run pins s σ H _ I h) fun u s1 ⟨x, H1, I1, rx, a, dx, fs, ex, ea, l, q⟩ => ?_) ht
  subst ex
  obtain rfl : u = Value.ref a := rx
  refine getmeth_ok I1 ea c hm l ?_
  exact PySem.W.callWith_K0 (first := [.ref a]) I1.kIn hm.kp (run_fnSD (us := [.ref a]) (vs := [.ref a]) F hr hb hd (hx σ) I1 (.cons rfl .nil) q)
def tMakeSD (C : Addr) (sp : Sp) (dvs : List V) (E : St → XK) (t : TA) : TE := fun σ H Q => t σ H fun vs H1 => ∀ x dx, H1 x = none → H1 dx = none → dx ≠ x →
  sp (.ref x :: (vs ++ dvs)) (upd (upd H1 dx (.own x)) x (.ins C dx [])) (fun v H2 => v = .non ∧ Q (.ref x) H2) (E σ)
theorem run_makeSD {pins : List (Addr × Obj)} {σ : St} {H : Hp} {s : Shared} {Q : VK} {us : List Value} {vs : List V} (M : Mk X.K C f) (F : FnOk X.prog X.w X.K X.mg X.base CX k f fd ps sp) (hr : Room (k + 1) X.A) (hb : Binds X.K fd ps ds) (hd : Vals dvs ds)
    (hx : PassesAt CX X σ (E σ)) (I : Inv X pins σ H s) (r : Vals vs us)
    (h : ∀ x dx, H x = none → H dx = none → dx ≠ x → sp (.ref x :: (vs ++ dvs)) (upd (upd H dx (.own x)) x (.ins C dx [])) (fun v H2 => v = .non ∧ Q (.ref x) H2) (E σ)) :
    wpAny (model X.prog X.w) X.A (call (.ref C) us) (EP X pins σ Q) X.xe s := by
  have hq := h (s.heap.objs.size + 1) s.heap.objs.size (I.hok.fresh (Nat.le_succ _)) (I.hok.fresh (Nat.le_refl _)) (Nat.ne_of_lt (Nat.lt_succ_self _))
  have I2 := Inv.made (C := C) I
  have r2 : Vals (V.ref (s.heap.objs.size + 1) :: (vs ++ dvs)) (Value.ref (s.heap.objs.size + 1) :: (us ++ ds)) := .cons rfl (r.append hd)
  have hl : (Value.ref (s.heap.objs.size + 1) :: us ++ ds).length = ps.length := by
    have e := r2.length
    rw [F.len _ _ _ _ hq] at e
    exact e.symm
  refine wpAny_call (make_map (f := f) I.kIn M.makes M.init (beq_iff_eq.mp M.fn) (codeAny_mono (F.run _ X.stack _ _ ⟨Value.ref (s.heap.objs.size + 1) :: us, []⟩ (Value.ref (s.heap.objs.size + 1) :: (us ++ ds)) _ _ (E σ) (hr.make C us [])
    (I2.env0.make C us []) (hb _ (Value.ref (s.heap.objs.size + 1) :: us) I2.kIn hl) r2 hq) fun r s' hq' => ?_))
  cases r with
  | error e => exact hx pins _ _ e s' I2 hq'
  | ok fl =>
    cases fl with
    | ret u =>
      obtain ⟨v, H', I3, rv, ev, q3⟩ := I2.after hq'
      subst ev
      exact ⟨rv, ⟨V.ref (s.heap.objs.size + 1), H', I3, rfl, q3⟩⟩
    | next => exact False.elim hq'
    | brk => exact False.elim hq'
    | cont => exact False.elim hq'
theorem pe_makeSD (M : Mk X.K C f) (F : FnOk X.prog X.w X.K X.mg X.base CX k f fd ps sp) (hr : Room (k + 1) X.A) (hg : Gl X x) (hm : X.mg x = some (.ref C)) (hb : Binds X.K fd ps ds) (hd : Vals dvs ds) (hx : ∀ σ, PassesAt CX X σ (E σ))
    (ha : PA X (e :: es) t) (hdb : (x == ("__debug__" : Str)) = false := by decide) (he : starEach (e :: es) X.env = (false, eval e X.env) :: starEach es X.env := by rfl) (hpl : (backTo pos (starEach es X.env)).any (·.1) = false := by rfl) :
    PE X (.Call (.Name x p) (e :: es) [] pos) (tMakeSD C sp dvs E t) := by
  refine ⟨fun pins s σ H Q I h => ?_⟩
  refine wpAny_Call_Name_kw (ld_glob I hg hm ?_ hdb)
  refine PySem.W.callWith_K (h₀ := X.base) I.ok.mod.kin M.kp (thn (ha.run pos pins s σ H _ I h) fun us s1 ⟨vs, H1, I1, r, q⟩ => ⟨I1.kIn, ?_⟩) he hpl
  exact run_makeSD M F hr hb hd (hx σ) I1 r q
end
end L2
namespace DL
open PySem PySem.Spec PyProof.Rows L2
section
variable {K : PySem.W.Frag} {E : L2.St → XK} {m : Bool} {te ta tb : TE} {tas : TA} {S S' S1 S2 : List SD} {φ ψ : V → Hp → Hp → Prop} {χ : XO} {x y z : D} {xs ys ds : List D} {t u : TS} {tt : TT} {b : Bool} {i j : Nat} {P : Post} {a : Addr}
structure Exn where
  c : Str
  f : Str
  x : D
abbrev Res := Except Exn D
def spD (K : PySem.W.Frag) (f : List D → Res → Prop) : Sp := fun vs H Q E => ∃ G ds r, Ex G H ∧ DdAll K G vs ds ∧ f ds r ∧ (∀ x, r = .ok x → ∀ v G' H', Stp no G H G' H' → Dd K G' v x → Q v H') ∧
  (∀ e, r = .error e → ∀ dd v G' H', Stp no G H G' H' → G' dd = some (.xd [(e.f, v)]) → Dd K G' v e.x → E (.ref (He.ga K e.c)) (some dd) H')
def ini (N : List Str) (ds : List D) : List SD := ds.map SD.d ++ List.replicate (N.length - ds.length) SD.un
def PR (K : PySem.W.Frag) (r : Res) : Post := { nx := fun _ => r = .ok .none, rt := fun v G _ _ => ∃ x, r = .ok x ∧ Dd K G v x, xc := fun C f x _ => r = .error ⟨C, f, x⟩ }
theorem own_ini {N : List Str} : ¬ own (ini N ds) a := fun ⟨i, xs, e⟩ => by
  unfold ini at e
  by_cases c : i < ds.length
  · rw [List.getElem?_append_left (by simpa using c), List.getElem?_map] at e
    cases q : ds[i]? with
    | none => rw [q] at e; cases e
    | some d => rw [q] at e; cases e
  · rw [List.getElem?_append_right (by simpa using c), List.getElem?_replicate] at e
    split at e <;> cases e
theorem sl_ini {N : List Str} {vs : List V} {G H : Hp} (e : Ex G H) (h : DdAll K G vs ds) : Sl K (ini N ds) (L2.start N vs) G H := by
  refine ⟨by simp [L2.start, ini, dpa_len h], fun i s w => ?_, fun i j a xs ys w _ => (own_ini ⟨i, xs, w⟩).elim, e⟩
  unfold ini at w
  unfold L2.start
  have hl := dpa_len h
  by_cases c : i < ds.length
  · rw [List.getElem?_append_left (by simpa using c), List.getElem?_map] at w
    cases q : ds[i]? with
    | none => rw [q] at w; cases w
    | some d =>
      rw [q] at w
      have w' := Option.some.inj w
      subst w'
      obtain ⟨v, h1, h2⟩ := dpa_get h q
      exact ⟨some v, by rw [List.getElem?_append_left (by simp; omega), List.getElem?_map, h1]; rfl, v, rfl, h2⟩
  · rw [List.getElem?_append_right (by simpa using c), List.getElem?_replicate] at w
    split at w
    · rename_i c2
      have w' := Option.some.inj w
      subst w'
      exact ⟨none, by rw [List.getElem?_append_right (by simp; omega), List.getElem?_replicate]; rw [if_pos (by simpa [hl] using c2)], trivial⟩
    · cases w
theorem spD_use {f : List D → Res → Prop} {N : List Str} {vs : List V} {H : Hp} {Q : VK} {E0 : XK} (h : spD K f vs H Q E0) (st : ∀ ds r, f ds r → ST K (fun _ => E0) t (ini N ds) (PR K r)) :
    t { nx := fun _ H' => Q .non H', rt := Q } (L2.start N vs) H := by
  obtain ⟨G, ds, r, e, hd, hf, h1, h2⟩ := h
  have n : ∀ {G' H' : Hp}, Stp (own (ini N ds)) G H G' H' → Stp no G H G' H' := fun s => s.imp fun a z => own_ini z
  exact st ds r hf _ _ G H (sl_ini e hd) ⟨fun S' σ' G' H' p _ s _ => h1 _ p _ _ _ (n s) .non, fun v S' σ' G' H' ⟨x, p, q⟩ _ s _ => h1 x p v _ _ (n s) q,
    fun C f x dd v S' σ' G' H' p _ s _ q1 q2 => h2 _ p dd v _ _ (n s) q1 q2, fun _ _ _ _ p => p.elim, fun _ _ _ _ p => p.elim⟩
theorem spD_len {f : List D → Res → Prop} {n : Nat} (h : ∀ ds r, f ds r → ds.length = n) {vs : List V} {H : Hp} {Q : VK} {E0 : XK} (s : spD K f vs H Q E0) : vs.length = n := by
  obtain ⟨G, ds, r, e, hd, hf, _⟩ := s
  rw [dpa_len hd]
  exact h ds r hf
theorem fn_data {P : Program} {w : World} {mg : Str → Option Value} {base : Heap} {x qual : Str} {st : Stmt} {f : Addr} {fd : FuncData} {N ps : List Str} {k : Nat} {fn : List D → Res → Prop} (F : Fun K x qual st f fd) (Sc : FnScope N ps (defScope st))
    (len : ∀ ds r, fn ds r → ds.length = ps.length)
    (body : ∀ (cdv : Value) (A : Around) (outer : List Env) (s : Shared) (H : Hp) (E0 : XK), Room k (A.deeper (envOfC qual (defScope st) s.heap.objs.size f cdv)) →
      Takes (cxOf (L2.CX P w) P w K mg base N qual (defScope st) f cdv A outer s H E0) (fun cls d _ H => E0 cls d H) →
      ∃ t, PSs (cxOf (L2.CX P w) P w K mg base N qual (defScope st) f cdv A outer s H E0) (defBody st) t ∧ ∀ ds r, fn ds r → ST K (fun _ => E0) t (ini N ds) (PR K r)) :
    FnOk P w K mg base (L2.CX P w) (k + 1) f fd ps (spD K fn) := by
  refine F.okX Sc (fun vs H Q E h => spD_len len h) fun cdv A outer s H vs Q E0 hr h => ?_
  obtain ⟨t, h1, h2⟩ := body cdv A outer s H E0 hr (takes_of rfl rfl rfl rfl)
  exact ⟨t, h1, spD_use h fun ds r e => h2 ds r e⟩
theorem j_call {f : List D → Res → Prop} {E1 : L2.St → XK} (h : JA K E m tas S S' (da K ds) χ) (hf : f ds (.ok x)) : J K E m (tCallSD (spD K f) [] E1 tas) S S' (DL.dd K x) χ := fun σ G H s Q k e =>
  h σ G H s _ (fun vs G1 H1 st1 s1 o1 d1 => ⟨G1, ds, .ok x, st1.h, by rw [List.append_nil]; exact d1, hf, fun y hy v G2 H2 st2 d2 => by
    cases hy
    exact k v G2 H2 (st1.trans st2 (fun _ z => z) fun _ _ _ _ _ z => z) (s1.on st2) o1 d2, by intro _ hy; cases hy⟩) e
theorem j_callX {f : List D → Res → Prop} {x : Exn} (h : JA K E false tas S S' (da K ds) nox) (hf : f ds (.error x)) : J K E m (tCallSD (spD K f) [] E tas) S S' (fun _ _ _ => False) (fun C f y => x = ⟨C, f, y⟩) := fun σ G H s Q k e =>
  h σ G H s _ (fun vs G1 H1 st1 s1 o1 d1 => ⟨G1, ds, .error x, st1.h, by rw [List.append_nil]; exact d1, hf, (by intro _ hy; cases hy), fun y hy dd v G2 H2 st2 q1 q2 => by
    cases hy
    exact e x.c dd G2 H2 ⟨⟨x.f, x.x, v, rfl, q1, q2⟩, st1.no_of.trans st2 (fun _ z => z) fun _ _ _ _ _ z => z⟩⟩) fun _ _ _ _ z => z.ex.elim fun _ ⟨_, _, q, _⟩ => q.elim
theorem ja_consX (h : J K E m te S S' (fun _ _ _ => False) χ) : JA K E m (tCons te tas) S S' (fun _ _ _ => False) χ := fun σ G H s Q k e => h σ G H s _ (fun _ _ _ _ _ _ z => z.elim) e
theorem j_cbX {r : List V → Hp → VK → Prop} (h : JA K E m tas S S' (fun _ _ _ => False) χ) : J K E m (tCB r tas) S S' φ χ := fun σ G H s Q k e => h σ G H s _ (fun _ _ _ _ _ _ z => z.elim) e
theorem j_callX1 {sp : Sp} {dvs : List V} {E1 : L2.St → XK} (h : JA K E m tas S S' (fun _ _ _ => False) χ) : J K E m (tCallSD sp dvs E1 tas) S S' φ χ := fun σ G H s Q k e => h σ G H s _ (fun _ _ _ _ _ _ z => z.elim) e
theorem ji_listX (h : J K E m te S S' (fun _ _ _ => False) χ) : JI K E m (iList K te) S S' ds χ := fun σ G H s Q k e => h σ G H s _ (fun _ _ _ _ _ _ z => z.elim) e
theorem ji_tupX (h : J K E m te S S' (fun _ _ _ => False) χ) : JI K E m (iTup K te) S S' ds χ := fun σ G H s Q k e => h σ G H s _ (fun _ _ _ _ _ _ z => z.elim) e
theorem st_asgX {g : TG} (h : J K E m te S S' (fun _ _ _ => False) χ) (hx : xin χ S P) : ST K E (tAsg te g) S P := fun De σ G H s gd => h σ G H s _ (fun _ _ _ _ _ _ z => z.elim) (gd.err hx s)
theorem st_dropX (h : J K E m te S S' (fun _ _ _ => False) χ) (hx : xin χ S P) : ST K E (tDrop te) S P := fun De σ G H s gd => h σ G H s _ (fun _ _ _ _ _ _ z => z.elim) (gd.err hx s)
theorem st_retX (h : J K E m te S S' (fun _ _ _ => False) χ) (hx : xin χ S P) : ST K E (tRet te) S P := fun De σ G H s gd => h σ G H s _ (fun _ _ _ _ _ _ z => z.elim) (gd.err hx s)
def spXI (C : Addr) (f : Str) : Sp := fun vs H Q _ => ∃ a v, vs = [.ref a, v] ∧ H a = some (exo a C none) ∧ ∀ dx, H dx = none → dx ≠ a → Q .non (upd (upd H dx (exd dx [(f, v)])) a (exo a C (some dx)))
theorem ok_xinit {P : Program} {w : World} {mg : Str → Option Value} {base : Heap} {qual pn f : Str} {st : Stmt} {fa C : Addr} {fd : FuncData} {p1 p2 p3 p4 : Pos} (F : Fun K "__init__" qual st fa fd) (T : OexC K C) (nf : PySem.W.findIn K (.ref C) f = some none)
    (Sc : FnScope ["self", pn] ["self", pn] (defScope st)) (hb : defBody st = [.Assign [.Attribute (.Name "self" p1) f p2] (.Name pn p3) p4]) (h0 : (defScope st).names.lookup ("self" : Str) = some .local) (h1 : (defScope st).names.lookup pn = some .local)
    (hd1 : (pn == ("__debug__" : Str)) = false) (hd2 : (pn == ("__classdict__" : Str)) = false)
    (hs : ∀ X : Cx, X.env.scope = defScope st → swapsWith (.Name pn p3) (some (.Attribute (.Name "self" p1) f p2)) p4.line X.env = pure false) : FnOk P w K mg base CX0 1 fa fd ["self", pn] (spXI C f) := by
  refine F.ok Sc (fun vs H Q E h => ?_) (fun cdv A outer s H vs Q E hr h => ?_)
  · obtain ⟨a, v, rfl, _⟩ := h
    rfl
  · obtain ⟨a, v, rfl, ha, k⟩ := h
    rw [hb]
    refine ⟨_, pss_one (ps_ost (pe_var (i := 0) rfl (.inl h0)) (pe_var (i := 1) rfl (.inl h1) hd1 hd2) (hs _ rfl)), ?_⟩
    exact ⟨v, rfl, .ref a, rfl, a, C, rfl, T, nf, .inl ⟨ha, fun dx hdx hne => k dx hdx hne⟩⟩
theorem st_raise {W : WX} {C f : Str} (h : JA K (WE W) false tas S S (da K [x]) nox) (hp : P.xc C f x S) :
    ST K (WE W) (fun _ σ H => tMkO (He.ga K C) (spXI (He.ga K C) f) [] tas σ H fun cls d H' => W cls d σ H') S P := fun De σ G H s g =>
  h σ G H s _ (fun vs G1 H1 st1 s1 o1 d1 => by
    obtain ⟨v, rfl, q⟩ := one_of d1
    refine ⟨by show 1 ≤ 1000; decide, fun a ha => ⟨a, v, rfl, upd_same, fun dx hdx hne => ⟨rfl, dx, [(f, v)], upd_same, by rw [upd_ne hne, upd_same], ?_, ?_⟩⟩⟩
    · rw [upd_ne hne] at hdx
      exact hdx
    · rw [upd_ne hne] at hdx
      have e : upd (del (upd (upd (upd H1 a (exo a (He.ga K C) none)) dx (exd dx [(f, v)])) a (exo a (He.ga K C) (some dx))) a) dx (.xd [(f, v)]) = upd H1 dx (.xd [(f, v)]) := by
        funext b
        by_cases c : b = dx
        · subst c
          rw [upd_same, upd_same]
        · rw [upd_ne c, upd_ne c]
          by_cases c2 : b = a
          · subst c2
            rw [del_same, ha]
          · rw [del_ne c2, upd_ne c2, upd_ne c, upd_ne c2]
      rw [e]
      exact g.xc C f x dx v S σ _ _ hp (s1.news hdx) ((st1.no_of.trans (Stp.new s1.ex hdx (o := no)) (fun _ z => z) fun _ _ _ _ _ z => z).imp fun _ z => z.elim) (fun _ z => .inl z) upd_same (dp_ex (Evl.Ex.new (free_of s1.ex hdx)) q)) fun _ _ _ _ z => z.ex.elim fun _ ⟨_, _, q, _⟩ => q.elim
abbrev HT := Addr → Value → Option Addr → TS
inductive HM (K : PySem.W.Frag) (C : Str) : List (Value × HT) → HT → Prop
  | here {c : Value} {ts : HT} {r : List (Value × HT)} : PySem.W.exmOne K (.ref (He.ga K C)) c = some true → HM K C ((c, ts) :: r) ts
  | there {c : Value} {ts ts' : HT} {r : List (Value × HT)} : PySem.W.exmOne K (.ref (He.ga K C)) c = some false → HM K C r ts → HM K C ((c, ts') :: r) ts
def exP (K : PySem.W.Frag) (a d : Addr) (f : Str) (x : D) : V → Hp → Prop := fun v G => v = .ref a ∧ ∃ w, G d = some (.xd [(f, w)]) ∧ Dd K G w x
theorem exP_mono {a d : Addr} {f : Str} : Mono (exP K a d f x) := fun v G G' e ⟨h1, w, h2, h3⟩ => ⟨h1, w, e _ _ h2, dp_ex e h3⟩
theorem st_try {tb : WX → TS} {l : List (Value × HT)} {Pb : Post} {Wout : WX} (hi : ∀ S', Pb.nx S' → P.nx S') (hr : ∀ v G H S', Pb.rt v G H S' → P.rt v G H S') (hbk : ∀ S', Pb.bk S' → P.bk S') (hct : ∀ S', Pb.ct S' → P.ct S')
    (body : ∀ W : WX, ST K (WE W) (tb W) S Pb)
    (hd : ∀ C f x S', Pb.xc C f x S' → (∀ a xs, S'[i]? ≠ some (.l a xs)) ∧ ∃ ts, HM K C l ts ∧ ∀ a d, ST K E (ts a (.ref (He.ga K C)) (some d)) (S'.set i (.p (exP K a d f x))) { P with nx := fun S2 => (∀ a xs, S2[i]? ≠ some (.l a xs)) ∧ P.nx (S2.set i .un), bk := fun _ => False, ct := fun _ => False }) :
    ST K E (fun De σ H => tb (wManyAs K i Wout De l) De σ H) S P := fun De σ G H s g =>
  body _ De σ G H s ⟨fun S' σ' G' H' p => g.nx S' σ' G' H' (hi S' p), fun v S' σ' G' H' p => g.rt v S' σ' G' H' (hr v G' H' S' p), fun C f x dd v S' σ' G' H' p q st sb h1 h2 => by
    obtain ⟨nl, ts, hm, hs⟩ := hd C f x S' p
    have main : ∀ {l' : List (Value × HT)} {ts' : HT}, HM K C l' ts' → (∀ a d, ST K E (ts' a (.ref (He.ga K C)) (some d)) (S'.set i (.p (exP K a d f x))) { P with nx := fun S2 => (∀ a xs, S2[i]? ≠ some (.l a xs)) ∧ P.nx (S2.set i .un), bk := fun _ => False, ct := fun _ => False }) →
        wManyAs K i Wout De l' (.ref (He.ga K C)) (some dd) σ' H' := by
      intro l' ts' hm'
      induction hm' with
      | @here c ts r e =>
        intro hs
        refine ⟨true, e, fun _ a ha => ?_, (by intro z; cases z)⟩
        refine hs a dd _ (σ'.set i (some (.ref a))) G' H' (q.set ⟨exP_mono, _, rfl, rfl, v, h1, h2⟩ fun _ _ z => SD.noConfusion z) ?_
        have ow : ∀ b, own (S'.set i (.p (exP K a dd f x))) b → own S' b := fun b z => own_set' (fun _ _ z => SD.noConfusion z) z
        have sb' : Sub S (S'.set i (.p (exP K a dd f x))) H := fun b z => sb b (ow b z)
        exact ⟨fun S2 σ2 G2 H2 ⟨_, p2⟩ q2 st2 b2 => g.nx _ _ G2 H2 p2 (q2.set trivial fun _ _ z => SD.noConfusion z) (st.then st2 sb') fun b z => Sub.then st sb' b2 b (own_set' (fun _ _ z => SD.noConfusion z) z),
          fun v2 S2 σ2 G2 H2 p2 q2 st2 b2 => g.rt v2 S2 σ2 G2 H2 p2 q2 (st.then st2 sb') (Sub.then st sb' b2), fun C2 f2 x2 d2 v2 S2 σ2 G2 H2 p2 q2 st2 b2 => g.xc C2 f2 x2 d2 v2 S2 σ2 G2 H2 p2 q2 (st.then st2 sb') (Sub.then st sb' b2),
          fun _ _ _ _ z => z.elim, fun _ _ _ _ z => z.elim⟩
      | @there c ts ts' r e _ ih =>
        intro hs
        exact ⟨false, e, (by intro z; cases z), fun _ => ih hs⟩
    exact main hm hs, fun S' σ' G' H' p => g.bk S' σ' G' H' (hbk S' p), fun S' σ' G' H' p => g.ct S' σ' G' H' (hct S' p)⟩
end
end DL
-- DI
namespace DL
open PySem PySem.Spec PyProof.Rows L2
section
variable {K : PySem.W.Frag} {E : L2.St → XK} {m : Bool} {te ta tb : TE} {tas : TA} {S S' S1 S2 : List SD} {φ ψ : V → Hp → Hp → Prop} {χ : XO} {x y z : D} {xs ys ds : List D} {t u : TS} {tt : TT} {b : Bool} {i j : Nat} {P : Post} {a : Addr} {C f : Str} {ns : List Str} {c c' c0 : Ct}
def TyOk (K : PySem.W.Frag) (x : D) (t : Value) : Prop := ∀ H v, Dd K H v x → TyX K H v t
theorem ty_non : TyOk K .none (.type "NoneType") := fun H v h => by cases h; exact .base .non
theorem ty_bl : TyOk K (.bool b) (.type "bool") := fun H v h => by cases h; exact .base (.bl _)
theorem ty_int {i : Int} : TyOk K (.int i) (.type "int") := fun H v h => by cases h; exact .base (.int _)
theorem ty_str {s : Str} : TyOk K (.str s) (.type "str") := fun H v h => by cases h; exact .base (.str _)
theorem ty_lst : TyOk K (.list xs) (.type "list") := fun H v h => by
  obtain ⟨a, ws, rfl, h1, _⟩ := dp_lst h
  exact .base (.lst h1)
theorem ty_tup : TyOk K (.tuple xs) (.type "tuple") := fun H v h => by
  obtain ⟨a, ws, rfl, h1, _⟩ := dp_tup h
  rcases h1 with (h1 | ⟨o, h1⟩) | ⟨o, its, n, h1, h2, _⟩
  · exact .base (.tup h1)
  · exact .fTuple h1
  · exact .kTuple h1 h2
structure ClsT (K : PySem.W.Frag) (C : Str) : Prop where
  cl : Cls K (He.ga K C)
  a : W.findIn K (.ref (He.ga K C)) (Str.ofString "__class__") = some (some (.builtin "object.__class__"))
  b : W.specialIn K (.builtin "object.__class__") (Str.ofString "__get__") = some (some (.builtin "getset_descriptor.__get__"))
  c : W.takesIn K (.builtin "object.__class__") = some true
  d : W.mroIn K (He.ga K C) (.type "object") = some true
theorem ty_ob (q : ClsT K C) : TyOk K (ob C ns ds) (.ref (He.ga K C)) := fun H v h => by
  obtain ⟨a, dx, ws, rfl, h1, _⟩ := dp_obj h
  exact .base (.ins h1 q.cl q.a q.b q.c q.d)
theorem j_isi {cl : V} {u t : Value} (h : J K E m te S S' (DL.td K x) χ) (hc : ClsV cl u) (ht : TyOk K x t) (hk : PySem.W.kitOne K t u = some b) : J K E m (tCB (rIsi K) (tCons te (tCons (tC cl) tNil))) S S' (DL.dd K (.bool b)) χ := fun σ G H s Q k e =>
  h σ G H s _ (fun v G1 H1 st1 s1 o1 d1 => ⟨v, cl, t, u, b, rfl, hc, ht _ _ d1, hk, k _ G1 H1 st1 s1 o1 (.bl b)⟩) e
theorem j_isiT {cls : List V} {tc : TA} {us : List Value} {t : Value} (h : J K E m te S S' (DL.td K x) χ) (hcl : ∀ σ H (Q : List V → Hp → Prop), Q cls H → tc σ H Q) (hl : cls.length ≤ sizeLine) (hc : Paired ClsV cls us) (ht : TyOk K x t) (hk : PySem.W.kitAny K t us = some b) :
    J K E m (tCB (rIsiT K) (tCons te (tCons (tTup tc) tNil))) S S' (DL.dd K (.bool b)) χ := fun σ G H s Q k e =>
  h σ G H s _ (fun v G1 H1 st1 s1 o1 d1 => hcl σ H1 _ ⟨hl, fun p hp => ⟨v, p, cls, t, us, b, rfl, upd_same, hc, ht _ _ (dp_ex (Evl.Ex.new hp) d1), hk, k _ G1 _ (st1.trans (Stp.made s1.ex hp (o := no)) (fun _ z => z) fun _ _ _ _ _ z => z) (s1.made hp) o1 (.bl b)⟩⟩) e
theorem j_bits {n : Int} (h : J K E m te S S' (DL.td K (.int n)) χ) : J K E m (tBits te) S S' (DL.dd K (.int (Builtin.Int.intBits n : Nat))) χ := fun σ G H s Q k e =>
  h σ G H s _ (fun v G1 H1 st1 s1 o1 d1 => ⟨n, dp_int d1, k _ G1 H1 st1 s1 o1 (.int _)⟩) e
theorem fld_get {G : Hp} : ∀ {ns : List Str} {vs : List V} {ds : List D}, DdAll K G vs ds → (ns.zip ds).lookup f = some x → ∃ v, (ns.zip vs).lookup f = some v ∧ Dd K G v x
  | [], _, _, _, h => by simp at h
  | n :: ns, _, _, .nil, h => by simp at h
  | n :: ns, v :: vs, d :: ds, .cons p q, h => by
    simp only [List.zip_cons_cons, List.lookup_cons] at h ⊢
    cases e : f == n with
    | true =>
      simp only [e] at h ⊢
      cases h
      exact ⟨v, rfl, p⟩
    | false =>
      simp only [e] at h ⊢
      exact fld_get q h
theorem fld_none {β : Type} : ∀ {ns : List Str} {vs : List β}, f ∉ ns → (ns.zip vs).lookup f = none
  | [], _, _ => by simp
  | _ :: _, [], _ => by simp
  | n :: ns, v :: vs, h => by
    simp only [List.zip_cons_cons, List.lookup_cons]
    have e : (f == n) = false := by
      rw [Bool.eq_false_iff]
      intro z
      exact h (by rw [eq_of_beq z]; exact List.mem_cons_self)
    rw [e]
    exact fld_none fun z => h (List.mem_cons_of_mem _ z)
theorem j_fld (h : J K E m te S S' (DL.dd K (ob C ns ds)) χ) (cl : Cls K (He.ga K C)) (na : NoAttr K (He.ga K C) f) (hx : (ns.zip ds).lookup f = some x) : J K E m (tFld K te f) S S' (DL.dd K x) χ := fun σ G H s Q k e =>
  h σ G H s _ (fun v G1 H1 st1 s1 o1 d1 => by
    obtain ⟨a, dx, ws, rfl, h1, h2, h3⟩ := dp_obj d1
    obtain ⟨w, q1, q2⟩ := fld_get h3 hx
    exact ⟨a, _, dx, _, w, rfl, st1.h _ _ h1, cl, na, q1, k w G1 H1 st1 s1 o1 q2⟩) e
theorem j_fldO {dx : Addr} (h0 : S[i]? = some (.l a (.ins C dx ns ds))) (cl : Cls K (He.ga K C)) (na : NoAttr K (He.ga K C) f) (hx : (ns.zip ds).lookup f = some x) : J K E m (tFld K (tVar i) f) S S (DL.dd K x) χ := fun σ G H s Q k e => by
  obtain ⟨ov, e1, rfl, ga, vs, q1, q2, q3⟩ := s.ok i _ h0
  obtain ⟨w, r1, r2⟩ := fld_get q3 hx
  exact ⟨.ref a, e1, a, _, dx, _, w, rfl, q1, cl, na, r1, k w G H (.refl s.ex) s (fun _ z => z) r2⟩
theorem putF_new : ∀ {ns : List Str} {vs : List V} {v : V}, f ∉ ns → ns.length = vs.length → putF f v (ns.zip vs) = (ns ++ [f]).zip (vs ++ [v])
  | [], [], v, _, _ => rfl
  | [], _ :: _, _, _, h => by simp at h
  | _ :: _, [], _, _, h => by simp at h
  | n :: ns, w :: vs, v, h, l => by
    have e : ¬ n = f := fun z => h (by rw [z]; exact List.mem_cons_self)
    show putF f v ((n, w) :: ns.zip vs) = _
    unfold putF
    rw [if_neg e, putF_new (fun z => h (List.mem_cons_of_mem _ z)) (by simpa using l)]
    rfl
theorem st_fldO {dx : Addr} (h : J K E m te S S1 (DL.dd K x) χ) (h0 : S1[i]? = some (.l a (.ins C dx ns ds))) (cl : Cls K (He.ga K C)) (na : NoAttr K (He.ga K C) f) (hn : f ∉ ns) (hl : ns.length < 1000)
    (n : P.nx (S1.set i (.l a (.ins C dx (ns ++ [f]) (ds ++ [x]))))) (hx : xin χ S P) : ST K E (sFld K (tVar i) te f) S P := fun De σ G H s g =>
  h σ G H s _ (fun v G1 H1 st1 s1 o1 d1 => by
    obtain ⟨ov, e1, rfl, ga, vs, q1, q2, q3⟩ := s1.ok i _ h0
    have hlen := dpa_len q3
    have oa : own S1 a := ⟨i, _, h0⟩
    refine ⟨.ref a, e1, a, _, dx, _, rfl, q1, cl, na, by rw [List.length_zip]; omega, ?_⟩
    rw [putF_new hn (by omega)]
    exact g.nx _ σ G1 _ n (s1.setL h0 ⟨vs ++ [v], upd_same, by simp; omega, dpa_app q3 (.cons d1 .nil)⟩) (st1.oM.then (Stp.own s1.ex ga oa) fun b z => .inl (o1 b z)) fun b z => .inl (o1 b (own_setL h0 z))) (g.err hx s)
abbrev at1 (a : Addr) : Addr → Prop := fun b => b = a
def spM (K : PySem.W.Frag) (R : Ct → List D → Res → Ct → Prop) : Sp := fun vs H Q E => ∃ G a c ws ds r c', vs = .ref a :: ws ∧ Ex G H ∧ G a = none ∧ COk K G H a c ∧ DdAll K G ws ds ∧ R c ds r c' ∧
  (∀ x, r = .ok x → ∀ v G' H', Stp (at1 a) G H G' H' → G' a = none → COk K G' H' a c' → Dd K G' v x → Q v H') ∧
  (∀ e, r = .error e → ∀ dd v G' H', Stp (at1 a) G H G' H' → G' dd = some (.xd [(e.f, v)]) → Dd K G' v e.x → E (.ref (He.ga K e.c)) (some dd) H')
def iniM (N : List Str) (a : Addr) (c : Ct) (ds : List D) : List SD := SD.l a c :: (ds.map SD.d ++ List.replicate (N.length - (ds.length + 1)) SD.un)
def PM (K : PySem.W.Frag) (a : Addr) (r : Res) (c' : Ct) : Post := { nx := fun S => r = .ok .none ∧ S[0]? = some (.l a c'), rt := fun v G _ S => S[0]? = some (.l a c') ∧ ∃ x, r = .ok x ∧ Dd K G v x, xc := fun C f x _ => r = .error ⟨C, f, x⟩ }
theorem iniM_own {N : List Str} {b : Addr} (h : own (iniM N a c ds) b) : b = a := by
  obtain ⟨i, c2, e⟩ := h
  cases i with
  | zero =>
    cases e
    rfl
  | succ i =>
    exfalso
    unfold iniM at e
    rw [List.getElem?_cons_succ] at e
    by_cases c : i < ds.length
    · rw [List.getElem?_append_left (by simpa using c), List.getElem?_map] at e
      cases q : ds[i]? with
      | none => rw [q] at e; cases e
      | some d => rw [q] at e; cases e
    · rw [List.getElem?_append_right (by simpa using c), List.getElem?_replicate] at e
      split at e <;> cases e
theorem sl_iniM {N : List Str} {vs : List V} {G H : Hp} (e : Ex G H) (ga : G a = none) (hc : COk K G H a c) (h : DdAll K G vs ds) : Sl K (iniM N a c ds) (L2.start N (.ref a :: vs)) G H := by
  have hl := dpa_len h
  refine ⟨by simp [L2.start, iniM, dpa_len h], fun i s w => ?_, fun i j b c1 c2 w1 w2 => ?_, e⟩
  · cases i with
    | zero =>
      cases w
      exact ⟨_, rfl, rfl, ga, hc⟩
    | succ i =>
      unfold iniM at w
      unfold L2.start
      rw [List.getElem?_cons_succ] at w
      rw [List.map_cons, List.cons_append, List.getElem?_cons_succ, List.length_cons]
      by_cases c : i < ds.length
      · rw [List.getElem?_append_left (by simpa using c), List.getElem?_map] at w
        cases q : ds[i]? with
        | none => rw [q] at w; cases w
        | some d =>
          rw [q] at w
          have w' := Option.some.inj w
          subst w'
          obtain ⟨v, h1, h2⟩ := dpa_get h q
          exact ⟨some v, by rw [List.getElem?_append_left (by simp; omega), List.getElem?_map, h1]; rfl, v, rfl, h2⟩
      · rw [List.getElem?_append_right (by simpa using c), List.getElem?_replicate] at w
        split at w
        · rename_i c2
          have w' := Option.some.inj w
          subst w'
          exact ⟨none, by rw [List.getElem?_append_right (by simp; omega), List.getElem?_replicate]; rw [if_pos (by simpa [hl] using c2)], trivial⟩
        · cases w
  · have nz : ∀ {i : Nat} {c1 : Ct}, (iniM N a c ds)[i]? = some (SD.l b c1) → i = 0 := fun {i c1} w => by
      cases i with
      | zero => rfl
      | succ i =>
        exfalso
        unfold iniM at w
        rw [List.getElem?_cons_succ] at w
        by_cases c : i < ds.length
        · rw [List.getElem?_append_left (by simpa using c), List.getElem?_map] at w
          cases q : ds[i]? with
          | none => rw [q] at w; cases w
          | some d => rw [q] at w; cases w
        · rw [List.getElem?_append_right (by simpa using c), List.getElem?_replicate] at w
          split at w <;> cases w
    rw [nz w1, nz w2]
theorem spM_use {R : Ct → List D → Res → Ct → Prop} {N : List Str} {vs : List V} {H : Hp} {Q : VK} {E0 : XK} (h : spM K R vs H Q E0) (st : ∀ a c ds r c', R c ds r c' → ST K (fun _ => E0) t (iniM N a c ds) (PM K a r c')) :
    t { nx := fun _ H' => Q .non H', rt := Q } (L2.start N vs) H := by
  obtain ⟨G, a, c, ws, ds, r, c', rfl, e, ga, hc, hd, hf, h1, h2⟩ := h
  have n : ∀ {G' H' : Hp}, Stp (own (iniM N a c ds)) G H G' H' → Stp (at1 a) G H G' H' := fun s => s.imp fun a z => iniM_own z
  have fin : ∀ {S' : List SD} {σ' : L2.St} {G' H' : Hp}, S'[0]? = some (.l a c') → Sl K S' σ' G' H' → G' a = none ∧ COk K G' H' a c' := fun {S' σ' G' H'} w q => by
    obtain ⟨ov, _, _, q1, q2⟩ := q.ok 0 _ w
    exact ⟨q1, q2⟩
  exact st a c ds r c' hf _ _ G H (sl_iniM e ga hc hd) ⟨fun S' σ' G' H' ⟨p, w⟩ q s _ => h1 _ p _ _ _ (n s) (fin w q).1 (fin w q).2 .non, fun v S' σ' G' H' ⟨w, x, p, q2⟩ q s _ => h1 x p v _ _ (n s) (fin w q).1 (fin w q).2 q2,
    fun C f x dd v S' σ' G' H' p _ s _ q1 q2 => h2 _ p dd v _ _ (n s) q1 q2, fun _ _ _ _ p => p.elim, fun _ _ _ _ p => p.elim⟩
theorem spM_len {R : Ct → List D → Res → Ct → Prop} {n : Nat} (h : ∀ c ds r c', R c ds r c' → ds.length + 1 = n) {vs : List V} {H : Hp} {Q : VK} {E0 : XK} (s : spM K R vs H Q E0) : vs.length = n := by
  obtain ⟨G, a, c, ws, ds, r, c', rfl, e, ga, hc, hd, hf, _⟩ := s
  rw [List.length_cons, dpa_len hd]
  exact h c ds r c' hf
theorem fn_dataM {P : Program} {w : World} {mg : Str → Option Value} {base : Heap} {x qual : Str} {st : Stmt} {f : Addr} {fd : FuncData} {N ps : List Str} {k : Nat} {R : Ct → List D → Res → Ct → Prop} (F : Fun K x qual st f fd) (Sc : FnScope N ps (defScope st))
    (len : ∀ c ds r c', R c ds r c' → ds.length + 1 = ps.length)
    (body : ∀ (cdv : Value) (A : Around) (outer : List Env) (s : Shared) (H : Hp) (E0 : XK), Room k (A.deeper (envOfC qual (defScope st) s.heap.objs.size f cdv)) →
      Takes (cxOf (L2.CX P w) P w K mg base N qual (defScope st) f cdv A outer s H E0) (fun cls d _ H => E0 cls d H) →
      ∃ t, PSs (cxOf (L2.CX P w) P w K mg base N qual (defScope st) f cdv A outer s H E0) (defBody st) t ∧ ∀ a c ds r c', R c ds r c' → ST K (fun _ => E0) t (iniM N a c ds) (PM K a r c')) :
    FnOk P w K mg base (L2.CX P w) (k + 1) f fd ps (spM K R) := by
  refine F.okX Sc (fun vs H Q E h => spM_len len h) fun cdv A outer s H vs Q E0 hr h => ?_
  obtain ⟨t, h1, h2⟩ := body cdv A outer s H E0 hr (takes_of rfl rfl rfl rfl)
  exact ⟨t, h1, spM_use h fun a c ds r c' e => h2 a c ds r c' e⟩
theorem Sl.chg {σ : L2.St} {G H G' H' : Hp} (s : Sl K S σ G H) (h0 : S[i]? = some (.l a c)) (st : Stp (at1 a) G H G' H') (ga : G' a = none) (hc : COk K G' H' a c') : Sl K (S.set i (.l a c')) σ G' H' := by
  refine ⟨by rw [List.length_set]; exact s.len, fun j z w => ?_, fun j k b c1 c2 e1 e2 => ?_, st.h⟩
  · by_cases cc : i = j
    · subst cc
      rw [List.getElem?_set_self', h0] at w
      have w' := Option.some.inj w
      subst w'
      obtain ⟨ov, e, rfl, _⟩ := s.ok i _ h0
      exact ⟨_, e, rfl, ga, hc⟩
    · rw [List.getElem?_set_ne cc] at w
      obtain ⟨ov, e, q⟩ := s.ok j z w
      refine ⟨ov, e, ?_⟩
      cases z with
      | un => trivial
      | d x =>
        obtain ⟨v, e, q⟩ := q
        exact ⟨v, e, dp_ex st.g q⟩
      | p φ =>
        obtain ⟨mo, v, e, q⟩ := q
        exact ⟨mo, v, e, mo v _ _ st.g q⟩
      | l b c2 =>
        obtain ⟨e, g, q⟩ := q
        have n : ¬ b = a := fun z => by
          subst z
          exact cc (s.ne i j b _ _ h0 w)
        obtain ⟨u, hu⟩ := q.is
        exact ⟨e, (st.k b u g hu n).1, q.on st.g fun u hu => (st.k b u g hu n).2⟩
  · have h1 : ∀ (j : Nat) (c1 : Ct), (S.set i (SD.l a c'))[j]? = some (.l b c1) → ∃ c2, S[j]? = some (.l b c2) := fun j c1 w => by
      by_cases cc : i = j
      · subst cc
        rw [List.getElem?_set_self', h0] at w
        cases (Option.some.inj w)
        exact ⟨_, h0⟩
      · rw [List.getElem?_set_ne cc] at w
        exact ⟨_, w⟩
    obtain ⟨z1, f1⟩ := h1 j c1 e1
    obtain ⟨z2, f2⟩ := h1 k c2 e2
    exact s.ne j k b z1 z2 f1 f2
theorem j_callM {R : Ct → List D → Res → Ct → Prop} {E1 : L2.St → XK} (h0 : S[i]? = some (.l a c0)) (h : JA K E true tas S S1 (da K ds) nox) (h1 : S1[i]? = some (.l a c)) (hR : R c ds (.ok x) c') : J K E true (tCallSD (spM K R) [] E1 (tCons (tVar i) tas)) S (S1.set i (.l a c')) (DL.dd K x) χ := fun σ G H s Q k e => by
  obtain ⟨ov, e0, rfl, _⟩ := s.ok i _ h0
  refine ⟨.ref a, e0, h σ G H s _ (fun vs G1 H1 st1 s1 o1 d1 => ?_) fun _ _ _ _ z => z.ex.elim fun _ ⟨_, _, q, _⟩ => q.elim⟩
  obtain ⟨ov1, e1, rfl', g1, q1⟩ := s1.ok i _ h1
  refine ⟨G1, a, c, vs, ds, .ok x, c', by rw [List.append_nil], st1.h, g1, q1, d1, hR, fun y hy v G2 H2 st2 g2 q2 d2 => ?_, by intro _ hy; cases hy⟩
  cases hy
  have oa : own S1 a := ⟨i, _, h1⟩
  exact k v G2 H2 (st1.tr (st2.imp fun b z => ⟨rfl, by rw [z]; exact oa⟩) o1) (s1.chg h1 st2 g2 q2) (fun b z => o1 b (own_setL h1 z)) d2
theorem make_in {G1 H1 : Hp} {x dx : Addr} (e : Ex G1 H1) (hx : H1 x = none) (hd : H1 dx = none) (ne : dx ≠ x) : Ex G1 (upd (upd H1 dx (.own x)) x (.ins (He.ga K C) dx [])) := fun b z w => by
  have q := e b z w
  rw [upd_ne (ne_of_none q hx), upd_ne (ne_of_none q hd)]
  exact q
theorem make_st {G1 H1 G2 H2 : Hp} {x dx : Addr} {u : HO} (hx : H1 x = none) (hd : H1 dx = none) (ne : dx ≠ x) (st : Stp (at1 x) G1 (upd (upd H1 dx (.own x)) x u) G2 H2) : Stp no G1 H1 G2 H2 :=
  ⟨st.g, st.h, fun b z q1 q2 _ => by
    have n1 : b ≠ x := fun w => by rw [w, hx] at q2; cases q2
    have n2 : b ≠ dx := fun w => by rw [w, hd] at q2; cases q2
    exact st.k b z q1 (by rw [upd_ne n1, upd_ne n2]; exact q2) n1, fun b z => dom_upd (dom_upd (st.d b z))⟩
theorem j_make {R : Ct → List D → Res → Ct → Prop} {E1 : L2.St → XK} (h : JA K E m tas S S' (da K ds) χ) (hR : ∀ dx, R (.ins C dx [] []) ds (.ok .none) (.ins C dx ns xs)) : J K E m (tMakeSD (He.ga K C) (spM K R) [] E1 tas) S S' (DL.dd K (ob C ns xs)) χ := fun σ G H s Q k e =>
  h σ G H s _ (fun vs G1 H1 st1 s1 o1 d1 x dx hx hd ne => by
    refine ⟨G1, x, .ins C dx [] [], vs, ds, .ok .none, .ins C dx ns xs, by rw [List.append_nil], make_in s1.ex hx hd ne, free_of s1.ex hx, ⟨[], by rw [upd_same]; rfl, rfl, .nil⟩, d1, hR dx, fun y hy v G2 H2 st2 g2 q2 d2 => ?_, by intro _ hy; cases hy⟩
    cases hy
    have st3 := make_st hx hd ne st2
    obtain ⟨ws, q3, q4, q5⟩ := q2
    have s2 := s1.on st3
    have n : ¬ own S' x := fun z => by
      obtain ⟨u, q⟩ := s1.ownH z
      rw [hx] at q
      cases q
    have st4 : Stp (oF m S) G H G2 H2 := st1.trans st3 (fun _ z => z) fun _ _ _ _ _ z => z
    refine ⟨dp_non d2, k (.ref x) (upd G2 x _) H2 (st4.frz (st1.d x hx) g2 q3) (s2.frz g2 q3 n) o1 (.obj upd_same q4 (dpa_ex (Evl.Ex.new g2) q5))⟩) e
theorem j_makeX {R : Ct → List D → Res → Ct → Prop} {x : Exn} (h : JA K E false tas S S' (da K ds) nox) (hR : ∀ dx, ∃ c', R (.ins C dx [] []) ds (.error x) c') : J K E m (tMakeSD (He.ga K C) (spM K R) [] E tas) S S' (fun _ _ _ => False) (fun C f y => x = ⟨C, f, y⟩) := fun σ G H s Q k e =>
  h σ G H s _ (fun vs G1 H1 st1 s1 o1 d1 p dx hx hd ne => by
    obtain ⟨c', hR⟩ := hR dx
    refine ⟨G1, p, .ins C dx [] [], vs, ds, .error x, c', by rw [List.append_nil], make_in s1.ex hx hd ne, free_of s1.ex hx, ⟨[], by rw [upd_same]; rfl, rfl, .nil⟩, d1, hR, (by intro _ hy; cases hy), fun y hy dd v G2 H2 st2 q1 q2 => ?_⟩
    cases hy
    have st3 := make_st hx hd ne st2
    exact e x.c dd G2 H2 ⟨⟨x.f, x.x, v, rfl, q1, q2⟩, st1.no_of.trans st3 (fun _ z => z) fun _ _ _ _ _ z => z⟩) fun _ _ _ _ z => z.ex.elim fun _ ⟨_, _, q, _⟩ => q.elim
theorem j_meth {R : List D → Res → Prop} {E1 : L2.St → XK} {mt : Str} (h : J K E m te S S1 (DL.dd K (ob C ns xs)) χ) (ha : JA K E m tas S1 S2 (da K ds) nox) (hn : mt ∉ ns) (hR : R (ob C ns xs :: ds) (.ok x)) :
    J K E m (tMethSD (He.ga K C) mt (spD K R) [] E1 te tas) S S2 (DL.dd K x) χ := fun σ G H s Q k e =>
  h σ G H s _ (fun v G1 H1 st1 s1 o1 d1 => by
    obtain ⟨a, dx, ws, rfl, h1, h2, h3⟩ := dp_obj d1
    refine ⟨a, dx, _, rfl, st1.h _ _ h1, fld_none hn, ha σ G1 H1 s1 _ (fun vs G2 H2 st2 s2 o2 d2 => ?_) fun _ _ _ _ z => z.ex.elim fun _ ⟨_, _, q, _⟩ => q.elim⟩
    exact ⟨G2, _, .ok x, st2.h, by rw [List.append_nil]; exact .cons (dp_ex st2.g d1) d2, hR, fun y hy w G3 H3 st3 d3 => by
      cases hy
      exact k w G3 H3 ((st1.tr st2 o1).trans st3 (fun _ z => z) fun _ _ _ _ _ z => z) (s2.on st3) (fun a z => o1 a (o2 a z)) d3, by intro _ hy; cases hy⟩) e
theorem j_methX {R : List D → Res → Prop} {mt : Str} {x : Exn} (h : J K E false te S S1 (DL.dd K (ob C ns xs)) nox) (ha : JA K E false tas S1 S2 (da K ds) nox) (hn : mt ∉ ns) (hR : R (ob C ns xs :: ds) (.error x)) :
    J K E m (tMethSD (He.ga K C) mt (spD K R) [] E te tas) S S2 (fun _ _ _ => False) (fun C f y => x = ⟨C, f, y⟩) := fun σ G H s Q k e =>
  h σ G H s _ (fun v G1 H1 st1 s1 o1 d1 => by
    obtain ⟨a, dx, ws, rfl, h1, h2, h3⟩ := dp_obj d1
    refine ⟨a, dx, _, rfl, st1.h _ _ h1, fld_none hn, ha σ G1 H1 s1 _ (fun vs G2 H2 st2 s2 o2 d2 => ?_) fun _ _ _ _ z => z.ex.elim fun _ ⟨_, _, q, _⟩ => q.elim⟩
    exact ⟨G2, _, .error x, st2.h, by rw [List.append_nil]; exact .cons (dp_ex st2.g d1) d2, hR, (by intro _ hy; cases hy), fun y hy dd w G3 H3 st3 q1 q2 => by
      cases hy
      exact e x.c dd G3 H3 ⟨⟨x.f, x.x, w, rfl, q1, q2⟩, ((st1.tr st2 o1).no_of).trans st3 (fun _ z => z) fun _ _ _ _ _ z => z⟩⟩) fun _ _ _ _ z => z.ex.elim fun _ ⟨_, _, q, _⟩ => q.elim
theorem j_prop {R : List D → Res → Prop} {E1 : XK} (h : J K E m te S S1 (DL.dd K (ob C ns xs)) χ) (hR : R [ob C ns xs] (.ok x)) : J K E m (tProp (He.ga K C) (spD K R) [] E1 te) S S1 (DL.dd K x) χ := fun σ G H s Q k e =>
  h σ G H s _ (fun v G1 H1 st1 s1 o1 d1 => by
    obtain ⟨a, dx, ws, rfl, h1, h2, h3⟩ := dp_obj d1
    exact ⟨a, dx, _, rfl, st1.h _ _ h1, G1, _, .ok x, st1.h, .cons d1 .nil, hR, fun y hy w G3 H3 st3 d3 => by
      cases hy
      exact k w G3 H3 (st1.trans st3 (fun _ z => z) fun _ _ _ _ _ z => z) (s1.on st3) o1 d3, by intro _ hy; cases hy⟩) e
end
end DL
-- DG
namespace L2
open PySem PySem.Spec PyProof.Rows
section
variable {X : Cx}
def tGFor (wi : TI) (g : TG) (tb : TGn) : TGn := fun D ys σ H => wi σ H fun J H1 => ∃ W : Nat → Nat → List V → L2.St → Hp → Prop, (∃ m, W 0 m ys σ H1) ∧ ∀ i m ys σ H, W i m ys σ H →
  (J.stop i H ∧ D.nx ys σ H) ∨ (J.go i H ∧ ∃ N : List V → L2.St → Hp → Prop, (∀ ys' σ' H', N ys' σ' H' → ∃ m', m' < m ∧ W (i + 1) m' ys' σ' H') ∧ ∀ x H', J.yld i H x H' → g x σ H' fun σ2 H2 => tb { D with nx := N, ct := N, bk := D.nx } ys σ2 H2)
theorem gs_for {tg iter : Expr} {body : List Stmt} {wi : TI} {g : TG} {tb : TGn} {pos : Pos} (hp : PassesOwn (model X.prog X.w) X.A X.env X.xe) (hc : X.calm = true) (hi : PI X tg iter wi) (hg : PG X tg g) (hb : GSs X body tb)
    (hs : ∀ x, foldedSetIterable iter X.env x = pure x := by intro _; rfl) : GS X (.For tg iter body [] pos) (tGFor wi g tb) := by
  refine ⟨fun A S ip R n ys s₀ c fs K J gd lv s σ H D g0 hn k hI ht => ?_⟩
  obtain ⟨acc, cc, r, I⟩ := hI
  rw [exec_For]
  refine seg_bind_wrap (wpAny_standAt ?_)
  refine seg_bind_wrap ?_
  rw [g0.over]
  refine wpAny_mono (hi.run _ s σ H _ I ht) (fun v s1 h1 => ?_) fun x s' hx => k.exc n s₀ x s' hx
  refine seg_bind_wrap (wpAny_of_eq (hs v) ?_)
  refine seg_bind_wrap (wpAny_standAt ?_)
  refine seg_bind_wrap (wpAny_holding ?_)
  rw [g0.over]
  refine wpAny_mono h1 (fun itv s2 h2 => ?_) fun x s' hx => k.exc n s₀ x s' hx
  obtain ⟨it, fp, tn, Jt, H2, e, I2, T, st2, f2, W, ⟨m0, w0⟩, turn⟩ := h2
  subst e
  refine seg_call fun p => ?_
  have gl := fun (ip' : List (Addr × Obj)) (hip : ∀ q ∈ ip', q.1 ≠ S) (kk : Result → Sem PySem.Fin) => gc_loop (k := kk) (c' := .forLoop tg (.ref it) body [] X.env) (l := lv []) (kp := []) (p := p) (X := X) (S := S) (ip := ip') ⟨g0.pn, hip, g0.apart, g0.over, g0.split, g0.guard, g0.gd⟩ rfl rfl
  have stat : ∀ {H' : Hp} {acc' : Array Value} {c' : Nat}, (∀ b ∈ fp, H' b = none) → ∀ b ∈ fp, FpOk X ((S, lstObj acc' c') :: ip) H' b := fun {H' acc' c'} hn b hb => by
    obtain ⟨_, q1, q2, q3, q4, q5⟩ := f2 b hb
    refine ⟨hn b hb, q1, q2, q3, q4, fun q hq => ?_⟩
    rcases List.mem_append.mp hq with hq | hq
    · exact q5 q (List.mem_append_left _ hq)
    · rcases List.mem_cons.mp hq with hq | hq
      · rw [hq]
        exact q5 (S, lstObj acc cc) (List.mem_append_right _ List.mem_cons_self)
      · exact q5 q (List.mem_append_right _ (List.mem_cons_of_mem _ hq))
  have loop : ∀ (m i n : Nat) (ys : List V) (s₀ s : Shared) (σ : L2.St) (H : Hp), n + ys.length = sizeLine → W i m ys σ H → GI X S ip ys σ H s → tn i s.heap → (∀ b ∈ fp, H b = none) →
      Seg (model X.prog X.w) A R (GY X S) n s₀ (.forLoop tg (.ref it) body [] X.env) ((model X.prog X.w).den (.forLoop tg (.ref it) body [] X.env))
        (.ret (fun r => ((match r with | .ok f => (.pure f : Sem Flow) | .error e => .raise e).onRaise (cameBack X.env)).wrap K J gd lv) none (gd false) (lv []) c p [] :: fs) s := by
    intro m
    induction m using Nat.strongRecOn with
    | ind m ih =>
      intro i n ys s₀ s σ H hn w hI st3 fr3
      have ee : ∀ (n : Nat) (s₀ : Shared) (x : Value) (s' : Shared), X.xe x s' → Seg (model X.prog X.w) A R (GY X S) n s₀ (.forLoop tg (.ref it) body [] X.env)
          ((do noteFrame x X.env; theTreesLotGoes x : Sem Unit).wrap (fun _ => .raise x) .raise id id)
          (.ret (fun r => ((match r with | .ok f => (.pure f : Sem Flow) | .error e => .raise e).onRaise (cameBack X.env)).wrap K J gd lv) none (gd false) (lv []) c p [] :: fs) s' := fun n s₀ x s' hx => by
        refine seg_wrap ?_
        rw [(gl ip g0.ip _).over]
        refine wpAny_bind (wpAny_mono (hp x s' hx) (fun _ s'' hcb => wpAny_theTreesLotGoes ?_) fun y s'' hcb => ?_)
        · exact seg_leaf (.error x) (seg_cameBack g0 k hcb)
        · exact seg_leaf (.error y) (seg_cameBack g0 k hcb)
      have eee : ∀ (n : Nat) (s₀ : Shared) (x : Value) (s' : Shared), X.xe x s' → Seg (model X.prog X.w) A R (GY X S) n s₀ (.forLoop tg (.ref it) body [] X.env)
          ((do noteFrame x X.env; theTreesLotGoes x : Sem Unit).bind (fun _ => .raise x))
          (.ret (fun r => ((match r with | .ok f => (.pure f : Sem Flow) | .error e => .raise e).onRaise (cameBack X.env)).wrap K J gd lv) none (gd false) (lv []) c p [] :: fs) s' := fun n s₀ x s' hx => by
        rw [Sem.bind_eq_wrap]
        exact ee n s₀ x s' hx
      obtain ⟨acc3, c3, r3, I3⟩ := hI
      show Seg _ A R (GY X S) n s₀ _ ((forTurn tg (.ref it) body [] X.env).onRaise (fun x => do noteFrame x X.env; theTreesLotGoes x)) _ s
      rw [Sem.onRaise_eq_wrap]
      unfold forTurn
      refine seg_bind_wrap (wpAny_standAt ?_)
      rcases turn i m ys σ H w with ⟨stop, qn⟩ | ⟨go, N, hN, step⟩
      · refine seg_bind_wrap (wpAny_onRaise ?_)
        rw [(gl ip g0.ip _).over]
        refine wpAny_mono (T.done X rfl rfl rfl hc i _ s σ H X.xe I3 (stat fr3) st3 stop) (fun r s4 ⟨hr, I4⟩ => ?_) fun x s' hx => wpAny_standAt (eee n s₀ x s' hx)
        subst hr
        refine seg_again rfl ?_
        exact seg_leaf (.ok .next) (k.ok n ys s₀ s4 .next hn ⟨σ, H, ⟨acc3, c3, r3, I4⟩, qn⟩)
      · refine seg_bind_wrap (wpAny_onRaise ?_)
        rw [(gl ip g0.ip _).over]
        refine wpAny_mono (T.item X rfl rfl rfl hc i _ s σ H X.xe I3 (stat fr3) st3 go) (fun r s4 ⟨u, hr, h4⟩ => ?_) fun x s' hx => wpAny_standAt (eee n s₀ x s' hx)
        subst hr
        refine seg_bind_wrap ?_
        rw [(gl ip g0.ip _).over]
        refine wpAny_mono h4 (fun _ s5 ⟨x, H5, I5, r5, y5, st5, fr5⟩ => ?_) fun x s' hx => eee n s₀ x s' hx
        have I5' := I5.pinned (stat fr5) (T.obj _ _ st5)
        refine seg_bind_wrap ?_
        rw [(gl ip g0.ip _).over]
        refine wpAny_mono (hg.run _ s5 σ H5 x u _ I5' r5 (step x H5 y5)) (fun _ s6 ⟨σ6, H6, I6, q6⟩ => ?_) fun x s' hx => eee n s₀ x s' hx
        have hip' : ∀ q ∈ ip ++ pinsAt fp s5.heap, q.1 ≠ S := fun q hq => by
          rcases List.mem_append.mp hq with hq | hq
          · exact g0.ip q hq
          · obtain ⟨hb, _⟩ := of_pinsAt hq
            exact fun z => (f2 q.1 hb).2.2.2.2.2 (S, lstObj acc cc) (List.mem_append_right _ List.mem_cons_self) z.symm
        rw [Sem.bind_eq_wrap', Sem.wrap_wrap]
        refine hb.run A S (ip ++ pinsAt fp s5.heap) R n ys s₀ _ _ _ _ _ _ s6 σ6 H6 { D with nx := N, ct := N, bk := D.nx } (gl _ hip' _) hn ⟨fun n' ys' s₀' s7 f hn' hq => ?_, fun n' s₀' x s7 hx => eee n' s₀' x s7 hx⟩ ⟨acc3, c3, r3, I6⟩ q6
        have un : ∀ {σ7 : L2.St} {H7 : Hp}, GI X S (ip ++ pinsAt fp s5.heap) ys' σ7 H7 s7 → GI X S ip ys' σ7 H7 s7 ∧ tn (i + 1) s7.heap ∧ ∀ b ∈ fp, H7 b = none := fun {σ7 H7} ⟨acc7, c7, r7, I7⟩ => by
          have I7' : Inv X (((S, lstObj acc7 c7) :: ip) ++ pinsAt fp s5.heap) σ7 H7 s7 := I7
          refine ⟨⟨acc7, c7, r7, I7'.unpinned⟩, T.keep _ _ _ st5 fun b hb o e => (I7'.pin (b, o) (List.mem_append_right _ (List.mem_append_right _ (mem_pinsAt hb e)))).1, fun b hb => ?_⟩
          obtain ⟨o, e, d⟩ := T.obj _ _ st5 b hb
          exact (I7'.pin (b, o) (List.mem_append_right _ (List.mem_append_right _ (mem_pinsAt hb e)))).2.1
        cases f with
        | next =>
          obtain ⟨σ7, H7, I7, n7⟩ := hq
          obtain ⟨g7, t7, b7⟩ := un I7
          obtain ⟨m', hm, w7⟩ := hN ys' σ7 H7 n7
          exact seg_again rfl (ih m' hm (i + 1) n' ys' s₀' s7 σ7 H7 hn' w7 g7 t7 b7)
        | cont =>
          obtain ⟨σ7, H7, I7, n7⟩ := hq
          obtain ⟨g7, t7, b7⟩ := un I7
          obtain ⟨m', hm, w7⟩ := hN ys' σ7 H7 n7
          exact seg_again rfl (ih m' hm (i + 1) n' ys' s₀' s7 σ7 H7 hn' w7 g7 t7 b7)
        | brk =>
          obtain ⟨σ7, H7, I7, n7⟩ := hq
          exact seg_leaf (.ok .next) (k.ok n' ys' s₀' s7 .next hn' ⟨σ7, H7, (un I7).1, n7⟩)
        | ret v =>
          obtain ⟨x7, σ7, H7, I7, r7, q7⟩ := hq
          exact seg_leaf (.ok (.ret v)) (k.ok n' ys' s₀' s7 (.ret v) hn' ⟨x7, σ7, H7, (un I7).1, r7, q7⟩)
  exact loop m0 0 n ys s₀ s2 σ H2 hn w0 ⟨acc, cc, r, I2⟩ st2 fun b hb => (f2 b hb).1
end
end L2
-- DY
namespace DL
open PySem PySem.Spec PyProof.Rows L2
section
variable {K : PySem.W.Frag} {E : L2.St → XK} {m : Bool} {te ta tb : TE} {tas : TA} {S S' S1 S2 : List SD} {φ ψ : V → Hp → Hp → Prop} {χ : XO} {x y z : D} {xs ys ds outs : List D} {t u : TGn} {ts : TS} {tt : TT} {b : Bool} {i j : Nat} {a : Addr} {vs : List Nat}
structure PostG where
  nx : List SD → List D → Prop
  rt : List D → Prop := fun _ => False
  xc : Str → Str → D → List SD → Prop
  bk : List SD → List D → Prop := fun _ _ => False
  ct : List SD → List D → Prop := fun _ _ => False
structure GoodG (K : PySem.W.Frag) (E : L2.St → XK) (P : PostG) (De : GEnds) (S : List SD) (G H : Hp) : Prop where
  nx : ∀ S' ys ws σ' G' H', P.nx S' ys → Sl K S' σ' G' H' → DdAll K G' ws ys → Stp (own S) G H G' H' → Sub S S' H → De.nx ws σ' H'
  rt : ∀ ys ws G' H', P.rt ys → DdAll K G' ws ys → Stp (own S) G H G' H' → De.rt ws .non H'
  xc : ∀ C f x dd v S' σ' G' H', P.xc C f x S' → Sl K S' σ' G' H' → Stp (own S) G H G' H' → Sub S S' H → G' dd = some (.xd [(f, v)]) → Dd K G' v x → E σ' (.ref (He.ga K C)) (some dd) H'
  bk : ∀ S' ys ws σ' G' H', P.bk S' ys → Sl K S' σ' G' H' → DdAll K G' ws ys → Stp (own S) G H G' H' → Sub S S' H → De.bk ws σ' H'
  ct : ∀ S' ys ws σ' G' H', P.ct S' ys → Sl K S' σ' G' H' → DdAll K G' ws ys → Stp (own S) G H G' H' → Sub S S' H → De.ct ws σ' H'
def SG (K : PySem.W.Frag) (E : L2.St → XK) (t : TGn) (S : List SD) (ys : List D) (P : PostG) : Prop :=
  ∀ De ws σ G H, Sl K S σ G H → DdAll K G ws ys → GoodG K E P De S G H → t De ws σ H
variable {P : PostG}
theorem GoodG.step {De : GEnds} {G H G1 H1 : Hp} (g : GoodG K E P De S G H) (s : Stp (own S) G H G1 H1) (b : Sub S S1 H) : GoodG K E P De S1 G1 H1 :=
  ⟨fun S' ys ws σ' G' H' p q r st sb => g.nx S' ys ws σ' G' H' p q r (s.then st b) (Sub.then s b sb), fun ys ws G' H' p r st => g.rt ys ws G' H' p r (s.then st b),
    fun C f x dd v S' σ' G' H' p q st sb h1 h2 => g.xc C f x dd v S' σ' G' H' p q (s.then st b) (Sub.then s b sb) h1 h2,
    fun S' ys ws σ' G' H' p q r st sb => g.bk S' ys ws σ' G' H' p q r (s.then st b) (Sub.then s b sb), fun S' ys ws σ' G' H' p q r st sb => g.ct S' ys ws σ' G' H' p q r (s.then st b) (Sub.then s b sb)⟩
theorem sg_plain (h : ST K E ts S { nx := fun S' => P.nx S' ys, rt := fun v _ _ _ => v = .non ∧ P.rt ys, xc := P.xc, bk := fun S' => P.bk S' ys, ct := fun S' => P.ct S' ys }) : SG K E (tPlain ts) S ys P := fun De ws σ G H s r g =>
  h (De.at ws) σ G H s ⟨fun S' σ' G' H' p q st sb => g.nx S' ys ws σ' G' H' p q (dpa_ex st.g r) st sb, fun v S' σ' G' H' p q st _ => by
    obtain ⟨rfl, p⟩ := p
    exact g.rt ys ws G' H' p (dpa_ex st.g r) st, g.xc, fun S' σ' G' H' p q st sb => g.bk S' ys ws σ' G' H' p q (dpa_ex st.g r) st sb, fun S' σ' G' H' p q st sb => g.ct S' ys ws σ' G' H' p q (dpa_ex st.g r) st sb⟩
theorem sg_nil (h : P.nx S ys) : SG K E tG0 S ys P := fun De ws σ G H s r g => g.nx S ys ws σ G H h s r (.refl s.ex) fun _ z => .inl z
theorem sg_then (N : List SD → List D → Prop) (h1 : SG K E t S ys { P with nx := N }) (h2 : ∀ S1 ys1, N S1 ys1 → SG K E u S1 ys1 P) : SG K E (tGThen t u) S ys P := fun De ws σ G H s r g =>
  h1 _ ws σ G H s r ⟨fun S' ys' ws' σ' G' H' p q r' st sb => h2 S' ys' p De ws' σ' G' H' q r' (g.step st sb), g.rt, g.xc, g.bk, g.ct⟩
theorem sg_then1 (S1 : List SD) (ys1 : List D) (h1 : SG K E t S ys { P with nx := fun S' ys' => S' = S1 ∧ ys' = ys1 }) (h2 : SG K E u S1 ys1 P) : SG K E (tGThen t u) S ys P := sg_then _ h1 fun _ _ e => by
  obtain ⟨rfl, rfl⟩ := e
  exact h2
theorem sg_yield (h : J K E m te S S' (DL.dd K x) nox) (hl : ys.length < sizeLine) (n : P.nx S' (ys ++ [x])) : SG K E (tGYield te) S ys P := fun De ws σ G H s r g =>
  ⟨by rw [dpa_len r]; exact hl, h σ G H s _ (fun v G1 H1 st1 s1 o1 d1 => g.nx S' _ _ σ G1 H1 n s1 (dpa_app (dpa_ex st1.g r) (.cons d1 .nil)) st1.oM (.of o1)) fun _ _ _ _ z => z.ex.elim fun _ ⟨_, _, q, _⟩ => q.elim⟩
def xinG (χ : XO) (S : List SD) (P : PostG) : Prop := ∀ C f x, χ C f x → P.xc C f x S
theorem sg_for {wi : TI} {g : TG} (h : JI K E m wi S S1 ds χ) (hx : xinG χ S P) (I : Nat → List SD → List D → Prop) (h0 : I 0 S1 ys)
    (turn : ∀ i d S2 ys2, ds[i]? = some d → I i S2 ys2 → ∃ S3, JG K g d S2 S3 vs ∧ SG K E t S3 ys2 { P with nx := I (i + 1), ct := I (i + 1), bk := P.nx }) (fin : ∀ S2 ys2, I ds.length S2 ys2 → P.nx S2 ys2) :
    SG K E (tGFor wi g t) S ys P := fun De ws σ G H s r gd =>
  h σ G H s _ (fun Jt G1 H1 Gp Y st1 s1 o1 w hG hY => by
    have g1 := gd.step st1.oM (.of o1)
    have r1 := dpa_ex st1.g r
    let Q : Nat → List V → L2.St → Hp → Prop := fun i ws' σ' H' => ∃ S2 ys2 G2, I i S2 ys2 ∧ Sl K S2 σ' G2 H' ∧ DdAll K G2 ws' ys2 ∧ Stp (own S1) G1 H1 G2 H' ∧ Sub S1 S2 H1
    refine ⟨fun i m ws' σ' H' => m = ds.length - i ∧ i ≤ ds.length ∧ Q i ws' σ' H', ⟨ds.length, rfl, Nat.zero_le _, S1, ys, G1, h0, s1, r1, .refl s1.ex, fun a z => .inl z⟩, ?_⟩
    rintro i n ws' σ' H' ⟨rfl, hi, S2, ys2, G2, hI, s2, r2, st2, b2⟩
    by_cases hlt : i < ds.length
    · refine .inr ⟨w.goes i H' hlt (hG H' (st2.g.trans s2.ex)), Q (i + 1), fun ws3 σ3 H3 q => ⟨ds.length - (i + 1), by omega, rfl, hlt, q⟩, fun v H'' y => ?_⟩
      obtain ⟨G3, d, st3, hd, q3⟩ := hY i H' v H'' G2 hlt st2.g s2.ex (w.yields i H' v H'' hlt (hG H' (st2.g.trans s2.ex)) y)
      obtain ⟨S3, hg, hb⟩ := turn i d S2 ys2 hd hI
      have st23 : Stp (own S1) G1 H1 G3 H'' := st2.trans st3 (fun _ z => z) fun _ _ _ _ _ z => z
      refine hg v σ' G3 H'' (s2.on st3) q3 _ fun σ3 s3 o3 _ => hb _ ws' σ3 G3 H'' s3 (dpa_ex st3.g r2) ?_
      have b3 : Sub S1 S3 H1 := fun a z => b2 a (o3 a z)
      have g3 := g1.step st23 b3
      exact ⟨fun S' ys' ws4 σ4 G4 H4 p q r st sb => ⟨S', ys', G4, p, q, r, st23.then st b3, Sub.then st23 b3 sb⟩, g3.rt, g3.xc, g3.nx, fun S' ys' ws4 σ4 G4 H4 p q r st sb => ⟨S', ys', G4, p, q, r, st23.then st b3, Sub.then st23 b3 sb⟩⟩
    · have e : i = ds.length := by omega
      subst e
      exact .inl ⟨w.stops H' (hG H' (st2.g.trans s2.ex)), g1.nx S2 ys2 ws' σ' G2 H' (fin S2 ys2 hI) s2 r2 st2 b2⟩) fun C dd G' H' ⟨⟨f, x, v, h1, h2, h3⟩, st⟩ =>
    gd.xc C f x dd v S σ G' H' (hx C f x h1) (s.on st) (st.imp fun _ z => z.elim) (fun _ z => .inl z) h2 h3
abbrev ResG := Except Exn (List D)
def spGD (K : PySem.W.Frag) (R : List D → ResG → Prop) : SpG := fun vs H cont E => ∃ G ds r, Ex G H ∧ DdAll K G vs ds ∧ R ds r ∧ (∀ outs, r = .ok outs → ∀ ws G' H', Stp no G H G' H' → DdAll K G' ws outs → cont ws H') ∧
  (∀ e, r = .error e → ∀ dd v G' H', Stp no G H G' H' → G' dd = some (.xd [(e.f, v)]) → Dd K G' v e.x → E (.ref (He.ga K e.c)) (some dd) H')
def PRG (r : ResG) : PostG := { nx := fun _ ys => r = .ok ys, rt := fun ys => r = .ok ys, xc := fun C f x _ => r = .error ⟨C, f, x⟩ }
theorem spGD_len {R : List D → ResG → Prop} {n : Nat} (h : ∀ ds r, R ds r → ds.length = n) {vs : List V} {H : Hp} {Q : List V → Hp → Prop} {E0 : XK} (s : spGD K R vs H Q E0) : vs.length = n := by
  obtain ⟨G, ds, r, e, hd, hf, _⟩ := s
  rw [dpa_len hd]
  exact h ds r hf
theorem spGD_use {R : List D → ResG → Prop} {N : List Str} {vs : List V} {H : Hp} {Q : List V → Hp → Prop} {E0 : XK} (h : spGD K R vs H Q E0) (st : ∀ ds r, R ds r → SG K (fun _ => E0) t (ini N ds) [] (PRG r)) :
    t { nx := fun ys _ H' => Q ys H', rt := fun ys v H' => v = .non ∧ Q ys H' } [] (L2.start N vs) H := by
  obtain ⟨G, ds, r, e, hd, hf, h1, h2⟩ := h
  have n : ∀ {G' H' : Hp}, Stp (own (ini N ds)) G H G' H' → Stp no G H G' H' := fun s => s.imp fun a z => own_ini z
  exact st ds r hf _ _ _ G H (sl_ini e hd) .nil ⟨fun S' ys ws σ' G' H' p _ r s _ => h1 ys p ws _ _ (n s) r, fun ys ws G' H' p r s => ⟨rfl, h1 ys p ws _ _ (n s) r⟩,
    fun C f x dd v S' σ' G' H' p _ s _ q1 q2 => h2 _ p dd v _ _ (n s) q1 q2, fun _ _ _ _ _ _ p => p.elim, fun _ _ _ _ _ _ p => p.elim⟩
abbrev EG (K : PySem.W.Frag) (E0 : XK) : XK := fun cls d H => PySem.W.subIn K cls (.type "StopIteration") = some false ∧ E0 cls d H
theorem jl_listG {R : List D → ResG → Prop} {E1 : XK} (h : JA K E m tas S S' (da K ds) χ) (hR : R ds (.ok outs)) : JL K E m (tListG (tCallG (spGD K R) [] E1 tas)) S S' outs χ := fun σ G H s Q k e =>
  h σ G H s _ (fun vs G1 H1 st1 s1 o1 d1 => ⟨G1, ds, .ok outs, st1.h, by rw [List.append_nil]; exact d1, hR, fun y hy ws G2 H2 st2 d2 p hp => by
    cases hy
    have s2 := s1.on st2
    have st12 : Stp (oF m S) G H G2 H2 := st1.trans st2 (fun _ z => z) fun _ _ _ _ _ z => z
    exact k p ws G2 _ (st12.trans (Stp.made s2.ex hp (o := no)) (fun _ z => z) fun _ _ _ _ _ z => z) (s2.made hp) o1 (st12.d p hp) (free_of s2.ex hp) upd_same d2, by intro _ hy; cases hy⟩) e
theorem j_listGX {R : List D → ResG → Prop} {E0 : XK} {x : Exn} (h : JA K (fun _ => E0) false tas S S' (da K ds) nox) (hR : R ds (.error x)) (hs : PySem.W.subIn K (.ref (He.ga K x.c)) (.type "StopIteration") = some false) :
    J K (fun _ => E0) m (tListG (tCallG (spGD K R) [] (EG K E0) tas)) S S' (fun _ _ _ => False) (fun C f y => x = ⟨C, f, y⟩) := fun σ G H s Q k e =>
  h σ G H s _ (fun vs G1 H1 st1 s1 o1 d1 => ⟨G1, ds, .error x, st1.h, by rw [List.append_nil]; exact d1, hR, (by intro _ hy; cases hy), fun y hy dd v G2 H2 st2 q1 q2 => by
    cases hy
    exact ⟨hs, e x.c dd G2 H2 ⟨⟨x.f, x.x, v, rfl, q1, q2⟩, st1.no_of.trans st2 (fun _ z => z) fun _ _ _ _ _ z => z⟩⟩⟩) fun _ _ _ _ z => z.ex.elim fun _ ⟨_, _, q, _⟩ => q.elim
theorem gfn_data {P : Program} {w : World} {mg : Str → Option Value} {base : Heap} {k : Nat} {f : Addr} {name qual : Str} {params : Arguments} {body : List Stmt} {scope : Scope} {dV kV doc pm cdv ct oc : Value} {an od : Option Addr}
    {osl : Array (Option Value)} {N ps : List Str} {R : List D → ResG → Prop} (lk : K.lookup f = some ⟨oc, od, .func (PySem.W.fnOf name qual params body scope dV kV doc pm an cdv ct), osl⟩) (hcd : PySem.W.codeIn K cdv qual = true) (Sc : GScope N ps scope)
    (len : ∀ ds r, R ds r → ds.length = ps.length)
    (hb : ∀ (A : Around) (outer : List Env) (s : Shared) (H : Hp) (E0 : XK) (pn : List (Addr × Obj)), Room k (A.deeper (envOfC qual scope s.heap.objs.size f cdv)) →
      ∃ t, GSs (gcxOf P w K mg base N qual scope f cdv A outer s H E0 pn) body t ∧ ∀ ds r, R ds r → SG K (fun _ => E0) t (ini N ds) [] (PRG r)) :
    GFn P w K mg base (k + 1) f (PySem.W.fnOf name qual params body scope dV kV doc pm an cdv ct) ps (spGD K R) :=
  gfn_of lk hcd Sc (fun vs H Q E h => spGD_len len h) fun A outer s H vs Q E pn hr h => by
    obtain ⟨t, h1, h2⟩ := hb A outer s H E pn hr
    exact ⟨t, h1, spGD_use h fun ds r e => h2 ds r e⟩
end
end DL
-- DO
namespace L2
open PySem PySem.Spec PyProof.Rows
section
variable {X : Cx} {CX : CXT} {k : Nat} {C f : Addr} {fd : FuncData} {ps : List Str} {sp : Sp} {E : L2.St → XK} {a b : Expr} {ta tb : TE} {pos : Pos} {op : Operator}
theorem ty_tuple {pins : List (Addr × Obj)} {σ : L2.St} {H : Hp} {s : Shared} {t : Addr} {xs : List V} (I : Inv X pins σ H s) (h : SqT X.K H t xs) : ∃ o, s.heap.get? t = some o ∧ o.cls = .type "tuple" := by
  rcases h with (h | ⟨ob, h⟩) | ⟨o, its, n, h1, h2, _⟩
  · obtain ⟨_, _, _, o, h1, h2, _⟩ := (show ObjOk X.prog X.w H s.heap t (.tup xs) from I.hok t _ h)
    exact ⟨o, h1, h2⟩
  · obtain ⟨_, _, _, _, o, h1, h2, _⟩ := (show ObjOk X.prog X.w H s.heap t (.frz ob (.tup xs)) from I.hok t _ h)
    exact ⟨o, h1, h2⟩
  · exact ⟨o, I.kIn t o h1, h2⟩
theorem looks_cls {M : Model} {h : Heap} {t : Addr} {o : Obj} {c : Value} (he : h.get? t = some o) (hc : o.cls = c) : PySem.W.Looks M h (typeOf (.ref t)) c := fun A Q E s k q => wpAny_typeOf_ref (k _ _ he) (by rw [hc]; exact q)
def tOwnCC (C : Addr) (sp : Sp) (E : L2.St → XK) (ta tb : TE) : TE := fun σ H Q => ta σ H fun x H1 => tb σ H1 fun y H2 => ∃ a dx fs b dy gs, x = .ref a ∧ y = .ref b ∧ H2 a = some (.ins C dx fs) ∧ H2 b = some (.ins C dy gs) ∧ sp [x, y] H2 Q (E σ)
theorem pe_ownCC (hs : PySem.W.findIn X.K (.ref C) (PySem.dunder op.info.2) = some (some (.ref f))) (hf : PySem.W.isFn X.K (.ref f) = true) (hc : PySem.W.selfFirst X.K C = true)
    (F : FnOk X.prog X.w X.K X.mg X.base CX k f fd ps sp) (hr : Room k X.A) (hb : Binds X.K fd ps []) (hx : ∀ σ, PassesAt CX X σ (E σ)) (h1 : PE X a ta) (h2 : PE X b tb) : PE X (.BinOp a op b pos) (tOwnCC C sp E ta tb) := by
  refine ⟨fun pins s σ H Q I h => ?_⟩
  refine wpAny_BinOp (binT h1 h2 I h fun v u s2 x y H2 I2 rx ry q => ?_)
  obtain ⟨p, dx, fs, p2, dy, gs, rfl, rfl, e1, e2, q⟩ := q
  cases (show v = Value.ref p from rx)
  cases (show u = Value.ref p2 from ry)
  obtain ⟨mA, J, _⟩ := ins_get I2.hok e1
  obtain ⟨mB, J', _⟩ := ins_get I2.hok e2
  obtain ⟨od, J, _⟩ := J.look
  obtain ⟨od', J', _⟩ := J'.look
  obtain ⟨m, hF⟩ := I2.fr
  refine PySem.W.binop_K hF I2.ok.mod.kin J J'.type hc hs hf ?_
  refine wpAny_mono (run_fnSD (us := [.ref p, .ref p2]) (vs := [.ref p, .ref p2]) (dvs := []) F hr hb .nil (hx σ) I2 (.cons rfl (.cons rfl .nil)) q) (fun w s' z => ?_) fun _ _ x => x
  obtain ⟨z', H', I', rz, qz⟩ := z
  exact SlX.cmpback rz ⟨z', H', I', rz, qz⟩
def tOwnCT (K : PySem.W.Frag) (C : Addr) (sp : Sp) (E : L2.St → XK) (ta tb : TE) : TE := fun σ H Q => ta σ H fun x H1 => tb σ H1 fun y H2 => ∃ a dx fs b ys, x = .ref a ∧ y = .ref b ∧ H2 a = some (.ins C dx fs) ∧ SqT K H2 b ys ∧ sp [x, y] H2 Q (E σ)
theorem binop_left {prog : Program} {w : World} {A : Around} {E : Value → Shared → Prop} {s : Shared} {K : PySem.W.Frag} {x C L f : Addr} {h₀ : Heap} {m : Str → Option Value} {ox : Obj} {od : Option Obj} {op : Operator} {b : Value} {T : String} {Q : Value → Shared → Prop}
    (F : Fr h₀ L s.heap m) (X₀ : K.In h₀) (I : PySem.W.InstAt s.heap x ox C od) (hb : PySem.W.Looks (model prog w) s.heap (typeOf b) (.type T)) (hc : PySem.W.selfFirst K C = true)
    (hs : PySem.W.findIn K (.ref C) (PySem.dunder op.info.2) = some (some (.ref f))) (hf : PySem.W.isFn K (.ref f) = true)
    (h1 : PySem.W.findIn K (.type T) (PySem.dunder op.info.2) = some none) (h2 : PySem.W.findIn K (.type T) (dunderR op.info.2) = some none)
    (h : wpAny (model prog w) A (call (.ref f) [.ref x, b]) (PySem.W.CmpBack Q) E s) : wpAny (model prog w) A (binaryOp op (.ref x) b) Q E s := by
  have X := X₀.keeps F.keep
  obtain ⟨cd, rest, hcd, hm⟩ := PySem.W.ksp_first hc
  have L4 : PySem.W.Looks (model prog w) s.heap (fillsNumberSlot (.type T) op.info.2) false := PySem.W.ksp_fillsT X h1 h2
  have hne : (Value.ref C == Value.type T) = false := rfl
  unfold binaryOp
  refine wpAny_holding (wpAny_bind ?_)
  unfold binaryOp1
  refine wpAny_bind (I.type.here (wpAny_bind (hb.here (wpAny_bind ((PySem.W.fills_K X hcd hm hs).here ?_)))))
  simp only [hne, Bool.false_eq_true, if_false]
  refine wpAny_bind (L4.here ?_)
  simp only [Bool.and_false, Bool.false_eq_true, if_false, Bool.false_and]
  refine wpAny_bind (wpAny_pure ?_)
  simp only [Bool.false_eq_true, if_false]
  refine wpAny_bind (m := tryMethod (.ref x) _ b) ?_
  unfold tryMethod
  refine wpAny_bind (PySem.W.special_fn X I hs (beq_iff_eq.mp hf) (wpAny_mono h (fun v s' hv => ?_) fun _ _ e => e))
  cases v <;> first | exact hv.elim | exact wpAny_pure (wpAny_pure (wpAny_pure hv))
theorem pe_ownCT (hs : PySem.W.findIn X.K (.ref C) (PySem.dunder op.info.2) = some (some (.ref f))) (hf : PySem.W.isFn X.K (.ref f) = true) (hc : PySem.W.selfFirst X.K C = true)
    (ht1 : PySem.W.findIn X.K (.type "tuple") (PySem.dunder op.info.2) = some none) (ht2 : PySem.W.findIn X.K (.type "tuple") (dunderR op.info.2) = some none)
    (F : FnOk X.prog X.w X.K X.mg X.base CX k f fd ps sp) (hr : Room k X.A) (hb : Binds X.K fd ps []) (hx : ∀ σ, PassesAt CX X σ (E σ)) (h1 : PE X a ta) (h2 : PE X b tb) : PE X (.BinOp a op b pos) (tOwnCT X.K C sp E ta tb) := by
  refine ⟨fun pins s σ H Q I h => ?_⟩
  refine wpAny_BinOp (binT h1 h2 I h fun v u s2 x y H2 I2 rx ry q => ?_)
  obtain ⟨p, dx, fs, p2, ys, rfl, rfl, e1, e2, q⟩ := q
  cases (show v = Value.ref p from rx)
  cases (show u = Value.ref p2 from ry)
  obtain ⟨mA, J, _⟩ := ins_get I2.hok e1
  obtain ⟨od, J, _⟩ := J.look
  obtain ⟨o, t1, t2⟩ := ty_tuple I2 e2
  obtain ⟨m, hF⟩ := I2.fr
  refine binop_left hF I2.ok.mod.kin J (looks_cls t1 t2) hc hs hf ht1 ht2 ?_
  refine wpAny_mono (run_fnSD (us := [.ref p, .ref p2]) (vs := [.ref p, .ref p2]) (dvs := []) F hr hb .nil (hx σ) I2 (.cons rfl (.cons rfl .nil)) q) (fun w s' z => ?_) fun _ _ x => x
  obtain ⟨z', H', I', rz, qz⟩ := z
  exact SlX.cmpback rz ⟨z', H', I', rz, qz⟩
abbrev noX : XK := fun _ _ _ => False
theorem noX_passes : Passes (L2.CX X.prog X.w) X noX := fun pins σ H s e s' I c => by
  obtain ⟨a, B, H', cls, d, rfl, fl, hok, ub, na, os, ag, hE⟩ := c
  exact hE.elim
theorem noX_nox {Y : Value → Shared → Prop} : Passes (L2.CX X.prog X.w) { X with xe := Y } noX := fun pins σ H s e s' I c => by
  obtain ⟨a, B, H', cls, d, rfl, fl, hok, ub, na, os, ag, hE⟩ := c
  exact hE.elim
def rOwnEq (K : PySem.W.Frag) (C : Addr) (sp : Sp) : R2 := fun x y H Q => ∃ a dx fs b, x = .ref a ∧ y = .ref b ∧ H a = some (.ins C dx fs) ∧ ((∃ dy gs, H b = some (.ins C dy gs)) ∨ (∃ ys, H b = some (.lst ys) ∧ PySem.W.notFirst K C (.type "list") = true)) ∧ sp [x, y] H Q noX
theorem op_ownEq (hs : PySem.W.findIn X.K (.ref C) "__eq__" = some (some (.ref f))) (hf : PySem.W.isFn X.K (.ref f) = true) (F : FnOk X.prog X.w X.K X.mg X.base (L2.CX X.prog X.w) k f fd ps sp) (hr : Room k X.A) (hb : Binds X.K fd ps []) : OpR X (compareOp .Eq) (rOwnEq X.K C sp) := by
  intro pins s σ H x y v u Q I rx ry h
  obtain ⟨p, dx, fs, p2, rfl, rfl, e1, e2, q⟩ := h
  cases (show v = Value.ref p from rx)
  cases (show u = Value.ref p2 from ry)
  obtain ⟨mA, J, _⟩ := ins_get I.hok e1
  obtain ⟨od, J, _⟩ := J.look
  obtain ⟨m, hF⟩ := I.fr
  have fin : ∀ {tb : Value}, PySem.W.Looks (model X.prog X.w) s.heap (typeOf (.ref p2)) tb → PySem.W.notFirst X.K C tb = true → wpAny (model X.prog X.w) X.A (compareOp .Eq (.ref p) (.ref p2)) (EP X pins σ Q) X.xe s := fun {tb} L hn => by
    show wpAny (model X.prog X.w) X.A (richCompare .Eq (.ref p) (.ref p2)) (EP X pins σ Q) X.xe s
    refine PySem.W.cmp_K (op := .Eq) (tb := tb) hr.units0 hF I.ok.mod.kin J L hn hs hf ?_
    refine wpAny_mono (run_fnSD (us := [.ref p, .ref p2]) (vs := [.ref p, .ref p2]) (dvs := []) (E := fun _ => noX) F hr hb .nil (fun pins H s e s' I c => noX_passes pins σ H s e s' I c) I (.cons rfl (.cons rfl .nil)) q) (fun w s' z => ?_) fun _ _ x => x
    obtain ⟨z', H', I', rz, qz⟩ := z
    exact SlX.cmpback rz ⟨z', H', I', rz, qz⟩
  rcases e2 with ⟨dy, gs, e2⟩ | ⟨ys, e2, hn⟩
  · obtain ⟨mB, J', _⟩ := ins_get I.hok e2
    obtain ⟨od', J', _⟩ := J'.look
    exact fin J'.type (by simp [PySem.W.notFirst])
  · obtain ⟨_, _, n, _, h1⟩ := (show ObjOk X.prog X.w H s.heap p2 (.lst ys) from I.hok p2 _ e2)
    exact fin (looks_cls h1 rfl) hn
def rOwnLen (C : Addr) (sp : Sp) : List V → Hp → VK → Prop := fun xs H Q => ∃ a dx fs, xs = [.ref a] ∧ H a = some (.ins C dx fs) ∧ sp xs H (fun v H' => ∃ n : Int, v = .int n ∧ 0 ≤ n ∧ n < 2 ^ 63 ∧ Q v H') noX
theorem call_ownLen (hs : PySem.W.findIn X.K (.ref C) "__len__" = some (some (.ref f))) (hf : PySem.W.isFn X.K (.ref f) = true) (F : FnOk X.prog X.w X.K X.mg X.base (L2.CX X.prog X.w) k f fd ps sp) (hr : Room (k + 1) X.A) (hb : Binds X.K fd ps []) : CallR X (.builtin "len") (rOwnLen C sp) := by
  intro pins s σ H xs us Q I rv h
  obtain ⟨p, dx, fs, rfl, e1, q⟩ := h
  obtain ⟨u, rfl, ru⟩ := rv.one
  cases (show u = Value.ref p from ru)
  obtain ⟨mA, J, _⟩ := ins_get I.hok e1
  obtain ⟨od, J, _⟩ := J.look
  obtain ⟨m, hF⟩ := I.fr
  refine PySem.W.len_K hF I.ok.mod.kin J hs hf ?_
  have hl := F.len _ _ _ _ q
  have bd := hb s [.ref p] I.kIn (by simpa using hl)
  refine wpAny_call (codeAny_mono (F.run X.A.in1 X.stack s H ⟨[.ref p], []⟩ [.ref p] [.ref p] _ noX hr.in1 I.env0.in1 (by simpa using bd) (.cons rfl .nil) q) fun r s' hq => ?_)
  cases r with
  | error er =>
    obtain ⟨a, B, H', cls, d, rfl, fl, hok, ub, na, os, ag, hE⟩ := hq
    exact hE.elim
  | ok fl =>
    cases fl with
    | ret u =>
      obtain ⟨v, H', I3, rv, n, rfl, h0, h1, q3⟩ := I.after hq
      obtain ⟨t, rfl⟩ := (show ∃ t, u = Value.int n t from rv)
      exact ⟨⟨h0, h1⟩, .int n, H', I3.tok _, ⟨_, rfl⟩, q3⟩
    | next => exact False.elim hq
    | brk => exact False.elim hq
    | cont => exact False.elim hq
end
end L2
-- DM
namespace L2
open PySem PySem.Spec PyProof.Rows
def ItT (t it : Addr) (i : Nat) : HO := .ext fun h => h.IsTupleIter it t i
def ItA (it : Addr) : HO := .ext fun h => ∃ o, h.get? it = some o
theorem itT_ok {P : Program} {w : World} {H : Hp} {h : Heap} {t it : Addr} {i : Nat} (e : h.IsTupleIter it t i) : ObjOk P w H h it (ItT t it i) := by
  obtain ⟨o, e1, e2⟩ := id e
  exact ⟨e, ⟨o, e1⟩, fun h1 h2 ⟨o, q1, q2⟩ k => ⟨o, k o q1, q2⟩⟩
theorem itA_ok {P : Program} {w : World} {H : Hp} {h : Heap} {it : Addr} (e : ∃ o, h.get? it = some o) : ObjOk P w H h it (ItA it) := ⟨e, e, fun h1 h2 ⟨o, q⟩ k => ⟨o, k o q⟩⟩
section
variable {X : Cx}
def rIterT (K : PySem.W.Frag) : List V → Hp → VK → Prop := fun xs H Q => ∃ (l : Addr) (zs : List V), xs = [.ref l] ∧ SqT K H l zs ∧ ∀ it, H it = none → Q (.ref it) (upd H it (ItT l it 0))
theorem call_iterT : CallR X (.builtin "iter") (rIterT X.K) := by
  intro pins s σ H xs us Q I r h
  obtain ⟨l, zs, rfl, hq, q⟩ := h
  obtain rfl := Vals.ref1 r
  obtain ⟨its, rv, pl, hz⟩ := I.tuple hq
  refine Calls.call_function_entry (by decide +kernel) (by decide +kernel) PySem.W.kdk_entry_iter (PySem.W.kdk_args_iter _) ?_
  unfold Builtin.«iter»
  refine wpAny_bind (m := someArgs "iter" 1 2 _) (wpAny_of_eq (a := [Value.ref l]) (by first | rfl | kernel_rfl!) ?_)
  show wpAny _ _ (pyIter (.ref l) >>= _) _ _ _
  refine wpAny_bind (wpAny_pyIter_tuple (show s.heap.IsTuple l its.toArray from pl) ?_)
  refine wpAny_pure ⟨_, rfl, ?_⟩
  exact ⟨.ref s.heap.objs.size, _, I.laid (t' := s.toks) (fun b u e => Heap.get?_push_of_some _ e) (Nat.le_refl _) (itT_ok ⟨_, Heap.get?_push_size _ rfl, rfl, rfl⟩), rfl, q _ (I.hok.fresh (Nat.le_refl _))⟩
end
section
variable {prog : Program} {w : World} {A : Around} {E : Value → Shared → Prop} {s : Shared}
theorem next_tup_end {it t : Addr} {i : Nat} {items : Array Value} {Q : Option Value → Shared → Prop} (hh : A.handled = none) (hit : s.heap.IsTupleIter it t i) (ht : s.heap.IsTuple t items) (hx : items[i]? = none)
    (hQ : ∀ h', (∀ b o, b ≠ it → s.heap.get? b = some o → h'.get? b = some o) → (∃ o, h'.get? it = some o) → Q none { s with heap := h' }) : wpAny (model prog w) A (pyNext (.ref it)) Q E s := by
  obtain ⟨o, ho, hc, hd⟩ := id hit
  obtain ⟨ol, hol, _, nl, hdl⟩ := ht
  unfold pyNext
  refine wpAny_bind (wpAny_attempt (wpAny_callSpecial?_slot (name := Str.ofString "__next__") hit.typeIs PySem.F.slot_tuple_iterator_next
    (wpAny_call_entry PySem.F.slot_tuple_iterator_next hit.typeIs PySem.F.entry_tuple_iterator_next ?_ (PySem.F.args_tuple_iterator_next_1 _))))
  show wpAny _ _ (field (.ref it) 0 >>= _) _ _ s
  refine wpAny_bind (wpAny_field ho hd (x := .ref t) rfl ?_)
  show wpAny _ _ (if (Value.ref t == Value.none) = true then _ else _) _ _ s
  rw [if_neg (show ¬ ((Value.ref t == Value.none) = true) from Bool.false_ne_true)]
  show wpAny _ _ (field (.ref it) 1 >>= _) _ _ s
  refine wpAny_bind (wpAny_field ho hd (x := .int i 0) rfl ?_)
  show wpAny _ _ (seqItems? (.ref t) >>= _) _ _ s
  refine wpAny_bind (wpAny_seqItems hol hdl ?_)
  simp only [Int.toNat_natCast, hx]
  refine wpAny_bind (wpAny_rule (wpAny_bind (wpAny_setField ho hd (by simp) ?_)))
  show wpAny _ _ (newExc (.type "StopIteration") [] >>= _) _ _ _
  refine wpAny_bind ?_
  simp only [newExc, newTuple]
  refine wpAny_bind (wpAny_newObj_type ?_ (by size_fits))
  refine wpAny_bind (m := firstArgMember _ _) (wpAny_of_eq (a := Value.none) (by first | rfl | (simp only [firstArgMember]; rfl)) ?_)
  refine wpAny_newObj_type ?_ (by size_fits)
  simp only [raiseNew]
  refine wpAny_bind (wpAny_handled ?_)
  first | rw [show A.in1.handled = none from hh] | rw [hh]
  refine wpAny_bind (wpAny_pure (wpAny_throw ?_))
  refine wpAny_bind (wpAny_isInstance (T := "StopIteration") (b := true) ⟨_, Heap.get?_push_size _ rfl, rfl⟩ isSubtype_stop ?_)
  exact wpAny_pure (hQ _ (((Heap.SameBut.update ..).extBut.push _).push _) ⟨_, Heap.get?_push_of_some _ (Heap.get?_push_of_some _ (Heap.get?_update_self _ ho (by obtain ⟨c0, d0, dt, sl⟩ := o; simp only at hd; subst hd; rfl)))⟩)
end
structure LiC (K : PySem.W.Frag) (C fi fl : Addr) : Prop where
  it : PySem.W.findIn K (.ref C) "__iter__" = some (some (.ref fi))
  itF : PySem.W.isFn K (.ref fi) = true
  ln : PySem.W.findIn K (.ref C) "__len__" = some (some (.ref fl))
  lnF : PySem.W.isFn K (.ref fl) = true
section
variable {X : Cx} {pins : List (Addr × Obj)} {σ : L2.St} {H : Hp} {s s' : Shared} {C fi fl a q it t : Addr}
theorem own_hintL {M : Model} {A : Around} {E : Value → Shared → Prop} {Q : Bool → Shared → Prop} {K : PySem.W.Frag} {ox : Obj} {od : Option Obj} (hc : LiC K C fi fl) (hK : K.In s.heap) (J : PySem.W.InstAt s.heap a ox C od)
    (h : wpAny M A (call (.builtin "len") [.ref a]) (fun v s' => ∃ (n : Int) (t : Nat), v = .int n t ∧ 0 ≤ n ∧ n ≤ sizeLine ∧ ∀ b, Q b s') (fun _ _ => False) s) :
    wpAny M A (Builtin.List.listLengthHint (.ref a)) Q E s := by
  unfold Builtin.List.listLengthHint
  refine wpAny_bind (wpAny_bind (J.type.here ((PySem.W.looks_findIn hK hc.ln).here ?_)))
  refine PySem.W.KFB.if_not rfl ?_
  refine wpAny_ite_split (fun _ => ?_) (fun z => absurd rfl z)
  refine wpAny_bind (wpAny_rule ?_)
  refine wpAny_bind (wpAny_attempt (wpAny_mono h (fun v s' hv => ?_) fun _ _ z => z.elim))
  obtain ⟨n, t, rfl, h0, h1, hq⟩ := hv
  dsimp only
  refine wpAny_bind (wpAny_of_eq (a := some n) rfl ?_)
  dsimp only
  refine PySem.W.KFB.if_not ?_ ?_
  · unfold Builtin.List.listTooLong
    exact decide_eq_false (by omega)
  · exact wpAny_pure (hq _)
def rListT (K : PySem.W.Frag) (C : Addr) (spI spL : Sp) : List V → Hp → VK → Prop := fun xs H Q => ∃ a dx fs, xs = [.ref a] ∧ H a = some (.ins C dx fs) ∧ ∀ q, H q = none →
  spI [.ref a] (upd H q (.lst [])) (fun v H1 => ∃ it t, v = .ref it ∧ H1 it = some (ItT t it 0) ∧ H1 a = some (.ins C dx fs) ∧
    spL [.ref a] H1 (fun v H2 => ∃ (n : Int) (ys : List V), v = .int n ∧ 0 ≤ n ∧ n ≤ sizeLine ∧ H2 it = some (ItT t it 0) ∧ H2 q = some (.lst []) ∧ SqT K H2 t ys ∧ ys.length ≤ sizeLine ∧ Q (.ref q) (upd (upd H2 it (ItA it)) q (.lst ys))) noX) noX
theorem sqT_upd {K : PySem.W.Frag} {H : Hp} {t p : Addr} {ys : List V} {u u' : HO} (h : SqT K H t ys) (e : H p = some u) (n1 : ∀ xs, u ≠ .tup xs) (n2 : ∀ o w, u ≠ .frz o w) : SqT K (upd H p u') t ys := by
  rcases h with (h | ⟨o, h⟩) | h
  · have c : t ≠ p := fun z => by subst z; rw [e] at h; exact n1 _ (Option.some.inj h)
    exact .inl (.inl (by rw [upd_ne c]; exact h))
  · have c : t ≠ p := fun z => by subst z; rw [e] at h; exact n2 _ _ (Option.some.inj h)
    exact .inl (.inr ⟨o, by rw [upd_ne c]; exact h⟩)
  · exact .inr h
theorem listT_loop {A1 : Around} {ys : List V} {Rs : Result → Shared → Prop} {H0 : Hp} (hh : A1.in1.handled = none) (hne : q ≠ it) (e1 : H0 it = some (ItT t it 0)) (e2 : H0 q = some (.lst [])) (e3 : SqT X.K H0 t ys) (hl : ys.length ≤ sizeLine)
    (hdone : ∀ s, Inv X pins σ (upd (upd H0 it (ItA it)) q (.lst ys)) s → Rs (.ok (.ret .none)) s) :
    ∀ (m i : Nat) (s : Shared), m + i = ys.length → Inv X pins σ (upd (upd H0 it (ItT t it i)) q (.lst (ys.take i))) s → codeAny (model X.prog X.w) A1 (.builtin "list.extend.loop" ⟨[.ref q, .ref it, .none], []⟩) Rs s := by
  intro m
  induction m with
  | zero =>
    intro i s hi I
    have hi' : i = ys.length := by omega
    subst hi'
    rw [List.take_length] at I
    have hit : (upd (upd H0 it (ItT t it ys.length)) q (.lst ys)) it = some (ItT t it ys.length) := by rw [upd_ne (Ne.symm hne), upd_same]
    have hs : SqT X.K (upd (upd H0 it (ItT t it ys.length)) q (.lst ys)) t ys := sqT_upd (sqT_upd e3 e1 (by intro _ z; unfold ItT at z; cases z) (by intro _ _ z; unfold ItT at z; cases z)) (u := .lst []) (by rw [upd_ne hne]; exact e2) (fun _ z => nomatch z) fun _ _ z => nomatch z
    obtain ⟨its, rv, pl, hz⟩ := I.tuple hs
    refine codeAny_builtin PySem.F.entry_extend_loop ?_
    rw [Around.under_plainId PySem.F.plain_extend_loop _]
    show wpAny _ A1.in1 (pyNext (.ref it) >>= _) _ _ s
    refine wpAny_bind (next_tup_end hh (I.hok it _ hit).1 (show s.heap.IsTuple t its.toArray from pl) (by rw [List.getElem?_toArray]; exact List.getElem?_eq_none (Nat.le_of_eq rv.length.symm)) fun h' k ex => ?_)
    refine wpAny_pure (hdone _ ?_)
    have I2 := I.write (x := it) (e := it) (o := ItA it) (t' := s.toks) (by rw [hit]; exact True.intro) (.inl rfl) (fun b u hb e => k b u hb e) ex (itA_ok ex)
    have e4 : upd (upd (upd H0 it (ItT t it ys.length)) q (.lst ys)) it (ItA it) = upd (upd H0 it (ItA it)) q (.lst ys) := by
      funext b
      by_cases c : b = it
      · subst c
        rw [upd_same, upd_ne (Ne.symm hne), upd_same]
      · rw [upd_ne c]
        by_cases c2 : b = q
        · subst c2
          rw [upd_same, upd_same]
        · rw [upd_ne c2, upd_ne c2, upd_ne c, upd_ne c]
    rw [e4] at I2
    exact I2
  | succ m ih =>
    intro i s hi I
    have hlt : i < ys.length := by omega
    have hit : (upd (upd H0 it (ItT t it i)) q (.lst (ys.take i))) it = some (ItT t it i) := by rw [upd_ne (Ne.symm hne), upd_same]
    have hs : SqT X.K (upd (upd H0 it (ItT t it i)) q (.lst (ys.take i))) t ys := sqT_upd (sqT_upd e3 e1 (by intro _ z; unfold ItT at z; cases z) (by intro _ _ z; unfold ItT at z; cases z)) (u := .lst []) (by rw [upd_ne hne]; exact e2) (fun _ z => nomatch z) fun _ _ z => nomatch z
    obtain ⟨its, rv, pl, hz⟩ := I.tuple hs
    obtain ⟨u, hu, ru⟩ := rv.get (show ys[i]? = some ys[i] from List.getElem?_eq_getElem hlt)
    refine codeAny_builtin PySem.F.entry_extend_loop ?_
    rw [Around.under_plainId PySem.F.plain_extend_loop _]
    show wpAny _ A1.in1 (pyNext (.ref it) >>= _) _ _ s
    refine wpAny_bind (wpAny_pyNext_tuple_item (I.hok it _ hit).1 (show s.heap.IsTuple t its.toArray from pl) (x := u) (by rw [List.getElem?_toArray]; exact hu) fun h' st sb => ?_)
    have I2 := I.write (x := it) (e := it) (o := ItT t it (i + 1)) (t' := s.toks) (by rw [hit]; exact True.intro) (.inl rfl) (fun b u hb e => (sb.2 b hb).trans e) (by obtain ⟨o, e, _⟩ := st; exact ⟨o, e⟩) (itT_ok st)
    show wpAny _ A1.in1 (updateSeq q (·.push u) >>= _) _ _ _
    have hq : (upd (upd (upd H0 it (ItT t it i)) q (.lst (ys.take i))) it (ItT t it (i + 1))) q = some (.lst (ys.take i)) := by rw [upd_ne hne, upd_same]
    obtain ⟨z, its2, k, r2, hl2, e⟩ := I2.lstM hq
    have hti : (ys.take i).length = i := by rw [List.length_take]; omega
    refine wpAny_bind (wpAny_updateSeq e rfl (wpAny_pure ⟨plainId_quiet PySem.F.plain_extend_loop _, ?_⟩) (by rw [List.size_toArray]; omega) (by show (its2.toArray.push u).size ≤ sizeLine + 1; rw [Array.size_push, List.size_toArray]; omega))
    refine ih (i + 1) _ (by omega) ?_
    have I3 := I2.lset (f := (·.push u)) (its' := its2 ++ [u]) (ys := ys.take i ++ [ys[i]]) (t' := s.toks) hq e (by simp) (r2.append (.cons ru .nil)) (by rw [List.length_append, List.length_singleton, hti]; omega)
    have e4 : upd (upd (upd (upd H0 it (ItT t it i)) q (.lst (ys.take i))) it (ItT t it (i + 1))) q (.lst (ys.take i ++ [ys[i]])) = upd (upd H0 it (ItT t it (i + 1))) q (.lst (ys.take (i + 1))) := by
      have e5 : ys.take (i + 1) = ys.take i ++ [ys[i]] := by rw [List.take_add_one, List.getElem?_eq_getElem hlt]; rfl
      rw [e5]
      funext b
      by_cases c2 : b = q
      · subst c2
        rw [upd_same, upd_same]
      · rw [upd_ne c2, upd_ne c2]
        by_cases c : b = it
        · subst c
          rw [upd_same, upd_same]
        · rw [upd_ne c, upd_ne c2, upd_ne c, upd_ne c]
    rw [e4] at I3
    exact I3
variable {fdI fdL : FuncData} {psI psL : List Str} {spI spL : Sp} {kI kL n : Nat}
theorem run_at {k : Nat} {f : Addr} {fd : FuncData} {ps : List Str} {sp : Sp} {A1 : Around} {Q : VK} (F : FnOk X.prog X.w X.K X.mg X.base (L2.CX X.prog X.w) k f fd ps sp) (hb : Binds X.K fd ps []) (hr : Room k A1) (hf : A1.frames = some X.stack) (I : Inv X pins σ H s)
    (h : sp [.ref a] H Q noX) : wpAny (model X.prog X.w) A1 (call (.ref f) [.ref a]) (EP X pins σ Q) (fun _ _ => False) s := by
  have e0 : Env0 X.prog X.w X.K X.mg X.base A1 X.stack s H := by
    have e := I.env0
    exact ⟨hf, e.mod, e.bs, e.bsz, e.funs, e.frf, e.hok, e.bare⟩
  have hl := F.len _ _ _ _ h
  have bd := hb s [.ref a] I.kIn (by simpa using hl)
  refine wpAny_call (codeAny_mono (F.run A1 X.stack s H ⟨[.ref a], []⟩ [.ref a] [.ref a] Q noX hr e0 (by simpa using bd) (.cons rfl .nil) h) fun r s' hq => ?_)
  cases r with
  | error er =>
    obtain ⟨a, B, H', cls, d, rfl, fl, hok, ub, na, os, ag, hE⟩ := hq
    exact hE.elim
  | ok fl =>
    cases fl with
    | ret u => exact I.after hq
    | next => exact False.elim hq
    | brk => exact False.elim hq
    | cont => exact False.elim hq
theorem special_tupiter {M : Model} {A : Around} {E : Value → Shared → Prop} {Q : Option Value → Shared → Prop} {i : Nat} (h : s.heap.IsTupleIter it t i) (hq : ∀ v, Q (some v) s) : wpAny M A (specialOf (.ref it) "__next__") Q E s :=
  wpAny_specialOf h.typeIs PySem.F.slot_tuple_iterator_next.lookup (hq _)
theorem extend_T {Rs : Result → Shared → Prop} {Qf : Hp → Prop} (hd0 : ∀ H' s, Qf H' → Inv X pins σ H' s → Rs (.ok (.ret .none)) s) {dx : Addr} {fs : List (Str × V)} {A1 : Around} (hcl : LiC X.K C fi fl) (FI : FnOk X.prog X.w X.K X.mg X.base (L2.CX X.prog X.w) kI fi fdI psI spI) (bI : Binds X.K fdI psI [])
    (FL : FnOk X.prog X.w X.K X.mg X.base (L2.CX X.prog X.w) kL fl fdL psL spL) (bL : Binds X.K fdL psL []) (hr : Room kI A1.in1) (hr2 : Room (kL + 1) A1.in1) (hf : A1.in1.frames = some X.stack) (I : Inv X pins σ H s) (ha : H a = some (.ins C dx fs)) (hq : H q = some (.lst []))
    (h : spI [.ref a] H (fun v H1 => ∃ it t, v = .ref it ∧ H1 it = some (ItT t it 0) ∧ H1 a = some (.ins C dx fs) ∧
      spL [.ref a] H1 (fun v H2 => ∃ (n : Int) (ys : List V), v = .int n ∧ 0 ≤ n ∧ n ≤ sizeLine ∧ H2 it = some (ItT t it 0) ∧ H2 q = some (.lst []) ∧ SqT X.K H2 t ys ∧ ys.length ≤ sizeLine ∧ Qf (upd (upd H2 it (ItA it)) q (.lst ys))) noX) noX) :
    wpAny (model X.prog X.w) A1.in1 (Builtin.List.listExtendWith (.ref q) (.ref a) .none)
      (fun fin s' => match fin with | .done f => Rs (.ok f) s' | .again c' => c'.quiet = true ∧ codeAny (model X.prog X.w) A1 c' Rs s') (fun e s' => Rs (.error e) s') s := by
  have hne : q ≠ a := ne_of hq ha (fun z => nomatch z)
  obtain ⟨mA, J, _⟩ := ins_get I.hok ha
  obtain ⟨od, J, _⟩ := J.look
  obtain ⟨m0, hF⟩ := I.fr
  unfold Builtin.List.listExtendWith
  refine wpAny_bind (J.type.here ?_)
  have h1 : Builtin.List.listSameRef (.ref q) (.ref a) = false := by simp [Builtin.List.listSameRef, hne]
  have h2 : (Value.ref C == Value.type "list") = false := rfl
  have h3 : (Value.ref C == Value.type "tuple") = false := rfl
  simp only [h1, h2, h3, Bool.or_false, Bool.false_eq_true, if_false]
  refine wpAny_bind (PySem.W.owit_iter hF I.ok.mod.kin J hcl.it hcl.itF ?_)
  refine wpAny_mono (run_at FI bI hr hf I h) (fun u s1 hu => ?_) fun _ _ z => z.elim
  obtain ⟨v, H1, I1, rv, it, t, ev, eit, ea, hL⟩ := hu
  subst ev
  cases rv
  unfold PySem.W.OwitIt
  refine special_tupiter (I1.hok it _ eit).1 fun _ => ?_
  obtain ⟨mA', J', _⟩ := ins_get I1.hok ea
  obtain ⟨od', J', _⟩ := J'.look
  obtain ⟨m1, hF1⟩ := I1.fr
  refine wpAny_bind (wpAny_holding (own_hintL hcl I1.kIn J' ?_))
  refine PySem.W.len_K hF1 I1.ok.mod.kin J' hcl.ln hcl.lnF ?_
  refine wpAny_mono (run_at FL bL hr2.in1 hf I1 hL) (fun u s2 hu => ?_) fun _ _ z => z
  obtain ⟨v, H2, I2, rv, n, ys, rfl, n0, n1, eit2, eq2, et2, hl, hdone⟩ := hu
  obtain ⟨tk, rfl⟩ := (show ∃ t, u = Value.int n t from rv)
  refine ⟨⟨n0, by rw [sizeLine_eq] at n1; omega⟩, n, _, rfl, n0, n1, fun b => ?_⟩
  have I2' := I2.tok (s2.toks + 1)
  have hqi : q ≠ it := ne_of eq2 eit2 (fun z => nomatch z)
  have e4 : upd (upd H2 it (ItT t it 0)) q (.lst (ys.take 0)) = H2 := by
    funext b
    by_cases c : b = q
    · subst c
      rw [upd_same, eq2]
      rfl
    · rw [upd_ne c]
      by_cases c2 : b = it
      · subst c2
        rw [upd_same, eit2]
      · rw [upd_ne c2]
  have loop : ∀ s, Inv X pins σ H2 s → codeAny (model X.prog X.w) A1 (.builtin "list.extend.loop" ⟨[.ref q, .ref it, .none], []⟩) Rs s := fun s I =>
    listT_loop hr.hd hqi eit2 eq2 et2 hl (fun s I => hd0 _ s hdone I) ys.length 0 s rfl (by rw [e4]; exact I)
  obtain ⟨z, its, k, r3, hl3, e3⟩ := I2'.lstM eq2
  cases r3
  refine wpAny_ite_split (fun _ => ?_) (fun _ => wpAny_pure ⟨plainId_quiet PySem.F.plain_extend_loop _, loop _ I2'⟩)
  refine wpAny_bind (wpAny_rule ?_)
  refine wpAny_bind ?_
  show wpAny _ _ (updateSeq q (·.push .none) >>= fun _ => updateSeq q (·.pop)) _ _ _
  refine wpAny_bind (wpAny_updateSeq e3 rfl ?_)
  have I3 := I2'.lset (f := (·.push Value.none)) (its' := [Value.none]) (ys := [.non]) (t' := s2.toks + 1) eq2 e3 (by simp) (.cons rfl .nil) (by rw [List.length_singleton, sizeLine_eq]; decide)
  obtain ⟨z4, its4, k4, r4, hl4, e5⟩ := I3.lstM upd_same
  obtain ⟨u4, rfl, ru4⟩ := r4.one
  refine wpAny_updateSeq e5 rfl ?_ (by show 1 ≤ sizeLine; rw [sizeLine_eq]; decide) (by show 0 ≤ sizeLine + 1; exact Nat.zero_le _)
  refine wpAny_pure ⟨plainId_quiet PySem.F.plain_extend_loop _, loop _ ?_⟩
  have I4 := I3.lset (f := (·.pop)) (its := [u4]) (its' := []) (ys := []) (t' := s2.toks + 1) upd_same e5 (by rfl) .nil (Nat.zero_le _)
  rw [upd_upd] at I4
  have hH : upd H2 q (.lst []) = H2 := by
    funext b
    by_cases hb : b = q
    · rw [hb, upd_same, eq2]
    · rw [upd_ne hb]
  rw [hH] at I4
  exact I4
theorem call_listT (hcl : LiC X.K C fi fl) (FI : FnOk X.prog X.w X.K X.mg X.base (L2.CX X.prog X.w) kI fi fdI psI spI) (bI : Binds X.K fdI psI []) (FL : FnOk X.prog X.w X.K X.mg X.base (L2.CX X.prog X.w) kL fl fdL psL spL) (bL : Binds X.K fdL psL [])
    (hr : Room (kI + 2) X.A) (hr2 : Room (kL + 3) X.A) : CallR X (.type "list") (rListT X.K C spI spL) := by
  intro pins s σ H xs us Q I rv h
  obtain ⟨a, dx, fs, rfl, ha, hq⟩ := h
  obtain ⟨u, rfl, ru⟩ := rv.one
  cases ru
  refine callType_codes (Q₁ := fun obj s₁ => obj = .ref s.heap.objs.size ∧ s₁ = { s with heap := s.heap.push { cls := .type "list", data := .seq #[] } }) PySem.F.called_list (PySem.F.typeCall_list_1 _) PySem.F.entry_list_init
    (code_list_new _ ⟨rfl, rfl⟩) fun obj s₁ h₁ => ?_
  obtain ⟨rfl, rfl⟩ := h₁
  have hS : (s.heap.push { cls := .type "list", data := .seq #[] }).get? s.heap.objs.size = some { cls := .type "list", data := .seq #[] } := Heap.get?_push_size _ rfl
  refine ⟨⟨_, hS, rfl⟩, PySem.F.args_list_init_2 _ _, ?_⟩
  have fr : H s.heap.objs.size = none := I.hok.fresh (Nat.le_refl _)
  have hrun := hq _ fr
  have I1 : Inv X pins σ (upd H s.heap.objs.size (.lst [])) { s with heap := s.heap.push { cls := .type "list", data := .seq #[] } } := I.lnew (its := []) (t' := s.toks) .nil (Nat.zero_le _)
  show wpAny _ _ (do let old ← Builtin.List.listItems (.ref s.heap.objs.size); Builtin.List.listUpdate (.ref s.heap.objs.size) (fun _ => #[]); letGo old.toList.reverse; Builtin.List.listExtendWith (.ref s.heap.objs.size) (.ref a) .none) _ _ _
  refine wpAny_bind ?_
  unfold Builtin.List.listItems
  refine wpAny_bind (wpAny_seqItems hS rfl (wpAny_pure ?_))
  show wpAny _ _ (updateSeq s.heap.objs.size (fun _ => #[]) >>= fun _ => letGo (#[] : Array Value).toList.reverse >>= fun _ => Builtin.List.listExtendWith (.ref s.heap.objs.size) (.ref a) .none) _ _ _
  refine wpAny_bind (wpAny_updateSeq hS rfl ?_)
  have I2 := I1.lset (f := fun _ => #[]) (its := []) (its' := []) (ys := []) (t' := s.toks) upd_same hS rfl .nil (Nat.zero_le _)
  rw [upd_upd] at I2
  refine wpAny_bind (wpAny_letGo ?_)
  have ha2 : upd H s.heap.objs.size (.lst []) a = some (.ins C dx fs) := by rw [upd_ne (ne_of_none ha fr)]; exact ha
  exact extend_T (A1 := X.A.in1) (Qf := Q (.ref s.heap.objs.size)) (Rs := wants (fun r s₂ => r = .none ∧ EP X pins σ Q (.ref s.heap.objs.size) s₂) X.xe) (fun H' s' q I' => ⟨rfl, .ref s.heap.objs.size, H', I', rfl, q⟩) hcl FI bI FL bL hr.in1.in1 hr2.in1.in1 I2.ok.frames I2 ha2 upd_same hrun
end
end L2
-- DP
namespace L2
section
variable {X : Cx}
open PySem
theorem ps_no {st : Stmt} : PS X st (fun _ _ _ => False) := ⟨fun _ _ _ _ _ _ h => h.elim⟩
theorem pi_either {tg it : Expr} {a b : TI} (h1 : PI X tg it a) (h2 : PI X tg it b) : PI X tg it (fun σ H R => a σ H R ∨ b σ H R) := ⟨fun pins s σ H R I h => h.elim (h1.run pins s σ H R I) (h2.run pins s σ H R I)⟩
theorem pe_either {e : Expr} {a b : TE} (h1 : PE X e a) (h2 : PE X e b) : PE X e (fun σ H R => a σ H R ∨ b σ H R) := ⟨fun pins s σ H R I h => h.elim (h1.run pins s σ H R I) (h2.run pins s σ H R I)⟩
theorem ps_either {st : Stmt} {a b : TS} (h1 : PS X st a) (h2 : PS X st b) : PS X st (fun De σ H => a De σ H ∨ b De σ H) := ⟨fun pins s σ H R I h => h.elim (h1.run pins s σ H R I) (h2.run pins s σ H R I)⟩
theorem pg_either {tg : Expr} {a b : TG} (h1 : PG X tg a) (h2 : PG X tg b) : PG X tg (fun v σ H Q => a v σ H Q ∨ b v σ H Q) := ⟨fun pins s σ H v u Q I r h => h.elim (h1.run pins s σ H v u Q I r) (h2.run pins s σ H v u Q I r)⟩
end
end L2
namespace DL
open PySem PySem.Spec PyProof.Rows L2
section
variable {K : PySem.W.Frag} {E : L2.St → XK} {m : Bool} {te ta tb : TE} {tas : TA} {S S' S1 S2 : List SD} {φ ψ : V → Hp → Hp → Prop} {χ : XO} {x y z : D} {xs ys zs ds : List D} {t u : TS} {tt : TT} {b : Bool} {i j : Nat} {P : Post} {a : Addr} {C f : Str} {ns ns' : List Str} {c c' c0 : Ct}
theorem j_inl {t1 t2 : TE} (h : J K E m t1 S S' φ χ) : J K E m (fun σ H R => t1 σ H R ∨ t2 σ H R) S S' φ χ := fun σ G H s Q k e => .inl (h σ G H s Q k e)
theorem j_inr {t1 t2 : TE} (h : J K E m t2 S S' φ χ) : J K E m (fun σ H R => t1 σ H R ∨ t2 σ H R) S S' φ χ := fun σ G H s Q k e => .inr (h σ G H s Q k e)
theorem ji_inl {t1 t2 : TI} (h : JI K E m t1 S S' ds χ) : JI K E m (fun σ H R => t1 σ H R ∨ t2 σ H R) S S' ds χ := fun σ G H s Q k e => .inl (h σ G H s Q k e)
theorem ji_inr {t1 t2 : TI} (h : JI K E m t2 S S' ds χ) : JI K E m (fun σ H R => t1 σ H R ∨ t2 σ H R) S S' ds χ := fun σ G H s Q k e => .inr (h σ G H s Q k e)
theorem st_inl {t1 t2 : TS} (h : ST K E t1 S P) : ST K E (fun De σ H => t1 De σ H ∨ t2 De σ H) S P := fun De σ G H s g => .inl (h De σ G H s g)
theorem st_inr {t1 t2 : TS} (h : ST K E t2 S P) : ST K E (fun De σ H => t1 De σ H ∨ t2 De σ H) S P := fun De σ G H s g => .inr (h De σ G H s g)
theorem jg_inl {g1 g2 : TG} {vs : List Nat} (h : JG K g1 x S S' vs) : JG K (fun v σ H Q => g1 v σ H Q ∨ g2 v σ H Q) x S S' vs := fun v σ G H s q Q k => .inl (h v σ G H s q Q k)
theorem jg_inr {g1 g2 : TG} {vs : List Nat} (h : JG K g2 x S S' vs) : JG K (fun v σ H Q => g1 v σ H Q ∨ g2 v σ H Q) x S S' vs := fun v σ G H s q Q k => .inr (h v σ G H s q Q k)
theorem j_neg {n : Int} (h : J K E m te S S' (DL.td K (.int n)) χ) : J K E m (tUn (rU fun i => V.int (-i)) te) S S' (DL.dd K (.int (-n))) χ := fun σ G H s Q k e =>
  h σ G H s _ (fun v G1 H1 st1 s1 o1 d1 => ⟨n, dp_int d1, k _ G1 H1 st1 s1 o1 (.int _)⟩) e
theorem j_ownCC {R : List D → Res → Prop} {E1 : L2.St → XK} (ha : J K E m ta S S1 (DL.dd K (ob C ns xs)) χ) (hb : J K E m tb S1 S2 (DL.dd K (ob C ns' ys)) nox) (hR : R [ob C ns xs, ob C ns' ys] (.ok z)) : J K E m (tOwnCC (He.ga K C) (spD K R) E1 ta tb) S S2 (DL.dd K z) χ := fun σ G H s Q k e =>
  ha σ G H s _ (fun v G1 H1 st1 s1 o1 d1 => hb σ G1 H1 s1 _ (fun w G2 H2 st2 s2 o2 d2 => by
    obtain ⟨a, dx, vs, rfl, q1, q2, q3⟩ := dp_obj (dp_ex st2.g d1)
    obtain ⟨b, dy, ws, rfl, r1, r2, r3⟩ := dp_obj d2
    exact ⟨a, dx, _, b, dy, _, rfl, rfl, st2.h _ _ q1, st2.h _ _ r1, G2, _, .ok z, st2.h, .cons (dp_ex st2.g d1) (.cons d2 .nil), hR, fun y hy w G3 H3 st3 d3 => by
      cases hy
      exact k w G3 H3 ((st1.tr st2 o1).trans st3 (fun _ z => z) fun _ _ _ _ _ z => z) (s2.on st3) (fun a z => o1 a (o2 a z)) d3, by intro _ hy; cases hy⟩) fun _ _ _ _ z => z.ex.elim fun _ ⟨_, _, q, _⟩ => q.elim) e
theorem j_ownCCX {R : List D → Res → Prop} {x : Exn} (ha : J K E false ta S S1 (DL.dd K (ob C ns xs)) nox) (hb : J K E false tb S1 S2 (DL.dd K (ob C ns' ys)) nox) (hR : R [ob C ns xs, ob C ns' ys] (.error x)) :
    J K E m (tOwnCC (He.ga K C) (spD K R) E ta tb) S S2 (fun _ _ _ => False) (fun C f y => x = ⟨C, f, y⟩) := fun σ G H s Q k e =>
  ha σ G H s _ (fun v G1 H1 st1 s1 o1 d1 => hb σ G1 H1 s1 _ (fun w G2 H2 st2 s2 o2 d2 => by
    obtain ⟨a, dx, vs, rfl, q1, q2, q3⟩ := dp_obj (dp_ex st2.g d1)
    obtain ⟨b, dy, ws, rfl, r1, r2, r3⟩ := dp_obj d2
    exact ⟨a, dx, _, b, dy, _, rfl, rfl, st2.h _ _ q1, st2.h _ _ r1, G2, _, .error x, st2.h, .cons (dp_ex st2.g d1) (.cons d2 .nil), hR, (by intro _ hy; cases hy), fun y hy dd w G3 H3 st3 q1 q2 => by
      cases hy
      exact e x.c dd G3 H3 ⟨⟨x.f, x.x, w, rfl, q1, q2⟩, ((st1.tr st2 o1).no_of).trans st3 (fun _ z => z) fun _ _ _ _ _ z => z⟩⟩) fun _ _ _ _ z => z.ex.elim fun _ ⟨_, _, q, _⟩ => q.elim) fun _ _ _ _ z => z.ex.elim fun _ ⟨_, _, q, _⟩ => q.elim
theorem j_ownCT {R : List D → Res → Prop} {E1 : L2.St → XK} (ha : J K E m ta S S1 (DL.dd K (ob C ns xs)) χ) (hb : J K E m tb S1 S2 (DL.dd K (.tuple ys)) nox) (hR : R [ob C ns xs, .tuple ys] (.ok z)) : J K E m (tOwnCT K (He.ga K C) (spD K R) E1 ta tb) S S2 (DL.dd K z) χ := fun σ G H s Q k e =>
  ha σ G H s _ (fun v G1 H1 st1 s1 o1 d1 => hb σ G1 H1 s1 _ (fun w G2 H2 st2 s2 o2 d2 => by
    obtain ⟨a, dx, vs, rfl, q1, q2, q3⟩ := dp_obj (dp_ex st2.g d1)
    obtain ⟨b, ws, rfl, r1, r2⟩ := dp_tup d2
    exact ⟨a, dx, _, b, _, rfl, rfl, st2.h _ _ q1, Evl.ex_t st2.h r1, G2, _, .ok z, st2.h, .cons (dp_ex st2.g d1) (.cons d2 .nil), hR, fun y hy w G3 H3 st3 d3 => by
      cases hy
      exact k w G3 H3 ((st1.tr st2 o1).trans st3 (fun _ z => z) fun _ _ _ _ _ z => z) (s2.on st3) (fun a z => o1 a (o2 a z)) d3, by intro _ hy; cases hy⟩) fun _ _ _ _ z => z.ex.elim fun _ ⟨_, _, q, _⟩ => q.elim) e
theorem j_ownEq {R : List D → Res → Prop} (ha : J K E m ta S S1 (DL.dd K (ob C ns xs)) χ) (hb : J K E m tb S1 S2 (DL.dd K (ob C ns' ys)) nox) (hR : R [ob C ns xs, ob C ns' ys] (.ok z)) : J K E m (tOp (rOwnEq K (He.ga K C) (spD K R)) ta tb) S S2 (DL.dd K z) χ :=
  two_op ha hb fun v w G1 H1 G2 H2 st e1 e2 d1 d2 Q k => by
    obtain ⟨a, dx, vs, rfl, q1, q2, q3⟩ := dp_obj (dp_ex st.g d1)
    obtain ⟨b, dy, ws, rfl, r1, r2, r3⟩ := dp_obj d2
    exact ⟨a, dx, _, b, rfl, rfl, e2 _ _ q1, .inl ⟨dy, _, e2 _ _ r1⟩, G2, _, .ok z, e2, .cons (dp_ex st.g d1) (.cons d2 .nil), hR, fun y hy w G3 H3 st3 d3 => by
      cases hy
      exact k w G3 H3 st3 d3, by intro _ hy; cases hy⟩
theorem j_ownEqL {R : List D → Res → Prop} (ha : J K E m ta S S1 (DL.dd K (ob C ns xs)) χ) (hb : J K E m tb S1 S2 (DL.dd K (.list ys)) nox) (hn : PySem.W.notFirst K (He.ga K C) (.type "list") = true) (hR : R [ob C ns xs, .list ys] (.ok z)) : J K E m (tOp (rOwnEq K (He.ga K C) (spD K R)) ta tb) S S2 (DL.dd K z) χ :=
  two_op ha hb fun v w G1 H1 G2 H2 st e1 e2 d1 d2 Q k => by
    obtain ⟨a, dx, vs, rfl, q1, q2, q3⟩ := dp_obj (dp_ex st.g d1)
    obtain ⟨b, ws, rfl, r1, r2⟩ := dp_lst d2
    exact ⟨a, dx, _, b, rfl, rfl, e2 _ _ q1, .inr ⟨_, e2 _ _ r1, hn⟩, G2, _, .ok z, e2, .cons (dp_ex st.g d1) (.cons d2 .nil), hR, fun y hy w G3 H3 st3 d3 => by
      cases hy
      exact k w G3 H3 st3 d3, by intro _ hy; cases hy⟩
theorem j_ownLen {R : List D → Res → Prop} {n : Int} (h : J K E m te S S' (DL.dd K (ob C ns xs)) χ) (hR : R [ob C ns xs] (.ok (.int n))) (h0 : 0 ≤ n) (h1 : n < 2 ^ 63) : J K E m (tCB (rOwnLen (He.ga K C) (spD K R)) (tCons te tNil)) S S' (DL.dd K (.int n)) χ := fun σ G H s Q k e =>
  h σ G H s _ (fun v G1 H1 st1 s1 o1 d1 => by
    obtain ⟨a, dx, vs, rfl, q1, q2, q3⟩ := dp_obj d1
    exact ⟨a, dx, _, rfl, st1.h _ _ q1, G1, _, .ok (.int n), st1.h, .cons d1 .nil, hR, fun y hy w G3 H3 st3 d3 => by
      cases hy
      obtain rfl := dp_int d3
      exact ⟨n, rfl, h0, h1, k _ G3 H3 (st1.trans st3 (fun _ z => z) fun _ _ _ _ _ z => z) (s1.on st3) o1 (.int n)⟩, by intro _ hy; cases hy⟩) e
def spIt (K : PySem.W.Frag) (C : Addr) (f : Str) : Sp := fun vs H Q _ => ∃ a dx fs t ys, vs = [.ref a] ∧ H a = some (.ins C dx fs) ∧ fs.lookup f = some (.ref t) ∧ SqT K H t ys ∧ ∀ it, H it = none → Q (.ref it) (upd H it (ItT t it 0))
theorem jl_ownList {R : List D → Res → Prop} {n : Int} (h : J K E m te S S' (DL.dd K (ob C ns xs)) χ) (hx : (ns.zip xs).lookup f = some (.tuple ys)) (hR : R [ob C ns xs] (.ok (.int n))) (h0 : 0 ≤ n) (h1 : n ≤ sizeLine) (hl : ys.length ≤ sizeLine) :
    JL K E m (tCB (rListT K (He.ga K C) (spIt K (He.ga K C) f) (spD K R)) (tCons te tNil)) S S' ys χ := fun σ G H s Q k e =>
  h σ G H s _ (fun v G1 H1 st1 s1 o1 d1 => by
    obtain ⟨a, dx, vs, rfl, q1, q2, q3⟩ := dp_obj d1
    obtain ⟨w, r1, r2⟩ := fld_get q3 hx
    obtain ⟨t, ws, rfl, t1, t2⟩ := dp_tup r2
    refine ⟨a, dx, _, rfl, st1.h _ _ q1, fun q hq => ?_⟩
    have gq := free_of s1.ex hq
    have st2 : Stp no G1 H1 G1 (upd H1 q (.lst [])) := .made s1.ex hq
    refine ⟨a, dx, _, t, ws, rfl, st2.h _ _ q1, r1, Evl.ex_t st2.h t1, fun it hit => ?_⟩
    have git := free_of st2.h hit
    have hqi : it ≠ q := fun z => by subst z; rw [upd_same] at hit; cases hit
    have hit1 : H1 it = none := by rw [upd_ne hqi] at hit; exact hit
    have st3 : Stp no G1 (upd H1 q (.lst [])) G1 (upd (upd H1 q (.lst [])) it (ItT t it 0)) := .made st2.h hit
    refine ⟨it, t, rfl, upd_same, st3.h _ _ q1, G1, _, .ok (.int n), st3.h, .cons d1 .nil, hR, fun y hy w G3 H3 st4 d3 => ?_, by intro _ hy; cases hy⟩
    cases hy
    obtain rfl := dp_int d3
    obtain ⟨k1, k2⟩ := st4.k it _ git upd_same id
    obtain ⟨k3, k4⟩ := st4.k q _ gq (by rw [upd_ne (Ne.symm hqi), upd_same]) id
    refine ⟨n, ws, rfl, h0, h1, k2, k4, Evl.ex_t st4.h (Evl.ex_t st4.g t1), by rw [dpa_len t2]; exact hl, ?_⟩
    have st5 : Stp no G1 H1 G3 (upd (upd H3 it (ItA it)) q (.lst ws)) := ⟨st4.g, fun b z e => by
      have n1 : b ≠ it := fun w => by rw [w, k1] at e; cases e
      have n2 : b ≠ q := fun w => by rw [w, k3] at e; cases e
      rw [upd_ne n2, upd_ne n1]
      exact st4.h b z e, fun b z e1 e2 _ => by
      have n2 : b ≠ q := fun w => by rw [w, hq] at e2; cases e2
      have n1 : b ≠ it := fun w => by rw [w, hit1] at e2; cases e2
      rw [upd_ne n2, upd_ne n1]
      exact st4.k b z e1 (by rw [upd_ne n1, upd_ne n2]; exact e2) id, fun b e => dom_upd (dom_upd (st4.d b (dom_upd (dom_upd e))))⟩
    exact k q ws G3 _ (st1.trans st5 (fun _ z => z) fun _ _ _ _ _ z => z) (s1.on st5) o1 (st1.d q hq) k3 upd_same (dpa_ex st4.g t2)) e
theorem ok_iter {P : Program} {w : World} {mg : Str → Option Value} {base : Heap} {qual f : Str} {st : Stmt} {fa C : Addr} {fd : FuncData} {p1 p2 p3 p4 p5 : Pos} (F : Fun K "__iter__" qual st fa fd) (cl : Cls K C) (na : NoAttr K C f)
    (Sc : FnScope ["self"] ["self"] (defScope st)) (hb : defBody st = [.Return (some (.Call (.Name "iter" p1) [.Attribute (.Name "self" p2) f p3] [] p4)) p5]) (h0 : (defScope st).names.lookup ("self" : Str) = some .local)
    (hgl : ∀ X : Cx, X.env.scope = defScope st → Gl X "iter") (hmg : mg "iter" = none) : FnOk P w K mg base (L2.CX P w) 1 fa fd ["self"] (spIt K C f) := by
  refine F.okX Sc (fun vs H Q E h => ?_) (fun cdv A outer s H vs Q E hr h => ?_)
  · obtain ⟨a, dx, fs, t, ys, rfl, _⟩ := h
    rfl
  · obtain ⟨a, dx, fs, t, ys, rfl, ha, hf, ht, k⟩ := h
    rw [hb]
    refine ⟨_, pss_one (ps_ret (pe_callB call_iterT (hgl _ rfl) hmg (by decide +kernel) (pa_cons (pe_fld (pe_var (i := 0) rfl (.inl h0)) rfl) pa_nil))), ?_⟩
    exact ⟨.ref a, rfl, a, C, dx, fs, .ref t, rfl, ha, cl, na, hf, t, ys, rfl, ht, k⟩
theorem j_xf {d : Addr} (h0 : S[i]? = some (.p (exP K a d f x))) : J K E m (tXf a (.ref (He.ga K C)) (some d) (He.ga K C) f (tVar i)) S S (DL.dd K x) χ := fun σ G H s Q k e => by
  obtain ⟨ov, e0, mo, v, rfl, rfl, w, q1, q2⟩ := s.ok i _ h0
  exact ⟨.ref a, e0, rfl, rfl, d, _, w, rfl, s.ex _ _ q1, by simp [List.lookup], k w G H (.refl s.ex) s (fun _ z => z) q2⟩
theorem j_isX {d : Addr} {cv : V} {u : Value} (h0 : S[i]? = some (.p (exP K a d f x))) (hc : ClsV cv u) (hk : PySem.W.kitOne K (.ref (He.ga K C)) u = some b) :
    J K E m (tCB (fun xs H Q => ∃ dd, Value.ref (He.ga K C) = .ref (He.ga K C) ∧ some d = some dd ∧ rIsX K (He.ga K C) a dd xs H Q) (tCons (tVar i) (tCons (tC cv) tNil))) S S (DL.dd K (.bool b)) χ := fun σ G H s Q k e => by
  obtain ⟨ov, e0, mo, v, rfl, rfl, w, q1, q2⟩ := s.ok i _ h0
  exact ⟨.ref a, e0, d, rfl, rfl, cv, u, b, _, rfl, fun w r => hc.eq r, s.ex _ _ q1, hk, k _ G H (.refl s.ex) s (fun _ z => z) (.bl b)⟩
end
end DL
-- DB
namespace DL
open PySem PySem.Spec PyProof.Rows L2
section
variable (P : Program) (w : World) (K : PySem.W.Frag) (mg : Str → Option Value) (base : Heap)
def FO (nm : Str) (k : Nat) (ps : List Str) (sp : Sp) : Prop := mg nm = some (.ref (He.ga K nm)) ∧ PySem.W.keepIn K (.ref (He.ga K nm)) = true ∧ ∃ fd, FnOk P w K mg base (L2.CX P w) k (He.ga K nm) fd ps sp ∧ Binds K fd ps []
def GO (nm : Str) (k : Nat) (ps : List Str) (sp : SpG) : Prop := mg nm = some (.ref (He.ga K nm)) ∧ PySem.W.keepIn K (.ref (He.ga K nm)) = true ∧ ∃ fd, GFn P w K mg base k (He.ga K nm) fd ps sp ∧ Binds K fd ps []
def MO (C m : Str) (k : Nat) (ps : List Str) (sp : Sp) : Prop := Cls K (He.ga K C) ∧ ∃ f fd, Meth K (He.ga K C) m f ∧ FnOk P w K mg base (L2.CX P w) k f fd ps sp ∧ Binds K fd ps []
def PO (C m : Str) (k : Nat) (sp : Sp) : Prop := Cls K (He.ga K C) ∧ ∃ p f fd, PropOf K (He.ga K C) m p f ∧ FnOk P w K mg base (L2.CX P w) k f fd ["self"] sp ∧ Binds K fd ["self"] []
def CO (C : Str) (k : Nat) (ps : List Str) (sp : Sp) : Prop := mg C = some (.ref (He.ga K C)) ∧ ∃ f fd, Mk K (He.ga K C) f ∧ FnOk P w K mg base (L2.CX P w) k f fd ps sp ∧ Binds K fd ps []
def EO (C pn f : Str) : Prop := mg C = some (.ref (He.ga K C)) ∧ OexC K (He.ga K C) ∧ ∃ fI fd, PySem.W.findIn K (.ref (He.ga K C)) "__init__" = some (some (.ref fI)) ∧ PySem.W.typeIn K (.ref fI) = some (.type "function") ∧ FnOk P w K mg base CX0 1 fI fd ["self", pn] (spXI (He.ga K C) f) ∧ Binds K fd ["self", pn] []
def SO (C m : Str) (k : Nat) (ps : List Str) (sp : Sp) : Prop := PySem.W.selfFirst K (He.ga K C) = true ∧ ∃ f fd, PySem.W.findIn K (.ref (He.ga K C)) m = some (some (.ref f)) ∧ PySem.W.isFn K (.ref f) = true ∧ FnOk P w K mg base (L2.CX P w) k f fd ps sp ∧ Binds K fd ps []
end
section
variable {X : Cx} {W : WX} {k : Nat} {nm C m f pn : Str} {ps : List Str} {sp : Sp} {e o a b : Expr} {es : List Expr} {t tas : TA} {te ta tb : TE} {p pos apos pos' : Pos} {op : Operator}
theorem pe_fo (F : FO X.prog X.w X.K X.mg X.base nm k ps sp) (hr : Room k X.A) (hg : Gl X nm) (tk : Takes X W) (ha : PA X (e :: es) t) (hdb : (nm == ("__debug__" : Str)) = false := by decide)
    (he : starEach (e :: es) X.env = (false, eval e X.env) :: starEach es X.env := by rfl) (hpl : (backTo pos (starEach es X.env)).any (·.1) = false := by rfl) : PE X (.Call (.Name nm p) (e :: es) [] pos) (tCallSD sp [] (WE W) t) := by
  obtain ⟨h1, h2, fd, h3, h4⟩ := F
  exact pe_callSD h3 hr hg h1 h2 h4 .nil (fun σ => passAt tk σ) ha hdb he hpl
theorem pe_mo {pl : Sem Bool} (he : PE X o ta) (M : MO X.prog X.w X.K X.mg X.base C m k ps sp) (hr : Room k X.A) (tk : Takes X W) (ha : PA X (e :: es) t)
    (hst : starEach (e :: es) X.env = (false, eval e X.env) :: starEach es X.env := by rfl) (hpl : (backTo pos (starEach es X.env)).any (·.1) = false := by rfl)
    (ht : eval (.Call (.Attribute o m apos) (e :: es) [] pos) X.env = (do
      let ov ← eval o X.env
      standAt apos.atName
      let (f, first) ← holding [ov] (getMethod ov m pl)
      callWith pos f first (backTo pos (starEach (e :: es) X.env)) (backToKw pos (keywordEach [] X.env))) := by rfl) : PE X (.Call (.Attribute o m apos) (e :: es) [] pos) (tMethSD (He.ga X.K C) m sp [] (WE W) ta t) := by
  obtain ⟨h1, f, fd, h2, h3, h4⟩ := M
  exact pe_methSD he h1 h2 h3 hr h4 .nil (fun σ => passAt tk σ) ha hst hpl ht
theorem pe_mo0 {pl : Sem Bool} (he : PE X o ta) (M : MO X.prog X.w X.K X.mg X.base C m k ps sp) (hr : Room k X.A) (tk : Takes X W)
    (ht : eval (.Call (.Attribute o m apos) [] [] pos) X.env = (do
      let ov ← eval o X.env
      standAt apos.atName
      let (f, first) ← holding [ov] (getMethod ov m pl)
      callWith pos f first (backTo pos (starEach [] X.env)) (backToKw pos (keywordEach [] X.env))) := by rfl) : PE X (.Call (.Attribute o m apos) [] [] pos) (tMethSD (He.ga X.K C) m sp [] (WE W) ta tNil) := by
  obtain ⟨h1, f, fd, h2, h3, h4⟩ := M
  exact pe_methSD0 he h1 h2 h3 hr h4 .nil (fun σ => passAt tk σ) ht
theorem pe_po (he : PE X e ta) (M : PO X.prog X.w X.K X.mg X.base C m k sp) (hr : Room (k + 1) X.A) (hab : attributeBase e m X.env (eval e X.env) = eval e X.env := by rfl) : PE X (.Attribute e m pos) (tProp (He.ga X.K C) sp [] noX ta) := by
  obtain ⟨h1, p, f, fd, h2, h3, h4⟩ := M
  exact pe_prop he h1 h2 h3 hr h4 .nil noX_nox hab
theorem pe_co (M : CO X.prog X.w X.K X.mg X.base C k ps sp) (hr : Room (k + 1) X.A) (hg : Gl X C) (tk : Takes X W) (ha : PA X (e :: es) t) (hdb : (C == ("__debug__" : Str)) = false := by decide)
    (he : starEach (e :: es) X.env = (false, eval e X.env) :: starEach es X.env := by rfl) (hpl : (backTo pos (starEach es X.env)).any (·.1) = false := by rfl) : PE X (.Call (.Name C p) (e :: es) [] pos) (tMakeSD (He.ga X.K C) sp [] (WE W) t) := by
  obtain ⟨h1, f, fd, h2, h3, h4⟩ := M
  exact pe_makeSD h2 h3 hr hg h1 h4 .nil (fun σ => passAt tk σ) ha hdb he hpl
theorem ps_eo (M : EO X.prog X.w X.K X.mg X.base C pn f) (hc : X.calm = true) (hr : Room 2 X.A) (hg : Gl X C) (tk : Takes X W) (ha : PA X (e :: es) tas) (hdb : (C == ("__debug__" : Str)) = false := by decide)
    (he : starEach (e :: es) X.env = (false, eval e X.env) :: starEach es X.env := by rfl) (hpl : (backTo pos (starEach es X.env)).any (·.1) = false := by rfl) :
    PS X (.Raise (some (.Call (.Name C p) (e :: es) [] pos)) none pos') (fun _ σ H => tMkO (He.ga X.K C) (spXI (He.ga X.K C) f) [] tas σ H fun cls d H' => W cls d σ H') := by
  obtain ⟨h1, h2, fI, fd, h3, h4, h5, h6⟩ := M
  exact ps_raise hc tk (pmk_oex h2 h3 h4 h5 hr h6 .nil pass0 hg h1 ha hdb he hpl)
theorem pe_so (M : SO X.prog X.w X.K X.mg X.base C (PySem.dunder op.info.2) k ps sp) (hr : Room k X.A) (tk : Takes X W) (h1 : PE X a ta) (h2 : PE X b tb) : PE X (.BinOp a op b pos) (tOwnCC (He.ga X.K C) sp (WE W) ta tb) := by
  obtain ⟨h3, f, fd, h4, h5, h6, h7⟩ := M
  exact pe_ownCC h4 h5 h3 h6 hr h7 (fun σ => passAt tk σ) h1 h2
theorem pe_soT (M : SO X.prog X.w X.K X.mg X.base C (PySem.dunder op.info.2) k ps sp) (ht1 : PySem.W.findIn X.K (.type "tuple") (PySem.dunder op.info.2) = some none) (ht2 : PySem.W.findIn X.K (.type "tuple") (dunderR op.info.2) = some none) (hr : Room k X.A) (tk : Takes X W) (h1 : PE X a ta) (h2 : PE X b tb) :
    PE X (.BinOp a op b pos) (tOwnCT X.K (He.ga X.K C) sp (WE W) ta tb) := by
  obtain ⟨h3, f, fd, h4, h5, h6, h7⟩ := M
  exact pe_ownCT h4 h5 h3 ht1 ht2 h6 hr h7 (fun σ => passAt tk σ) h1 h2
theorem op_soEq (M : SO X.prog X.w X.K X.mg X.base C "__eq__" k ps sp) (hr : Room k X.A) : OpR X (compareOp .Eq) (rOwnEq X.K (He.ga X.K C) sp) := by
  obtain ⟨h3, f, fd, h4, h5, h6, h7⟩ := M
  exact op_ownEq h4 h5 h6 hr h7
theorem call_soLen (M : SO X.prog X.w X.K X.mg X.base C "__len__" k ps sp) (hr : Room (k + 1) X.A) : CallR X (.builtin "len") (rOwnLen (He.ga X.K C) sp) := by
  obtain ⟨h3, f, fd, h4, h5, h6, h7⟩ := M
  exact call_ownLen h4 h5 h6 hr h7
theorem call_soList {spI : Sp} {psI : List Str} {kI : Nat} (MI : SO X.prog X.w X.K X.mg X.base C "__iter__" kI psI spI) (M : SO X.prog X.w X.K X.mg X.base C "__len__" k ps sp) (hr : Room (kI + 2) X.A) (hr2 : Room (k + 3) X.A) : CallR X (.type "list") (rListT X.K (He.ga X.K C) spI sp) := by
  obtain ⟨_, fI, fdI, i4, i5, i6, i7⟩ := MI
  obtain ⟨_, f, fd, h4, h5, h6, h7⟩ := M
  exact call_listT ⟨i4, i5, h4, h5⟩ i6 i7 h6 h7 hr hr2
theorem passEG {E0 : XK} (tk : Takes X (fun cls d _ H => E0 cls d H)) : Passes (L2.CX X.prog X.w) X (EG X.K E0) := fun pins σ H s e s' I c => tk e s' (XE.of_call I (fun _ _ _ h => h.2) c)
theorem pe_go {sp : SpG} {E0 : XK} (F : GO X.prog X.w X.K X.mg X.base nm k ps sp) (hr : Room (k + 3) X.A) (hg : Gl X nm) (hgl : Gl X "list") (hml : X.mg "list" = none) (tk : Takes X (fun cls d _ H => E0 cls d H)) (ha : PA X (e :: es) t) (hdb : (nm == ("__debug__" : Str)) = false := by decide)
    (he : starEach (e :: es) X.env = (false, eval e X.env) :: starEach es X.env := by rfl) (hpl : (backTo pos (starEach es X.env)).any (·.1) = false := by rfl)
    (he2 : starEach [.Call (.Name nm p) (e :: es) [] pos] X.env = (false, eval (.Call (.Name nm p) (e :: es) [] pos) X.env) :: starEach [] X.env := by rfl) :
    PE X (.Call (.Name "list" apos) [.Call (.Name nm p) (e :: es) [] pos] [] pos') (tListG (tCallG sp [] (EG X.K E0) t)) := by
  obtain ⟨h1, h2, fd, h3, h4⟩ := F
  exact pe_listG (pgen_call h3 (hr.mono (by omega)) hg h1 h2 h4 .nil ha hdb he hpl) (passEG tk) (fun _ _ _ h => h.1) hr hgl hml (by decide +kernel) (by decide) (by decide) he2
end
end DL
-- DF2
namespace DL
open PySem PySem.Spec PyProof.Rows L2
theorem tkN {X : Cx} : Takes X (fun _ _ _ _ => False) := fun e s' x => by
  obtain ⟨a, B, sI, pins, σ, H, cls, d, _, _, _, _, _, _, _, _, w⟩ := x
  exact w.elim
abbrev BindH (x qual : Str) (st : Stmt) (ps : List Str) : Prop := ∀ (kV doc pm : Value) (an : Option Addr) (cdv ct : Value) (us : List Value), us.length = ps.length → bindArgs (PySem.W.fnOf x qual (defArgs st) (defBody st) (defScope st) .none kV doc pm an cdv ct) ⟨us, []⟩ = pure (ps.zip us)
theorem binds_of {K : PySem.W.Frag} {x qual : Str} {st : Stmt} {f : Addr} {fd : FuncData} {ps : List Str} (F : L2.Fun K x qual st f fd) (h : BindH x qual st ps) : Binds K fd ps [] := by
  obtain ⟨oc, od, kV, doc, pm, an, cdv, ct, osl, rfl, lk, hcd⟩ := F.ex
  exact .all (h kV doc pm an cdv ct)
section
variable {P : Program} {w : World} {K : PySem.W.Frag} {mg : Str → Option Value} {base : Heap} {nm qual C : Str} {st : Stmt} {f : Addr} {fd : FuncData} {N ps : List Str} {k : Nat} {R : List D → Res → Prop} {RM : Ct → List D → Res → Ct → Prop}
abbrev BodyH (P : Program) (w : World) (K : PySem.W.Frag) (mg : Str → Option Value) (base : Heap) (N : List Str) (qual : Str) (st : Stmt) (f : Addr) (k : Nat) (R : List D → Res → Prop) : Prop :=
  ∀ (cdv : Value) (A : Around) (outer : List Env) (s : Shared) (H : Hp) (E0 : XK), Room k (A.deeper (envOfC qual (defScope st) s.heap.objs.size f cdv)) →
      Takes (cxOf (L2.CX P w) P w K mg base N qual (defScope st) f cdv A outer s H E0) (fun cls d _ H => E0 cls d H) →
      ∃ t, PSs (cxOf (L2.CX P w) P w K mg base N qual (defScope st) f cdv A outer s H E0) (defBody st) t ∧ ∀ ds r, R ds r → ST K (fun _ => E0) t (ini N ds) (PR K r)
abbrev BodyM (P : Program) (w : World) (K : PySem.W.Frag) (mg : Str → Option Value) (base : Heap) (N : List Str) (qual : Str) (st : Stmt) (f : Addr) (k : Nat) (R : Ct → List D → Res → Ct → Prop) : Prop :=
  ∀ (cdv : Value) (A : Around) (outer : List Env) (s : Shared) (H : Hp) (E0 : XK), Room k (A.deeper (envOfC qual (defScope st) s.heap.objs.size f cdv)) →
      Takes (cxOf (L2.CX P w) P w K mg base N qual (defScope st) f cdv A outer s H E0) (fun cls d _ H => E0 cls d H) →
      ∃ t, PSs (cxOf (L2.CX P w) P w K mg base N qual (defScope st) f cdv A outer s H E0) (defBody st) t ∧ ∀ a c ds r c', R c ds r c' → ST K (fun _ => E0) t (iniM N a c ds) (PM K a r c')
theorem fo_make (F : L2.Fun K nm qual st (He.ga K nm) fd) (hG : mg nm = some (.ref (He.ga K nm))) (hb : BindH nm qual st ps) (Sc : FnScope N ps (defScope st)) (len : ∀ ds r, R ds r → ds.length = ps.length)
    (body : BodyH P w K mg base N qual st (He.ga K nm) k R) : FO P w K mg base nm (k + 1) ps (spD K R) := ⟨hG, F.kp, fd, fn_data F Sc len body, binds_of F hb⟩
theorem fo_makeM (F : L2.Fun K nm qual st (He.ga K nm) fd) (hG : mg nm = some (.ref (He.ga K nm))) (hb : BindH nm qual st ps) (Sc : FnScope N ps (defScope st)) (len : ∀ c ds r c', RM c ds r c' → ds.length + 1 = ps.length)
    (body : BodyM P w K mg base N qual st (He.ga K nm) k RM) : FO P w K mg base nm (k + 1) ps (spM K RM) := ⟨hG, F.kp, fd, fn_dataM F Sc len body, binds_of F hb⟩
theorem mo_make (F : L2.Fun K nm qual st f fd) (hC : Cls K (He.ga K C)) (hM : Meth K (He.ga K C) nm f) (hb : BindH nm qual st ps) (Sc : FnScope N ps (defScope st)) (len : ∀ ds r, R ds r → ds.length = ps.length)
    (body : BodyH P w K mg base N qual st f k R) : MO P w K mg base C nm (k + 1) ps (spD K R) := ⟨hC, f, fd, hM, fn_data F Sc len body, binds_of F hb⟩
theorem po_make {p : Addr} (F : L2.Fun K nm qual st f fd) (hC : Cls K (He.ga K C)) (hM : PropOf K (He.ga K C) nm p f) (hb : BindH nm qual st ["self"]) (Sc : FnScope N ["self"] (defScope st)) (len : ∀ ds r, R ds r → ds.length = 1)
    (body : BodyH P w K mg base N qual st f k R) : PO P w K mg base C nm (k + 1) (spD K R) := ⟨hC, p, f, fd, hM, fn_data F Sc len body, binds_of F hb⟩
theorem co_make (F : L2.Fun K nm qual st f fd) (hG : mg C = some (.ref (He.ga K C))) (hM : Mk K (He.ga K C) f) (hb : BindH nm qual st ps) (Sc : FnScope N ps (defScope st)) (len : ∀ c ds r c', RM c ds r c' → ds.length + 1 = ps.length)
    (body : BodyM P w K mg base N qual st f k RM) : CO P w K mg base C (k + 1) ps (spM K RM) := ⟨hG, f, fd, hM, fn_dataM F Sc len body, binds_of F hb⟩
theorem so_make (F : L2.Fun K nm qual st f fd) (hS : PySem.W.selfFirst K (He.ga K C) = true) (h1 : PySem.W.findIn K (.ref (He.ga K C)) nm = some (some (.ref f))) (h2 : PySem.W.isFn K (.ref f) = true) (hb : BindH nm qual st ps) (Sc : FnScope N ps (defScope st))
    (len : ∀ ds r, R ds r → ds.length = ps.length) (body : BodyH P w K mg base N qual st f k R) : SO P w K mg base C nm (k + 1) ps (spD K R) := ⟨hS, f, fd, h1, h2, fn_data F Sc len body, binds_of F hb⟩
end
end DL
-- DH
namespace DL
open PySem PySem.Spec PyProof.Rows L2
section
variable {K : PySem.W.Frag} {E : L2.St → XK} {m : Bool} {te ta tb : TE} {tas : TA} {S S' S1 S2 : List SD} {φ ψ : V → Hp → Hp → Prop} {χ : XO} {x y z : D} {xs ys zs ds : List D} {t u v : TS} {tt : TT} {b : Bool} {i j : Nat} {P : Post} {a : Addr} {C f : Str} {ns ns' : List Str} {c c' c0 : Ct}
theorem s_ret (h : J K E false te S S' (DL.dd K x) nox) (n : ∀ v G H, Dd K G v x → P.rt v G H S') : ST K E (tRet te) S P := st_ret h (fun v G' H' d => n v G' H' d) xin_no
theorem s_retm (h : J K E true te S S' (DL.dd K x) nox) (n : ∀ v G H, Dd K G v x → P.rt v G H S') : ST K E (tRet te) S P := st_ret h (fun v G' H' d => n v G' H' d) xin_no
theorem PR_ok {r : Res} {G H : Hp} {w : V} {S' : List SD} (h : Dd K G w x) (e : r = .ok x) : (PR K r).rt w G H S' := ⟨x, e, h⟩
theorem s_retP' {r : Res} (h : J K E false te S S' (DL.dd K x) nox) (e : r = .ok x) : ST K E (tRet te) S (PR K r) := s_ret h fun v G H d => ⟨x, e, d⟩
theorem s_retP {r : Res} (h : J K E false te S S (DL.dd K x) nox) (e : r = .ok x) : ST K E (tRet te) S (PR K r) := s_ret h fun v G H d => ⟨x, e, d⟩
theorem s_set (S1 : List SD) (h : J K E false te S S' (DL.dd K x) nox) (e : S'.set i (.d x) = S1) (k : ST K E u S1 P) : ST K E (tSeq (tAsg te (gName i)) u) S P := st_seq1 S1 (st_set h e xin_no) k
theorem s_setm (S1 : List SD) (h : J K E true te S S' (DL.dd K x) nox) (e : S'.set i (.d x) = S1) (k : ST K E u S1 P) : ST K E (tSeq (tAsg te (gName i)) u) S P := st_seq1 S1 (st_set h e xin_no) k
theorem s_setL (h : JL K E false te S S' ds nox) (k : ∀ a, ST K E u (S'.set i (.l a (.lst ds))) P) : ST K E (tSeq (tAsg te (gName i)) u) S P :=
  st_seq (fun S1 => ∃ a, S1 = S'.set i (.l a (.lst ds))) (st_setL h (fun a => ⟨a, rfl⟩) xin_no) fun S1 ⟨a, e⟩ => by subst e; exact k a
theorem s_setLm (h : JL K E true te S S' ds nox) (k : ∀ a, ST K E u (S'.set i (.l a (.lst ds))) P) : ST K E (tSeq (tAsg te (gName i)) u) S P :=
  st_seq (fun S1 => ∃ a, S1 = S'.set i (.l a (.lst ds))) (st_setL h (fun a => ⟨a, rfl⟩) xin_no) fun S1 ⟨a, e⟩ => by subst e; exact k a
theorem s_setX {g : TG} (h : J K E false te S S' (fun _ _ _ => False) χ) (hx : xin χ S P) : ST K E (tSeq (tAsg te g) u) S P := st_seq (fun _ => False) (st_asgX h hx) fun _ z => z.elim
theorem s_dropX (h : J K E false te S S' (fun _ _ _ => False) χ) (hx : xin χ S P) : ST K E (tSeq (tDrop te) u) S P := st_seq (fun _ => False) (st_dropX h hx) fun _ z => z.elim
theorem s_drop (h : J K E false te S S' φ nox) (k : ST K E u S' P) : ST K E (tSeq (tDrop te) u) S P := st_seq1 S' (st_drop h rfl xin_no) k
theorem s_guard (h : JT K E false tt S S' b nox) (h1 : b = true → ST K E t S' { P with nx := fun _ => False }) (h2 : b = false → ST K E u S' P) : ST K E (tSeq (tIfS tt t tNext) u) S P :=
  st_seq (fun S1 => S1 = S' ∧ b = false) (st_if h (fun e => (h1 e).imp (fun _ z => z.elim) (fun _ _ _ _ z => z) (fun _ _ _ _ z => z) (fun _ z => z) fun _ z => z) (fun e => st_next ⟨rfl, e⟩) xin_no) fun S1 ⟨e, e2⟩ => by subst e; exact h2 e2
theorem s_if (h : JT K E false tt S S' b nox) (h1 : b = true → ST K E t S' P) (h2 : b = false → ST K E u S' P) : ST K E (tIfS tt t u) S P := st_if h h1 h2 xin_no
theorem s_ifm (h : JT K E true tt S S' b nox) (h1 : b = true → ST K E t S' P) (h2 : b = false → ST K E u S' P) : ST K E (tIfS tt t u) S P := st_if h h1 h2 xin_no
theorem s_ifS (N : List SD → Prop) (h : JT K E false tt S S' b nox) (h1 : b = true → ST K E t S' { P with nx := N }) (h2 : b = false → ST K E v S' { P with nx := N }) (k : ∀ S1, N S1 → ST K E u S1 P) : ST K E (tSeq (tIfS tt t v) u) S P :=
  st_seq N (st_if h h1 h2 xin_no) k
theorem s_ifS1 (S1 : List SD) (h : JT K E false tt S S' b nox) (h1 : b = true → ST K E t S' { P with nx := fun S2 => S2 = S1 }) (h2 : b = false → ST K E v S' { P with nx := fun S2 => S2 = S1 }) (k : ST K E u S1 P) : ST K E (tSeq (tIfS tt t v) u) S P :=
  st_seq1 S1 (st_if h h1 h2 xin_no) k
theorem s_for {wi : TI} {g : TG} (h : JI K E false wi S S1 ds nox) (vs : List Nat) (I : Nat → List SD → Prop) (h0 : I 0 S1)
    (turn : ∀ i d S2, ds[i]? = some d → I i S2 → ∃ S3, JG K g d S2 S3 vs ∧ ST K E t S3 { P with nx := I (i + 1), ct := I (i + 1), bk := fun _ => False }) (k : ∀ S2, I ds.length S2 → ST K E u S2 P) : ST K E (tSeq (tFor wi g t) u) S P :=
  st_seq (I ds.length) (st_for h xin_no vs I h0 (fun i d S2 q1 q2 => by
    obtain ⟨S3, h1, h2⟩ := turn i d S2 q1 q2
    exact ⟨S3, h1, h2.imp (fun _ z => z) (fun _ _ _ _ z => z) (fun _ _ _ _ z => z) (fun _ z => z.elim) fun _ z => z⟩) fun _ z => z) k
theorem s_tgt {g : TG} {vs : List Nat} (S2 : List SD) (h : J K E false te S S1 (DL.dd K x) nox) (hg : JG K g x S1 S2 vs) (k : ST K E u S2 P) : ST K E (tSeq (tAsg te g) u) S P := st_seq1 S2 (st_tgt h hg rfl xin_no) k
theorem s_raise {E0 : XK} {C f : Str} (h : JA K (fun _ => E0) false tas S S (da K [x]) nox) (hp : P.xc C f x S) :
    ST K (fun _ => E0) (fun _ σ H => tMkO (He.ga K C) (spXI (He.ga K C) f) [] tas σ H fun cls d H' => E0 cls d H') S P := st_raise (W := fun cls d _ H => E0 cls d H) h hp
end
end DL
-- DT
namespace L2
open PySem PySem.Spec PyProof.Rows
open AutoSeq1 (wpAny_loadPart')
theorem meets_enumerate_newT (l : Addr) (items : Array Value) (n : Nat) (dct : Option Addr) (sl : Array (Option Value)) :
    Meets (Builtin.«enumerate.__new__» ⟨[.type "enumerate", .ref l], []⟩) (fun _ R s => s.heap.get? l = some { cls := .type "tuple", dict := dct, data := .seq items n, slots := sl } ∧
      R (.ok (.ret (.ref (s.heap.push { cls := .type "tuple_iterator", data := .fields #[.ref l, .int 0 0] }).objs.size)))
        { s with heap := (s.heap.push { cls := .type "tuple_iterator", data := .fields #[.ref l, .int 0 0] }).push { cls := .type "enumerate", data := .fields #[.none, .bool false, .ref s.heap.objs.size, rawInt 0, .none, .none] } }) :=
  .of_wp fun prog w A R s h => by
    obtain ⟨hp, g, d, tk, os⟩ := s; obtain ⟨hl, h⟩ := h
    have hsub := sub_enumerate
    have hL : Heap.IsTuple (Shared.heap ⟨hp, g, d, tk, os⟩) l items := ⟨_, hl, rfl, n, rfl⟩
    wp_walk using wpAny_loadPart' hl
    refine wpAny_stack_any fun st => wpAny_pure ?_
    split
    · rename_i c _ _ _ _ _
      cases (c == Value.type "enumerate")
      · wp_walk using wpAny_loadPart' hl, wpAny_pyIter_tuple hL
        exact ⟨_, rfl, h⟩
      · wp_walk using wpAny_loadPart' hl, wpAny_pyIter_tuple hL
        exact ⟨_, rfl, h⟩
    · wp_walk using wpAny_loadPart' hl, wpAny_pyIter_tuple hL
      exact ⟨_, rfl, h⟩
section
variable {prog : Program} {w : World} {A : Around} {E : Value → Shared → Prop} {s : Shared}
theorem call_enumerate_tuple {l : Addr} {items : Array Value} {Q : Value → Shared → Prop} (hL : s.heap.IsTuple l items)
    (h : ∀ h', IsEnum h' (s.heap.objs.size + 1) s.heap.objs.size 0 .none → h'.IsTupleIter s.heap.objs.size l 0 → h'.objs.size = s.heap.objs.size + 2 →
      (∀ b o, s.heap.get? b = some o → h'.get? b = some o) → Q (.ref (s.heap.objs.size + 1)) { s with heap := h' }) :
    wpAny (model prog w) A (call (.type "enumerate") [.ref l]) Q E s := by
  obtain ⟨⟨c, dct, dt, sl⟩, hl, hc, n, hd⟩ := hL
  replace hc : c = .type "tuple" := hc
  replace hd : dt = .seq items n := hd
  subst hc hd
  refine callType_new PySem.F.called_enumerate (by decide) (PySem.F.typeCall_enumerate_1 _) (PySem.F.newCall_enumerate_1 _) (fun obj => PySem.F.args_object_init_2 obj _) PySem.F.entry_enumerate_new
    (meets_enumerate_newT l items n dct sl) ⟨hl, ?_⟩
  have hz : (s.heap.push { cls := .type "tuple_iterator", data := .fields #[.ref l, .int 0 0] }).objs.size = s.heap.objs.size + 1 := Heap.size_push ..
  show _ ∧ _
  rw [hz]
  have he : IsEnum ((s.heap.push { cls := .type "tuple_iterator", data := .fields #[.ref l, .int 0 0] }).push
      { cls := .type "enumerate", data := .fields #[.none, .bool false, .ref s.heap.objs.size, rawInt 0, .none, .none] }) (s.heap.objs.size + 1) s.heap.objs.size 0 .none := by
    have := Heap.get?_push_size (s.heap.push { cls := .type "tuple_iterator", data := .fields #[.ref l, .int 0 0] })
      (o := { cls := .type "enumerate", data := .fields #[.none, .bool false, .ref s.heap.objs.size, rawInt 0, .none, .none] }) rfl
    rw [hz] at this; exact this
  refine ⟨⟨_, he, rfl⟩, h _ he ⟨_, Heap.get?_push_of_some _ (Heap.get?_push_size _ rfl), rfl, rfl⟩ (by rw [Heap.size_push, hz]) fun b o x => Heap.get?_push_of_some _ (Heap.get?_push_of_some _ x)⟩
end
def IteT (K : PySem.W.Frag) (a : Addr) : It :=
  ⟨fun i H => ∃ (xs : List V) (x : V), SqT K H a xs ∧ xs[i]? = some x, fun i H v H' => ∃ T x, v = .ref T ∧ H T = none ∧ H' = upd H T (.tup [.int (i : Nat), x]) ∧ ∀ xs, SqT K H a xs → xs[i]? = some x, fun i H => ∃ xs : List V, SqT K H a xs ∧ xs.length = i⟩
theorem turn_enumT {P : Program} {w : World} {K : PySem.W.Frag} {elts : List Expr} {kk : Nat} {tpos : Pos} (a e it : Addr) :
    Turn P w K (.Tuple elts kk tpos) (IteT K a) [e, it] e (fun i h => (∃ old, IsEnum h e it ((i : Nat) : Int) old) ∧ h.IsTupleIter it a i ∧ e ≠ it ∧ a ≠ e ∧ a ≠ it) where
  mem := by simp
  obj := fun i h st b hb => by
    obtain ⟨⟨old, he⟩, ⟨o, ho, hc, hd⟩, _⟩ := st
    have e' : b = e ∨ b = it := by simpa using hb
    rcases e' with z | z
    · rw [z]; exact ⟨_, he, fun v q => nomatch q⟩
    · rw [z]; exact ⟨o, ho, fun v q => by rw [hd] at q; cases q⟩
  keep := fun i h h' st k => let ⟨⟨old, he⟩, ⟨o, ho, r⟩, hne⟩ := st; ⟨⟨old, k e (by simp) _ he⟩, ⟨o, k it (by simp) o ho, r⟩, hne⟩
  item := by
    intro X hP hw hK hc i pins s σ H E I hf st hg
    subst hP hw hK
    obtain ⟨⟨old, he⟩, hit, hne, hae, hai⟩ := st
    obtain ⟨xs, x, hq, hx⟩ := hg
    obtain ⟨its, rv, p, hz⟩ := I.tuple hq
    obtain ⟨u, hu, ru⟩ := rv.get hx
    have hel : e < s.heap.objs.size := Heap.lt_size he
    have hil : it < s.heap.objs.size := by obtain ⟨_, q, _⟩ := hit; exact Heap.lt_size q
    have hlt : i < its.toArray.size := by
      have := (List.getElem?_eq_some_iff.mp hu).1
      simpa using this
    refine wpAny_pyNext_enum_itemD (Draws.tuple (prog := X.prog) (w := X.w) (A := X.A.in1) (I.ok.hd hc) it a hai its.toArray) he ⟨hit, p⟩ hlt hne (by simp [hne, Ne.symm hae]) fun v h' tk hPx ho hst hT hsz hk => ?_
    have ev : v = u := by
      have h1 : its.toArray[i]? = some v := hPx
      rw [List.getElem?_toArray, hu] at h1
      exact (Option.some.inj h1).symm
    subst ev
    obtain ⟨hit', _⟩ := hst
    refine ⟨_, rfl, wpAny_letOwnedTupleGo_enum (s := { s with heap := h', toks := tk + 1 }) ho fun h'' he' sb => ?_⟩
    have hT2 : h''.get? s.heap.objs.size = some { cls := .type "tuple", data := .seq #[.int i tk, v] } := (sb.2 _ (Nat.ne_of_gt hel)).trans hT
    have new : ObjOk X.prog X.w (upd H s.heap.objs.size (.tup [.int (i : Nat), x])) h'' s.heap.objs.size (.tup [.int (i : Nat), x]) :=
      ⟨by show 2 ≤ sizeLine; decide, [.int i tk, v], .cons ⟨_, rfl⟩ (.cons ru .nil), ⟨_, hT2, rfl, _, rfl⟩⟩
    have I1 : Inv X pins σ (upd H s.heap.objs.size (.tup [.int (i : Nat), x])) { s with heap := h'', toks := tk + 1 } :=
      I.turnedNew (ch := [e, it]) (fun b ob hb q => (sb.2 b (fun z => hb (by simp [z]))).trans (hk b ob (fun z => hb (by simp [z])) (fun z => hb (by simp [z])) q)) hf (Nat.le_refl _) new
    refine ⟨.ref s.heap.objs.size, _, I1, rfl, ⟨_, x, rfl, I.hok.fresh (Nat.le_refl _), rfl, fun ys hy => by rw [I.tuple_inj hy hq]; exact hx⟩, ⟨⟨v, ?_⟩, ?_, hne, hae, hai⟩, fun b hb => ?_⟩
    · have e1 : ((i + 1 : Nat) : Int) = (i : Int) + 1 := by omega
      rw [e1]; exact he'
    · obtain ⟨o, q1, q2⟩ := hit'
      exact ⟨o, (sb.2 it (Ne.symm hne)).trans q1, q2⟩
    · have hb' : b < s.heap.objs.size := by
        have e' : b = e ∨ b = it := by simpa using hb
        rcases e' with z | z
        · rw [z]; exact hel
        · rw [z]; exact hil
      rw [upd_ne (Nat.ne_of_lt hb')]
      exact (hf b hb).1
  done := by
    intro X hP hw hK hc i pins s σ H E I hf st hg
    subst hP hw hK
    obtain ⟨⟨old, he⟩, hit, hne, hae, hai⟩ := st
    obtain ⟨xs, hq, hx⟩ := hg
    obtain ⟨its, rv, p, hz⟩ := I.tuple hq
    obtain ⟨f0, f1, f2, f3, f4, f5⟩ := hf it (by simp)
    have hl := rv.length
    have D := Draws.tuple (prog := X.prog) (w := X.w) (A := X.A.in1) (I.ok.hd hc) it a hai its.toArray
    refine wpAny_pyNext_enum_endD (n := its.toArray.size) D he ?_ fun h' eb => ⟨rfl, I.turned (t' := s.toks) (fun b o hb q => eb b o hb q) f0 f1 f3 f4 f5⟩
    refine ⟨?_, p⟩
    have e1 : its.toArray.size = i := by rw [List.size_toArray, ← hl]; exact hx
    rw [e1]
    exact hit
  self := fun A i s Q E st h => let ⟨⟨_, he⟩, _⟩ := st; wpAny_pyIter_enum he h
def iEnumT (K : PySem.W.Frag) (ta : TA) : TI := fun σ H R => ta σ H fun vs H1 => ∃ a xs, vs = [.ref a] ∧ SqT K H1 a xs ∧ R (IteT K a) H1
theorem pi_enumT {X : Cx} {e : Expr} {ta : TA} {p pos tpos : Pos} {elts : List Expr} {kk : Nat} (hg : Gl X "enumerate") (hm : X.mg "enumerate" = none) (ha : PA X [e] ta) (hs : starEach [e] X.env = [(false, eval e X.env)] := by rfl) :
    PI X (.Tuple elts kk tpos) (.Call (.Name "enumerate" p) [e] [] pos) (iEnumT X.K ta) := by
  refine ⟨fun pins s σ H R I h => ?_⟩
  refine Call_ (ld_blt I hg hm boot_enumerate (PyProof.Rows.callWith_type1 (thn (ha.run pos pins s σ H _ I h) fun us s1 ⟨vs, H1, I1, r1, q1⟩ => ?_) hs rfl))
  obtain ⟨a, xs, ex, hq, q⟩ := q1
  subst ex
  cases r1 with
  | cons r rr =>
    cases rr
    cases r
    obtain ⟨its, rv, p', hz⟩ := I1.tuple hq
    have hal : a < s1.heap.objs.size := by obtain ⟨o, q1, _⟩ := id p'; exact Heap.lt_size q1
    refine call_enumerate_tuple (show s1.heap.IsTuple a its.toArray from p') fun h' he hit hsz hk => wpAny_pyIter_enum he ?_
    have I2 : Inv X pins σ H1 { s1 with heap := h' } := I1.kept (t' := s1.toks) hk
    refine ⟨s1.heap.objs.size + 1, [s1.heap.objs.size + 1, s1.heap.objs.size], _, _, H1, rfl, I2, turn_enumT a (s1.heap.objs.size + 1) s1.heap.objs.size, ⟨⟨.none, he⟩, hit, Nat.succ_ne_self _, Nat.ne_of_lt (Nat.lt_succ_of_lt hal), Nat.ne_of_lt hal⟩, fun b hb => ?_, q⟩
    have e' : b = s1.heap.objs.size + 1 ∨ b = s1.heap.objs.size := by simpa using hb
    have hle : s1.heap.objs.size ≤ b := by
      rcases e' with z | z
      · rw [z]; exact Nat.le_add_right _ _
      · rw [z]; exact Nat.le_refl _
    exact I1.fpOk hle (I1.hok.fresh hle)
theorem sqT_inj {K : PySem.W.Frag} {H : Hp} {a : Addr} {xs ys : List V} {u : HO} (h : H a = some (.tup xs)) (h2 : SqT K H a ys) (hk : K.lookup a = none) : xs = ys := by
  rcases h2 with (h2 | ⟨o, h2⟩) | ⟨o, its, n, h2, _⟩
  · rw [h] at h2; cases h2; rfl
  · rw [h] at h2; cases h2
  · rw [hk] at h2; cases h2
theorem walk_enumT {K : PySem.W.Frag} {a : Addr} {xs : List V} : Walk (IteT K a) xs.length (fun H => SqT K H a xs) (fun i H v H' => ∃ T x y, v = .ref T ∧ H T = none ∧ H' = upd H T (.tup [.int (i : Nat), x]) ∧ some y = some x ∧ xs[i]? = some y) where
  goes := fun i H h q => ⟨xs, xs[i], q, List.getElem?_eq_getElem h⟩
  stops := fun H q => ⟨xs, q, rfl⟩
  yields := fun i H v H' h q ⟨T, x, e1, e2, e3, e4⟩ => ⟨T, x, x, e1, e2, e3, rfl, e4 xs q⟩
end L2
namespace DL
open PySem PySem.Spec PyProof.Rows L2
section
variable {K : PySem.W.Frag} {E : L2.St → XK} {m : Bool} {te ta tb : TE} {tas : TA} {S S' S1 S2 : List SD} {χ : XO} {x y z : D} {xs ys zs ds : List D} {b : Bool}
theorem ji_enumT (h : JA K E m tas S S' (da K [.tuple xs]) χ) : JI K E m (iEnumT K tas) S S' (enD xs) χ := fun σ G H s R k e =>
  h σ G H s _ (fun vs G1 H1 st1 s1 o1 d1 => by
    obtain ⟨v, rfl, q⟩ := one_of d1
    obtain ⟨a, us, rfl, q1, q2⟩ := dp_tup q
    refine ⟨a, us, rfl, Evl.ex_t st1.h q1, k _ G1 H1 _ _ st1 s1 o1 (by rw [enD_len, ← dpa_len q2]; exact walk_enumT) (fun H2 e2 => Evl.ex_t e2 q1) fun i H2 v H3 G2 hi e1 e2 y => ?_⟩
    obtain ⟨T, x, y, rfl, hT, rfl, h1, h2⟩ := y
    obtain ⟨d, h3, h4⟩ := dpa_get' q2 h2
    have := Option.some.inj h1
    subst this
    exact ⟨upd G2 T _, _, .new e2 hT, enD_get h3, .tup (.of upd_same) (.cons (.int _) (.cons (dp_ex (e1.trans (Evl.Ex.new (free_of e2 hT))) h4) .nil))⟩) e
def sqD (b : Bool) (xs : List D) : D := if b then .tuple xs else .list xs
theorem cb_lenS : CBV K (rLenQ K) [sqD b xs] (DL.dd K (.int xs.length)) := by
  cases b with
  | true => exact cb_lenT
  | false => exact cb_lenL
theorem ji_seq (h : J K E m te S S' (DL.dd K (sqD b ds)) χ) : JI K E m (fun σ H R => iList K te σ H R ∨ iTup K te σ H R) S S' ds χ := by
  cases b with
  | true => exact ji_inr (ji_tup h)
  | false => exact ji_inl (ji_list h)
theorem ji_enumS (h : JA K E m tas S S' (da K [sqD b xs]) χ) : JI K E m (fun σ H R => iEnum K tas σ H R ∨ iEnumT K tas σ H R) S S' (enD xs) χ := by
  cases b with
  | true => exact ji_inr (ji_enumT h)
  | false => exact ji_inl (ji_enum h)
theorem jg_seq {gs : TGs} {n : Nat} {vs : List Nat} (h : JGs K gs ds S S' vs) (hn : ds.length = n) : JG K (fun v σ H Q => gTup K n gs v σ H Q ∨ gUnl K n gs v σ H Q) (sqD b ds) S S' vs := by
  cases b with
  | true => exact jg_inl (jg_tup h hn)
  | false => exact jg_inr (jg_unl h hn)
theorem j_tupS (h : J K E m te S S' (DL.dd K (sqD b xs)) χ) : J K E m (tCB (rTupQ K) (tCons te tNil)) S S' (DL.dd K (.tuple xs)) χ := by
  cases b with
  | true => exact j_tupT h
  | false => exact j_tupL h.sdL
end
end DL
-- A1
namespace DL
open PySem PySem.Spec PyProof.Rows L2
def top (i : Nat) : Stmt := PySem.Challenge.pw_copyrates_k06_whole_grades_by_sources.main.body.getD i (.Pass ⟨0, 0, 0, 0⟩)
def mem (s : Stmt) (j : Nat) : Stmt := match s with
  | .ClassDef _ _ _ b _ _ _ _ _ _ _ => b.getD j (.Pass ⟨0, 0, 0, 0⟩)
  | s => s
abbrev errs4 : List Str := ["BadPlace", "BadGrades", "OtherSize", "BadNumber"]
structure GlX (mg : Str → Option Value) (K : PySem.W.Frag) : Prop where
  n_isinstance : mg "isinstance" = none
  n_int : mg "int" = none
  n_bool : mg "bool" = none
  n_str : mg "str" = none
  n_list : mg "list" = none
  n_tuple : mg "tuple" = none
  n_len : mg "len" = none
  n_max : mg "max" = none
  n_min : mg "min" = none
  n_range : mg "range" = none
  n_enumerate : mg "enumerate" = none
  n_sorted : mg "sorted" = none
  n_iter : mg "iter" = none
  g_Run : mg "Run" = some (.ref (He.ga K "Run"))
  cl_Run : Cls K (He.ga K "Run")
  ct_Run : ClsT K "Run"
  na_size : NoAttr K (He.ga K "Run") "size"
  na_marks : NoAttr K (He.ga K "Run") "marks"
  na__masks : NoAttr K (He.ga K "Run") "_masks"
  k_Run : PySem.W.kitOne K (.ref (He.ga K "Run")) (.ref (He.ga K "Run")) = some true
  k_list : PySem.W.kitOne K (.type "list") (.ref (He.ga K "Run")) = some false
  nf_list : PySem.W.notFirst K (He.ga K "Run") (.type "list") = true
  t_BitAnd : PySem.W.findIn K (.type "tuple") (PySem.dunder Operator.BitAnd.info.2) = some none
  g_RatesError : mg "RatesError" = some (.ref (He.ga K "RatesError"))
  g_BadPlace : mg "BadPlace" = some (.ref (He.ga K "BadPlace"))
  x_BadPlace : XfC K (He.ga K "BadPlace")
  f_BadPlace : PySem.W.findIn K (.ref (He.ga K "BadPlace")) "place" = some none
  e_BadPlace : L2.ExcC K (He.ga K "BadPlace")
  g_BadGrades : mg "BadGrades" = some (.ref (He.ga K "BadGrades"))
  x_BadGrades : XfC K (He.ga K "BadGrades")
  f_BadGrades : PySem.W.findIn K (.ref (He.ga K "BadGrades")) "at" = some none
  e_BadGrades : L2.ExcC K (He.ga K "BadGrades")
  g_OtherSize : mg "OtherSize" = some (.ref (He.ga K "OtherSize"))
  x_OtherSize : XfC K (He.ga K "OtherSize")
  f_OtherSize : PySem.W.findIn K (.ref (He.ga K "OtherSize")) "size" = some none
  e_OtherSize : L2.ExcC K (He.ga K "OtherSize")
  g_BadNumber : mg "BadNumber" = some (.ref (He.ga K "BadNumber"))
  x_BadNumber : XfC K (He.ga K "BadNumber")
  f_BadNumber : PySem.W.findIn K (.ref (He.ga K "BadNumber")) "name" = some none
  e_BadNumber : L2.ExcC K (He.ga K "BadNumber")
  exm : ∀ C ∈ errs4, ∀ D ∈ errs4, PySem.W.exmOne K (.ref (He.ga K C)) (.ref (He.ga K D)) = some (C == D)
  kitR : ∀ C ∈ errs4, PySem.W.kitOne K (.ref (He.ga K C)) (.ref (He.ga K "RatesError")) = some true
  kitN : ∀ C ∈ errs4, ∀ D ∈ errs4, PySem.W.kitOne K (.ref (He.ga K C)) (.ref (He.ga K D)) = some (C == D)
  r_BitAnd : PySem.W.findIn K (.type "tuple") (dunderR Operator.BitAnd.info.2) = some none
section
variable {P : Program} {w : World} {K : PySem.W.Frag} {mg : Str → Option Value} {base : Heap}
mutual
def pl : D → Bool
  | .dict _ => false
  | .list xs => plAll xs
  | .tuple xs => plAll xs
  | _ => true
def plAll : List D → Bool
  | [] => true
  | x :: xs => pl x && plAll xs
end
def tyD : D → Value
  | .none => .type "NoneType"
  | .bool _ => .type "bool"
  | .int _ => .type "int"
  | .str _ => .type "str"
  | .list _ => .type "list"
  | .tuple _ => .type "tuple"
  | .dict _ => .type "dict"
theorem ty_pl {x : D} (h : pl x = true) : TyOk K x (tyD x) := by
  cases x with
  | none => exact ty_non
  | bool b => exact ty_bl
  | int i => exact ty_int
  | str s => exact ty_str
  | list xs => exact ty_lst
  | tuple xs => exact ty_tup
  | dict _ => cases h
def isI : D → Bool
  | .int _ => true
  | .bool _ => true
  | _ => false
def isB : D → Bool
  | .bool _ => true
  | _ => false
def isS : D → Bool
  | .str _ => true
  | _ => false
theorem kit_int {x : D} (h : pl x = true) : PySem.W.kitOne K (tyD x) (.type "int") = some (isI x) := by
  cases x <;> first | exact kit_ty (r := true) (by decide +kernel) | exact kit_ty (r := false) (by decide +kernel) | cases h
theorem kit_bool {x : D} (h : pl x = true) : PySem.W.kitOne K (tyD x) (.type "bool") = some (isB x) := by
  cases x <;> first | exact kit_ty (r := true) (by decide +kernel) | exact kit_ty (r := false) (by decide +kernel) | cases h
theorem kit_str {x : D} (h : pl x = true) : PySem.W.kitOne K (tyD x) (.type "str") = some (isS x) := by
  cases x <;> first | exact kit_ty (r := true) (by decide +kernel) | exact kit_ty (r := false) (by decide +kernel) | cases h
def isW : D → Bool
  | .int _ => true
  | _ => false
theorem isW_eq (x : D) : (isI x && !isB x) = isW x := by cases x <;> rfl
def R_is_whole (ds : List D) (r : Res) : Prop := ∃ v, pl v = true ∧ ds = [v] ∧ r = .ok (.bool (isW v))
theorem len_R_is_whole : ∀ ds r, R_is_whole ds r → ds.length = 1 := fun ds r ⟨v, _, h, _⟩ => by rw [h]; rfl
abbrev s_is_whole : Stmt := top 10
theorem sc_is_whole : FnScope ["value"] ["value"] (defScope s_is_whole) := ⟨rfl, rfl, rfl, by decide +kernel, rfl, by decide +kernel, by decide +kernel⟩
theorem ok_is_whole (T : GlX mg K) (hF : ∃ fd, L2.Fun K "is_whole" "is_whole" s_is_whole (He.ga K "is_whole") fd) (hG : mg "is_whole" = some (.ref (He.ga K "is_whole"))) : FO P w K mg base "is_whole" 1 ["value"] (spD K R_is_whole) := by
  obtain ⟨fd, F⟩ := hF
  have n_isinstance := T.n_isinstance
  have n_bool := T.n_bool
  have n_int := T.n_int
  refine fo_make F hG (fun _ _ _ _ _ _ us hl => match us, hl with | [_], _ => rfl) sc_is_whole len_R_is_whole fun cdv A outer s H E0 hr tk => ⟨_, (pss_one (ps_ret (pe_and (pe_callB call_isi (by rfl) n_isinstance (by decide +kernel) (pa_cons (pv 0) (pa_cons (pe_bltn (v := .ty "int") (u := .type "int") (by rfl) n_int (by decide +kernel) rfl) pa_nil))) (pe_one (pe_not (pe_callB call_isi (by rfl) n_isinstance (by decide +kernel) (pa_cons (pv 0) (pa_cons (pe_bltn (v := .ty "bool") (u := .type "bool") (by rfl) n_bool (by decide +kernel) rfl) pa_nil)))))))), ?_⟩
  intro ds r ⟨v, hv, e1, e2⟩
  subst e1 e2
  refine s_retP ?_ rfl
  rw [← isW_eq]
  exact j_and (j_isi (j_var (x := v) rfl).td (.ty "int") (ty_pl hv) (kit_int hv)).td fun _ => j_not (j_isi (j_var (x := v) rfl).td (.ty "bool") (ty_pl hv) (kit_bool hv)).td
def btw (v : D) (lo hi : Int) : Bool := match v with
  | .int n => decide (lo ≤ n) && decide (n ≤ hi)
  | _ => false
def R_is_between (ds : List D) (r : Res) : Prop := ∃ v lo hi, pl v = true ∧ ds = [v, .int lo, .int hi] ∧ r = .ok (.bool (btw v lo hi))
theorem len_R_is_between : ∀ ds r, R_is_between ds r → ds.length = 3 := fun ds r ⟨v, _, _, _, h, _⟩ => by rw [h]; rfl
abbrev s_is_between : Stmt := top 11
theorem sc_is_between : FnScope ["value", "low", "high"] ["value", "low", "high"] (defScope s_is_between) := ⟨rfl, rfl, rfl, by decide +kernel, rfl, by decide +kernel, by decide +kernel⟩
theorem ok_is_between (T : GlX mg K) (hF : ∃ fd, L2.Fun K "is_between" "is_between" s_is_between (He.ga K "is_between") fd) (hG : mg "is_between" = some (.ref (He.ga K "is_between"))) (F_is_whole : FO P w K mg base "is_whole" 1 ["value"] (spD K R_is_whole)) : FO P w K mg base "is_between" 2 ["value", "low", "high"] (spD K R_is_between) := by
  obtain ⟨fd, F⟩ := hF
  refine fo_make F hG (fun _ _ _ _ _ _ us hl => match us, hl with | [_, _, _], _ => rfl) sc_is_between len_R_is_between fun cdv A outer s H E0 hr tk => ⟨_, (pss_one (ps_ret (pe_and (pe_fo F_is_whole (hr.mono (by decide)) (by rfl) tk (pa_cons (pv 0) pa_nil)) (pe_one (pe_chain op_le op_le (pv 1) (pv 0) (pv 2)))))), ?_⟩
  intro ds r ⟨v, lo, hi, hv, e1, e2⟩
  subst e1 e2
  refine s_retP ?_ rfl
  have e : btw v lo hi = (isW v && btw v lo hi) := by cases v <;> simp [btw, isW]
  rw [e]
  refine j_and (j_call (x := .bool (isW v)) (ja_cons (j_var rfl) ja_nil) ⟨v, hv, rfl, rfl⟩).td fun hw => ?_
  cases v <;> first | (cases hw; done) | skip
  exact j_chain (j_var rfl) (j_var rfl) (j_var rfl) rfl rfl
def isRow : D → Bool
  | .list _ => true
  | .tuple _ => true
  | _ => false
theorem kit_row {x : D} (h : pl x = true) : PySem.W.kitAny K (tyD x) [.type "tuple", .type "list"] = some (isRow x) := by
  cases x <;> first | (exact kitAny_cons (b := false) (kit_ty (by decide +kernel)) (fun _ => kitAny_cons (b := false) (kit_ty (by decide +kernel)) (fun _ => rfl) (fun z => nomatch z)) (fun z => nomatch z)) |
    (exact kitAny_cons (b := true) (kit_ty (by decide +kernel)) (fun z => nomatch z) (fun z => rfl)) | (exact kitAny_cons (b := false) (kit_ty (by decide +kernel)) (fun _ => kitAny_cons (b := true) (kit_ty (by decide +kernel)) (fun z => nomatch z) (fun _ => rfl)) (fun z => nomatch z)) | cases h
def R_is_row (ds : List D) (r : Res) : Prop := ∃ v, pl v = true ∧ ds = [v] ∧ r = .ok (.bool (isRow v))
theorem len_R_is_row : ∀ ds r, R_is_row ds r → ds.length = 1 := fun ds r ⟨v, _, h, _⟩ => by rw [h]; rfl
abbrev s_is_row : Stmt := top 12
theorem sc_is_row : FnScope ["value"] ["value"] (defScope s_is_row) := ⟨rfl, rfl, rfl, by decide +kernel, rfl, by decide +kernel, by decide +kernel⟩
theorem ok_is_row (T : GlX mg K) (hF : ∃ fd, L2.Fun K "is_row" "is_row" s_is_row (He.ga K "is_row") fd) (hG : mg "is_row" = some (.ref (He.ga K "is_row"))) : FO P w K mg base "is_row" 1 ["value"] (spD K R_is_row) := by
  obtain ⟨fd, F⟩ := hF
  have n_isinstance := T.n_isinstance
  have n_list := T.n_list
  have n_tuple := T.n_tuple
  refine fo_make F hG (fun _ _ _ _ _ _ us hl => match us, hl with | [_], _ => rfl) sc_is_row len_R_is_row fun cdv A outer s H E0 hr tk => ⟨_, (pss_one (ps_ret (pe_callB call_isiT (by rfl) n_isinstance (by decide +kernel) (pa_cons (pv 0) (pa_cons (pe_tup (pa_cons (pe_bltn (v := .ty "tuple") (u := .type "tuple") (by rfl) n_tuple (by decide +kernel) rfl) (pa_cons (pe_bltn (v := .ty "list") (u := .type "list") (by rfl) n_list (by decide +kernel) rfl) pa_nil))) pa_nil))))), ?_⟩
  intro ds r ⟨v, hv, e1, e2⟩
  subst e1 e2
  refine s_retP ?_ rfl
  exact j_isiT (j_var (x := v) rfl).td (fun σ H Q q => q) (by rw [sizeLine_eq]; decide) (.cons (.ty "tuple") (.cons (.ty "list") .nil)) (ty_pl hv) (kit_row hv)
abbrev eNum (x : D) : Exn := ⟨"BadNumber", "name", x⟩
abbrev ePlace (x : D) : Exn := ⟨"BadPlace", "place", x⟩
abbrev eLot (x : D) : Exn := ⟨"BadLot", "place", x⟩
abbrev eGrades (x : D) : Exn := ⟨"BadGrades", "at", x⟩
abbrev eMark (x : D) : Exn := ⟨"BadMark", "at", x⟩
def R_ask_number (ds : List D) (r : Res) : Prop := ∃ v nm lo hi, pl v = true ∧ ds = [v, .str nm, .int lo, .int hi] ∧ r = if btw v lo hi then .ok .none else .error (eNum (.str nm))
theorem len_R_ask_number : ∀ ds r, R_ask_number ds r → ds.length = 4 := fun ds r ⟨v, _, _, _, _, h, _⟩ => by rw [h]; rfl
abbrev s_ask_number : Stmt := top 13
theorem sc_ask_number : FnScope ["value", "name", "low", "high"] ["value", "name", "low", "high"] (defScope s_ask_number) := ⟨rfl, rfl, rfl, by decide +kernel, rfl, by decide +kernel, by decide +kernel⟩
theorem ok_ask_number (T : GlX mg K) (hF : ∃ fd, L2.Fun K "ask_number" "ask_number" s_ask_number (He.ga K "ask_number") fd) (hG : mg "ask_number" = some (.ref (He.ga K "ask_number"))) (F_is_between : FO P w K mg base "is_between" 2 ["value", "low", "high"] (spD K R_is_between)) (E_BadNumber : EO P w K mg base "BadNumber" "name" "name") : FO P w K mg base "ask_number" 3 ["value", "name", "low", "high"] (spD K R_ask_number) := by
  obtain ⟨fd, F⟩ := hF
  refine fo_make F hG (fun _ _ _ _ _ _ us hl => match us, hl with | [_, _, _, _], _ => rfl) sc_ask_number len_R_ask_number fun cdv A outer s H E0 hr tk => ⟨_, (pss_one (ps_if (pt_not (pt_val (pe_fo F_is_between (hr.mono (by decide)) (by rfl) tk (pa_cons (pv 0) (pa_cons (pv 2) (pa_cons (pv 3) pa_nil)))))) (pss_one (ps_eo E_BadNumber rfl (hr.mono (by decide)) (by rfl) tk (pa_cons (pv 1) pa_nil))) pss_nil)), ?_⟩
  intro ds r ⟨v, nm, lo, hi, hv, e1, e2⟩
  subst e1
  refine s_if (jt_not (jt_test (j_call (x := .bool (btw v lo hi)) (ja_cons (j_var rfl) (ja_cons (j_var rfl) (ja_cons (j_var rfl) ja_nil))) ⟨v, lo, hi, hv, rfl, rfl⟩).td)) (fun h => ?_) (fun h => ?_)
  · refine s_raise (x := .str nm) (ja_cons (j_var rfl) ja_nil) ?_
    show r = _
    rw [e2, if_neg (by simpa using h)]
  · refine st_next ?_
    show r = _
    rw [e2, if_pos (by simpa using h)]
def R_ask_place (ds : List D) (r : Res) : Prop := ∃ v n, pl v = true ∧ ds = [v, .int n] ∧ r = if btw v 0 (n - 1) then .ok .none else .error (ePlace v)
theorem len_R_ask_place : ∀ ds r, R_ask_place ds r → ds.length = 2 := fun ds r ⟨v, _, _, h, _⟩ => by rw [h]; rfl
abbrev s_ask_place : Stmt := top 14
theorem sc_ask_place : FnScope ["value", "size"] ["value", "size"] (defScope s_ask_place) := ⟨rfl, rfl, rfl, by decide +kernel, rfl, by decide +kernel, by decide +kernel⟩
theorem ok_ask_place (T : GlX mg K) (hF : ∃ fd, L2.Fun K "ask_place" "ask_place" s_ask_place (He.ga K "ask_place") fd) (hG : mg "ask_place" = some (.ref (He.ga K "ask_place"))) (F_is_between : FO P w K mg base "is_between" 2 ["value", "low", "high"] (spD K R_is_between)) (E_BadPlace : EO P w K mg base "BadPlace" "place" "place") : FO P w K mg base "ask_place" 3 ["value", "size"] (spD K R_ask_place) := by
  obtain ⟨fd, F⟩ := hF
  refine fo_make F hG (fun _ _ _ _ _ _ us hl => match us, hl with | [_, _], _ => rfl) sc_ask_place len_R_ask_place fun cdv A outer s H E0 hr tk => ⟨_, (pss_one (ps_if (pt_not (pt_val (pe_fo F_is_between (hr.mono (by decide)) (by rfl) tk (pa_cons (pv 0) (pa_cons pe_int (pa_cons (pe_op op_sub (pv 1) pe_int) pa_nil)))))) (pss_one (ps_eo E_BadPlace rfl (hr.mono (by decide)) (by rfl) tk (pa_cons (pv 0) pa_nil))) pss_nil)), ?_⟩
  intro ds r ⟨v, n, hv, e1, e2⟩
  subst e1
  refine s_if (jt_not (jt_test (j_call (x := .bool (btw v 0 (n - 1))) (ja_cons (j_var rfl) (ja_cons j_int (ja_cons (j_op (j_var rfl) j_int.td opv_i0) ja_nil))) ⟨v, 0, n - 1, hv, rfl, rfl⟩).td)) (fun h => ?_) (fun h => ?_)
  · refine s_raise (x := v) (ja_cons (j_var rfl) ja_nil) ?_
    show r = _
    rw [e2, if_neg (by simpa using h)]
  · refine st_next ?_
    show r = _
    rw [e2, if_pos (by simpa using h)]
abbrev wTake : Str := "take"
abbrev wCall : Str := "call"
def okMark (n : Int) : List D → Bool
  | [a, b, c] => btw a 0 (n - 1) && (btw b 0 (n - 1) && (!PyData.eqv a b && (isS c && inD c [.str wTake, .str wCall])))
  | _ => false
theorem okMark3 {n : Int} {a b c : D} : okMark n [a, b, c] = !((!btw a 0 (n - 1) || (!btw b 0 (n - 1) || PyData.eqv a b)) || (!isS c || !inD c [.str wTake, .str wCall])) := by
  show (btw a 0 (n - 1) && (btw b 0 (n - 1) && (!PyData.eqv a b && (isS c && inD c [.str wTake, .str wCall])))) = _
  generalize btw a 0 (n - 1) = x1
  generalize btw b 0 (n - 1) = x2
  generalize PyData.eqv a b = x3
  generalize isS c = x4
  generalize inD c [.str wTake, .str wCall] = x5
  cases x1 <;> cases x2 <;> cases x3 <;> cases x4 <;> cases x5 <;> rfl
def itm : D → Option (List D)
  | .list xs => some xs
  | .tuple xs => some xs
  | _ => none
def markOf (v : D) (n : Int) : D := match itm v with
  | some xs => if okMark n xs then .tuple xs else .none
  | none => .none
theorem row_cases (v : D) : (isRow v = false ∧ itm v = none) ∨ ∃ b xs, v = sqD b xs ∧ isRow v = true ∧ itm v = some xs := by
  cases v with
  | list xs => exact .inr ⟨false, xs, rfl, rfl, rfl⟩
  | tuple xs => exact .inr ⟨true, xs, rfl, rfl, rfl⟩
  | _ => exact .inl ⟨rfl, rfl⟩
theorem pl_sq {b : Bool} {xs : List D} (h : pl (sqD b xs) = true) : plAll xs = true := by
  cases b <;> simpa [sqD, pl] using h
theorem plAll_mem {x : D} : ∀ {xs : List D}, plAll xs = true → x ∈ xs → pl x = true
  | y :: ys, h, m => by
    rw [plAll, Bool.and_eq_true] at h
    rcases List.mem_cons.mp m with e | m
    · rw [e]; exact h.1
    · exact plAll_mem h.2 m
theorem eqv_int {i j : Int} : PyData.eqv (.int i) (.int j) = (i == j) := by simp [PyData.eqv]
theorem btw_int {v : D} {lo hi : Int} (h : btw v lo hi = true) : ∃ i : Int, v = .int i ∧ lo ≤ i ∧ i ≤ hi := by
  cases v with
  | int i => exact ⟨i, rfl, by simpa [btw] using h⟩
  | _ => cases h
def R_mark_of (ds : List D) (r : Res) : Prop := ∃ v n, pl v = true ∧ ds = [v, .int n] ∧ r = .ok (markOf v n)
theorem len_R_mark_of : ∀ ds r, R_mark_of ds r → ds.length = 2 := fun ds r ⟨v, _, _, h, _⟩ => by rw [h]; rfl
abbrev s_mark_of : Stmt := top 16
theorem sc_mark_of : FnScope ["value", "size", "i", "j", "word"] ["value", "size"] (defScope s_mark_of) := ⟨rfl, rfl, rfl, by decide +kernel, rfl, by decide +kernel, by decide +kernel⟩
theorem ok_mark_of (T : GlX mg K) (hF : ∃ fd, L2.Fun K "mark_of" "mark_of" s_mark_of (He.ga K "mark_of") fd) (hG : mg "mark_of" = some (.ref (He.ga K "mark_of"))) (F_is_between : FO P w K mg base "is_between" 2 ["value", "low", "high"] (spD K R_is_between)) (F_is_row : FO P w K mg base "is_row" 1 ["value"] (spD K R_is_row)) : FO P w K mg base "mark_of" 3 ["value", "size"] (spD K R_mark_of) := by
  obtain ⟨fd, F⟩ := hF
  have n_isinstance := T.n_isinstance
  have n_str := T.n_str
  have n_len := T.n_len
  refine fo_make F hG (fun _ _ _ _ _ _ us hl => match us, hl with | [_, _], _ => rfl) sc_mark_of len_R_mark_of fun cdv A outer s H E0 hr tk => ⟨_, (pss_cons (ps_if (PW.pt (pw_or (pt_not (pt_val (pe_fo F_is_row (hr.mono (by decide)) (by rfl) tk (pa_cons (pv 0) pa_nil)))) (pw_or1 (pt_cmpR (op_neD hr.units) (pe_callB call_len_seq (by rfl) n_len (by decide +kernel) (pa_cons (pv 0) pa_nil)) pe_int (nomark _))))) (pss_one (ps_ret pe_non)) pss_nil) (pss_cons (ps_asg (pv 0) (pg_either (pg_tup rfl (pgs_cons (pg_name (i := 2) sc_mark_of.nd rfl (Or.inl rfl)) (pgs_cons (pg_name (i := 3) sc_mark_of.nd rfl (Or.inl rfl)) (pgs_cons (pg_name (i := 4) sc_mark_of.nd rfl (Or.inl rfl)) pgs_nil)))) (pg_unl rfl (pgs_cons (pg_name (i := 2) sc_mark_of.nd rfl (Or.inl rfl)) (pgs_cons (pg_name (i := 3) sc_mark_of.nd rfl (Or.inl rfl)) (pgs_cons (pg_name (i := 4) sc_mark_of.nd rfl (Or.inl rfl)) pgs_nil)))))) (pss_cons (ps_if (PW.pt (pw_or (pt_not (pt_val (pe_fo F_is_between (hr.mono (by decide)) (by rfl) tk (pa_cons (pv 2) (pa_cons pe_int (pa_cons (pe_op op_sub (pv 1) pe_int) pa_nil)))))) (pw_or (pt_not (pt_val (pe_fo F_is_between (hr.mono (by decide)) (by rfl) tk (pa_cons (pv 3) (pa_cons pe_int (pa_cons (pe_op op_sub (pv 1) pe_int) pa_nil)))))) (pw_or1 (pt_cmpR (op_eqD hr.units) (pv 2) (pv 3) (nomark _)))))) (pss_one (ps_ret pe_non)) pss_nil) (pss_cons (ps_if (PW.pt (pw_or (pt_not (pt_val (pe_callB call_isi (by rfl) n_isinstance (by decide +kernel) (pa_cons (pv 4) (pa_cons (pe_bltn (v := .ty "str") (u := .type "str") (by rfl) n_str (by decide +kernel) rfl) pa_nil))))) (pw_or1 (pt_cmpR op_notIn_seq (pv 4) (pe_tup (pa_cons pe_str (pa_cons pe_str pa_nil))) (by rfl))))) (pss_one (ps_ret pe_non)) pss_nil) (pss_one (ps_ret (pe_tup (pa_cons (pv 2) (pa_cons (pv 3) (pa_cons (pv 4) pa_nil)))))))))), ?_⟩
  intro ds r ⟨v, n, hv, e1, e2⟩
  subst e1 e2
  rcases row_cases v with ⟨h1, h2⟩ | ⟨b, xs, rfl, h1, h2⟩
  · refine s_guard (b := true) (jt_orT (jt_is (jt_not (jt_test (j_call (x := .bool (isRow v)) (ja_cons (j_var rfl) ja_nil) ⟨v, hv, rfl, rfl⟩).td)) (by rw [h1]; rfl))) (fun _ => ?_) (fun h => nomatch h)
    refine s_ret j_non fun w G H d => ⟨.none, ?_, d⟩
    rw [markOf, h2]
  · have pv : ∀ x ∈ xs, pl x = true := fun x => plAll_mem (pl_sq hv)
    refine s_guard (b := (!decide (xs.length = 3))) (jt_orF (jt_is (jt_not (jt_test (j_call (x := .bool (isRow (sqD b xs))) (ja_cons (j_var rfl) ja_nil) ⟨sqD b xs, hv, rfl, rfl⟩).td)) (by rw [h1]; rfl))
      (jt_is (jt_B (j_op (j_cb (ja_one (j_var rfl).td) cb_lenS) j_int.td (opv_neD (by rfl) (by rfl))).td) (by rw [eqv_int]; by_cases h : xs.length = 3 <;> simp [h]; omega))) (fun h => ?_) (fun h => ?_)
    · refine s_ret j_non fun w G H d => ⟨.none, ?_, d⟩
      have e : okMark n xs = false := by
        match xs, h with
        | [_, _, _], h => simp at h
        | [], _ => rfl
        | [_], _ => rfl
        | [_, _], _ => rfl
        | _ :: _ :: _ :: _ :: _, _ => rfl
      rw [markOf, h2]
      simp [e]
    · have hl : xs.length = 3 := by simpa using h
      obtain ⟨a, b2, c, rfl⟩ : ∃ a b c, xs = [a, b, c] := by
        match xs, hl with
        | [a, b, c], _ => exact ⟨a, b, c, rfl⟩
      have pa := pv a (by simp)
      have pb := pv b2 (by simp)
      have pc := pv c (by simp)
      refine s_tgt (vs := [2, 3, 4]) [.d (sqD b [a, b2, c]), .d (.int n), .d a, .d b2, .d c] (j_var rfl) (jg_seq (jgs_cons (jg_name (by simp)) (jgs_cons (jg_name (by simp)) (jgs_cons (jg_name (by simp)) jgs_nil))) rfl) ?_
      refine s_guard (b := (!btw a 0 (n - 1) || (!btw b2 0 (n - 1) || PyData.eqv a b2))) (jt_or (jt_not (jt_test (j_call (x := .bool (btw a 0 (n - 1))) (ja_cons (j_var rfl) (ja_cons j_int (ja_cons (j_op (j_var rfl) j_int.td opv_i0) ja_nil))) ⟨a, 0, n - 1, pa, rfl, rfl⟩).td)) fun q1 =>
        jt_or (jt_not (jt_test (j_call (x := .bool (btw b2 0 (n - 1))) (ja_cons (j_var rfl) (ja_cons j_int (ja_cons (j_op (j_var rfl) j_int.td opv_i0) ja_nil))) ⟨b2, 0, n - 1, pb, rfl, rfl⟩).td)) fun q2 => by
          obtain ⟨i, rfl, _⟩ := btw_int (by simpa using q1)
          obtain ⟨j, rfl, _⟩ := btw_int (by simpa using q2)
          exact jt_B (j_op (j_var rfl) (j_var rfl).td (opv_eqD (by rfl) (by rfl))).td) (fun h => ?_) (fun h => ?_)
      · refine s_ret j_non fun w G H d => ⟨.none, ?_, d⟩
        rw [markOf, h2]
        have e : okMark n [a, b2, c] = false := by rw [okMark3, h]; rfl
        simp [e]
      · refine s_guard (b := (!isS c || !inD c [.str wTake, .str wCall])) (jt_or (jt_not (jt_test (j_isi (j_var rfl).td (.ty "str") (ty_pl pc) (kit_str pc)).td)) fun q => by
            cases c <;> first | (cases q; done) | skip
            exact jt_B (j_op (j_var rfl) (j_tup (ja_cons j_str (ja_cons j_str ja_nil)) (by rw [sizeLine_eq]; decide)).td (opv_niT rfl rfl)).td) (fun h' => ?_) (fun h' => ?_)
        · refine s_ret j_non fun w G H d => ⟨.none, ?_, d⟩
          rw [markOf, h2]
          have e : okMark n [a, b2, c] = false := by rw [okMark3, h, h']; rfl
          simp [e]
        · refine s_retP (j_tup (ja_cons (j_var rfl) (ja_cons (j_var rfl) (ja_cons (j_var rfl) ja_nil))) (by show 3 ≤ _; rw [sizeLine_eq]; decide)) ?_
          rw [markOf, h2]
          have e : okMark n [a, b2, c] = true := by rw [okMark3, h, h']; rfl
          simp [e]
end
end DL
-- A2
namespace DL
open PySem PySem.Spec PyProof.Rows L2
section
variable {P : Program} {w : World} {K : PySem.W.Frag} {mg : Str → Option Value} {base : Heap}
theorem fi_some {p : D → Bool} {xs : List D} {i : Nat} {x : D} (h : xs[i]? = some x) (hp : p x = true) (hb : ∀ j y, j < i → xs[j]? = some y → p y = false) : xs.findIdx? p = some i := by
  rw [List.findIdx?_eq_some_iff_getElem]
  obtain ⟨hi, e⟩ := List.getElem?_eq_some_iff.mp h
  refine ⟨hi, by rw [e]; exact hp, fun j hj => ?_⟩
  have := hb j xs[j] hj (List.getElem?_eq_getElem (Nat.lt_trans hj hi))
  simp [this]
theorem fi_none {p : D → Bool} {xs : List D} (h : ∀ (j : Nat) y, xs[j]? = some y → p y = false) : xs.findIdx? p = none := by
  rw [List.findIdx?_eq_none_iff]
  intro x hx
  obtain ⟨j, hj, e⟩ := List.mem_iff_getElem.mp hx
  exact h j x (by rw [← e]; exact List.getElem?_eq_getElem hj)
theorem enD_inv {xs : List D} {i : Nat} {d : D} (h : (enD xs)[i]? = some d) : ∃ x, xs[i]? = some x ∧ d = .tuple [.int (i : Nat), x] := by
  have hi := (List.getElem?_eq_some_iff.mp h).1
  rw [enD_len] at hi
  have e : xs[i]? = some xs[i] := List.getElem?_eq_getElem hi
  rw [enD_get e] at h
  exact ⟨_, e, (Option.some.inj h).symm⟩
theorem take_map {α β : Type} {f : α → β} {xs : List α} {i : Nat} {x : α} (h : xs[i]? = some x) : (xs.take (i + 1)).map f = (xs.take i).map f ++ [f x] := by
  rw [List.take_add_one, h]
  simp
def marksOf (v : D) (n : Int) : Res := match itm v with
  | none => .error (eMark (.int (-1)))
  | some xs => match xs.findIdx? (fun x => isNon (markOf x n)) with
    | some k => .error (eMark (.int (k : Nat)))
    | none => .ok (.tuple (xs.map fun x => markOf x n))
def R_marks_of (ds : List D) (r : Res) : Prop := ∃ v n, pl v = true ∧ (∀ xs, itm v = some xs → xs.length < sizeLine) ∧ ds = [v, .int n] ∧ r = marksOf v n
theorem len_R_marks_of : ∀ ds r, R_marks_of ds r → ds.length = 2 := fun ds r ⟨v, _, _, _, h, _⟩ => by rw [h]; rfl
abbrev s_marks_of : Stmt := top 17
theorem sc_marks_of : FnScope ["marks", "size", "told", "at", "value", "mark"] ["marks", "size"] (defScope s_marks_of) := ⟨rfl, rfl, rfl, by decide +kernel, rfl, by decide +kernel, by decide +kernel⟩
theorem ok_marks_of (T : GlX mg K) (hF : ∃ fd, L2.Fun K "marks_of" "marks_of" s_marks_of (He.ga K "marks_of") fd) (hG : mg "marks_of" = some (.ref (He.ga K "marks_of"))) (E_BadMark : EO P w K mg base "BadMark" "at" "at") (F_mark_of : FO P w K mg base "mark_of" 3 ["value", "size"] (spD K R_mark_of)) (F_is_row : FO P w K mg base "is_row" 1 ["value"] (spD K R_is_row)) : FO P w K mg base "marks_of" 4 ["marks", "size"] (spD K R_marks_of) := by
  obtain ⟨fd, F⟩ := hF
  have n_tuple := T.n_tuple
  have n_enumerate := T.n_enumerate
  refine fo_make F hG (fun _ _ _ _ _ _ us hl => match us, hl with | [_, _], _ => rfl) sc_marks_of len_R_marks_of fun cdv A outer s H E0 hr tk => ⟨_, (pss_cons (ps_if (pt_not (pt_val (pe_fo F_is_row (hr.mono (by decide)) (by rfl) tk (pa_cons (pv 0) pa_nil)))) (pss_one (ps_eo E_BadMark rfl (hr.mono (by decide)) (by rfl) tk (pa_cons (pe_un un_neg pe_int) pa_nil))) pss_nil) (pss_cons (ps_set (i := 2) sc_marks_of.nd rfl (Or.inl rfl) (pe_lst pa_nil)) (pss_cons (ps_for (passes_of rfl) rfl (pi_either (pi_enum (by rfl) n_enumerate (pa_cons (pv 0) pa_nil)) (pi_enumT (by rfl) n_enumerate (pa_cons (pv 0) pa_nil))) (pg_tup rfl (pgs_cons (pg_name (i := 3) sc_marks_of.nd rfl (Or.inl rfl)) (pgs_cons (pg_name (i := 4) sc_marks_of.nd rfl (Or.inl rfl)) pgs_nil))) (pss_cons (ps_set (i := 5) sc_marks_of.nd rfl (Or.inl rfl) (pe_fo F_mark_of (hr.mono (by decide)) (by rfl) tk (pa_cons (pv 4) (pa_cons (pv 1) pa_nil)))) (pss_cons (ps_if (pt_cmpR op_isN (pv 5) pe_non (nomark _)) (pss_one (ps_eo E_BadMark rfl (hr.mono (by decide)) (by rfl) tk (pa_cons (pv 3) pa_nil))) pss_nil) (pss_one (ps_expr (pe_bm PySem.F.plainAttrs_list PySem.F.slot_list_append PySem.F.type_list_append mt_append (pv 2) (pa_cons (pv 5) pa_nil))))))) (pss_one (ps_ret (pe_callTy call_tuple_of (by rfl) n_tuple (by decide +kernel) (pa_cons (pv 2) pa_nil))))))), ?_⟩
  intro ds r ⟨v, n, hv, hz, e1, e2⟩
  subst e1
  rcases row_cases v with ⟨h1, h2⟩ | ⟨b, xs, rfl, h1, h2⟩
  · refine s_guard (b := true) (jt_is (jt_not (jt_test (j_call (x := .bool (isRow v)) (ja_cons (j_var rfl) ja_nil) ⟨v, hv, rfl, rfl⟩).td)) (by rw [h1]; rfl)) (fun _ => ?_) (fun h => nomatch h)
    refine s_raise (x := .int (-1)) (ja_cons (j_neg j_int.td) ja_nil) ?_
    show r = _
    rw [e2, marksOf, h2]
  · have pv : ∀ x ∈ xs, pl x = true := fun x => plAll_mem (pl_sq hv)
    have hl := hz xs h2
    refine s_guard (b := false) (jt_is (jt_not (jt_test (j_call (x := .bool (isRow (sqD b xs))) (ja_cons (j_var rfl) ja_nil) ⟨sqD b xs, hv, rfl, rfl⟩).td)) (by rw [h1]; rfl)) (fun h => nomatch h) (fun _ => ?_)
    refine s_setL (jl_lst ja_nil (Nat.zero_le _)) fun a => ?_
    refine s_for (ji_enumS (b := b) (ja_cons (j_var rfl) ja_nil)) [3, 4] (fun i S => (∀ (j : Nat) y, j < i → xs[j]? = some y → isNon (markOf y n) = false) ∧ ∃ x3 x4 x5, S = [.d (sqD b xs), .d (.int n), .l a (.lst ((xs.take i).map fun x => markOf x n)), x3, x4, x5])
      ⟨fun j y h => (Nat.not_lt_zero j h).elim, .un, .un, .un, rfl⟩ (fun i d S2 hd hI => ?_) (fun S2 hI => ?_)
    · obtain ⟨hg, x3, x4, x5, rfl⟩ := hI
      obtain ⟨x, hx, rfl⟩ := enD_inv hd
      have hi := (List.getElem?_eq_some_iff.mp hx).1
      have px := pv x (List.mem_of_getElem? hx)
      refine ⟨_, jg_tup (jgs_cons (jg_name (by simp)) (jgs_cons (jg_name (by simp)) jgs_nil)) rfl, ?_⟩
      refine s_set [.d (sqD b xs), .d (.int n), .l a (.lst ((xs.take i).map fun x => markOf x n)), .d (.int (i : Nat)), .d x, .d (markOf x n)] (j_call (ja_cons (j_var rfl) (ja_cons (j_var rfl) ja_nil)) ⟨x, n, px, rfl, rfl⟩) rfl ?_
      refine s_guard (b := isNon (markOf x n)) (jt_B (j_op (j_var rfl) j_non.td opv_isN).td) (fun h => ?_) (fun h => ?_)
      · refine s_raise (x := .int (i : Nat)) (ja_cons (j_var rfl) ja_nil) ?_
        show r = _
        rw [e2, marksOf, h2]
        simp only [fi_some hx h hg]
      · refine st_app (m := false) (xs := (xs.take i).map fun x => markOf x n) (ys := (xs.take i).map fun x => markOf x n) (j_var rfl) rfl (by rw [List.length_map, List.length_take]; omega) ?_ xin_no rfl
        refine ⟨fun j y hj hy => ?_, _, _, _, by rw [take_map hx]; rfl⟩
        rcases Nat.lt_succ_iff_lt_or_eq.mp hj with hj | hj
        · exact hg j y hj hy
        · subst hj
          rw [hx] at hy
          cases hy
          exact h
    · obtain ⟨hg, x3, x4, x5, rfl⟩ := hI
      rw [enD_len] at hg ⊢
      have e3 : r = .ok (.tuple (xs.map fun x => markOf x n)) := by
        rw [e2, marksOf, h2]
        simp only [fi_none fun j y hy => hg j y (List.getElem?_eq_some_iff.mp hy).1 hy]
      rw [List.take_length]
      exact s_retP (j_tupL (j_varS rfl)) e3
def gradesOf (v : D) (n : Int) : Res := match itm v with
  | none => .error (eGrades (.int (-1)))
  | some xs => if (xs.length : Int) ≠ n then .error (eGrades (.int (-1))) else match xs.findIdx? (fun x => !isW x) with
    | some k => .error (eGrades (.int (k : Nat)))
    | none => .ok (.tuple xs)
def R_grades_of (ds : List D) (r : Res) : Prop := ∃ v n, pl v = true ∧ ds = [v, .int n] ∧ r = gradesOf v n
theorem len_R_grades_of : ∀ ds r, R_grades_of ds r → ds.length = 2 := fun ds r ⟨v, _, _, h, _⟩ => by rw [h]; rfl
theorem j_ltS {E : L2.St → XK} {S : List SD} {b : Bool} {xs : List D} {i : Nat} (h : S[i]? = some (.d (sqD b xs))) : J K E false (tCB (rLenQ K) (tCons (tVar i) tNil)) S S (DL.dd K (.int xs.length)) nox := j_cb (ja_one (j_var h).td) cb_lenS
abbrev s_grades_of : Stmt := top 19
theorem sc_grades_of : FnScope ["value", "size", "at", "entry"] ["value", "size"] (defScope s_grades_of) := ⟨rfl, rfl, rfl, by decide +kernel, rfl, by decide +kernel, by decide +kernel⟩
theorem ok_grades_of (T : GlX mg K) (hF : ∃ fd, L2.Fun K "grades_of" "grades_of" s_grades_of (He.ga K "grades_of") fd) (hG : mg "grades_of" = some (.ref (He.ga K "grades_of"))) (F_is_whole : FO P w K mg base "is_whole" 1 ["value"] (spD K R_is_whole)) (E_BadGrades : EO P w K mg base "BadGrades" "at" "at") (F_is_row : FO P w K mg base "is_row" 1 ["value"] (spD K R_is_row)) : FO P w K mg base "grades_of" 3 ["value", "size"] (spD K R_grades_of) := by
  obtain ⟨fd, F⟩ := hF
  have n_tuple := T.n_tuple
  have n_enumerate := T.n_enumerate
  have n_len := T.n_len
  refine fo_make F hG (fun _ _ _ _ _ _ us hl => match us, hl with | [_, _], _ => rfl) sc_grades_of len_R_grades_of fun cdv A outer s H E0 hr tk => ⟨_, (pss_cons (ps_if (PW.pt (pw_or (pt_not (pt_val (pe_fo F_is_row (hr.mono (by decide)) (by rfl) tk (pa_cons (pv 0) pa_nil)))) (pw_or1 (pt_cmpR (op_neD hr.units) (pe_callB call_len_seq (by rfl) n_len (by decide +kernel) (pa_cons (pv 0) pa_nil)) (pv 1) (nomark _))))) (pss_one (ps_eo E_BadGrades rfl (hr.mono (by decide)) (by rfl) tk (pa_cons (pe_un un_neg pe_int) pa_nil))) pss_nil) (pss_cons (ps_for (passes_of rfl) rfl (pi_either (pi_enum (by rfl) n_enumerate (pa_cons (pv 0) pa_nil)) (pi_enumT (by rfl) n_enumerate (pa_cons (pv 0) pa_nil))) (pg_tup rfl (pgs_cons (pg_name (i := 2) sc_grades_of.nd rfl (Or.inl rfl)) (pgs_cons (pg_name (i := 3) sc_grades_of.nd rfl (Or.inl rfl)) pgs_nil))) (pss_one (ps_if (pt_not (pt_val (pe_fo F_is_whole (hr.mono (by decide)) (by rfl) tk (pa_cons (pv 3) pa_nil)))) (pss_one (ps_eo E_BadGrades rfl (hr.mono (by decide)) (by rfl) tk (pa_cons (pv 2) pa_nil))) pss_nil))) (pss_one (ps_ret (pe_callTy call_tuple_of (by rfl) n_tuple (by decide +kernel) (pa_cons (pv 0) pa_nil)))))), ?_⟩
  intro ds r ⟨v, n, hv, e1, e2⟩
  subst e1
  rcases row_cases v with ⟨h1, h2⟩ | ⟨b, xs, rfl, h1, h2⟩
  · refine s_guard (b := true) (jt_orT (jt_is (jt_not (jt_test (j_call (x := .bool (isRow v)) (ja_cons (j_var rfl) ja_nil) ⟨v, hv, rfl, rfl⟩).td)) (by rw [h1]; rfl))) (fun _ => ?_) (fun h => nomatch h)
    refine s_raise (x := .int (-1)) (ja_cons (j_neg j_int.td) ja_nil) ?_
    show r = _
    rw [e2, gradesOf, h2]
  · have pv : ∀ x ∈ xs, pl x = true := fun x => plAll_mem (pl_sq hv)
    refine s_guard (b := !((xs.length : Int) == n)) (jt_orF (jt_is (jt_not (jt_test (j_call (x := .bool (isRow (sqD b xs))) (ja_cons (j_var rfl) ja_nil) ⟨sqD b xs, hv, rfl, rfl⟩).td)) (by rw [h1]; rfl))
      (jt_is (jt_B (j_op (j_ltS rfl) (j_var rfl).td (opv_neD (by rfl) (by rfl))).td) (by rw [eqv_int]))) (fun h => ?_) (fun h => ?_)
    · refine s_raise (x := .int (-1)) (ja_cons (j_neg j_int.td) ja_nil) ?_
      show r = _
      rw [e2, gradesOf, h2]
      simp only [if_pos (show (xs.length : Int) ≠ n by simpa using h)]
    · have hn : (xs.length : Int) = n := by simpa using h
      refine s_for (ji_enumS (b := b) (ja_cons (j_var rfl) ja_nil)) [2, 3] (fun i S => (∀ (j : Nat) y, j < i → xs[j]? = some y → (!isW y) = false) ∧ ∃ x2 x3, S = [.d (sqD b xs), .d (.int n), x2, x3])
        ⟨fun j y h => (Nat.not_lt_zero j h).elim, .un, .un, rfl⟩ (fun i d S2 hd hI => ?_) (fun S2 hI => ?_)
      · obtain ⟨hg, x2, x3, rfl⟩ := hI
        obtain ⟨x, hx, rfl⟩ := enD_inv hd
        have px := pv x (List.mem_of_getElem? hx)
        refine ⟨_, jg_tup (jgs_cons (jg_name (by simp)) (jgs_cons (jg_name (by simp)) jgs_nil)) rfl, ?_⟩
        refine s_if (b := !isW x) (jt_not (jt_test (j_call (x := .bool (isW x)) (ja_cons (j_var rfl) ja_nil) ⟨x, px, rfl, rfl⟩).td)) (fun h => ?_) (fun h => ?_)
        · refine s_raise (x := .int (i : Nat)) (ja_cons (j_var rfl) ja_nil) ?_
          show r = _
          rw [e2, gradesOf, h2]
          simp only [if_neg (show ¬ (xs.length : Int) ≠ n from fun z => z hn), fi_some hx h hg]
        · refine st_next ⟨fun j y hj hy => ?_, _, _, rfl⟩
          rcases Nat.lt_succ_iff_lt_or_eq.mp hj with hj | hj
          · exact hg j y hj hy
          · subst hj
            rw [hx] at hy
            cases hy
            exact h
      · obtain ⟨hg, x2, x3, rfl⟩ := hI
        rw [enD_len] at hg
        have e3 : r = .ok (.tuple xs) := by
          rw [e2, gradesOf, h2]
          simp only [if_neg (show ¬ (xs.length : Int) ≠ n from fun z => z hn), fi_none fun j y hy => hg j y (List.getElem?_eq_some_iff.mp hy).1 hy]
        exact s_retP (j_tupS (j_var rfl)) e3
def worldG (v : D) : Res := match itm v with
  | none => .error (eGrades (.int (-1)))
  | some xs => if 2 ≤ xs.length ∧ xs.length ≤ 6 then gradesOf v xs.length else .error (eGrades (.int (-1)))
def R_world_grades (ds : List D) (r : Res) : Prop := ∃ v, pl v = true ∧ ds = [v] ∧ r = worldG v
theorem len_R_world_grades : ∀ ds r, R_world_grades ds r → ds.length = 1 := fun ds r ⟨v, _, h, _⟩ => by rw [h]; rfl
theorem st_retX' {E : L2.St → XK} {S S' : List SD} {P : Post} {te : TE} {χ : XO} (h : J K E false te S S' (fun _ _ _ => False) χ) (hx : xin χ S P) : ST K E (tRet te) S P := st_retX h hx
abbrev s_world_grades : Stmt := top 20
theorem sc_world_grades : FnScope ["value"] ["value"] (defScope s_world_grades) := ⟨rfl, rfl, rfl, by decide +kernel, rfl, by decide +kernel, by decide +kernel⟩
theorem ok_world_grades (T : GlX mg K) (hF : ∃ fd, L2.Fun K "world_grades" "world_grades" s_world_grades (He.ga K "world_grades") fd) (hG : mg "world_grades" = some (.ref (He.ga K "world_grades"))) (F_grades_of : FO P w K mg base "grades_of" 3 ["value", "size"] (spD K R_grades_of)) (F_is_row : FO P w K mg base "is_row" 1 ["value"] (spD K R_is_row)) (E_BadGrades : EO P w K mg base "BadGrades" "at" "at") : FO P w K mg base "world_grades" 4 ["value"] (spD K R_world_grades) := by
  obtain ⟨fd, F⟩ := hF
  have n_len := T.n_len
  refine fo_make F hG (fun _ _ _ _ _ _ us hl => match us, hl with | [_], _ => rfl) sc_world_grades len_R_world_grades fun cdv A outer s H E0 hr tk => ⟨_, (pss_cons (ps_if (PW.pt (pw_or (pt_not (pt_val (pe_fo F_is_row (hr.mono (by decide)) (by rfl) tk (pa_cons (pv 0) pa_nil)))) (pw_or1 (pt_not (pt_chain op_le op_le pe_int (pe_callB call_len_seq (by rfl) n_len (by decide +kernel) (pa_cons (pv 0) pa_nil)) pe_int))))) (pss_one (ps_eo E_BadGrades rfl (hr.mono (by decide)) (by rfl) tk (pa_cons (pe_un un_neg pe_int) pa_nil))) pss_nil) (pss_one (ps_ret (pe_fo F_grades_of (hr.mono (by decide)) (by rfl) tk (pa_cons (pv 0) (pa_cons (pe_callB call_len_seq (by rfl) n_len (by decide +kernel) (pa_cons (pv 0) pa_nil)) pa_nil)))))), ?_⟩
  intro ds r ⟨v, hv, e1, e2⟩
  subst e1
  rcases row_cases v with ⟨h1, h2⟩ | ⟨b, xs, rfl, h1, h2⟩
  · refine s_guard (b := true) (jt_orT (jt_is (jt_not (jt_test (j_call (x := .bool (isRow v)) (ja_cons (j_var rfl) ja_nil) ⟨v, hv, rfl, rfl⟩).td)) (by rw [h1]; rfl))) (fun _ => ?_) (fun h => nomatch h)
    refine s_raise (x := .int (-1)) (ja_cons (j_neg j_int.td) ja_nil) ?_
    show r = _
    rw [e2, worldG, h2]
  · refine s_guard (b := !(decide ((2 : Int) ≤ xs.length) && decide ((xs.length : Int) ≤ 6))) (jt_orF (jt_is (jt_not (jt_test (j_call (x := .bool (isRow (sqD b xs))) (ja_cons (j_var rfl) ja_nil) ⟨sqD b xs, hv, rfl, rfl⟩).td)) (by rw [h1]; rfl))
      (jt_not (jt_B (j_chain j_int (j_ltS rfl) j_int rfl rfl).td))) (fun h => ?_) (fun h => ?_)
    · refine s_raise (x := .int (-1)) (ja_cons (j_neg j_int.td) ja_nil) ?_
      show r = _
      rw [e2, worldG, h2]
      have : ¬ (2 ≤ xs.length ∧ xs.length ≤ 6) := fun z => by
        have h' : (decide ((2 : Int) ≤ xs.length) && decide ((xs.length : Int) ≤ 6)) = true := by
          rw [Bool.and_eq_true]
          exact ⟨decide_eq_true (by omega), decide_eq_true (by omega)⟩
        rw [h'] at h
        cases h
      simp only [if_neg this]
    · have this : 2 ≤ xs.length ∧ xs.length ≤ 6 := by
        have h' : (decide ((2 : Int) ≤ xs.length) && decide ((xs.length : Int) ≤ 6)) = true := by simpa using h
        rw [Bool.and_eq_true] at h'
        have h3 := of_decide_eq_true h'.1
        have h4 := of_decide_eq_true h'.2
        omega
      have e3 : r = gradesOf (sqD b xs) xs.length := by
        rw [e2, worldG, h2]
        simp only [if_pos this]
      cases q : gradesOf (sqD b xs) xs.length with
      | ok x => exact s_retP (j_call (ja_cons (j_var rfl) (ja_cons (j_ltS rfl) ja_nil)) ⟨_, _, hv, rfl, q.symm⟩) (e3.trans q)
      | error x => exact st_retX' (j_callX (x := x) (ja_cons (j_var rfl) (ja_cons (j_ltS rfl) ja_nil)) ⟨_, _, hv, rfl, q.symm⟩) fun C f y z => show r = _ by rw [e3, q, z]
end
end DL
-- A3
namespace DL
open PySem PySem.Spec PyProof.Rows L2
theorem go_make {P : Program} {w : World} {K : PySem.W.Frag} {mg : Str → Option Value} {base : Heap} {nm qual : Str} {st : Stmt} {fd : FuncData} {N ps : List Str} {k : Nat} {R : List D → ResG → Prop} (F : L2.Fun K nm qual st (He.ga K nm) fd) (hG : mg nm = some (.ref (He.ga K nm))) (hb : BindH nm qual st ps)
    (Sc : GScope N ps (defScope st)) (len : ∀ ds r, R ds r → ds.length = ps.length)
    (body : ∀ (cdv : Value) (A : Around) (outer : List Env) (s : Shared) (H : Hp) (E0 : XK) (pn : List (Addr × Obj)), Room k (A.deeper (envOfC qual (defScope st) s.heap.objs.size (He.ga K nm) cdv)) →
      ∃ t, GSs (gcxOf P w K mg base N qual (defScope st) (He.ga K nm) cdv A outer s H E0 pn) (defBody st) t ∧ ∀ ds r, R ds r → SG K (fun _ => E0) t (ini N ds) [] (PRG r)) : GO P w K mg base nm (k + 1) ps (spGD K R) := by
  obtain ⟨oc, od, kV, doc, pm, an, cdv, ct, osl, e, lk, hcd⟩ := id F.ex
  subst e
  exact ⟨hG, F.kp, _, gfn_data lk hcd Sc len (fun A outer s H E0 pn hr => body cdv A outer s H E0 pn hr), binds_of F hb⟩
section
variable {P : Program} {w : World} {K : PySem.W.Frag} {mg : Str → Option Value} {base : Heap} {E : L2.St → XK} {m : Bool} {te : TE} {S S' : List SD} {χ : XO} {Q : Post}
theorem st_forX {g : TG} {t : TS} (h : J K E m te S S' (fun _ _ _ => False) χ) (hx : xin χ S Q) : ST K E (tFor (iTup K te) g t) S Q := fun De σ G H s gd => h σ G H s _ (fun _ _ _ _ _ _ z => z.elim) (gd.err hx s)
theorem s_forX {g : TG} {t u : TS} (h : J K E m te S S' (fun _ _ _ => False) χ) (hx : xin χ S Q) : ST K E (tSeq (tFor (iTup K te) g t) u) S Q := st_seq (fun _ => False) (st_forX h hx) fun _ z => z.elim
def Sh (n : Nat) (d : D) : Prop := d.canLay0 = true ∧ d.depth ≤ n
theorem Sh.ok {n : Nat} {d : D} (h : Sh n d) (hn : n ≤ 64) : SeqAt.shaped d = true := Bool.and_eq_true_iff.mpr ⟨h.1, decide_eq_true (Nat.le_trans h.2 hn)⟩
theorem sh_int {n : Nat} {i : Int} : Sh n (.int i) := ⟨by simp [PyData.canLay0], by simp [PyData.depth]⟩
theorem sh_bool {n : Nat} {i : Bool} : Sh n (.bool i) := ⟨by simp [PyData.canLay0], by simp [PyData.depth]⟩
theorem sh_none {n : Nat} : Sh n .none := ⟨by simp [PyData.canLay0], by simp [PyData.depth]⟩
theorem sh_str {n : Nat} {s : Str} (h : PyData.strOk s = true) : Sh n (.str s) := ⟨by simpa [PyData.canLay0] using h, by simp [PyData.depth]⟩
theorem sh_all {n : Nat} : ∀ {xs : List D}, (∀ x ∈ xs, Sh n x) → PyData.canLayAll0 xs = true ∧ PyData.depthAll xs ≤ n
  | [], _ => ⟨rfl, Nat.zero_le _⟩
  | x :: xs, h => by
    obtain ⟨h1, h2⟩ := sh_all (xs := xs) fun y hy => h y (List.mem_cons_of_mem _ hy)
    obtain ⟨h3, h4⟩ := h x List.mem_cons_self
    refine ⟨?_, ?_⟩
    · rw [PyData.canLayAll0, h3, h1]; rfl
    · rw [PyData.depthAll]; exact Nat.max_le.mpr ⟨h4, h2⟩
theorem sh_tup {n : Nat} {xs : List D} (h : ∀ x ∈ xs, Sh n x) : Sh (n + 1) (.tuple xs) := by
  obtain ⟨h1, h2⟩ := sh_all h
  exact ⟨by rw [PyData.canLay0]; exact h1, by rw [PyData.depth]; omega⟩
theorem sh_lst {n : Nat} {xs : List D} (h : ∀ x ∈ xs, Sh n x) : Sh (n + 1) (.list xs) := by
  obtain ⟨h1, h2⟩ := sh_all h
  exact ⟨by rw [PyData.canLay0]; exact h1, by rw [PyData.depth]; omega⟩
structure Mk3 where
  i : Nat
  j : Nat
  t : Bool
abbrev word (t : Bool) : Str := if t then wTake else wCall
abbrev dMi (m : Mk3) : List D := [.int (m.i : Nat), .int (m.j : Nat), .str (word m.t)]
abbrev dM (m : Mk3) : D := .tuple (dMi m)
def okM (n : Nat) (m : Mk3) : Prop := m.i < n ∧ m.j < n ∧ m.i ≠ m.j
abbrev dG (gs : List Int) : D := .tuple (gs.map PyData.int)
theorem word_ok (t : Bool) : PyData.strOk (word t) = true := by cases t <;> decide +kernel
theorem sh_G {gs : List Int} : Sh 1 (dG gs) := sh_tup fun x hx => by
  obtain ⟨i, _, rfl⟩ := List.mem_map.mp hx
  exact sh_int
theorem sh_M {m : Mk3} : Sh 1 (dM m) := sh_tup fun x hx => by
  rcases List.mem_cons.mp hx with rfl | hx
  · exact sh_int
  · rcases List.mem_cons.mp hx with rfl | hx
    · exact sh_int
    · rcases List.mem_cons.mp hx with rfl | hx
      · exact sh_str (word_ok _)
      · cases hx
def stepG (gs : List Int) (m : Mk3) : List Int := gs.set m.i (if m.t then gs.getD m.j 0 else if gs.getD m.j 0 > gs.getD m.i 0 then gs.getD m.j 0 else gs.getD m.i 0)
theorem stepG_len (gs : List Int) (m : Mk3) : (stepG gs m).length = gs.length := by simp [stepG]
def runG : List Int → List Mk3 → List Int
  | gs, [] => gs
  | gs, m :: ms => runG (stepG gs m) ms
theorem atI_nat {α : Type} {xs : List α} {k : Nat} {x : α} (h : xs[k]? = some x) : atI xs (k : Int) = some x := by
  have hk := (List.getElem?_eq_some_iff.mp h).1
  unfold atI ixN
  rw [if_pos (by omega), if_pos (by omega)]
  simpa using h
theorem cut_lo {xs : List D} {k : Nat} (h : k ≤ xs.length) : cutD xs none (some (k : Int)) = xs.take k := by
  unfold cutD
  rw [HT.sIx_none, HT.sIx_nat, Nat.min_eq_left h]
  simp
theorem cut_hi {xs : List D} {k : Nat} (h : k ≤ xs.length) : cutD xs (some (k : Int)) none = xs.drop k := by
  unfold cutD
  rw [HT.sIx_none, HT.sIx_nat, Nat.min_eq_left h]
  rw [List.take_of_length_le (by simp)]
theorem get_map {gs : List Int} {k : Nat} (h : k < gs.length) : (gs.map PyData.int)[k]? = some (.int (gs.getD k 0)) := by
  rw [List.getElem?_map, List.getElem?_eq_getElem h]
  simp [List.getD, List.getElem?_eq_getElem h]
theorem eqv_str {a b : Str} : PyData.eqv (.str a) (.str b) = (a == b) := by simp [PyData.eqv]
theorem word_take (t : Bool) : (word t == wTake) = t := by cases t <;> decide +kernel
theorem word_call (t : Bool) : (word t == wCall) = !t := by cases t <;> decide +kernel
def R_after_mark (ds : List D) (r : Res) : Prop := ∃ gs m, okM gs.length m ∧ gs.length ≤ 6 ∧ ds = [dG gs, dM m] ∧ r = .ok (dG (stepG gs m))
theorem len_R_after_mark : ∀ ds r, R_after_mark ds r → ds.length = 2 := fun ds r ⟨_, _, _, _, h, _⟩ => by rw [h]; rfl
abbrev s_after_mark : Stmt := top 21
theorem sc_after_mark : FnScope ["grades", "mark", "i", "j", "word", "copied"] ["grades", "mark"] (defScope s_after_mark) := ⟨rfl, rfl, rfl, by decide +kernel, rfl, by decide +kernel, by decide +kernel⟩
theorem ok_after_mark (T : GlX mg K) (hF : ∃ fd, L2.Fun K "after_mark" "after_mark" s_after_mark (He.ga K "after_mark") fd) (hG : mg "after_mark" = some (.ref (He.ga K "after_mark"))) : FO P w K mg base "after_mark" 1 ["grades", "mark"] (spD K R_after_mark) := by
  obtain ⟨fd, F⟩ := hF
  have n_max := T.n_max
  refine fo_make F hG (fun _ _ _ _ _ _ us hl => match us, hl with | [_, _], _ => rfl) sc_after_mark len_R_after_mark fun cdv A outer s H E0 hr tk => ⟨_, (pss_cons (ps_asg (pv 1) (pg_tup rfl (pgs_cons (pg_name (i := 2) sc_after_mark.nd rfl (Or.inl rfl)) (pgs_cons (pg_name (i := 3) sc_after_mark.nd rfl (Or.inl rfl)) (pgs_cons (pg_name (i := 4) sc_after_mark.nd rfl (Or.inl rfl)) pgs_nil))))) (pss_cons (ps_set (i := 5) sc_after_mark.nd rfl (Or.inl rfl) (pe_ifExp (pt_cmpR (op_eqD hr.units) (pv 4) pe_str (nomark _)) (pe_ix ix_tup (pv 0) (pv 3) (fun _ _ => rfl)) (pe_callB (call_max2 rfl) (by rfl) n_max (by decide +kernel) (pa_cons (pe_ix ix_tup (pv 0) (pv 2) (fun _ _ => rfl)) (pa_cons (pe_ix ix_tup (pv 0) (pv 3) (fun _ _ => rfl)) pa_nil))))) (pss_one (ps_ret (pe_op op_catA (pe_op op_catA (pe_slice sl_tupA (pv 0) po_none (po_some (pv 2))) (pe_tup (pa_cons (pv 5) pa_nil))) (pe_slice sl_tupA (pv 0) (po_some (pe_op op_add (pv 2) pe_int)) po_none)))))), ?_⟩
  intro ds r ⟨gs, m, hm, hl, e1, e2⟩
  subst e1 e2
  obtain ⟨h1, h2, h3⟩ := hm
  refine s_tgt (vs := [2, 3, 4]) [.d (dG gs), .d (dM m), .d (.int (m.i : Nat)), .d (.int (m.j : Nat)), .d (.str (word m.t)), .un] (j_var rfl) (jg_tup (jgs_cons (jg_name (by simp)) (jgs_cons (jg_name (by simp)) (jgs_cons (jg_name (by simp)) jgs_nil))) rfl) ?_
  refine s_set [.d (dG gs), .d (dM m), .d (.int (m.i : Nat)), .d (.int (m.j : Nat)), .d (.str (word m.t)), .d (.int (if m.t then gs.getD m.j 0 else if gs.getD m.j 0 > gs.getD m.i 0 then gs.getD m.j 0 else gs.getD m.i 0))]
    (j_is (j_if (b := m.t) (x := .int (gs.getD m.j 0)) (y := .int (if gs.getD m.j 0 > gs.getD m.i 0 then gs.getD m.j 0 else gs.getD m.i 0)) (jt_is (jt_B (j_op (j_var rfl) j_str.td (opv_eqD ((sh_str (word_ok _) (n := 0)).ok (by decide)) ((sh_str (by decide +kernel) (n := 0)).ok (by decide)))).td) (by rw [eqv_str]; exact word_take _))
      (fun _ => j_ixT (j_var rfl) (j_var rfl).td (atI_nat (get_map h2)))
      (fun _ => j_cb (JA.td (ja_cons (j_ixT (j_var rfl) (j_var rfl).td (atI_nat (get_map h1))) (ja_cons (j_ixT (j_var rfl) (j_var rfl).td (atI_nat (get_map h2))) ja_nil))) cb_max2)) (by cases m.t <;> rfl)) rfl ?_
  refine s_retP (j_is (j_catT (j_catT (j_slT (lo := none) (hi := some (m.i : Int)) (j_var rfl) jo_none (jo_some (j_var rfl).td)) (j_tup (ja_cons (j_var rfl) ja_nil) (by show 1 ≤ _; rw [sizeLine_eq]; decide)) ?_)
    (j_slT (lo := some ((m.i : Int) + 1)) (hi := none) (j_var rfl) (jo_some (j_op (j_var rfl) j_int.td opv_i0).td) jo_none) ?_) ?_) rfl
  · rw [cut_lo (by simp; omega)]
    rw [sizeLine_eq]
    simp
    omega
  · rw [cut_lo (by simp; omega), show ((m.i : Int) + 1) = ((m.i + 1 : Nat) : Int) by omega, cut_hi (by simp; omega)]
    rw [sizeLine_eq]
    simp
    omega
  · rw [cut_lo (by simp; omega), show ((m.i : Int) + 1) = ((m.i + 1 : Nat) : Int) by omega, cut_hi (by simp; omega)]
    unfold dG stepG
    rw [List.set_eq_take_append_cons_drop, if_pos h1]
    simp
def startOf (g v : D) : Except Exn (List D × List D) := match worldG g with
  | .error e => .error e
  | .ok gd => match itm gd with
    | none => .error (eGrades .none)
    | some gs => match marksOf v gs.length with
      | .error e => .error e
      | .ok md => match itm md with
        | none => .error (eMark .none)
        | some ms => .ok (gs, ms)
structure Goes (g v : D) (gs : List Int) (ms : List Mk3) : Prop where
  g : worldG g = .ok (dG gs)
  l : 2 ≤ gs.length ∧ gs.length ≤ 6
  v : marksOf v gs.length = .ok (.tuple (ms.map dM))
  ok : ∀ m ∈ ms, okM gs.length m
structure Arg (g v : D) : Prop where
  pg : pl g = true
  pv : pl v = true
  z : ∀ xs, itm v = some xs → xs.length < sizeLine
def R_end_grades (ds : List D) (r : Res) : Prop := ∃ g v, Arg g v ∧ ds = [g, v] ∧
  ((∃ e, worldG g = .error e ∧ r = .error e) ∨ (∃ gs e, worldG g = .ok (dG gs) ∧ marksOf v gs.length = .error e ∧ r = .error e) ∨ ∃ gs ms, Goes g v gs ms ∧ r = .ok (dG (runG gs ms)))
theorem len_R_end_grades : ∀ ds r, R_end_grades ds r → ds.length = 2 := fun ds r ⟨_, _, _, h, _⟩ => by rw [h]; rfl
theorem runG_take {gs : List Int} : ∀ {ms : List Mk3} {i : Nat} {m : Mk3}, ms[i]? = some m → runG gs (ms.take (i + 1)) = stepG (runG gs (ms.take i)) m := by
  intro ms
  induction ms generalizing gs with
  | nil => intro i m h; simp at h
  | cons a ms ih =>
    intro i m h
    cases i with
    | zero =>
      cases h
      rfl
    | succ i => exact ih (gs := stepG gs a) (by simpa using h)
theorem runG_len : ∀ (ms : List Mk3) (gs : List Int), (runG gs ms).length = gs.length
  | [], _ => rfl
  | m :: ms, gs => by rw [runG, runG_len ms, stepG_len]
theorem j_ltT {S : List SD} {xs : List D} {i : Nat} (h : S[i]? = some (.d (.tuple xs))) : J K E false (tCB (rLenQ K) (tCons (tVar i) tNil)) S S (DL.dd K (.int xs.length)) nox := j_cb (ja_one (j_var h).td) cb_lenT
abbrev s_end_grades : Stmt := top 23
theorem sc_end_grades : FnScope ["grades", "marks", "now", "mark"] ["grades", "marks"] (defScope s_end_grades) := ⟨rfl, rfl, rfl, by decide +kernel, rfl, by decide +kernel, by decide +kernel⟩
theorem ok_end_grades (T : GlX mg K) (hF : ∃ fd, L2.Fun K "end_grades" "end_grades" s_end_grades (He.ga K "end_grades") fd) (hG : mg "end_grades" = some (.ref (He.ga K "end_grades"))) (F_marks_of : FO P w K mg base "marks_of" 4 ["marks", "size"] (spD K R_marks_of)) (F_after_mark : FO P w K mg base "after_mark" 1 ["grades", "mark"] (spD K R_after_mark)) (F_world_grades : FO P w K mg base "world_grades" 4 ["value"] (spD K R_world_grades)) : FO P w K mg base "end_grades" 5 ["grades", "marks"] (spD K R_end_grades) := by
  obtain ⟨fd, F⟩ := hF
  have n_len := T.n_len
  refine fo_make F hG (fun _ _ _ _ _ _ us hl => match us, hl with | [_, _], _ => rfl) sc_end_grades len_R_end_grades fun cdv A outer s H E0 hr tk => ⟨_, (pss_cons (ps_set (i := 2) sc_end_grades.nd rfl (Or.inl rfl) (pe_fo F_world_grades (hr.mono (by decide)) (by rfl) tk (pa_cons (pv 0) pa_nil))) (pss_cons (ps_for (passes_of rfl) rfl (pi_tup (pe_fo F_marks_of (hr.mono (by decide)) (by rfl) tk (pa_cons (pv 1) (pa_cons (pe_callB call_len_seq (by rfl) n_len (by decide +kernel) (pa_cons (pv 2) pa_nil)) pa_nil)))) (pg_name (i := 3) sc_end_grades.nd rfl (Or.inl rfl)) (pss_one (ps_set (i := 2) sc_end_grades.nd rfl (Or.inl rfl) (pe_fo F_after_mark (hr.mono (by decide)) (by rfl) tk (pa_cons (pv 2) (pa_cons (pv 3) pa_nil)))))) (pss_one (ps_ret (pv 2))))), ?_⟩
  intro ds r ⟨g, v, ha, e1, h⟩
  subst e1
  rcases h with ⟨e, h1, rfl⟩ | ⟨gs, e, h1, h2, rfl⟩ | ⟨gs, ms, hg, rfl⟩
  · exact s_setX (j_callX (x := e) (ja_cons (j_var rfl) ja_nil) ⟨g, ha.pg, rfl, h1.symm⟩) fun C f y z => show _ = _ by rw [z]
  · refine s_set [.d g, .d v, .d (dG gs), .un] (j_call (ja_cons (j_var rfl) ja_nil) ⟨g, ha.pg, rfl, h1.symm⟩) rfl ?_
    exact s_forX (m := false) (j_callX (x := e) (ja_cons (j_var rfl) (ja_cons (j_ltT rfl) ja_nil)) ⟨v, _, ha.pv, ha.z, rfl, by rw [List.length_map]; exact h2.symm⟩) fun C f y z => show _ = _ by rw [z]
  · refine s_set [.d g, .d v, .d (dG gs), .un] (j_call (ja_cons (j_var rfl) ja_nil) ⟨g, ha.pg, rfl, hg.g.symm⟩) rfl ?_
    refine s_for (ji_tup (j_call (ja_cons (j_var rfl) (ja_cons (j_ltT rfl) ja_nil)) ⟨v, _, ha.pv, ha.z, rfl, by rw [List.length_map]; exact hg.v.symm⟩)) [3] (fun i S => ∃ x, S = [.d g, .d v, .d (dG (runG gs (ms.take i))), x])
      ⟨_, rfl⟩ (fun i d S2 hd hI => ?_) (fun S2 hI => ?_)
    · obtain ⟨x, rfl⟩ := hI
      rw [List.getElem?_map] at hd
      cases q : ms[i]? with
      | none => rw [q] at hd; cases hd
      | some mk =>
        rw [q] at hd
        cases hd
        refine ⟨_, jg_name (by simp), ?_⟩
        have hok := hg.ok mk (List.mem_of_getElem? q)
        have hl := runG_len (ms.take i) gs
        refine st_set (m := false) (x := dG (runG gs (ms.take (i + 1)))) (j_call (ja_cons (j_var rfl) (ja_cons (j_var rfl) ja_nil)) ⟨runG gs (ms.take i), mk, by rw [hl]; exact hok, by rw [hl]; exact hg.l.2, rfl, by rw [runG_take q]⟩) ⟨_, rfl⟩ xin_no
    · obtain ⟨x, rfl⟩ := hI
      rw [List.length_map, List.take_length]
      exact s_retP (j_var rfl) rfl
def statesL : List Int → List Mk3 → List (List Int)
  | gs, [] => [gs]
  | gs, m :: ms => gs :: statesL (stepG gs m) ms
theorem statesL_len : ∀ (ms : List Mk3) (gs : List Int), (statesL gs ms).length = ms.length + 1
  | [], _ => rfl
  | m :: ms, gs => by rw [statesL, List.length_cons, statesL_len ms, List.length_cons]
theorem statesL_get : ∀ (ms : List Mk3) (gs : List Int) (i : Nat), i ≤ ms.length → (statesL gs ms)[i]? = some (runG gs (ms.take i))
  | [], gs, i, h => by
    have : i = 0 := by simpa using h
    subst this
    rfl
  | m :: ms, gs, 0, _ => rfl
  | m :: ms, gs, i + 1, h => by
    rw [statesL, List.getElem?_cons_succ, statesL_get ms _ i (by simpa using h)]
    rfl
theorem statesL_take {gs : List Int} {ms : List Mk3} {i : Nat} {m : Mk3} (h : ms[i]? = some m) : (statesL gs ms).take (i + 2) = (statesL gs ms).take (i + 1) ++ [runG gs (ms.take (i + 1))] := by
  rw [List.take_add_one, statesL_get ms gs (i + 1) (List.getElem?_eq_some_iff.mp h).1]
  rfl
def R_states (ds : List D) (r : ResG) : Prop := ∃ g v, Arg g v ∧ ds = [g, v] ∧
  ((∃ e, worldG g = .error e ∧ r = .error e) ∨ (∃ gs e, worldG g = .ok (dG gs) ∧ marksOf v gs.length = .error e ∧ r = .error e) ∨ ∃ gs ms, Goes g v gs ms ∧ ms.length < 1000 ∧ r = .ok ((statesL gs ms).map dG))
theorem len_R_states : ∀ ds r, R_states ds r → ds.length = 2 := fun ds r ⟨_, _, _, h, _⟩ => by rw [h]; rfl
theorem sgp_set {PG : PostG} {t : TGn} {ys : List D} {x : D} {i : Nat} (S1 : List SD) (h : J K E false te S S (DL.dd K x) nox) (e : S.set i (.d x) = S1) (k : SG K E t S1 ys PG) : SG K E (tGThen (tPlain (tAsg te (gName i))) t) S ys PG :=
  sg_then1 S1 ys (sg_plain (st_set h ⟨e, rfl⟩ xin_no)) k
theorem sgp_setX {PG : PostG} {t : TGn} {ys : List D} {g : TG} (h : J K E false te S S' (fun _ _ _ => False) χ) (hx : xinG χ S PG) : SG K E (tGThen (tPlain (tAsg te g)) t) S ys PG :=
  sg_then (fun _ _ => False) (sg_plain (st_asgX h hx)) fun _ _ z => z.elim
abbrev s_states : Stmt := top 22
theorem sc_states : GScope ["grades", "marks", "now", "told", "mark"] ["grades", "marks"] (defScope s_states) := ⟨rfl, rfl, rfl, by decide +kernel, rfl, by decide +kernel, by decide +kernel⟩
theorem ok_states (T : GlX mg K) (hF : ∃ fd, L2.Fun K "states" "states" s_states (He.ga K "states") fd) (hG : mg "states" = some (.ref (He.ga K "states"))) (F_after_mark : FO P w K mg base "after_mark" 1 ["grades", "mark"] (spD K R_after_mark)) (F_marks_of : FO P w K mg base "marks_of" 4 ["marks", "size"] (spD K R_marks_of)) (F_world_grades : FO P w K mg base "world_grades" 4 ["value"] (spD K R_world_grades)) : GO P w K mg base "states" 5 ["grades", "marks"] (spGD K R_states) := by
  obtain ⟨fd, F⟩ := hF
  have n_len := T.n_len
  refine go_make F hG (fun _ _ _ _ _ _ us hl => match us, hl with | [_, _], _ => rfl) sc_states len_R_states fun cdv A outer s H E0 pn hr => ⟨_, (gss_cons (gs_ps (ps_set (i := 2) sc_states.nd rfl (Or.inl rfl) (pe_fo F_world_grades (hr.mono (by decide)) (by rfl) takes_gcx (pa_cons (pv 0) pa_nil)))) (gss_cons (gs_ps (ps_set (i := 3) sc_states.nd rfl (Or.inl rfl) (pe_fo F_marks_of (hr.mono (by decide)) (by rfl) takes_gcx (pa_cons (pv 1) (pa_cons (pe_callB call_len_seq (by rfl) n_len (by decide +kernel) (pa_cons (pv 2) pa_nil)) pa_nil))))) (gss_cons (gs_yield (pv 2)) (gss_cons (gs_for owns_gcx rfl (pi_tup (pv 3)) (pg_name (i := 4) sc_states.nd rfl (Or.inl rfl)) (gss_cons (gs_ps (ps_set (i := 2) sc_states.nd rfl (Or.inl rfl) (pe_fo F_after_mark (hr.mono (by decide)) (by rfl) takes_gcx (pa_cons (pv 2) (pa_cons (pv 4) pa_nil))))) (gss_cons (gs_yield (pv 2)) gss_nil))) gss_nil)))), ?_⟩
  intro ds r ⟨g, v, ha, e1, h⟩
  subst e1
  rcases h with ⟨e, h1, rfl⟩ | ⟨gs, e, h1, h2, rfl⟩ | ⟨gs, ms, hg, hz, rfl⟩
  · exact sgp_setX (j_callX (x := e) (ja_cons (j_var rfl) ja_nil) ⟨g, ha.pg, rfl, h1.symm⟩) fun C f y z => show _ = _ by rw [z]
  · refine sgp_set [.d g, .d v, .d (dG gs), .un, .un] (j_call (ja_cons (j_var rfl) ja_nil) ⟨g, ha.pg, rfl, h1.symm⟩) rfl ?_
    exact sgp_setX (j_callX (x := e) (ja_cons (j_var rfl) (ja_cons (j_ltT rfl) ja_nil)) ⟨v, _, ha.pv, ha.z, rfl, by rw [List.length_map]; exact h2.symm⟩) fun C f y z => show _ = _ by rw [z]
  · refine sgp_set [.d g, .d v, .d (dG gs), .un, .un] (j_call (ja_cons (j_var rfl) ja_nil) ⟨g, ha.pg, rfl, hg.g.symm⟩) rfl ?_
    refine sgp_set [.d g, .d v, .d (dG gs), .d (.tuple (ms.map dM)), .un] (j_call (ja_cons (j_var rfl) (ja_cons (j_ltT rfl) ja_nil)) ⟨v, _, ha.pv, ha.z, rfl, by rw [List.length_map]; exact hg.v.symm⟩) rfl ?_
    refine sg_then1 [.d g, .d v, .d (dG gs), .d (.tuple (ms.map dM)), .un] [dG gs] (sg_yield (m := false) (j_var rfl) (by rw [sizeLine_eq]; decide) ⟨rfl, rfl⟩) ?_
    refine sg_then (fun S ys => ys = (statesL gs ms).map dG) (sg_for (vs := [4]) (m := false) (χ := nox) (ji_tup (j_var rfl)) (fun C f y z => False.elim z) (fun i S ys => (∃ x, S = [.d g, .d v, .d (dG (runG gs (ms.take i))), .d (.tuple (ms.map dM)), x]) ∧ ys = ((statesL gs ms).take (i + 1)).map dG)
      ⟨⟨_, rfl⟩, ?_⟩ (fun i d S2 ys2 hd hI => ?_) (fun S2 ys2 hI => ?_)) fun S1 ys1 e => sg_nil ?_
    · cases ms <;> rfl
    · obtain ⟨⟨x, rfl⟩, rfl⟩ := hI
      rw [List.getElem?_map] at hd
      cases q : ms[i]? with
      | none => rw [q] at hd; cases hd
      | some mk =>
        rw [q] at hd
        cases hd
        refine ⟨_, jg_name (by simp), ?_⟩
        have hok := hg.ok mk (List.mem_of_getElem? q)
        have hl := runG_len (ms.take i) gs
        refine sgp_set (x := dG (runG gs (ms.take (i + 1)))) [.d g, .d v, .d (dG (runG gs (ms.take (i + 1)))), .d (.tuple (ms.map dM)), .d (dM mk)] (j_call (ja_cons (j_var rfl) (ja_cons (j_var rfl) ja_nil)) ⟨runG gs (ms.take i), mk, by rw [hl]; exact hok, by rw [hl]; exact hg.l.2, rfl, by rw [runG_take q]⟩) rfl ?_
        refine sg_then1 _ _ (sg_yield (m := false) (j_var rfl) (by rw [List.length_map, List.length_take, statesL_len, sizeLine_eq]; omega) ⟨rfl, rfl⟩) (sg_nil ⟨⟨_, rfl⟩, ?_⟩)
        rw [statesL_take q, List.map_append]
        rfl
    · obtain ⟨⟨x, rfl⟩, rfl⟩ := hI
      show _ = _
      rw [List.length_map, List.take_of_length_le (by rw [statesL_len]; exact Nat.le_refl _)]
    · show _ = _
      rw [e]
end
end DL
-- A4
namespace DL
open PySem PySem.Spec PyProof.Rows L2
section
variable {P : Program} {w : World} {K : PySem.W.Frag} {mg : Str → Option Value} {base : Heap} {E : L2.St → XK} {m : Bool} {te : TE} {tt : TT} {wi : TI} {g : TG} {S S' : List SD} {χ : XO} {ds : List D}
theorem unl1 {k : Nat} {d : D} (h : S[k]? = some .un) : unl (S.set k (.d d)) [k] = S := by
  show (S.set k (.d d)).set k .un = S
  rw [List.set_set]
  apply List.ext_getElem?
  intro j
  by_cases c : k = j
  · subst c
    rw [List.getElem?_set_self', h]
    rfl
  · rw [List.getElem?_set_ne c]
theorem un1 {k : Nat} (h : S[k]? = some .un) : ∀ j ∈ [k], ∀ z, S[j]? = some z → z = .un := fun j hj z e => by
  rw [List.mem_singleton.mp hj, h] at e
  exact (Option.some.inj e).symm
theorem range_take_map {α : Type} (y : Nat → α) (i : Nat) : (List.range (i + 1)).map y = (List.range i).map y ++ [y i] := by
  rw [List.range_succ, List.map_append]
  rfl
theorem jl_map {k : Nat} (h : JI K E m wi S S ds χ) (hk : S[k]? = some .un) (y : Nat → D) (turn : ∀ i d, ds[i]? = some d → J K E m te (S.set k (.d d)) (S.set k (.d d)) (DL.dd K (y i)) nox) (hl : ds.length ≤ sizeLine) :
    JL K E m (tLc wi (gName k) tYes te [k]) S S ((List.range ds.length).map y) χ :=
  jl_lc h (fun _ => S) (fun i => (List.range i).map y) rfl rfl (fun _ _ => un1 hk) (fun i d hd => ⟨S.set k (.d d), jg_name (by simp), .inr ⟨S.set k (.d d), S.set k (.d d), y i, jt_yes, turn i d hd, unl1 hk, range_take_map y i⟩⟩) hl
theorem jl_filt {k : Nat} (h : JI K E m wi S S ds χ) (hk : S[k]? = some .un) (b : Nat → Bool) (y : Nat → D) (turn : ∀ i d, ds[i]? = some d → JT K E m tt (S.set k (.d d)) (S.set k (.d d)) (b i) nox ∧ (b i = true → J K E m te (S.set k (.d d)) (S.set k (.d d)) (DL.dd K (y i)) nox)) (hl : ds.length ≤ sizeLine) :
    JL K E m (tLc wi (gName k) tt te [k]) S S (((List.range ds.length).filter b).map y) χ :=
  jl_lc h (fun _ => S) (fun i => ((List.range i).filter b).map y) rfl rfl (fun _ _ => un1 hk) (fun i d hd => ⟨S.set k (.d d), jg_name (by simp), by
    obtain ⟨h1, h2⟩ := turn i d hd
    cases q : b i with
    | false =>
      rw [q] at h1
      exact .inl ⟨_, h1, unl1 hk, by rw [List.range_succ, List.filter_append]; simp [q]⟩
    | true =>
      rw [q] at h1
      exact .inr ⟨_, _, y i, h1, h2 q, unl1 hk, by rw [List.range_succ, List.filter_append]; simp [q]⟩⟩) hl
theorem eqv_G : ∀ (a b : List Int), PyData.eqvAll (a.map PyData.int) (b.map PyData.int) = decide (a = b)
  | [], [] => by simp [PyData.eqvAll]
  | [], b :: bs => by simp [PyData.eqvAll]
  | a :: as, [] => by simp [PyData.eqvAll]
  | a :: as, b :: bs => by
    rw [List.map_cons, List.map_cons, PyData.eqvAll, eqv_int, eqv_G as bs]
    by_cases h : a = b <;> simp [h]
theorem eqv_GT {a b : List Int} : PyData.eqv (dG a) (dG b) = decide (a = b) := by rw [PyData.eqv, eqv_G]
def effL (gs : List Int) (ms : List Mk3) : List Bool := (List.range ms.length).map fun k => !decide (runG gs (ms.take k) = runG gs (ms.take (k + 1)))
def R_effective (ds : List D) (r : Res) : Prop := ∃ g v, Arg g v ∧ ds = [g, v] ∧ ∃ gs ms, Goes g v gs ms ∧ ms.length < 1000 ∧ r = .ok (.tuple ((effL gs ms).map PyData.bool))
theorem len_R_effective : ∀ ds r, R_effective ds r → ds.length = 2 := fun ds r ⟨_, _, _, h, _⟩ => by rw [h]; rfl
theorem states_at {gs : List Int} {ms : List Mk3} {k : Nat} (h : k ≤ ms.length) : atI ((statesL gs ms).map dG) (k : Int) = some (dG (runG gs (ms.take k))) :=
  atI_nat (by rw [List.getElem?_map, statesL_get ms gs k h]; rfl)
abbrev s_effective : Stmt := top 24
theorem sc_effective : FnScope ["grades", "marks", "rows", "at"] ["grades", "marks"] (defScope s_effective) := ⟨rfl, rfl, rfl, by decide +kernel, rfl, by decide +kernel, by decide +kernel⟩
theorem ok_effective (T : GlX mg K) (hF : ∃ fd, L2.Fun K "effective" "effective" s_effective (He.ga K "effective") fd) (hG : mg "effective" = some (.ref (He.ga K "effective"))) (G_states : GO P w K mg base "states" 5 ["grades", "marks"] (spGD K R_states)) : FO P w K mg base "effective" 9 ["grades", "marks"] (spD K R_effective) := by
  obtain ⟨fd, F⟩ := hF
  have n_tuple := T.n_tuple
  have n_range := T.n_range
  have n_len := T.n_len
  have n_list := T.n_list
  refine fo_make F hG (fun _ _ _ _ _ _ us hl => match us, hl with | [_, _], _ => rfl) sc_effective len_R_effective fun cdv A outer s H E0 hr tk => ⟨_, (pss_cons (ps_set (i := 2) sc_effective.nd rfl (Or.inr rfl) (pe_go G_states (hr.mono (by decide)) (by rfl) (by rfl) n_list tk (pa_cons (pv 0) (pa_cons (pv 1) pa_nil)))) (pss_one (ps_ret (pe_callTy call_tuple_of (by rfl) n_tuple (by decide +kernel) (pa_cons (pe_lc (own := [("at", 3)]) (g := gName 3) (tt := tYes) rfl sc_effective.nd (pi_range1 (by rfl) n_range (pa_cons (pe_op op_sub (pe_callB call_len_seq (by rfl) n_len (by decide +kernel) (pa_cons (pv 2) pa_nil)) pe_int) pa_nil)) (blkOk_by (N := ["grades", "marks", "rows", "at"]) (sc := defScope s_effective) (by decide +kernel)) (fun _ _ _ _ _ => (pg_name (i := 3) sc_effective.nd rfl (Or.inl rfl))) (fun _ _ _ _ _ => pts_nil) (fun _ _ _ _ _ => (pe_cmpR ((op_neD hr.units) : OpR _ (compareOp .NotEq) (rNeD K)) (pe_ix (ix_list : IxR _ (rIxL K)) (pv 2) (pv 3) (fun _ _ => rfl)) (pe_ix (ix_list : IxR _ (rIxL K)) (pv 2) (pe_op op_add (pv 3) pe_int) (fun _ _ => rfl)) (nomark _)))) pa_nil))))), ?_⟩
  intro ds r ⟨g, v, ha, e1, gs, ms, hg, hz, e2⟩
  subst e1 e2
  refine s_set [.d g, .d v, .d (.list ((statesL gs ms).map dG)), .un] (jl_listG (ja_cons (j_var rfl) (ja_cons (j_var rfl) ja_nil)) ⟨g, v, ha, rfl, .inr (.inr ⟨gs, ms, hg, hz, rfl⟩)⟩).dd rfl ?_
  have hl : ((statesL gs ms).map dG).length = ms.length + 1 := by rw [List.length_map, statesL_len]
  have hn : (((((statesL gs ms).map dG).length : Nat) : Int) - 1).toNat = ms.length := by rw [hl]; omega
  refine s_retP (j_is (j_tupL (jl_map (k := 3) (ds := rgD 0 (((((statesL gs ms).map dG).length : Nat) : Int) - 1).toNat) (ji_rng1 (JA.td (ja_cons (j_op (j_cb (ja_one (j_var rfl).td) cb_lenL) j_int.td opv_i0) ja_nil)) (by rw [hl]; omega) (by omega)) rfl (fun k => .bool (!decide (runG gs (ms.take k) = runG gs (ms.take (k + 1))))) (fun k d hd => ?_) ?_).sdL) ?_) rfl
  · have hk : k < ms.length := by
      have := (List.getElem?_eq_some_iff.mp hd).1
      rw [rgD_len, hn] at this
      exact this
    rw [hn, rgD_get hk] at hd
    cases hd
    rw [Int.zero_add]
    exact j_is (j_op (j_ixL (j_var rfl) (j_var rfl).td (states_at (Nat.le_of_lt hk))) (j_ixL (j_var rfl) (j_op (j_var rfl) j_int.td opv_i0).td (by rw [show ((k : Nat) : Int) + 1 = ((k + 1 : Nat) : Int) by omega]; exact states_at hk)).td (opv_neD (sh_G.ok (by decide)) (sh_G.ok (by decide)))) (by rw [eqv_GT])
  · rw [rgD_len, hn, sizeLine_eq]
    omega
  · rw [rgD_len, hn]
    unfold effL
    rw [List.map_map]
    rfl
end
end DL
-- A5
namespace DL
open PySem PySem.Spec PyProof.Rows L2
section
variable {P : Program} {w : World} {K : PySem.W.Frag} {mg : Str → Option Value} {base : Heap}
theorem shr_nat (m p : Nat) : (m : Int) / 2 ^ ((p : Nat) : Int).toNat = ((m / 2 ^ p : Nat) : Int) := by
  rw [Int.toNat_natCast]
  norm_cast
theorem bit_at (m p : Nat) : (Builtin.bitAnd ((m : Int) / 2 ^ ((p : Nat) : Int).toNat) 1 == 1) = m.testBit p := by
  rw [shr_nat, show (1 : Int) = ((1 : Nat) : Int) from rfl, PySem.W.os_band, Nat.and_one_is_mod, Nat.testBit_eq_decide_div_mod_eq]
  by_cases h : m / 2 ^ p % 2 = 1
  · rw [h]; simp
  · have : m / 2 ^ p % 2 = 0 := by omega
    rw [this]
    simp
def bitsN (m : Nat) : Nat := Builtin.Int.intBits (m : Int)
def lotN (m : Nat) : List Nat := (List.range (bitsN m)).filter m.testBit
abbrev dL (ps : List Nat) : D := .tuple (ps.map fun p => .int (p : Nat))
theorem bitsN_lt (m : Nat) : m < 2 ^ bitsN m := by
  unfold bitsN Builtin.Int.intBits
  by_cases h : m = 0
  · subst h; decide
  · rw [if_neg (by simpa using h)]
    simpa using Nat.lt_log2_self
theorem mem_lotN {m p : Nat} : p ∈ lotN m ↔ m.testBit p = true := by
  unfold lotN
  rw [List.mem_filter, List.mem_range]
  refine ⟨fun h => h.2, fun h => ⟨?_, h⟩⟩
  by_cases c : p < bitsN m
  · exact c
  · have := Nat.testBit_lt_two_pow (Nat.lt_of_lt_of_le (bitsN_lt m) (Nat.pow_le_pow_right (by decide) (Nat.not_lt.mp c)))
    rw [this] at h
    cases h
theorem bitsN_le {m k : Nat} (h : m < 2 ^ k) : bitsN m ≤ k := by
  unfold bitsN
  exact intBits_le_iff.mpr (by simpa using h)
def R_lot_in (ds : List D) (r : Res) : Prop := ∃ m : Nat, m < 2 ^ 64 ∧ ds = [.int (m : Nat)] ∧ r = .ok (dL (lotN m))
theorem len_R_lot_in : ∀ ds r, R_lot_in ds r → ds.length = 1 := fun ds r ⟨_, _, h, _⟩ => by rw [h]; rfl
theorem jt_bit {E : L2.St → XK} {S : List SD} {i j : Nat} {m p : Nat} (h1 : S[i]? = some (.d (.int (m : Nat)))) (h2 : S[j]? = some (.d (.int (p : Nat)))) :
    JT K E false (tB (tOp (rEqD K) (tOp (rI0 fun i j => V.int (Builtin.bitAnd i j)) (tOp (rI (fun _ j => 0 ≤ j) fun i j => V.int (i / 2 ^ j.toNat)) (tVar i) (tVar j)) (tC (.int 1))) (tC (.int 1)))) S S (m.testBit p) nox :=
  jt_is (jt_B (j_op (j_op (j_op (j_var h1) (j_var h2).td (opv_i (by omega))) j_int.td opv_i0) j_int.td (opv_eqD (by rfl) (by rfl))).td) (by rw [eqv_int]; exact bit_at m p)
abbrev s_lot_in : Stmt := top 27
theorem sc_lot_in : FnScope ["mask", "place"] ["mask"] (defScope s_lot_in) := ⟨rfl, rfl, rfl, by decide +kernel, rfl, by decide +kernel, by decide +kernel⟩
theorem ok_lot_in (T : GlX mg K) (hF : ∃ fd, L2.Fun K "lot_in" "lot_in" s_lot_in (He.ga K "lot_in") fd) (hG : mg "lot_in" = some (.ref (He.ga K "lot_in"))) : FO P w K mg base "lot_in" 1 ["mask"] (spD K R_lot_in) := by
  obtain ⟨fd, F⟩ := hF
  have n_tuple := T.n_tuple
  have n_range := T.n_range
  refine fo_make F hG (fun _ _ _ _ _ _ us hl => match us, hl with | [_], _ => rfl) sc_lot_in len_R_lot_in fun cdv A outer s H E0 hr tk => ⟨_, (pss_one (ps_ret (pe_callTy call_tuple_of (by rfl) n_tuple (by decide +kernel) (pa_cons (pe_lc (own := [("place", 1)]) (g := gName 1) rfl sc_lot_in.nd (pi_range1 (by rfl) n_range (pa_cons (pe_bits (pv 0)) pa_nil)) (blkOk_by (N := ["mask", "place"]) (sc := defScope s_lot_in) (by decide +kernel)) (fun _ _ _ _ _ => (pg_name (i := 1) sc_lot_in.nd rfl (Or.inl rfl))) (fun _ _ _ _ _ => pts_one (pt_cmpR ((op_eqD hr.units) : OpR _ (compareOp .Eq) (rEqD K)) (pe_op op_and (pe_op op_shr (pv 0) (pv 1)) pe_int) pe_int (nomark _))) (fun _ _ _ _ _ => (pv 1))) pa_nil)))), ?_⟩
  intro ds r ⟨m, hm, e1, e2⟩
  subst e1 e2
  have hb := bitsN_le hm
  refine s_retP (j_is (j_tupL (jl_filt (k := 1) (ds := rgD 0 (((bitsN m : Nat) : Int)).toNat) (ji_rng1 (JA.td (ja_cons (j_bits (j_var rfl).td) ja_nil)) (by show ((bitsN m : Nat) : Int) < _; omega) (by show _ ≤ ((bitsN m : Nat) : Int); omega)) rfl m.testBit (fun p => .int (p : Nat)) (fun k d hd => ?_) ?_).sdL) ?_) rfl
  · have hk : k < bitsN m := by
      have := (List.getElem?_eq_some_iff.mp hd).1
      rw [rgD_len, Int.toNat_natCast] at this
      exact this
    rw [Int.toNat_natCast, rgD_get hk] at hd
    cases hd
    rw [Int.zero_add]
    exact ⟨jt_bit rfl rfl, fun _ => j_var rfl⟩
  · rw [rgD_len, Int.toNat_natCast, sizeLine_eq]
    omega
  · rw [rgD_len, Int.toNat_natCast]
    rfl
def maskL (n : Int) : Nat → List D → Except D Nat
  | m, [] => .ok m
  | m, x :: xs => if btw x 0 (n - 1) then (match x with
    | .int p => if m.testBit p.toNat then .error x else maskL n (m ||| 1 <<< p.toNat) xs
    | _ => .error x) else .error x
def maskOf (v : D) (n : Int) : Res := match itm v with
  | none => .error (eLot .none)
  | some xs => match maskL n 0 xs with
    | .ok m => .ok (.int (m : Nat))
    | .error x => .error (eLot x)
def R_mask_of (ds : List D) (r : Res) : Prop := ∃ v n, pl v = true ∧ n ≤ 64 ∧ ds = [v, .int n] ∧ r = maskOf v n
theorem len_R_mask_of : ∀ ds r, R_mask_of ds r → ds.length = 2 := fun ds r ⟨_, _, _, _, h, _⟩ => by rw [h]; rfl
theorem shl_one (p : Nat) : (1 : Int) * (2 : Int) ^ ((p : Nat) : Int).toNat = ((1 <<< p : Nat) : Int) := by
  rw [Int.toNat_natCast, Nat.one_shiftLeft]
  norm_cast
  simp
theorem bor_nat (a b : Nat) : Builtin.bitOr (a : Int) (b : Int) = ((a ||| b : Nat) : Int) := by
  have h : ∀ n : Nat, Builtin.bitNot (Builtin.bitNot (n : Int)) = (n : Int) := fun n => by unfold Builtin.bitNot; omega
  have h2 : ∀ n : Nat, ¬ 0 ≤ Builtin.bitNot (n : Int) := fun n => by unfold Builtin.bitNot; omega
  unfold Builtin.bitOr
  rw [bitAnd_nn (h2 a) (h2 b), h a, h b, Int.toNat_natCast, Int.toNat_natCast, h]
abbrev s_mask_of : Stmt := top 26
theorem sc_mask_of : FnScope ["value", "size", "mask", "entry"] ["value", "size"] (defScope s_mask_of) := ⟨rfl, rfl, rfl, by decide +kernel, rfl, by decide +kernel, by decide +kernel⟩
theorem ok_mask_of (T : GlX mg K) (hF : ∃ fd, L2.Fun K "mask_of" "mask_of" s_mask_of (He.ga K "mask_of") fd) (hG : mg "mask_of" = some (.ref (He.ga K "mask_of"))) (F_is_between : FO P w K mg base "is_between" 2 ["value", "low", "high"] (spD K R_is_between)) (E_BadLot : EO P w K mg base "BadLot" "place" "place") (F_is_row : FO P w K mg base "is_row" 1 ["value"] (spD K R_is_row)) : FO P w K mg base "mask_of" 3 ["value", "size"] (spD K R_mask_of) := by
  obtain ⟨fd, F⟩ := hF
  refine fo_make F hG (fun _ _ _ _ _ _ us hl => match us, hl with | [_, _], _ => rfl) sc_mask_of len_R_mask_of fun cdv A outer s H E0 hr tk => ⟨_, (pss_cons (ps_if (pt_not (pt_val (pe_fo F_is_row (hr.mono (by decide)) (by rfl) tk (pa_cons (pv 0) pa_nil)))) (pss_one (ps_eo E_BadLot rfl (hr.mono (by decide)) (by rfl) tk (pa_cons pe_non pa_nil))) pss_nil) (pss_cons (ps_set (i := 2) sc_mask_of.nd rfl (Or.inl rfl) pe_int) (pss_cons (ps_for (passes_of rfl) rfl (pi_either (pi_list (pv 0)) (pi_tup (pv 0))) (pg_name (i := 3) sc_mask_of.nd rfl (Or.inl rfl)) (pss_cons (ps_if (PW.pt (pw_or (pt_not (pt_val (pe_fo F_is_between (hr.mono (by decide)) (by rfl) tk (pa_cons (pv 3) (pa_cons pe_int (pa_cons (pe_op op_sub (pv 1) pe_int) pa_nil)))))) (pw_or1 (pt_cmpR (op_eqD hr.units) (pe_op op_and (pe_op op_shr (pv 2) (pv 3)) pe_int) pe_int (nomark _))))) (pss_one (ps_eo E_BadLot rfl (hr.mono (by decide)) (by rfl) tk (pa_cons (pv 3) pa_nil))) pss_nil) (pss_one (ps_set (i := 2) sc_mask_of.nd rfl (Or.inl rfl) (pe_op op_or (pv 2) (pe_op op_shl pe_int (pv 3))))))) (pss_one (ps_ret (pv 2)))))), ?_⟩
  intro ds r ⟨v, n, hv, hn, e1, e2⟩
  subst e1
  rcases row_cases v with ⟨h1, h2⟩ | ⟨b, xs, rfl, h1, h2⟩
  · refine s_guard (b := true) (jt_is (jt_not (jt_test (j_call (x := .bool (isRow v)) (ja_cons (j_var rfl) ja_nil) ⟨v, hv, rfl, rfl⟩).td)) (by rw [h1]; rfl)) (fun _ => ?_) (fun h => nomatch h)
    refine s_raise (x := .none) (ja_cons j_non ja_nil) ?_
    show r = _
    rw [e2, maskOf, h2]
  · have pv : ∀ x ∈ xs, pl x = true := fun x => plAll_mem (pl_sq hv)
    refine s_guard (b := false) (jt_is (jt_not (jt_test (j_call (x := .bool (isRow (sqD b xs))) (ja_cons (j_var rfl) ja_nil) ⟨sqD b xs, hv, rfl, rfl⟩).td)) (by rw [h1]; rfl)) (fun h => nomatch h) (fun _ => ?_)
    refine s_set [.d (sqD b xs), .d (.int n), .d (.int ((0 : Nat) : Int)), .un] j_int rfl ?_
    refine s_for (ji_seq (j_var rfl)) [3] (fun i S => ∃ (m : Nat) (x3 : SD), maskL n 0 xs = maskL n m (xs.drop i) ∧ S = [.d (sqD b xs), .d (.int n), .d (.int (m : Nat)), x3])
      ⟨0, .un, rfl, rfl⟩ (fun i x S2 hx hI => ?_) (fun S2 hI => ?_)
    · obtain ⟨m, x3, hm, rfl⟩ := hI
      obtain ⟨hi, ex⟩ := List.getElem?_eq_some_iff.mp hx
      have px := pv x (List.mem_of_getElem? hx)
      rw [List.drop_eq_getElem_cons hi, ex] at hm
      refine ⟨_, jg_name (by simp), ?_⟩
      cases q : btw x 0 (n - 1) with
      | false =>
        refine s_guard (b := true) (jt_orT (jt_is (jt_not (jt_test (j_call (x := .bool (btw x 0 (n - 1))) (ja_cons (j_var rfl) (ja_cons j_int (ja_cons (j_op (j_var rfl) j_int.td opv_i0) ja_nil))) ⟨x, 0, n - 1, px, rfl, rfl⟩).td)) (by rw [q]; rfl))) (fun _ => ?_) (fun h => nomatch h)
        refine s_raise (x := x) (ja_cons (j_var rfl) ja_nil) ?_
        show r = _
        rw [e2, maskOf, h2]
        simp only [hm, maskL, q]
        rfl
      | true =>
        obtain ⟨p, rfl, p0, p1⟩ := btw_int q
        obtain ⟨p, rfl⟩ := Int.eq_ofNat_of_zero_le p0
        have hm2 : maskL n m (.int (p : Nat) :: xs.drop (i + 1)) = if m.testBit p then .error (.int (p : Nat)) else maskL n (m ||| 1 <<< p) (xs.drop (i + 1)) := by
          rw [maskL, if_pos q]
          rfl
        rw [hm2] at hm
        refine s_guard (b := m.testBit p) (jt_orF (jt_is (jt_not (jt_test (j_call (x := .bool (btw (.int (p : Nat)) 0 (n - 1))) (ja_cons (j_var rfl) (ja_cons j_int (ja_cons (j_op (j_var rfl) j_int.td opv_i0) ja_nil))) ⟨_, 0, n - 1, px, rfl, rfl⟩).td)) (by rw [q]; rfl)) (jt_bit rfl rfl)) (fun h => ?_) (fun h => ?_)
        · refine s_raise (x := .int (p : Nat)) (ja_cons (j_var rfl) ja_nil) ?_
          show r = _
          rw [e2, maskOf, h2]
          simp only [hm, h]
          rfl
        · refine st_set (m := false) (x := .int ((m ||| 1 <<< p : Nat) : Int)) (j_is (j_op (j_var rfl) (j_op j_int (j_var rfl).td (opv_i ⟨by omega, by omega, by decide⟩)).td opv_i0) (by rw [shl_one, bor_nat])) ⟨m ||| 1 <<< p, _, ?_, rfl⟩ xin_no
          rw [hm, h]
          rfl
    · obtain ⟨m, x3, hm, rfl⟩ := hI
      refine s_retP (j_var rfl) ?_
      rw [e2, maskOf, h2]
      simp only [hm, List.drop_length, maskL]
end
end DL
-- A6
namespace DL
open PySem PySem.Spec PyProof.Rows L2
section
variable {P : Program} {w : World} {K : PySem.W.Frag} {mg : Str → Option Value} {base : Heap}
def srcStep (xs : List Nat) (m : Mk3) : List Nat := xs.set m.i (if m.t then xs.getD m.j 0 else xs.getD m.i 0 ||| xs.getD m.j 0)
def srcRun : List Nat → List Mk3 → List Nat
  | xs, [] => xs
  | xs, m :: ms => srcRun (srcStep xs m) ms
def initM (n : Nat) : List Nat := (List.range n).map fun p => 1 <<< p
def srcM (n : Nat) (ms : List Mk3) : List Nat := srcRun (initM n) ms
theorem srcStep_len (xs : List Nat) (m : Mk3) : (srcStep xs m).length = xs.length := by simp [srcStep]
theorem srcRun_len : ∀ (ms : List Mk3) (xs : List Nat), (srcRun xs ms).length = xs.length
  | [], _ => rfl
  | m :: ms, xs => by rw [srcRun, srcRun_len ms, srcStep_len]
theorem initM_len {n : Nat} : (initM n).length = n := by simp [initM]
theorem srcM_len {n : Nat} {ms : List Mk3} : (srcM n ms).length = n := by rw [srcM, srcRun_len, initM_len]
theorem srcRun_take {xs : List Nat} : ∀ {ms : List Mk3} {i : Nat} {m : Mk3}, ms[i]? = some m → srcRun xs (ms.take (i + 1)) = srcStep (srcRun xs (ms.take i)) m := by
  intro ms
  induction ms generalizing xs with
  | nil => intro i m h; simp at h
  | cons a ms ih =>
    intro i m h
    cases i with
    | zero =>
      cases h
      rfl
    | succ i => exact ih (xs := srcStep xs a) (by simpa using h)
abbrev iN (xs : List Nat) : List D := xs.map fun p => PyData.int (p : Nat)
theorem get_iN {xs : List Nat} {k : Nat} (h : k < xs.length) : (iN xs)[k]? = some (.int ((xs.getD k 0 : Nat) : Int)) := by
  rw [List.getElem?_map, List.getElem?_eq_getElem h]
  simp [List.getD, List.getElem?_eq_getElem h]
theorem ixN_nat {n k : Nat} (h : k < n) : ixN n (k : Int) = some k := by
  unfold ixN
  rw [if_pos (by omega), if_pos (by omega)]
  simp
def R_source_masks (ds : List D) (r : Res) : Prop := ∃ n ms, n ≤ 12 ∧ (∀ m ∈ ms, okM n m) ∧ ds = [.int (n : Nat), .tuple (ms.map dM)] ∧ r = .ok (.list (iN (srcM n ms)))
theorem len_R_source_masks : ∀ ds r, R_source_masks ds r → ds.length = 2 := fun ds r ⟨_, _, _, _, h, _⟩ => by rw [h]; rfl
abbrev s_source_masks : Stmt := top 29
theorem sc_source_masks : FnScope ["size", "marks", "masks", "i", "j", "word", "place"] ["size", "marks"] (defScope s_source_masks) := ⟨rfl, rfl, rfl, by decide +kernel, rfl, by decide +kernel, by decide +kernel⟩
theorem ok_source_masks (T : GlX mg K) (hF : ∃ fd, L2.Fun K "source_masks" "source_masks" s_source_masks (He.ga K "source_masks") fd) (hG : mg "source_masks" = some (.ref (He.ga K "source_masks"))) : FO P w K mg base "source_masks" 1 ["size", "marks"] (spD K R_source_masks) := by
  obtain ⟨fd, F⟩ := hF
  have n_range := T.n_range
  refine fo_make F hG (fun _ _ _ _ _ _ us hl => match us, hl with | [_, _], _ => rfl) sc_source_masks len_R_source_masks fun cdv A outer s H E0 hr tk => ⟨_, (pss_cons (ps_setLc (i := 2) (own := [("place", 6)]) (g := gName 6) (tt := tYes) rfl sc_source_masks.nd rfl rfl (sw_true rfl rfl rfl (by decide +kernel)) (pi_range1 (by rfl) n_range (pa_cons (pv 0) pa_nil)) (blkOk_by (N := ["size", "marks", "masks", "i", "j", "word", "place"]) (sc := defScope s_source_masks) (by decide +kernel)) (fun _ _ _ _ _ => (pg_name (i := 6) sc_source_masks.nd rfl (Or.inl rfl))) (fun _ _ _ _ _ => pts_nil) (fun _ _ _ _ _ => (pe_op op_shl pe_int (pv 6)))) (pss_cons (ps_for (passes_of rfl) rfl (pi_tup (pv 1)) (pg_tup rfl (pgs_cons (pg_name (i := 3) sc_source_masks.nd rfl (Or.inl rfl)) (pgs_cons (pg_name (i := 4) sc_source_masks.nd rfl (Or.inl rfl)) (pgs_cons (pg_name (i := 5) sc_source_masks.nd rfl (Or.inl rfl)) pgs_nil)))) (pss_one (ps_asg (pe_ifExp (pt_cmpR (op_eqD hr.units) (pv 5) pe_str (nomark _)) (pe_ix ix_list (pv 2) (pv 4) (fun _ _ => rfl)) (pe_op op_or (pe_ix ix_list (pv 2) (pv 3) (fun _ _ => rfl)) (pe_ix ix_list (pv 2) (pv 4) (fun _ _ => rfl)))) (pg_sub (pv 2) (pv 3) set_list)))) (pss_one (ps_ret (pv 2))))), ?_⟩
  intro ds r ⟨n, ms, hn, hm, e1, e2⟩
  subst e1 e2
  refine s_setL (jl_map (k := 6) (ds := rgD 0 ((n : Nat) : Int).toNat) (ji_rng1 (JA.td (ja_cons (j_var rfl) ja_nil)) (by omega) (by omega)) rfl (fun p => .int ((1 <<< p : Nat) : Int)) (fun k d hd => ?_) ?_) fun a => ?_
  · have hk : k < n := by
      have := (List.getElem?_eq_some_iff.mp hd).1
      rw [rgD_len, Int.toNat_natCast] at this
      exact this
    rw [Int.toNat_natCast, rgD_get hk] at hd
    cases hd
    rw [Int.zero_add]
    exact j_is (j_op j_int (j_var rfl).td (opv_i ⟨by omega, by omega, by decide⟩)) (by rw [shl_one])
  · rw [rgD_len, Int.toNat_natCast, sizeLine_eq]
    omega
  · rw [rgD_len, Int.toNat_natCast]
    refine s_for (ji_tup (j_var rfl)) [3, 4, 5] (fun i S => ∃ x3 x4 x5 x6, S = [.d (.int (n : Nat)), .d (.tuple (ms.map dM)), .l a (.lst (iN (srcRun (initM n) (ms.take i)))), x3, x4, x5, x6])
      ⟨.un, .un, .un, .un, by rw [List.take_zero]; simp only [srcRun, initM, iN, List.map_map]; rfl⟩ (fun i d S2 hd hI => ?_) (fun S2 hI => ?_)
    · obtain ⟨x3, x4, x5, x6, rfl⟩ := hI
      rw [List.getElem?_map] at hd
      cases q : ms[i]? with
      | none => rw [q] at hd; cases hd
      | some mk =>
        rw [q] at hd
        cases hd
        obtain ⟨h1, h2, h3⟩ := hm mk (List.mem_of_getElem? q)
        refine ⟨_, jg_tup (jgs_cons (jg_name (by simp)) (jgs_cons (jg_name (by simp)) (jgs_cons (jg_name (by simp)) jgs_nil))) rfl, ?_⟩
        generalize hcur : srcRun (initM n) (ms.take i) = cur
        have hlen : cur.length = n := by rw [← hcur, srcRun_len, initM_len]
        have g1 := get_iN (show mk.i < cur.length by omega)
        have g2 := get_iN (show mk.j < cur.length by omega)
        refine st_item (m := false) (i := 2) (a := a) (xs := iN cur) (j := mk.i) (k := (mk.i : Nat)) (x := .int ((if mk.t then cur.getD mk.j 0 else cur.getD mk.i 0 ||| cur.getD mk.j 0 : Nat) : Int))
          (j_is (j_if (b := mk.t) (x := .int ((cur.getD mk.j 0 : Nat) : Int)) (y := .int (Builtin.bitOr ((cur.getD mk.i 0 : Nat) : Int) ((cur.getD mk.j 0 : Nat) : Int)))
            (jt_is (jt_B (j_op (j_var rfl) j_str.td (opv_eqD ((sh_str (word_ok _) (n := 0)).ok (by decide)) ((sh_str (by decide +kernel) (n := 0)).ok (by decide)))).td) (by rw [eqv_str]; exact word_take _))
            (fun _ => j_ixO rfl (j_var rfl).td (atI_nat g2)) (fun _ => j_op (j_ixO rfl (j_var rfl).td (atI_nat g1)) (j_ixO rfl (j_var rfl).td (atI_nat g2)).td opv_i0)) (by cases mk.t <;> simp [bor_nat]))
          rfl (j_var rfl).td (by rw [List.length_map]; exact ixN_nat (by omega)) ⟨.d (.int (mk.i : Nat)), .d (.int (mk.j : Nat)), .d (.str (word mk.t)), x6, ?_⟩ xin_no
        rw [srcRun_take q, hcur]
        unfold srcStep iN
        rw [List.map_set]
        rfl
    · obtain ⟨x3, x4, x5, x6, rfl⟩ := hI
      rw [List.length_map, List.take_length]
      exact st_frz (i := 2) rfl (s_retP (j_var rfl) rfl)
end
end DL
-- A7
namespace DL
open PySem PySem.Spec PyProof.Rows L2
section
variable {P : Program} {w : World} {K : PySem.W.Frag} {mg : Str → Option Value} {base : Heap}
theorem st_fldX {E : L2.St → XK} {S S' : List SD} {Q : Post} {ta tv : TE} {f : Str} {χ : XO} (h : J K E false tv S S' (fun _ _ _ => False) χ) (hx : xin χ S Q) : ST K E (sFld K ta tv f) S Q := fun De σ G H s gd => h σ G H s _ (fun _ _ _ _ _ _ z => z.elim) (gd.err hx s)
theorem s_fldX {E : L2.St → XK} {S S' : List SD} {Q : Post} {ta tv : TE} {f : Str} {u : TS} {χ : XO} (h : J K E false tv S S' (fun _ _ _ => False) χ) (hx : xin χ S Q) : ST K E (tSeq (sFld K ta tv f) u) S Q := st_seq (fun _ => False) (st_fldX h hx) fun _ z => z.elim
theorem s_fldO {E : L2.St → XK} {S : List SD} {Q : Post} {te : TE} {f C : Str} {u : TS} {i : Nat} {a dx : Addr} {ns : List Str} {ds : List D} {x : D} (S2 : List SD) (h : J K E false te S S (DL.dd K x) nox) (h0 : S[i]? = some (.l a (.ins C dx ns ds))) (cl : Cls K (He.ga K C)) (na : NoAttr K (He.ga K C) f) (hn : f ∉ ns) (hl : ns.length < 1000)
    (e : S.set i (.l a (.ins C dx (ns ++ [f]) (ds ++ [x]))) = S2) (k : ST K E u S2 Q) : ST K E (tSeq (sFld K (tVar i) te f) u) S Q := st_seq1 S2 (st_fldO h h0 cl na hn hl e xin_no) k
abbrev nsR : List Str := ["size", "marks", "_masks"]
abbrev dsR (n : Nat) (ms : List Mk3) : List D := [.int (n : Nat), .tuple (ms.map dM), .tuple (iN (srcM n ms))]
abbrev dR (n : Nat) (ms : List Mk3) : D := ob "Run" nsR (dsR n ms)
structure RunOk (n : Nat) (ms : List Mk3) : Prop where
  sz : 2 ≤ n ∧ n ≤ 6
  ok : ∀ m ∈ ms, okM n m
  l : ms.length < 1000
def R_Run (c : Ct) (ds : List D) (r : Res) (c' : Ct) : Prop := ∃ dx sz v, c = .ins "Run" dx [] [] ∧ pl sz = true ∧ pl v = true ∧ (∀ xs, itm v = some xs → xs.length < sizeLine) ∧ ds = [sz, v] ∧
  ((btw sz 2 6 = false ∧ r = .error (eNum (.str "size"))) ∨ (∃ n : Nat, ∃ e, sz = .int (n : Nat) ∧ btw sz 2 6 = true ∧ marksOf v n = .error e ∧ r = .error e) ∨
    ∃ n ms, sz = .int (n : Nat) ∧ marksOf v n = .ok (.tuple (ms.map dM)) ∧ RunOk n ms ∧ r = .ok .none ∧ c' = .ins "Run" dx nsR (dsR n ms))
theorem len_R_Run : ∀ c ds r c', R_Run c ds r c' → ds.length + 1 = 3 := fun c ds r c' ⟨_, _, _, _, _, _, _, h, _⟩ => by rw [h]; rfl
abbrev s_Run___init__ : Stmt := mem (top 30) 0
theorem sc_Run___init__ : FnScope ["self", "size", "marks"] ["self", "size", "marks"] (defScope s_Run___init__) := ⟨rfl, rfl, rfl, by decide +kernel, rfl, by decide +kernel, by decide +kernel⟩
theorem ok_Run___init__ (T : GlX mg K) (hG : mg "Run" = some (.ref (He.ga K "Run"))) (hF : ∃ f fd, Mk K (He.ga K "Run") f ∧ L2.Fun K "__init__" "Run.__init__" s_Run___init__ f fd) (F_source_masks : FO P w K mg base "source_masks" 1 ["size", "marks"] (spD K R_source_masks)) (F_marks_of : FO P w K mg base "marks_of" 4 ["marks", "size"] (spD K R_marks_of)) (F_ask_number : FO P w K mg base "ask_number" 3 ["value", "name", "low", "high"] (spD K R_ask_number)) : CO P w K mg base "Run" 5 ["self", "size", "marks"] (spM K R_Run) := by
  obtain ⟨f, fd, hM, F⟩ := hF
  have n_tuple := T.n_tuple
  refine co_make F hG hM (fun _ _ _ _ _ _ us hl => match us, hl with | [_, _, _], _ => rfl) sc_Run___init__ len_R_Run fun cdv A outer s H E0 hr tk => ⟨_, (pss_cons (ps_expr (pe_fo F_ask_number (hr.mono (by decide)) (by rfl) tk (pa_cons (pv 1) (pa_cons pe_str (pa_cons pe_int (pa_cons pe_int pa_nil)))))) (pss_cons (ps_fld (pv 0) (pv 1) rfl) (pss_cons (ps_fld (pv 0) (pe_fo F_marks_of (hr.mono (by decide)) (by rfl) tk (pa_cons (pv 2) (pa_cons (pv 1) pa_nil))) rfl) (pss_one (ps_fld (pv 0) (pe_callTy call_tuple_of (by rfl) n_tuple (by decide +kernel) (pa_cons (pe_fo F_source_masks (hr.mono (by decide)) (by rfl) tk (pa_cons (pv 1) (pa_cons (pe_fld (pv 0) rfl) pa_nil))) pa_nil)) rfl))))), ?_⟩
  intro a c ds r c' ⟨dx, sz, v, ec, hs, hv, hz, e1, h⟩
  subst ec e1
  rcases h with ⟨h1, rfl⟩ | ⟨n, e, rfl, h1, h2, rfl⟩ | ⟨n, ms, rfl, h2, hok, rfl, rfl⟩
  · exact s_dropX (j_callX (x := eNum (.str "size")) (ja_cons (j_var rfl) (ja_cons j_str (ja_cons j_int (ja_cons j_int ja_nil)))) ⟨sz, _, 2, 6, hs, rfl, by rw [h1]; rfl⟩) fun C f y z => show _ = _ by rw [z]
  · refine s_drop (j_call (x := .none) (ja_cons (j_var rfl) (ja_cons j_str (ja_cons j_int (ja_cons j_int ja_nil)))) ⟨_, _, 2, 6, hs, rfl, by rw [h1]; rfl⟩) ?_
    refine s_fldO [.l a (.ins "Run" dx ["size"] [.int (n : Nat)]), .d (.int (n : Nat)), .d v] (j_var rfl) rfl T.cl_Run T.na_size (by decide) (by decide) rfl ?_
    exact s_fldX (j_callX (x := e) (ja_cons (j_var rfl) (ja_cons (j_var rfl) ja_nil)) ⟨v, _, hv, hz, rfl, h2.symm⟩) fun C f y z => show _ = _ by rw [z]
  · have hn := hok.sz
    have hb : btw (.int (n : Nat)) 2 6 = true := by
      show (decide _ && decide _) = true
      rw [Bool.and_eq_true]
      exact ⟨decide_eq_true (by omega), decide_eq_true (by omega)⟩
    refine s_drop (j_call (x := .none) (ja_cons (j_var rfl) (ja_cons j_str (ja_cons j_int (ja_cons j_int ja_nil)))) ⟨_, _, 2, 6, hs, rfl, by rw [hb]; rfl⟩) ?_
    refine s_fldO [.l a (.ins "Run" dx ["size"] [.int (n : Nat)]), .d (.int (n : Nat)), .d v] (j_var rfl) rfl T.cl_Run T.na_size (by decide) (by decide) rfl ?_
    refine s_fldO [.l a (.ins "Run" dx ["size", "marks"] [.int (n : Nat), .tuple (ms.map dM)]), .d (.int (n : Nat)), .d v] (j_call (ja_cons (j_var rfl) (ja_cons (j_var rfl) ja_nil)) ⟨v, _, hv, hz, rfl, h2.symm⟩) rfl T.cl_Run T.na_marks (by decide) (by decide) rfl ?_
    refine st_fldO (m := false) (i := 0) (a := a) (C := "Run") (dx := dx) (ns := ["size", "marks"]) (ds := [.int (n : Nat), .tuple (ms.map dM)]) (x := .tuple (iN (srcM n ms)))
      (j_tupL (J.sdL (j_call (ja_cons (j_var rfl) (ja_cons (j_fldO (i := 0) (a := a) (dx := dx) (C := "Run") (ns := ["size", "marks"]) (ds := [.int (n : Nat), .tuple (ms.map dM)]) (f := "marks") rfl T.cl_Run T.na_marks rfl) ja_nil)) ⟨n, ms, by omega, hok.ok, rfl, rfl⟩))) rfl T.cl_Run T.na__masks (by decide) (by decide) ⟨rfl, rfl⟩ xin_no
end
end DL
-- A8
namespace DL
open PySem PySem.Spec PyProof.Rows L2
section
variable {P : Program} {w : World} {K : PySem.W.Frag} {mg : Str → Option Value} {base : Heap}
def GoodM (n : Nat) (xs : List Nat) : Prop := xs.length = n ∧ ∀ x ∈ xs, 0 < x ∧ x < 2 ^ n
theorem getD_mem {xs : List Nat} {k : Nat} (h : k < xs.length) : xs.getD k 0 ∈ xs := by
  simp [List.getD, List.getElem?_eq_getElem h]
theorem goodM_init {n : Nat} : GoodM n (initM n) := ⟨initM_len, fun x hx => by
  obtain ⟨p, hp, rfl⟩ := List.mem_map.mp hx
  have hp := List.mem_range.mp hp
  rw [Nat.one_shiftLeft]
  exact ⟨Nat.two_pow_pos p, Nat.pow_lt_pow_right (by decide) hp⟩⟩
theorem goodM_step {n : Nat} {xs : List Nat} {m : Mk3} (h : GoodM n xs) (hm : okM n m) : GoodM n (srcStep xs m) := ⟨by rw [srcStep_len]; exact h.1, fun x hx => by
  obtain ⟨h1, h2, h3⟩ := hm
  have a := h.2 _ (getD_mem (show m.i < xs.length by rw [h.1]; exact h1))
  have b := h.2 _ (getD_mem (show m.j < xs.length by rw [h.1]; exact h2))
  unfold srcStep at hx
  rcases List.mem_or_eq_of_mem_set hx with hx | rfl
  · exact h.2 x hx
  · split
    · exact b
    · exact ⟨Nat.lt_of_lt_of_le a.1 Nat.left_le_or, Nat.or_lt_two_pow a.2 b.2⟩⟩
theorem goodM_run {n : Nat} : ∀ {ms : List Mk3} {xs : List Nat}, (∀ m ∈ ms, okM n m) → GoodM n xs → GoodM n (srcRun xs ms)
  | [], _, _, h => h
  | m :: ms, xs, hm, h => goodM_run (ms := ms) (fun k hk => hm k (List.mem_cons_of_mem _ hk)) (goodM_step h (hm m List.mem_cons_self))
theorem goodM {n : Nat} {ms : List Mk3} (h : ∀ m ∈ ms, okM n m) : GoodM n (srcM n ms) := goodM_run h goodM_init
theorem lotN_lt {n m p : Nat} (h : m < 2 ^ n) (hp : p ∈ lotN m) : p < n := by
  by_cases c : p < n
  · exact c
  · have := Nat.testBit_lt_two_pow (Nat.lt_of_lt_of_le h (Nat.pow_le_pow_right (by decide) (Nat.not_lt.mp c)))
    rw [mem_lotN, this] at hp
    cases hp
theorem maskL_lt {n k : Nat} {xs : List D} : ∀ {m : Nat}, m < 2 ^ n → maskL n m xs = .ok k → k < 2 ^ n := by
  induction xs with
  | nil =>
    intro m h e
    rw [maskL] at e
    cases e
    exact h
  | cons x xs ih =>
    intro m h e
    cases hb : btw x 0 (n - 1) with
    | false =>
      have e2 : maskL n m (x :: xs) = .error x := by
        cases x <;> simp [maskL, hb]
      rw [e2] at e
      cases e
    | true =>
      obtain ⟨p, rfl, p0, p1⟩ := btw_int hb
      have e2 : maskL n m (.int p :: xs) = if m.testBit p.toNat then .error (.int p) else maskL n (m ||| 1 <<< p.toNat) xs := by
        rw [maskL, if_pos hb]
      rw [e2] at e
      split at e
      · cases e
      · refine ih (Nat.or_lt_two_pow h ?_) e
        rw [Nat.one_shiftLeft]
        exact Nat.pow_lt_pow_right (by decide) (by omega)
theorem maskOf_lt {n : Nat} {v : D} {k : Int} (h : maskOf v n = .ok (.int k)) : ∃ m : Nat, k = (m : Nat) ∧ m < 2 ^ n := by
  unfold maskOf at h
  split at h
  · cases h
  · split at h
    · rename_i m e
      cases h
      exact ⟨m, rfl, maskL_lt (Nat.two_pow_pos n) e⟩
    · cases h
theorem pow_le {n k : Nat} (h : n ≤ k) : 2 ^ n ≤ 2 ^ k := Nat.pow_le_pow_right (by decide) h
def backN (xs : List Nat) (m : Nat) : Nat := (lotN m).foldl (fun acc p => acc ||| xs.getD p 0) 0
def R_back (ds : List D) (r : Res) : Prop := ∃ n ms v, RunOk n ms ∧ pl v = true ∧ ds = [dR n ms, v] ∧ ((∃ e, maskOf v n = .error e ∧ r = .error e) ∨ ∃ m : Nat, maskOf v n = .ok (.int (m : Nat)) ∧ r = .ok (dL (lotN (backN (srcM n ms) m))))
theorem len_R_back : ∀ ds r, R_back ds r → ds.length = 2 := fun ds r ⟨_, _, _, _, _, h, _⟩ => by rw [h]; rfl
theorem foldl_take {α β : Type} {f : β → α → β} {b : β} {xs : List α} {i : Nat} {x : α} (h : xs[i]? = some x) : (xs.take (i + 1)).foldl f b = f ((xs.take i).foldl f b) x := by
  rw [List.take_add_one, h]
  simp
theorem foldl_lt {xs : List Nat} {n : Nat} (h : GoodM n xs) : ∀ (ps : List Nat) (b : Nat), b < 2 ^ n → (∀ p ∈ ps, p < n) → ps.foldl (fun acc p => acc ||| xs.getD p 0) b < 2 ^ n
  | [], b, hb, _ => hb
  | p :: ps, b, hb, hp => foldl_lt h ps _ (Nat.or_lt_two_pow hb (h.2 _ (getD_mem (by rw [h.1]; exact hp p List.mem_cons_self))).2) fun q hq => hp q (List.mem_cons_of_mem _ hq)
theorem pl_R {n : Nat} {ms : List Mk3} {E : L2.St → XK} {S : List SD} {i : Nat} (h : S[i]? = some (.d (dR n ms))) (T : GlX mg K) : J K E false (tFld K (tVar i) "size") S S (DL.dd K (.int (n : Nat))) nox := j_fld (j_var h) T.cl_Run T.na_size rfl
theorem pm_R {n : Nat} {ms : List Mk3} {E : L2.St → XK} {S : List SD} {i : Nat} (h : S[i]? = some (.d (dR n ms))) (T : GlX mg K) : J K E false (tFld K (tVar i) "marks") S S (DL.dd K (.tuple (ms.map dM))) nox := j_fld (j_var h) T.cl_Run T.na_marks rfl
theorem pk_R {n : Nat} {ms : List Mk3} {E : L2.St → XK} {S : List SD} {i : Nat} (h : S[i]? = some (.d (dR n ms))) (T : GlX mg K) : J K E false (tFld K (tVar i) "_masks") S S (DL.dd K (.tuple (iN (srcM n ms)))) nox := j_fld (j_var h) T.cl_Run T.na__masks rfl
abbrev s_Run_back : Stmt := mem (top 30) 4
theorem sc_Run_back : FnScope ["self", "lot", "mask", "place"] ["self", "lot"] (defScope s_Run_back) := ⟨rfl, rfl, rfl, by decide +kernel, rfl, by decide +kernel, by decide +kernel⟩
theorem ok_Run_back (T : GlX mg K) (hC : Cls K (He.ga K "Run")) (hF : ∃ f fd, Meth K (He.ga K "Run") "back" f ∧ L2.Fun K "back" "Run.back" s_Run_back f fd) (F_lot_in : FO P w K mg base "lot_in" 1 ["mask"] (spD K R_lot_in)) (F_mask_of : FO P w K mg base "mask_of" 3 ["value", "size"] (spD K R_mask_of)) : MO P w K mg base "Run" "back" 4 ["self", "lot"] (spD K R_back) := by
  obtain ⟨f, fd, hM, F⟩ := hF
  refine mo_make F hC hM (fun _ _ _ _ _ _ us hl => match us, hl with | [_, _], _ => rfl) sc_Run_back len_R_back fun cdv A outer s H E0 hr tk => ⟨_, (pss_cons (ps_set (i := 2) sc_Run_back.nd rfl (Or.inl rfl) pe_int) (pss_cons (ps_for (passes_of rfl) rfl (pi_tup (pe_fo F_lot_in (hr.mono (by decide)) (by rfl) tk (pa_cons (pe_fo F_mask_of (hr.mono (by decide)) (by rfl) tk (pa_cons (pv 1) (pa_cons (pe_fld (pv 0) rfl) pa_nil))) pa_nil))) (pg_name (i := 3) sc_Run_back.nd rfl (Or.inl rfl)) (pss_one (ps_set (i := 2) sc_Run_back.nd rfl (Or.inl rfl) (pe_op op_or (pv 2) (pe_ix ix_tup (pe_fld (pv 0) rfl) (pv 3) (fun _ _ => rfl)))))) (pss_one (ps_ret (pe_fo F_lot_in (hr.mono (by decide)) (by rfl) tk (pa_cons (pv 2) pa_nil)))))), ?_⟩
  intro ds r ⟨n, ms, v, hok, hv, e1, h⟩
  subst e1
  have hn := hok.sz
  refine s_set [.d (dR n ms), .d v, .d (.int ((0 : Nat) : Int)), .un] j_int rfl ?_
  rcases h with ⟨e, h1, rfl⟩ | ⟨m, h1, rfl⟩
  · exact s_forX (m := false) (j_callX1 (ja_consX (j_callX (x := e) (ja_cons (j_var rfl) (ja_cons (pl_R rfl T) ja_nil)) ⟨v, _, hv, by omega, rfl, h1.symm⟩))) fun C f y z => show _ = _ by rw [z]
  · have g := goodM hok.ok
    obtain ⟨m', e, hm⟩ := maskOf_lt h1
    obtain rfl : m = m' := by omega
    have hp : ∀ p ∈ lotN m, p < n := fun p => lotN_lt hm
    have h64 := pow_le (show n ≤ 64 by omega)
    refine s_for (ji_tup (j_call (x := dL (lotN m)) (ja_cons (j_call (ja_cons (j_var rfl) (ja_cons (pl_R rfl T) ja_nil)) ⟨v, _, hv, by omega, rfl, h1.symm⟩) ja_nil) ⟨m, by omega, rfl, rfl⟩)) [3] (fun i S => ∃ x, S = [.d (dR n ms), .d v, .d (.int ((((lotN m).take i).foldl (fun acc p => acc ||| (srcM n ms).getD p 0) 0 : Nat) : Int)), x])
      ⟨.un, by rw [List.take_zero]; rfl⟩ (fun i d S2 hd hI => ?_) (fun S2 hI => ?_)
    · obtain ⟨x, rfl⟩ := hI
      rw [List.getElem?_map] at hd
      cases q : (lotN m)[i]? with
      | none => rw [q] at hd; cases hd
      | some p =>
        rw [q] at hd
        cases hd
        have hpn := hp p (List.mem_of_getElem? q)
        refine ⟨_, jg_name (by simp), st_set (m := false) (x := .int ((((lotN m).take (i + 1)).foldl (fun acc p => acc ||| (srcM n ms).getD p 0) 0 : Nat) : Int)) (j_is (j_op (j_var rfl) (j_ixT (pk_R rfl T) (j_var rfl).td (atI_nat (get_iN (show p < (srcM n ms).length by rw [srcM_len]; exact hpn)))).td opv_i0) ?_) ⟨_, rfl⟩ xin_no⟩
        rw [bor_nat, foldl_take q]
    · obtain ⟨x, rfl⟩ := hI
      rw [List.length_map, List.take_length]
      have hb : backN (srcM n ms) m < 2 ^ n := foldl_lt g _ 0 (Nat.two_pow_pos n) hp
      exact s_retP (j_call (ja_cons (j_var rfl) ja_nil) ⟨backN (srcM n ms) m, by omega, rfl, rfl⟩) rfl
def R_sources (ds : List D) (r : Res) : Prop := ∃ n ms v, RunOk n ms ∧ pl v = true ∧ ds = [dR n ms, v] ∧ ((btw v 0 (n - 1) = false ∧ r = .error (ePlace v)) ∨ ∃ p : Nat, p < n ∧ v = .int (p : Nat) ∧ r = .ok (dL (lotN ((srcM n ms).getD p 0))))
theorem len_R_sources : ∀ ds r, R_sources ds r → ds.length = 2 := fun ds r ⟨_, _, _, _, _, h, _⟩ => by rw [h]; rfl
abbrev s_Run_sources : Stmt := mem (top 30) 5
theorem sc_Run_sources : FnScope ["self", "place"] ["self", "place"] (defScope s_Run_sources) := ⟨rfl, rfl, rfl, by decide +kernel, rfl, by decide +kernel, by decide +kernel⟩
theorem ok_Run_sources (T : GlX mg K) (hC : Cls K (He.ga K "Run")) (hF : ∃ f fd, Meth K (He.ga K "Run") "sources" f ∧ L2.Fun K "sources" "Run.sources" s_Run_sources f fd) (F_lot_in : FO P w K mg base "lot_in" 1 ["mask"] (spD K R_lot_in)) (F_ask_place : FO P w K mg base "ask_place" 3 ["value", "size"] (spD K R_ask_place)) : MO P w K mg base "Run" "sources" 4 ["self", "place"] (spD K R_sources) := by
  obtain ⟨f, fd, hM, F⟩ := hF
  refine mo_make F hC hM (fun _ _ _ _ _ _ us hl => match us, hl with | [_, _], _ => rfl) sc_Run_sources len_R_sources fun cdv A outer s H E0 hr tk => ⟨_, (pss_cons (ps_expr (pe_fo F_ask_place (hr.mono (by decide)) (by rfl) tk (pa_cons (pv 1) (pa_cons (pe_fld (pv 0) rfl) pa_nil)))) (pss_one (ps_ret (pe_fo F_lot_in (hr.mono (by decide)) (by rfl) tk (pa_cons (pe_ix ix_tup (pe_fld (pv 0) rfl) (pv 1) (fun _ _ => rfl)) pa_nil))))), ?_⟩
  intro ds r ⟨n, ms, v, hok, hv, e1, h⟩
  subst e1
  have hn := hok.sz
  rcases h with ⟨h1, rfl⟩ | ⟨p, hp, rfl, rfl⟩
  · exact s_dropX (j_callX (x := ePlace v) (ja_cons (j_var rfl) (ja_cons (pl_R rfl T) ja_nil)) ⟨v, _, hv, rfl, by rw [h1]; rfl⟩) fun C f y z => show _ = _ by rw [z]
  · have hb : btw (.int (p : Nat)) 0 ((n : Int) - 1) = true := by
      show (decide ((0 : Int) ≤ (p : Nat)) && decide (((p : Nat) : Int) ≤ (n : Int) - 1)) = true
      rw [Bool.and_eq_true]
      exact ⟨decide_eq_true (by omega), decide_eq_true (by omega)⟩
    have g := (goodM hok.ok).2 _ (getD_mem (show p < (srcM n ms).length by rw [srcM_len]; exact hp))
    have h64 := pow_le (show n ≤ 64 by omega)
    refine s_drop (j_call (x := .none) (ja_cons (j_var rfl) (ja_cons (pl_R rfl T) ja_nil)) ⟨_, _, hv, rfl, by rw [hb]; rfl⟩) ?_
    exact s_retP (j_call (ja_cons (j_ixT (pk_R rfl T) (j_var rfl).td (atI_nat (get_iN (show p < (srcM n ms).length by rw [srcM_len]; exact hp)))) ja_nil) ⟨_, by omega, rfl, rfl⟩) rfl
end
end DL
-- A9
namespace DL
open PySem PySem.Spec PyProof.Rows L2
section
variable {P : Program} {w : World} {K : PySem.W.Frag} {mg : Str → Option Value} {base : Heap}
theorem range_maps {α : Type} {ps : List α} {y : α → D} : (List.range ps.length).map (fun i => match ps[i]? with | some p => y p | none => .none) = ps.map y := by
  apply List.ext_getElem?
  intro i
  rw [List.getElem?_map, List.getElem?_map]
  by_cases h : i < ps.length
  · rw [List.getElem?_range h, List.getElem?_eq_getElem h]
    simp [h]
  · rw [List.getElem?_eq_none (by simpa using h), List.getElem?_eq_none (by simpa using h)]
    rfl
theorem jl_maps {α : Type} {E : L2.St → XK} {m : Bool} {te : TE} {wi : TI} {S : List SD} {χ : XO} {k : Nat} (ps : List α) (e : α → D) (y : α → D) (h : JI K E m wi S S (ps.map e) χ) (hk : S[k]? = some .un) (turn : ∀ p ∈ ps, J K E m te (S.set k (.d (e p))) (S.set k (.d (e p))) (DL.dd K (y p)) nox) (hl : ps.length ≤ sizeLine) :
    JL K E m (tLc wi (gName k) tYes te [k]) S S (ps.map y) χ := by
  have q := jl_map h hk (fun i => match ps[i]? with | some p => y p | none => .none) (fun i d hd => ?_) (by rw [List.length_map]; exact hl) (te := te)
  · rw [List.length_map, range_maps] at q
    exact q
  · rw [List.getElem?_map] at hd
    cases hp : ps[i]? with
    | none => rw [hp] at hd; cases hd
    | some p =>
      rw [hp] at hd
      cases hd
      exact turn p (List.mem_of_getElem? hp)
def maxL : List Int → Int
  | [] => 0
  | [a] => a
  | a :: l => if maxL l > a then maxL l else a
theorem maxL_mem : ∀ {l : List Int}, l ≠ [] → maxL l ∈ l
  | [a], _ => by simp [maxL]
  | a :: b :: l, _ => by
    have ih := maxL_mem (l := b :: l) (by simp)
    show (if maxL (b :: l) > a then maxL (b :: l) else a) ∈ _
    split
    · exact List.mem_cons_of_mem _ ih
    · exact List.mem_cons_self
theorem maxL_ge : ∀ {l : List Int} {y : Int}, y ∈ l → y ≤ maxL l
  | [a], y, h => by
    have := List.mem_singleton.mp h
    subst this
    exact Int.le_refl _
  | a :: b :: l, y, h => by
    show y ≤ (if maxL (b :: l) > a then maxL (b :: l) else a)
    rcases List.mem_cons.mp h with rfl | h
    · split <;> omega
    · have := maxL_ge h
      split <;> omega
theorem lotN_ne {m : Nat} (h : 0 < m) : lotN m ≠ [] := by
  obtain ⟨p, hp⟩ := Nat.exists_testBit_of_ne_zero (Nat.ne_of_gt h)
  intro e
  have := mem_lotN.mpr hp
  rw [e] at this
  cases this
theorem lotN_len {n m : Nat} (h : m < 2 ^ n) : (lotN m).length ≤ n := by
  have h1 : (lotN m).length ≤ (List.range (bitsN m)).length := List.length_filter_le _ _
  rw [List.length_range] at h1
  exact Nat.le_trans h1 (bitsN_le h)
def topG (gs : List Int) (m : Nat) : Int := maxL ((lotN m).map fun p => gs.getD p 0)
def endsG (xs : List Nat) (gs : List Int) : List Int := xs.map (topG gs)
def R_ends (ds : List D) (r : Res) : Prop := ∃ n ms v, RunOk n ms ∧ pl v = true ∧ ds = [dR n ms, v] ∧ ((∃ e, gradesOf v n = .error e ∧ r = .error e) ∨ ∃ gs, gradesOf v n = .ok (dG gs) ∧ gs.length = n ∧ r = .ok (dG (endsG (srcM n ms) gs)))
theorem len_R_ends : ∀ ds r, R_ends ds r → ds.length = 2 := fun ds r ⟨_, _, _, _, _, h, _⟩ => by rw [h]; rfl
abbrev s_Run_ends : Stmt := mem (top 30) 6
theorem sc_Run_ends : FnScope ["self", "grades", "told", "mask", "place"] ["self", "grades"] (defScope s_Run_ends) := ⟨rfl, rfl, rfl, by decide +kernel, rfl, by decide +kernel, by decide +kernel⟩
theorem ok_Run_ends (T : GlX mg K) (hC : Cls K (He.ga K "Run")) (hF : ∃ f fd, Meth K (He.ga K "Run") "ends" f ∧ L2.Fun K "ends" "Run.ends" s_Run_ends f fd) (F_lot_in : FO P w K mg base "lot_in" 1 ["mask"] (spD K R_lot_in)) (F_grades_of : FO P w K mg base "grades_of" 3 ["value", "size"] (spD K R_grades_of)) : MO P w K mg base "Run" "ends" 4 ["self", "grades"] (spD K R_ends) := by
  obtain ⟨f, fd, hM, F⟩ := hF
  have n_tuple := T.n_tuple
  have n_max := T.n_max
  refine mo_make F hC hM (fun _ _ _ _ _ _ us hl => match us, hl with | [_, _], _ => rfl) sc_Run_ends len_R_ends fun cdv A outer s H E0 hr tk => ⟨_, (pss_cons (ps_set (i := 2) sc_Run_ends.nd rfl (Or.inr rfl) (pe_fo F_grades_of (hr.mono (by decide)) (by rfl) tk (pa_cons (pv 1) (pa_cons (pe_fld (pv 0) rfl) pa_nil)))) (pss_one (ps_ret (pe_callTy call_tuple_of (by rfl) n_tuple (by decide +kernel) (pa_cons (pe_lc (own := [("mask", 3)]) (g := gName 3) (tt := tYes) rfl sc_Run_ends.nd (pi_tup (pe_fld (pv 0) rfl)) (blkOk_by (N := ["self", "grades", "told", "mask", "place"]) (sc := defScope s_Run_ends) (by decide +kernel)) (fun _ _ _ _ _ => (pg_name (i := 3) sc_Run_ends.nd rfl (Or.inl rfl))) (fun _ _ _ _ _ => pts_nil) (fun _ _ _ _ _ => (pe_callB ((cr_max rfl) : CallR _ (.builtin "max") (rMax K)) (by rfl) n_max (by decide +kernel) (pa_cons (pe_lc (own := [("place", 4)]) (g := gName 4) (tt := tYes) rfl sc_Run_ends.nd (pi_tup (pe_fo F_lot_in (hr.mono (by decide)) (by rfl) tkN (pa_cons (pv 3) pa_nil)) : PI _ _ _ (iTup K _)) (blkOk_by (by rfl)) (fun _ _ _ _ _ => (pg_name (i := 4) sc_Run_ends.nd rfl (Or.inl rfl))) (fun _ _ _ _ _ => pts_nil) (fun _ _ _ _ _ => (pe_ix (ix_tup : IxR _ (rIxT K)) (pv 2) (pv 4) (fun _ _ => rfl)))) pa_nil)))) pa_nil))))), ?_⟩
  intro ds r ⟨n, ms, v, hok, hv, e1, h⟩
  subst e1
  have hn := hok.sz
  have g := goodM hok.ok
  have h64 := pow_le (show n ≤ 64 by omega)
  rcases h with ⟨e, h1, rfl⟩ | ⟨gs, h1, hl, rfl⟩
  · exact s_setX (j_callX (x := e) (ja_cons (j_var rfl) (ja_cons (pl_R rfl T) ja_nil)) ⟨v, _, hv, rfl, h1.symm⟩) fun C f y z => show _ = _ by rw [z]
  · refine s_set [.d (dR n ms), .d v, .d (dG gs), .un, .un] (j_call (ja_cons (j_var rfl) (ja_cons (pl_R rfl T) ja_nil)) ⟨v, _, hv, rfl, h1.symm⟩) rfl ?_
    refine s_retP (j_is (j_tupL (jl_maps (k := 3) (srcM n ms) (fun m => .int (m : Nat)) (fun m => .int (topG gs m)) (ji_tup (pk_R rfl T)) rfl (fun m hm => ?_) (by rw [srcM_len, sizeLine_eq]; omega)).sdL) (by unfold endsG dG; rw [List.map_map]; rfl)) rfl
    have hg := g.2 m hm
    refine j_cb (ja_one (j_is (jl_maps (k := 4) (lotN m) (fun p => .int (p : Nat)) (fun p => .int (gs.getD p 0)) (ji_tup (j_call (ja_cons (j_var rfl) ja_nil) ⟨m, by omega, rfl, rfl⟩)) rfl (fun p hp => ?_) (by have := lotN_len hg.2; rw [sizeLine_eq]; omega)).dd (y := .list (((lotN m).map fun p => gs.getD p 0).map PyData.int)) (by rw [List.map_map]; rfl)).td) (cb_max (b := topG gs m) (maxL_mem (by simpa using lotN_ne hg.1)) fun y hy => maxL_ge hy)
    exact j_ixT (j_var rfl) (j_var rfl).td (atI_nat (get_map (by rw [hl]; exact lotN_lt hg.2 hp)))
abbrev dT (xs : List Nat) : D := .tuple (xs.map fun m => dL (lotN m))
def R_table (ds : List D) (r : Res) : Prop := ∃ n ms, RunOk n ms ∧ ds = [dR n ms] ∧ r = .ok (dT (srcM n ms))
theorem len_R_table : ∀ ds r, R_table ds r → ds.length = 1 := fun ds r ⟨_, _, _, h, _⟩ => by rw [h]; rfl
abbrev s_Run_table : Stmt := mem (top 30) 7
theorem sc_Run_table : FnScope ["self", "mask"] ["self"] (defScope s_Run_table) := ⟨rfl, rfl, rfl, by decide +kernel, rfl, by decide +kernel, by decide +kernel⟩
theorem ok_Run_table (T : GlX mg K) (hC : Cls K (He.ga K "Run")) (hF : ∃ p f fd, PropOf K (He.ga K "Run") "table" p f ∧ L2.Fun K "table" "Run.table" s_Run_table f fd) (F_lot_in : FO P w K mg base "lot_in" 1 ["mask"] (spD K R_lot_in)) : PO P w K mg base "Run" "table" 2 (spD K R_table) := by
  obtain ⟨p, f, fd, hM, F⟩ := hF
  have n_tuple := T.n_tuple
  refine po_make F hC hM (fun _ _ _ _ _ _ us hl => match us, hl with | [_], _ => rfl) sc_Run_table len_R_table fun cdv A outer s H E0 hr tk => ⟨_, (pss_one (ps_ret (pe_callTy call_tuple_of (by rfl) n_tuple (by decide +kernel) (pa_cons (pe_lc (own := [("mask", 1)]) (g := gName 1) (tt := tYes) rfl sc_Run_table.nd (pi_tup (pe_fld (pv 0) rfl)) (blkOk_by (N := ["self", "mask"]) (sc := defScope s_Run_table) (by decide +kernel)) (fun _ _ _ _ _ => (pg_name (i := 1) sc_Run_table.nd rfl (Or.inl rfl))) (fun _ _ _ _ _ => pts_nil) (fun _ _ _ _ _ => (pe_fo F_lot_in (hr.mono (by decide)) (by rfl) tkN (pa_cons (pv 1) pa_nil)))) pa_nil)))), ?_⟩
  intro ds r ⟨n, ms, hok, e1, e2⟩
  subst e1 e2
  have hn := hok.sz
  have g := goodM hok.ok
  have h64 := pow_le (show n ≤ 64 by omega)
  refine s_retP (j_tupL (jl_maps (k := 1) (srcM n ms) (fun m => .int (m : Nat)) (fun m => dL (lotN m)) (ji_tup (pk_R rfl T)) rfl (fun m hm => ?_) (by rw [srcM_len, sizeLine_eq]; omega)).sdL) rfl
  exact j_call (ja_cons (j_var rfl) ja_nil) ⟨m, by have := (g.2 m hm).2; omega, rfl, rfl⟩
theorem btw_nat {p n : Nat} (h : p < n) : btw (.int (p : Nat)) 0 ((n : Int) - 1) = true := by
  show (decide ((0 : Int) ≤ (p : Nat)) && decide (((p : Nat) : Int) ≤ (n : Int) - 1)) = true
  rw [Bool.and_eq_true]
  exact ⟨decide_eq_true (by omega), decide_eq_true (by omega)⟩
theorem markOf_ok {n : Nat} {m : Mk3} {b : Bool} (h : okM n m) : markOf (sqD b (dMi m)) n = dM m := by
  obtain ⟨h1, h2, h3⟩ := h
  have e : okMark n (dMi m) = true := by
    rw [okMark3, btw_nat h1, btw_nat h2, eqv_int]
    have e1 : ((m.i : Int) == (m.j : Int)) = false := by
      rw [Bool.eq_false_iff]
      intro z
      exact h3 (by have := eq_of_beq z; omega)
    have e2 : inD (.str (word m.t)) [.str wTake, .str wCall] = true := by
      cases m.t <;> decide +kernel
    rw [e1, e2]
    rfl
  cases b <;> simp [markOf, sqD, itm, e]
theorem marksOf_ok {n : Nat} {ms : List Mk3} {b : Bool} {f : Mk3 → Bool} (h : ∀ m ∈ ms, okM n m) : marksOf (sqD b (ms.map fun m => sqD (f m) (dMi m))) n = .ok (.tuple (ms.map dM)) := by
  have e : itm (sqD b (ms.map fun m => sqD (f m) (dMi m))) = some (ms.map fun m => sqD (f m) (dMi m)) := by cases b <;> rfl
  have e2 : ((ms.map fun m => sqD (f m) (dMi m)).map fun x => markOf x n) = ms.map dM := by
    rw [List.map_map]
    exact List.map_congr_left fun m hm => markOf_ok (h m hm)
  unfold marksOf
  rw [e]
  simp only
  rw [fi_none fun j y hy => ?_]
  · simp only [e2]
  · rw [List.getElem?_map] at hy
    cases q : ms[j]? with
    | none => rw [q] at hy; cases hy
    | some m =>
      rw [q] at hy
      cases hy
      rw [markOf_ok (h m (List.mem_of_getElem? q))]
      rfl
theorem marksOf_T {n : Nat} {ms : List Mk3} (h : ∀ m ∈ ms, okM n m) : marksOf (.tuple (ms.map dM)) n = .ok (.tuple (ms.map dM)) := marksOf_ok (b := true) (f := fun _ => true) h
theorem marksOf_L {n : Nat} {ms : List Mk3} (h : ∀ m ∈ ms, okM n m) : marksOf (.list (ms.map dM)) n = .ok (.tuple (ms.map dM)) := marksOf_ok (b := false) (f := fun _ => true) h
theorem pl_M (ms : List Mk3) : plAll (ms.map dM) = true := by
  induction ms with
  | nil => rfl
  | cons m ms ih => rw [List.map_cons, plAll, ih]; rfl
def R_add (ds : List D) (r : Res) : Prop := ∃ n ms n2 ms2, RunOk n ms ∧ RunOk n2 ms2 ∧ ds = [dR n ms, dR n2 ms2] ∧ ((n2 ≠ n ∧ r = .error ⟨"OtherSize", "size", .int (n2 : Nat)⟩) ∨ (n2 = n ∧ ms.length + ms2.length < 1000 ∧ r = .ok (dR n (ms ++ ms2))))
theorem len_R_add : ∀ ds r, R_add ds r → ds.length = 2 := fun ds r ⟨_, _, _, _, _, _, h, _⟩ => by rw [h]; rfl
abbrev s_Run___add__ : Stmt := mem (top 30) 10
theorem sc_Run___add__ : FnScope ["self", "other"] ["self", "other"] (defScope s_Run___add__) := ⟨rfl, rfl, rfl, by decide +kernel, rfl, by decide +kernel, by decide +kernel⟩
theorem ok_Run___add__ (T : GlX mg K) (hS : PySem.W.selfFirst K (He.ga K "Run") = true) (hF : ∃ f fd, PySem.W.findIn K (.ref (He.ga K "Run")) "__add__" = some (some (.ref f)) ∧ PySem.W.isFn K (.ref f) = true ∧ L2.Fun K "__add__" "Run.__add__" s_Run___add__ f fd) (C_Run : CO P w K mg base "Run" 5 ["self", "size", "marks"] (spM K R_Run)) (E_OtherSize : EO P w K mg base "OtherSize" "size" "size") : SO P w K mg base "Run" "__add__" 7 ["self", "other"] (spD K R_add) := by
  obtain ⟨f, fd, hM1, hM2, F⟩ := hF
  have n_isinstance := T.n_isinstance
  have g_Run := T.g_Run
  refine so_make F hS hM1 hM2 (fun _ _ _ _ _ _ us hl => match us, hl with | [_, _], _ => rfl) sc_Run___add__ len_R_add fun cdv A outer s H E0 hr tk => ⟨_, (pss_cons (ps_if (pt_not (pt_val (pe_callB call_isi (by rfl) n_isinstance (by decide +kernel) (pa_cons (pv 1) (pa_cons (pe_glob (v := .ref (He.ga K "Run")) (by rfl) g_Run rfl) pa_nil))))) (pss_one ps_no) pss_nil) (pss_cons (ps_if (pt_cmpR (op_neD hr.units) (pe_fld (pv 1) rfl) (pe_fld (pv 0) rfl) (nomark _)) (pss_one (ps_eo E_OtherSize rfl (hr.mono (by decide)) (by rfl) tk (pa_cons (pe_fld (pv 1) rfl) pa_nil))) pss_nil) (pss_one (ps_ret (pe_co C_Run (hr.mono (by decide)) (by rfl) tk (pa_cons (pe_fld (pv 0) rfl) (pa_cons (pe_op op_catA (pe_fld (pv 0) rfl) (pe_fld (pv 1) rfl)) pa_nil))))))), ?_⟩
  intro ds r ⟨n, ms, n2, ms2, hok, hok2, e1, h⟩
  subst e1
  have hn := hok.sz
  refine s_guard (b := false) (jt_is (jt_not (jt_test (j_isi (j_var rfl).td (.own _) (ty_ob T.ct_Run) T.k_Run).td)) rfl) (fun h => nomatch h) (fun _ => ?_)
  refine s_guard (b := !((n2 : Int) == (n : Int))) (jt_is (jt_B (j_op (pl_R rfl T) (pl_R rfl T).td (opv_neD (by rfl) (by rfl))).td) (by rw [eqv_int])) (fun q => ?_) (fun q => ?_)
  · rcases h with ⟨h1, rfl⟩ | ⟨rfl, _⟩
    · refine s_raise (x := .int (n2 : Nat)) (ja_cons (pl_R rfl T) ja_nil) rfl
    · simp at q
  · have e : n2 = n := by
      have : ((n2 : Int) == (n : Int)) = true := by simpa using q
      have := eq_of_beq this
      omega
    subst e
    rcases h with ⟨h1, _⟩ | ⟨_, hl, rfl⟩
    · exact (h1 rfl).elim
    · have ok2 : RunOk n2 (ms ++ ms2) := ⟨hn, fun m hm => (List.mem_append.mp hm).elim (hok.ok m) (hok2.ok m), by rw [List.length_append]; exact hl⟩
      refine s_retP (j_make (ns := nsR) (xs := dsR n2 (ms ++ ms2)) (ja_cons (pl_R rfl T) (ja_cons (j_catT (pm_R rfl T) (pm_R rfl T) (by rw [List.length_map, List.length_map, sizeLine_eq]; omega)) ja_nil)) fun dx => ⟨dx, _, _, rfl, rfl, ?_, ?_, rfl, .inr (.inr ⟨n2, ms ++ ms2, rfl, ?_, ok2, rfl, rfl⟩)⟩) rfl
      · rw [← List.map_append]
        exact pl_M _
      · intro xs e
        cases e
        rw [List.length_append, List.length_map, List.length_map, sizeLine_eq]
        omega
      · rw [← List.map_append]
        exact marksOf_T ok2.ok
abbrev s_Run___and__ : Stmt := mem (top 30) 11
theorem sc_Run___and__ : FnScope ["self", "other"] ["self", "other"] (defScope s_Run___and__) := ⟨rfl, rfl, rfl, by decide +kernel, rfl, by decide +kernel, by decide +kernel⟩
theorem ok_Run___and__ (T : GlX mg K) (hS : PySem.W.selfFirst K (He.ga K "Run") = true) (hF : ∃ f fd, PySem.W.findIn K (.ref (He.ga K "Run")) "__and__" = some (some (.ref f)) ∧ PySem.W.isFn K (.ref f) = true ∧ L2.Fun K "__and__" "Run.__and__" s_Run___and__ f fd) (M_back : MO P w K mg base "Run" "back" 4 ["self", "lot"] (spD K R_back)) : SO P w K mg base "Run" "__and__" 5 ["self", "other"] (spD K R_back) := by
  obtain ⟨f, fd, hM1, hM2, F⟩ := hF
  refine so_make F hS hM1 hM2 (fun _ _ _ _ _ _ us hl => match us, hl with | [_, _], _ => rfl) sc_Run___and__ len_R_back fun cdv A outer s H E0 hr tk => ⟨_, (pss_one (ps_ret (pe_mo (pv 0) M_back (hr.mono (by decide)) tk (pa_cons (pv 1) pa_nil)))), ?_⟩
  intro ds r ⟨n, ms, v, hok, hv, e1, h⟩
  subst e1
  rcases h with ⟨e, h1, rfl⟩ | ⟨m, h1, rfl⟩
  · exact st_retX' (j_methX (x := e) (j_var rfl) (ja_cons (j_var rfl) ja_nil) (by decide) ⟨n, ms, v, hok, hv, rfl, .inl ⟨e, h1, rfl⟩⟩) fun C f y z => show _ = _ by rw [z]
  · exact s_retP (j_meth (j_var rfl) (ja_cons (j_var rfl) ja_nil) (by decide) ⟨n, ms, v, hok, hv, rfl, .inr ⟨m, h1, rfl⟩⟩) rfl
theorem eqv_iN : ∀ (a b : List Nat), PyData.eqvAll (iN a) (iN b) = decide (a = b)
  | [], [] => by simp [PyData.eqvAll]
  | [], b :: bs => by simp [PyData.eqvAll]
  | a :: as, [] => by simp [PyData.eqvAll]
  | a :: as, b :: bs => by
    show PyData.eqvAll (_ :: iN as) (_ :: iN bs) = _
    rw [PyData.eqvAll, eqv_int, eqv_iN as bs]
    by_cases h : a = b
    · subst h; simp
    · simp [h, Int.ofNat_inj]
theorem sh_iN {xs : List Nat} : Sh 1 (.tuple (iN xs)) := sh_tup fun x hx => by
  obtain ⟨i, _, rfl⟩ := List.mem_map.mp hx
  exact sh_int
def R_eq (ds : List D) (r : Res) : Prop := (∃ n ms n2 ms2, RunOk n ms ∧ RunOk n2 ms2 ∧ ds = [dR n ms, dR n2 ms2] ∧ r = .ok (.bool (decide (n = n2) && decide (srcM n ms = srcM n2 ms2)))) ∨ ∃ n ms xs, RunOk n ms ∧ ds = [dR n ms, .list xs] ∧ r = .ok (.bool false)
theorem len_R_eq : ∀ ds r, R_eq ds r → ds.length = 2 := fun ds r h => by
  rcases h with ⟨_, _, _, _, _, _, h, _⟩ | ⟨_, _, _, _, h, _⟩ <;> rw [h] <;> rfl
abbrev s_Run___eq__ : Stmt := mem (top 30) 12
theorem sc_Run___eq__ : FnScope ["self", "other"] ["self", "other"] (defScope s_Run___eq__) := ⟨rfl, rfl, rfl, by decide +kernel, rfl, by decide +kernel, by decide +kernel⟩
theorem ok_Run___eq__ (T : GlX mg K) (hS : PySem.W.selfFirst K (He.ga K "Run") = true) (hF : ∃ f fd, PySem.W.findIn K (.ref (He.ga K "Run")) "__eq__" = some (some (.ref f)) ∧ PySem.W.isFn K (.ref f) = true ∧ L2.Fun K "__eq__" "Run.__eq__" s_Run___eq__ f fd) : SO P w K mg base "Run" "__eq__" 1 ["self", "other"] (spD K R_eq) := by
  obtain ⟨f, fd, hM1, hM2, F⟩ := hF
  have n_isinstance := T.n_isinstance
  have g_Run := T.g_Run
  refine so_make F hS hM1 hM2 (fun _ _ _ _ _ _ us hl => match us, hl with | [_, _], _ => rfl) sc_Run___eq__ len_R_eq fun cdv A outer s H E0 hr tk => ⟨_, (pss_one (ps_ret (pe_and (pe_callB call_isi (by rfl) n_isinstance (by decide +kernel) (pa_cons (pv 1) (pa_cons (pe_glob (v := .ref (He.ga K "Run")) (by rfl) g_Run rfl) pa_nil))) (pe_and (pe_cmpR (op_eqD hr.units) (pe_fld (pv 0) rfl) (pe_fld (pv 1) rfl) (nomark _)) (pe_one (pe_cmpR (op_eqD hr.units) (pe_fld (pv 0) rfl) (pe_fld (pv 1) rfl) (nomark _))))))), ?_⟩
  intro ds r h
  rcases h with ⟨n, ms, n2, ms2, hok, hok2, rfl, rfl⟩ | ⟨n, ms, xs, hok, rfl, rfl⟩
  · refine s_retP (j_is (j_and (a := true) (j_isi (j_var rfl).td (.own _) (ty_ob T.ct_Run) T.k_Run).td fun _ => j_and (j_op (pl_R rfl T) (pl_R rfl T).td (opv_eqD (by rfl) (by rfl))).td fun _ => j_op (pk_R rfl T) (pk_R rfl T).td (opv_eqD (sh_iN.ok (by decide)) (sh_iN.ok (by decide)))) ?_) rfl
    rw [eqv_int, PyData.eqv, eqv_iN]
    by_cases h : n = n2
    · subst h; simp
    · simp [h, Int.ofNat_inj]
  · exact s_retP (j_andF (j_isi (j_var rfl).td (.own _) ty_lst T.k_list).td) rfl
def R_len (ds : List D) (r : Res) : Prop := ∃ n ms, RunOk n ms ∧ ds = [dR n ms] ∧ r = .ok (.int (ms.length : Nat))
theorem len_R_len : ∀ ds r, R_len ds r → ds.length = 1 := fun ds r ⟨_, _, _, h, _⟩ => by rw [h]; rfl
abbrev s_Run___len__ : Stmt := mem (top 30) 14
theorem sc_Run___len__ : FnScope ["self"] ["self"] (defScope s_Run___len__) := ⟨rfl, rfl, rfl, by decide +kernel, rfl, by decide +kernel, by decide +kernel⟩
theorem ok_Run___len__ (T : GlX mg K) (hS : PySem.W.selfFirst K (He.ga K "Run") = true) (hF : ∃ f fd, PySem.W.findIn K (.ref (He.ga K "Run")) "__len__" = some (some (.ref f)) ∧ PySem.W.isFn K (.ref f) = true ∧ L2.Fun K "__len__" "Run.__len__" s_Run___len__ f fd) : SO P w K mg base "Run" "__len__" 1 ["self"] (spD K R_len) := by
  obtain ⟨f, fd, hM1, hM2, F⟩ := hF
  have n_len := T.n_len
  refine so_make F hS hM1 hM2 (fun _ _ _ _ _ _ us hl => match us, hl with | [_], _ => rfl) sc_Run___len__ len_R_len fun cdv A outer s H E0 hr tk => ⟨_, (pss_one (ps_ret (pe_callB call_len_seq (by rfl) n_len (by decide +kernel) (pa_cons (pe_fld (pv 0) rfl) pa_nil)))), ?_⟩
  intro ds r ⟨n, ms, hok, e1, e2⟩
  subst e1 e2
  exact s_retP (j_is (j_cb (ja_one (pm_R rfl T).td) cb_lenT) (by rw [List.length_map])) rfl
end
end DL
-- DE
namespace DL
open PySem PySem.Spec PyProof.Rows L2
section
variable {K : PySem.W.Frag} {E : L2.St → XK} {m : Bool} {te : TE} {tas : TA} {S S' S1 S2 : List SD} {χ : XO} {x y z : D} {xs ys ds : List D} {t u : TS} {i j : Nat} {P : Post} {a : Addr}
def spNL (K : PySem.W.Frag) (R : List D → (List D → Prop) → Prop) : Sp := fun vs H Q E => ∃ G ds φ, Ex G H ∧ DdAll K G vs ds ∧ R ds φ ∧ ∀ xs, φ xs → ∀ p us G' H', Stp no G H G' H' → H p = none → G' p = none → H' p = some (.lst us) → DdAll K G' us xs → Q (.ref p) H'
def PRL (φ : List D → Prop) : Post := { nx := fun _ => False, rt := fun v _ _ S => ∃ (i : Nat) (a : Addr) (xs : List D), v = .ref a ∧ S[i]? = some (SD.l a (.lst xs)) ∧ φ xs, xc := fun _ _ _ _ => False }
theorem j_varR {i : Nat} {a : Addr} {c : Ct} (h : S[i]? = some (.l a c)) : J K E m (tVar i) S S (fun v _ _ => v = .ref a) χ := fun σ G H s Q k _ => by
  obtain ⟨ov, e, rfl, _⟩ := s.ok i _ h
  exact ⟨.ref a, e, k _ G H (.refl s.ex) s (fun _ z => z) rfl⟩
theorem s_retL {φ : List D → Prop} (h : S[i]? = some (.l a (.lst xs))) (f : φ xs) : ST K E (tRet (tVar i)) S (PRL φ) := st_ret (m := false) (j_varR h) (fun v G' H' e => ⟨i, a, xs, e, h, f⟩) (χ := nox) xin_no
theorem spNL_use {R : List D → (List D → Prop) → Prop} {N : List Str} {vs : List V} {H : Hp} {Q : VK} {E0 : XK} (h : spNL K R vs H Q E0) (st : ∀ ds φ, R ds φ → ST K (fun _ => E0) t (ini N ds) (PRL φ)) :
    t { nx := fun _ H' => Q .non H', rt := Q } (L2.start N vs) H := by
  obtain ⟨G, ds, φ, e, hd, hf, h1⟩ := h
  have n : ∀ {G' H' : Hp}, Stp (own (ini N ds)) G H G' H' → Stp no G H G' H' := fun s => s.imp fun a z => own_ini z
  refine st ds φ hf _ _ G H (sl_ini e hd) ⟨fun _ _ _ _ p => p.elim, fun v S' σ' G' H' ⟨i, a, xs, ev, hi, f⟩ q s b => ?_, fun _ _ _ _ _ _ _ _ _ p => p.elim, fun _ _ _ _ p => p.elim, fun _ _ _ _ p => p.elim⟩
  subst ev
  obtain ⟨ov, _, _, ga, us, q1, q2⟩ := q.ok i _ hi
  have hn : H a = none := (b a ⟨i, _, hi⟩).elim (fun z => (own_ini z).elim) id
  exact h1 xs f a us G' H' (n s) hn ga q1 q2
theorem fn_dataL {P : Program} {w : World} {mg : Str → Option Value} {base : Heap} {x qual : Str} {st : Stmt} {f : Addr} {fd : FuncData} {N ps : List Str} {k : Nat} {R : List D → (List D → Prop) → Prop} (F : L2.Fun K x qual st f fd) (Sc : FnScope N ps (defScope st))
    (len : ∀ ds φ, R ds φ → ds.length = ps.length)
    (body : ∀ (cdv : Value) (A : Around) (outer : List Env) (s : Shared) (H : Hp) (E0 : XK), Room k (A.deeper (envOfC qual (defScope st) s.heap.objs.size f cdv)) →
      Takes (cxOf (L2.CX P w) P w K mg base N qual (defScope st) f cdv A outer s H E0) (fun cls d _ H => E0 cls d H) →
      ∃ t, PSs (cxOf (L2.CX P w) P w K mg base N qual (defScope st) f cdv A outer s H E0) (defBody st) t ∧ ∀ ds φ, R ds φ → ST K (fun _ => E0) t (ini N ds) (PRL φ)) :
    FnOk P w K mg base (L2.CX P w) (k + 1) f fd ps (spNL K R) := by
  refine F.okX Sc (fun vs H Q E h => ?_) fun cdv A outer s H vs Q E0 hr h => ?_
  · obtain ⟨G, ds, φ, _, hd, hf, _⟩ := h
    rw [dpa_len hd]
    exact len ds φ hf
  · obtain ⟨t, h1, h2⟩ := body cdv A outer s H E0 hr (takes_of rfl rfl rfl rfl)
    exact ⟨t, h1, spNL_use h fun ds φ e => h2 ds φ e⟩
theorem fo_makeL {P : Program} {w : World} {mg : Str → Option Value} {base : Heap} {nm qual : Str} {st : Stmt} {fd : FuncData} {N ps : List Str} {k : Nat} {R : List D → (List D → Prop) → Prop} (F : L2.Fun K nm qual st (He.ga K nm) fd) (hG : mg nm = some (.ref (He.ga K nm))) (hb : BindH nm qual st ps)
    (Sc : FnScope N ps (defScope st)) (len : ∀ ds φ, R ds φ → ds.length = ps.length)
    (body : ∀ (cdv : Value) (A : Around) (outer : List Env) (s : Shared) (H : Hp) (E0 : XK), Room k (A.deeper (envOfC qual (defScope st) s.heap.objs.size (He.ga K nm) cdv)) →
      Takes (cxOf (L2.CX P w) P w K mg base N qual (defScope st) (He.ga K nm) cdv A outer s H E0) (fun cls d _ H => E0 cls d H) →
      ∃ t, PSs (cxOf (L2.CX P w) P w K mg base N qual (defScope st) (He.ga K nm) cdv A outer s H E0) (defBody st) t ∧ ∀ ds φ, R ds φ → ST K (fun _ => E0) t (ini N ds) (PRL φ)) : FO P w K mg base nm (k + 1) ps (spNL K R) :=
  ⟨hG, F.kp, fd, fn_dataL F Sc len body, binds_of F hb⟩
theorem s_newL {R : List D → (List D → Prop) → Prop} {E1 : L2.St → XK} {φ : List D → Prop} (h : JA K E m tas S S' (da K ds) nox) (hR : R ds φ) (k : ∀ xs a, φ xs → ST K E u (S'.set i (.l a (.lst xs))) P) :
    ST K E (tSeq (tAsg (tCallSD (spNL K R) [] E1 tas) (gName i)) u) S P :=
  st_seq (fun S2 => ∃ xs a, φ xs ∧ S2 = S'.set i (.l a (.lst xs))) (fun De σ G H s g => h σ G H s _ (fun vs G1 H1 st1 s1 o1 d1 => by
    refine ⟨G1, ds, φ, st1.h, by rw [List.append_nil]; exact d1, hR, fun xs f p us G2 H2 st2 hp gp q r => ?_⟩
    have s2 := s1.on st2
    have st12 : Stp (oF m S) G H G2 H2 := st1.trans st2 (fun _ z => z) fun _ _ _ _ _ z => z
    have np : ∀ b, own S' b → b ≠ p := fun b o e => by
      obtain ⟨u, hu⟩ := s1.ownH o
      rw [e, hp] at hu
      cases hu
    refine g.nx _ _ G2 H2 ⟨xs, p, f, rfl⟩ (s2.set ⟨rfl, gp, us, q, r⟩ fun b c e j ys _ w => ?_) st12.oM fun b z => ?_
    · cases e
      exact np p ⟨j, ys, w⟩ rfl
    · by_cases c : b = p
      · subst c
        exact .inr (st1.d b hp)
      · obtain ⟨j, ys, w⟩ := z
        by_cases d : i = j
        · subst d
          rw [List.getElem?_set_self'] at w
          cases q2 : S'[i]? with
          | none => rw [q2] at w; cases w
          | some z' =>
            rw [q2] at w
            cases (Option.some.inj w)
            exact (c rfl).elim
        · rw [List.getElem?_set_ne d] at w
          exact .inl (o1 b ⟨j, ys, w⟩)) fun _ _ _ _ z => z.ex.elim fun _ ⟨_, _, q, _⟩ => q.elim) fun S2 ⟨xs, a, f, e⟩ => by
    subst e
    exact k xs a f
end
end DL
-- A10
namespace DL
open PySem PySem.Spec PyProof.Rows L2
section
variable {P : Program} {w : World} {K : PySem.W.Frag} {mg : Str → Option Value} {base : Heap}
abbrev iL (ns : List Int) : List D := ns.map PyData.int
def pickV (ns : List Int) (m : Nat) : Nat := match ns.getLast? with
  | none => 0
  | some x => (x % (m : Int)).toNat
theorem pickV_lt {ns : List Int} {m : Nat} (h : 0 < m) : pickV ns m < m := by
  unfold pickV
  split
  · exact h
  · rename_i x _
    have h1 := Int.emod_nonneg x (show (m : Int) ≠ 0 by omega)
    have h2 := Int.emod_lt_of_pos x (show (0 : Int) < m by omega)
    omega
abbrev pool (ns : List Int) : Ct := .lst (iL ns)
def R_pick (c : Ct) (ds : List D) (r : Res) (c' : Ct) : Prop := ∃ (ns : List Int) (m : Nat), 0 < m ∧ c = pool ns ∧ ds = [.int (m : Nat)] ∧ r = .ok (.int (pickV ns m : Nat)) ∧ c' = pool ns.dropLast
theorem len_R_pick : ∀ c ds r c', R_pick c ds r c' → ds.length + 1 = 2 := fun c ds r c' ⟨_, _, _, _, h, _⟩ => by rw [h]; rfl
abbrev s__law_pick : Stmt := top 33
theorem sc__law_pick : FnScope ["_law_pool_here", "_law_many"] ["_law_pool_here", "_law_many"] (defScope s__law_pick) := ⟨rfl, rfl, rfl, by decide +kernel, rfl, by decide +kernel, by decide +kernel⟩
theorem ok__law_pick (T : GlX mg K) (hF : ∃ fd, L2.Fun K "_law_pick" "_law_pick" s__law_pick (He.ga K "_law_pick") fd) (hG : mg "_law_pick" = some (.ref (He.ga K "_law_pick"))) : FO P w K mg base "_law_pick" 1 ["_law_pool_here", "_law_many"] (spM K R_pick) := by
  obtain ⟨fd, F⟩ := hF
  have n_int := T.n_int
  have n_len := T.n_len
  refine fo_makeM F hG (fun _ _ _ _ _ _ us hl => match us, hl with | [_, _], _ => rfl) sc__law_pick len_R_pick fun cdv A outer s H E0 hr tk => ⟨_, (pss_cons (ps_if (pt_cmpR (op_eqD hr.units) (pe_callB call_len_seq (by rfl) n_len (by decide +kernel) (pa_cons (pv 0) pa_nil)) pe_int (nomark _)) (pss_one (ps_ret pe_int)) pss_nil) (pss_one (ps_ret (pe_op op_mod (pe_callTy call_int1 (by rfl) n_int (by decide +kernel) (pa_cons (pe_bm0 PySem.F.plainAttrs_list PySem.F.slot_list_pop PySem.F.type_list_pop mt_pop (pv 0)) pa_nil)) (pv 1))))), ?_⟩
  intro a c ds r c' ⟨ns, m, hm, ec, e1, e2, e3⟩
  subst ec e1 e2 e3
  refine s_guard (b := ((ns.length : Int) == 0)) (jt_is (jt_B (j_op (j_cb (ja_one (j_varL rfl)) cb_lenL) j_int.td (opv_eqD (by rfl) (by rfl))).td) (by rw [eqv_int, List.length_map])) (fun h => ?_) (fun h => ?_)
  · have e : ns = [] := by
      have := eq_of_beq h
      exact List.eq_nil_of_length_eq_zero (by omega)
    subst e
    exact s_ret j_int fun v G H d => ⟨rfl, _, rfl, d⟩
  · have hne : ns ≠ [] := by
      intro e
      subst e
      simp at h
    obtain ⟨x, hx⟩ : ∃ x, ns.getLast? = some x := ⟨_, List.getLast?_eq_some_getLast hne⟩
    have hp : (iL ns)[(iL ns).length - 1]? = some (.int x) := by
      rw [List.length_map, List.getElem?_map]
      rw [List.getLast?_eq_getElem?] at hx
      rw [hx]
      rfl
    refine s_retm (S' := _) (x := .int (x % (m : Int))) (j_op (j_cb (ja_one (j_pop (i := 0) (a := a) rfl hp).td) cb_int) (j_var rfl).td (opv_i (by omega))) fun v G H d => ⟨?_, .int (x % (m : Int)), ?_, d⟩
    · show some (SD.l a (.lst (iL ns).dropLast)) = _
      rw [← List.map_dropLast]
    · have h1 := Int.emod_nonneg x (show (m : Int) ≠ 0 by omega)
      have e : ((pickV ns m : Nat) : Int) = x % (m : Int) := by
        unfold pickV
        rw [hx]
        show ((x % (m : Int)).toNat : Int) = _
        omega
      rw [e]
def lotsF : Nat → List (List Nat)
  | 0 => [[]]
  | n + 1 => lotsF n ++ (lotsF n).map fun l => l ++ [n]
theorem lotsF_len : ∀ n, (lotsF n).length = 2 ^ n
  | 0 => rfl
  | n + 1 => by rw [lotsF, List.length_append, List.length_map, lotsF_len n, Nat.pow_succ]; omega
theorem lotsF_in : ∀ n, ∀ l ∈ lotsF n, l.length ≤ n
  | 0, l, h => by
    rw [List.mem_singleton.mp h]
    exact Nat.le_refl _
  | n + 1, l, h => by
    rcases List.mem_append.mp h with h | h
    · exact Nat.le_succ_of_le (lotsF_in n l h)
    · obtain ⟨k, hk, rfl⟩ := List.mem_map.mp h
      rw [List.length_append]
      exact Nat.succ_le_succ (lotsF_in n k hk)
abbrev dNl (l : List Nat) : D := .list (iN l)
abbrev dLots (ls : List (List Nat)) : D := .list (ls.map dNl)
def R_lots (ds : List D) (r : Res) : Prop := ∃ n : Nat, n ≤ 12 ∧ ds = [.int (n : Nat)] ∧ r = .ok (dLots (lotsF n))
theorem len_R_lots : ∀ ds r, R_lots ds r → ds.length = 1 := fun ds r ⟨_, _, h, _⟩ => by rw [h]; rfl
theorem pow12 {n : Nat} (h : n ≤ 12) : 2 ^ n ≤ 4096 := pow_le h
abbrev s__law_lots : Stmt := top 34
theorem sc__law_lots : FnScope ["_law_size", "_law_lots_here", "_law_place", "_law_lot"] ["_law_size"] (defScope s__law_lots) := ⟨rfl, rfl, rfl, by decide +kernel, rfl, by decide +kernel, by decide +kernel⟩
theorem ok__law_lots (T : GlX mg K) (hF : ∃ fd, L2.Fun K "_law_lots" "_law_lots" s__law_lots (He.ga K "_law_lots") fd) (hG : mg "_law_lots" = some (.ref (He.ga K "_law_lots"))) : FO P w K mg base "_law_lots" 1 ["_law_size"] (spD K R_lots) := by
  obtain ⟨fd, F⟩ := hF
  have n_range := T.n_range
  refine fo_make F hG (fun _ _ _ _ _ _ us hl => match us, hl with | [_], _ => rfl) sc__law_lots len_R_lots fun cdv A outer s H E0 hr tk => ⟨_, (pss_cons (ps_set (i := 1) sc__law_lots.nd rfl (Or.inl rfl) (pe_lst (pa_cons (pe_lst pa_nil) pa_nil))) (pss_cons (ps_for (passes_of rfl) rfl (pi_range1 (by rfl) n_range (pa_cons (pv 0) pa_nil)) (pg_name (i := 2) sc__law_lots.nd rfl (Or.inr rfl)) (pss_one (ps_set (i := 1) sc__law_lots.nd rfl (Or.inl rfl) (pe_op op_cat (pv 1) (pe_lc (own := [("_law_lot", 3)]) (g := gName 3) (tt := tYes) rfl sc__law_lots.nd (pi_list (pv 1)) (blkOk_by (N := ["_law_size", "_law_lots_here", "_law_place", "_law_lot"]) (sc := defScope s__law_lots) (by decide +kernel)) (fun _ _ _ _ _ => (pg_name (i := 3) sc__law_lots.nd rfl (Or.inl rfl))) (fun _ _ _ _ _ => pts_nil) (fun _ _ _ _ _ => (pe_op op_cat (pv 3) (pe_lst (pa_cons (pv 2) pa_nil))))))))) (pss_one (ps_ret (pv 1))))), ?_⟩
  intro ds r ⟨n, hn, e1, e2⟩
  subst e1 e2
  refine s_set [.d (.int (n : Nat)), .d (dLots (lotsF 0)), .un, .un] (j_is (jl_lst (ja_cons (jl_lst ja_nil (by rw [sizeLine_eq]; decide)).dd ja_nil) (by rw [sizeLine_eq]; decide)).dd rfl) rfl ?_
  refine s_for (ds := rgD 0 ((n : Nat) : Int).toNat) (ji_rng1 (JA.td (ja_cons (j_var rfl) ja_nil)) (by omega) (by omega)) [2] (fun i S => ∃ x, S = [.d (.int (n : Nat)), .d (dLots (lotsF i)), x, .un]) ⟨_, rfl⟩ (fun i d S2 hd hI => ?_) (fun S2 hI => ?_)
  · obtain ⟨x, rfl⟩ := hI
    have hi : i < n := by
      have := (List.getElem?_eq_some_iff.mp hd).1
      rw [rgD_len, Int.toNat_natCast] at this
      exact this
    rw [Int.toNat_natCast, rgD_get hi] at hd
    cases hd
    rw [Int.zero_add]
    have h12 := pow12 (show i ≤ 12 by omega)
    refine ⟨_, jg_name (by simp), st_set (m := false) (x := dLots (lotsF (i + 1))) (j_is (jl_cat (J.sdL (j_var rfl)) (JL.sdL (jl_maps (k := 3) (lotsF i) dNl (fun l => dNl (l ++ [i])) (ji_list (j_var rfl)) rfl (fun l hl => ?_) (by rw [lotsF_len, sizeLine_eq]; omega))) ?_).dd ?_) ⟨_, rfl⟩ xin_no⟩
    · have := lotsF_in i l hl
      exact j_is (jl_cat (J.sdL (j_var rfl)) (JL.sdL (jl_lst (ja_cons (j_var rfl) ja_nil) (by show 1 ≤ _; rw [sizeLine_eq]; decide))) (by rw [List.length_map, sizeLine_eq]; show l.length + 1 ≤ _; omega)).dd (by show PyData.list (iN l ++ [PyData.int (i : Nat)]) = PyData.list ((l ++ [i]).map fun p => PyData.int (p : Nat)); rw [List.map_append]; rfl)
    · rw [List.length_map, List.length_map, lotsF_len, sizeLine_eq]
      omega
    · unfold dLots
      rw [lotsF, List.map_append, List.map_map]
      rfl
  · obtain ⟨x, rfl⟩ := hI
    rw [rgD_len, Int.toNat_natCast]
    exact s_retP (j_var rfl) rfl
def doStep (gs : List Int) (m : Mk3) : List Int := if m.t || decide (gs.getD m.j 0 > gs.getD m.i 0) then gs.set m.i (gs.getD m.j 0) else gs
theorem doStep_eq {gs : List Int} {m : Mk3} (h : m.i < gs.length) : doStep gs m = stepG gs m := by
  unfold doStep stepG
  cases m.t with
  | true => simp
  | false =>
    by_cases c : gs.getD m.j 0 > gs.getD m.i 0
    · rw [if_pos (by simpa using c), if_neg (by simp), if_pos c]
    · have e : gs.set m.i (gs.getD m.i 0) = gs := by
        have : gs.getD m.i 0 = gs[m.i] := by simp [List.getD, List.getElem?_eq_getElem h]
        rw [this, List.set_getElem_self]
      rw [if_neg (by simpa using c), if_neg (by simp), if_neg c, e]
abbrev dMs (ms : List Mk3) : D := .list (ms.map dM)
def R_do (ds : List D) (r : Res) : Prop := ∃ b gs ms, (∀ m ∈ ms, okM gs.length m) ∧ ds = [sqD b (iL gs), dMs ms] ∧ r = .ok (.list (iL (runG gs ms)))
theorem len_R_do : ∀ ds r, R_do ds r → ds.length = 2 := fun ds r ⟨_, _, _, _, h, _⟩ => by rw [h]; rfl
theorem jl_listS {E : L2.St → XK} {m : Bool} {te : TE} {S S' : List SD} {χ : XO} {b : Bool} {xs : List D} (h : J K E m te S S' (DL.dd K (sqD b xs)) χ) : JL K E m (tCB (rListQ K) (tCons te tNil)) S S' xs χ := by
  cases b with
  | true => exact jl_listT (J.sdT h)
  | false => exact jl_listL (J.sdL h)
theorem get_ints {gs : List Int} {k : Nat} (h : k < gs.length) : (iL gs)[k]? = some (.int (gs.getD k 0)) := get_map h
abbrev s__law_do : Stmt := top 35
theorem sc__law_do : FnScope ["_law_grades", "_law_marks", "_law_now", "_law_mark"] ["_law_grades", "_law_marks"] (defScope s__law_do) := ⟨rfl, rfl, rfl, by decide +kernel, rfl, by decide +kernel, by decide +kernel⟩
theorem ok__law_do (T : GlX mg K) (hF : ∃ fd, L2.Fun K "_law_do" "_law_do" s__law_do (He.ga K "_law_do") fd) (hG : mg "_law_do" = some (.ref (He.ga K "_law_do"))) : FO P w K mg base "_law_do" 1 ["_law_grades", "_law_marks"] (spD K R_do) := by
  obtain ⟨fd, F⟩ := hF
  have n_list := T.n_list
  refine fo_make F hG (fun _ _ _ _ _ _ us hl => match us, hl with | [_, _], _ => rfl) sc__law_do len_R_do fun cdv A outer s H E0 hr tk => ⟨_, (pss_cons (ps_set (i := 2) sc__law_do.nd rfl (Or.inl rfl) (pe_callTy call_list_of (by rfl) n_list (by decide +kernel) (pa_cons (pv 0) pa_nil))) (pss_cons (ps_for (passes_of rfl) rfl (pi_list (pv 1)) (pg_name (i := 3) sc__law_do.nd rfl (Or.inl rfl)) (pss_one (ps_if (PW.pt (pw_or (pt_cmpR (op_eqD hr.units) (pe_ix ix_tup (pv 3) pe_int (fun _ _ => rfl)) pe_str (nomark _)) (pw_or1 (pt_cmpR op_gt (pe_ix ix_list (pv 2) (pe_ix ix_tup (pv 3) pe_int (fun _ _ => rfl)) (fun _ _ => rfl)) (pe_ix ix_list (pv 2) (pe_ix ix_tup (pv 3) pe_int (fun _ _ => rfl)) (fun _ _ => rfl)) (nomark _))))) (pss_one (ps_asg (pe_ix ix_list (pv 2) (pe_ix ix_tup (pv 3) pe_int (fun _ _ => rfl)) (fun _ _ => rfl)) (pg_sub (pv 2) (pe_ix ix_tup (pv 3) pe_int (fun _ _ => rfl)) set_list))) pss_nil))) (pss_one (ps_ret (pv 2))))), ?_⟩
  intro ds r ⟨b, gs, ms, hm, e1, e2⟩
  subst e1 e2
  refine s_setL (jl_listS (b := b) (j_var rfl)) fun a => ?_
  refine s_for (ji_list (j_var rfl)) [3] (fun i S => ∃ x, S = [.d (sqD b (iL gs)), .d (dMs ms), .l a (.lst (iL (runG gs (ms.take i)))), x]) ⟨.un, rfl⟩ (fun i d S2 hd hI => ?_) (fun S2 hI => ?_)
  · obtain ⟨x, rfl⟩ := hI
    rw [List.getElem?_map] at hd
    cases q : ms[i]? with
    | none => rw [q] at hd; cases hd
    | some mk =>
      rw [q] at hd
      cases hd
      have hok := hm mk (List.mem_of_getElem? q)
      refine ⟨_, jg_name (by simp), ?_⟩
      generalize hcur : runG gs (ms.take i) = cur
      have hlen : cur.length = gs.length := by rw [← hcur, runG_len]
      have h1 : mk.i < cur.length := by rw [hlen]; exact hok.1
      have h2 : mk.j < cur.length := by rw [hlen]; exact hok.2.1
      have next : runG gs (ms.take (i + 1)) = doStep cur mk := by rw [runG_take q, hcur, doStep_eq h1]
      rw [next]
      refine s_if (b := mk.t || decide (cur.getD mk.j 0 > cur.getD mk.i 0)) (jt_or (jt_is (jt_B (j_op (j_ixT (xs := dMi mk) (i := 2) (x := .str (word mk.t)) (j_var rfl) j_int.td rfl) j_str.td (opv_eqD ((sh_str (word_ok _) (n := 0)).ok (by decide)) ((sh_str (by decide +kernel) (n := 0)).ok (by decide)))).td) (by rw [eqv_str]; exact word_take _)) fun _ =>
        jt_B (j_op (j_ixO (n := 2) (a := a) rfl (j_ixT (xs := dMi mk) (i := 1) (x := .int (mk.j : Nat)) (j_var rfl) j_int.td rfl).td (atI_nat (get_ints h2))) (j_ixO (n := 2) (a := a) rfl (j_ixT (xs := dMi mk) (i := 0) (x := .int (mk.i : Nat)) (j_var rfl) j_int.td rfl).td (atI_nat (get_ints h1))).td opv_b0).td) (fun c => ?_) (fun c => ?_)
      · refine st_item (m := false) (i := 2) (a := a) (xs := iL cur) (j := mk.i) (k := (mk.i : Nat)) (j_ixO (n := 2) (a := a) rfl (j_ixT (xs := dMi mk) (i := 1) (x := .int (mk.j : Nat)) (j_var rfl) j_int.td rfl).td (atI_nat (get_ints h2))) rfl
          (j_ixT (xs := dMi mk) (i := 0) (x := .int (mk.i : Nat)) (j_var rfl) j_int.td rfl).td (by rw [List.length_map]; exact ixN_nat h1) ⟨.d (dM mk), ?_⟩ xin_no
        unfold doStep
        rw [if_pos c]
        unfold iL
        rw [List.map_set]
        rfl
      · refine st_next ⟨.d (dM mk), ?_⟩
        unfold doStep
        rw [if_neg (by rw [c]; exact Bool.false_ne_true)]
        rfl
  · obtain ⟨x, rfl⟩ := hI
    rw [List.length_map, List.take_length]
    exact st_frz (i := 2) rfl (s_retP (j_var rfl) rfl)
end
end DL
-- A11
namespace DL
open PySem PySem.Spec PyProof.Rows L2
section
variable {P : Program} {w : World} {K : PySem.W.Frag} {mg : Str → Option Value} {base : Heap}
def bStep (m : Mk3) (now : List Nat) : List Nat := if m.i ∈ now then (if m.j ∈ (if m.t then now.erase m.i else now) then (if m.t then now.erase m.i else now) else (if m.t then now.erase m.i else now) ++ [m.j]) else now
def bRun (lot : List Nat) (ms : List Mk3) : List Nat := ms.foldr bStep lot
def BI (n : Nat) (now : List Nat) : Prop := now.Nodup ∧ ∀ p ∈ now, p < n
theorem BI.er {n : Nat} {now : List Nat} (h : BI n now) (p : Nat) : BI n (now.erase p) := ⟨h.1.erase p, fun q hq => h.2 q (List.mem_of_mem_erase hq)⟩
theorem BI.ad {n : Nat} {now : List Nat} (h : BI n now) {p : Nat} (hp : p < n) (hn : p ∉ now) : BI n (now ++ [p]) := ⟨List.nodup_append.mpr ⟨h.1, by simp, fun a ha b hb e => hn (by rw [List.mem_singleton.mp hb] at e; rw [← e]; exact ha)⟩, fun q hq => by
  rcases List.mem_append.mp hq with hq | hq
  · exact h.2 q hq
  · rw [List.mem_singleton.mp hq]; exact hp⟩
theorem BI.step {n : Nat} {now : List Nat} {m : Mk3} (h : BI n now) (hm : okM n m) : BI n (bStep m now) := by
  have h1 : BI n (if m.t then now.erase m.i else now) := by
    cases m.t with
    | true => exact h.er _
    | false => exact h
  unfold bStep
  generalize (if m.t then now.erase m.i else now) = n1 at h1 ⊢
  by_cases c : m.i ∈ now
  · rw [if_pos c]
    by_cases c2 : m.j ∈ n1
    · rw [if_pos c2]; exact h1
    · rw [if_neg c2]; exact h1.ad hm.2.1 c2
  · rw [if_neg c]; exact h
theorem BI.run {n : Nat} {lot : List Nat} : ∀ {ms : List Mk3}, BI n lot → (∀ m ∈ ms, okM n m) → BI n (bRun lot ms)
  | [], h, _ => h
  | m :: ms, h, hm => (BI.run h fun k hk => hm k (List.mem_cons_of_mem _ hk)).step (hm m List.mem_cons_self)
theorem BI.len : ∀ {n : Nat} {now : List Nat}, BI n now → now.length ≤ n
  | 0, [], _ => Nat.le_refl _
  | 0, a :: now, h => (Nat.not_lt_zero a (h.2 a List.mem_cons_self)).elim
  | n + 1, now, h => by
    by_cases c : n ∈ now
    · have ih := BI.len (n := n) (now := now.erase n) ⟨h.1.erase n, fun q hq => by
        have := (List.Nodup.mem_erase_iff h.1).mp hq
        have h2 := h.2 q this.2
        have h3 := this.1
        omega⟩
      rw [List.length_erase_of_mem c] at ih
      omega
    · have ih := BI.len (n := n) (now := now) ⟨h.1, fun q hq => by
        have h2 := h.2 q hq
        have h3 : q ≠ n := fun e => c (e ▸ hq)
        omega⟩
      omega
def iZ (xs : List Nat) : List Int := xs.map fun (p : Nat) => (p : Int)
theorem erase_at : ∀ {now : List Nat} {i : Nat}, i ∈ now → ∃ j : Nat, (iZ now)[j]? = some (i : Int) ∧ (∀ m : Nat, m < j → (iZ now)[m]? ≠ some (i : Int)) ∧ (iZ now).eraseIdx j = iZ (now.erase i)
  | [], i, h => by cases h
  | a :: now, i, h => by
    by_cases c : a = i
    · subst c
      exact ⟨0, rfl, fun m hm => (Nat.not_lt_zero m hm).elim, by simp [iZ]⟩
    · have hm : i ∈ now := (List.mem_cons.mp h).resolve_left (Ne.symm c)
      obtain ⟨j, h1, h2, h3⟩ := erase_at hm
      refine ⟨j + 1, by simpa [iZ] using h1, fun m hm => ?_, ?_⟩
      · cases m with
        | zero =>
          show some (a : Int) ≠ some (i : Int)
          intro z
          have := Option.some.inj z
          exact c (by omega)
        | succ m =>
          have := h2 m (by omega)
          simpa [iZ] using this
      · rw [List.erase_cons_tail (by simpa using c)]
        show (a : Int) :: (iZ now).eraseIdx j = _
        rw [h3]
        rfl
theorem inD_iZ {p : Nat} {now : List Nat} : inD (.int (p : Nat)) (iL (iZ now)) = decide (p ∈ now) := by
  induction now with
  | nil => rfl
  | cons a now ih =>
    unfold inD at ih ⊢
    show (PyData.eqv (.int (a : Nat)) (.int (p : Nat)) || (iL (iZ now)).any fun y => PyData.eqv y (.int (p : Nat))) = _
    rw [ih, eqv_int]
    by_cases c : a = p
    · subst c; simp
    · have : ((a : Int) == (p : Int)) = false := by
        rw [Bool.eq_false_iff]
        intro z
        exact c (by have := eq_of_beq z; omega)
      rw [this]
      simp [Ne.symm c]
theorem flat_iL (ns : List Int) : (iL ns).all flatD = true := by
  induction ns with
  | nil => rfl
  | cons a ns ih => exact ih
abbrev dSort (xs : List Nat) : List D := iL (sortI (iZ xs))
def R_backL (ds : List D) (r : Res) : Prop := ∃ n lot ms b, n ≤ 12 ∧ BI n lot ∧ (∀ m ∈ ms, okM n m) ∧ ms.length < 1000 ∧ ds = [sqD b (iL (iZ lot)), dMs ms] ∧ r = .ok (.list (dSort (bRun lot ms)))
theorem len_R_backL : ∀ ds r, R_backL ds r → ds.length = 2 := fun ds r ⟨_, _, _, _, _, _, _, _, h, _⟩ => by rw [h]; rfl
theorem drop_cons {ms : List Mk3} {k : Nat} {m : Mk3} (h : ms[k]? = some m) : ms.drop k = m :: ms.drop (k + 1) := by
  obtain ⟨hk, e⟩ := List.getElem?_eq_some_iff.mp h
  rw [List.drop_eq_getElem_cons hk, e]
abbrev s__law_back : Stmt := top 36
theorem sc__law_back : FnScope ["_law_lot", "_law_marks", "_law_now", "_law_k", "_law_mark"] ["_law_lot", "_law_marks"] (defScope s__law_back) := ⟨rfl, rfl, rfl, by decide +kernel, rfl, by decide +kernel, by decide +kernel⟩
theorem ok__law_back (T : GlX mg K) (hF : ∃ fd, L2.Fun K "_law_back" "_law_back" s__law_back (He.ga K "_law_back") fd) (hG : mg "_law_back" = some (.ref (He.ga K "_law_back"))) : FO P w K mg base "_law_back" 1 ["_law_lot", "_law_marks"] (spD K R_backL) := by
  obtain ⟨fd, F⟩ := hF
  have n_sorted := T.n_sorted
  have n_range := T.n_range
  have n_len := T.n_len
  have n_list := T.n_list
  refine fo_make F hG (fun _ _ _ _ _ _ us hl => match us, hl with | [_, _], _ => rfl) sc__law_back len_R_backL fun cdv A outer s H E0 hr tk => ⟨_, (pss_cons (ps_set (i := 2) sc__law_back.nd rfl (Or.inl rfl) (pe_callTy call_list_of (by rfl) n_list (by decide +kernel) (pa_cons (pv 0) pa_nil))) (pss_cons (ps_for (passes_of rfl) rfl (pi_range1 (by rfl) n_range (pa_cons (pe_callB call_len_seq (by rfl) n_len (by decide +kernel) (pa_cons (pv 1) pa_nil)) pa_nil)) (pg_name (i := 3) sc__law_back.nd rfl (Or.inl rfl)) (pss_cons (ps_set (i := 4) sc__law_back.nd rfl (Or.inl rfl) (pe_ix ix_list (pv 1) (pe_op op_sub (pe_op op_sub (pe_callB call_len_seq (by rfl) n_len (by decide +kernel) (pa_cons (pv 1) pa_nil)) pe_int) (pv 3)) (fun _ _ => rfl))) (pss_one (ps_if (pt_cmpR op_in_seq (pe_ix ix_tup (pv 4) pe_int (fun _ _ => rfl)) (pv 2) (by rfl)) (pss_cons (ps_if (pt_cmpR (op_eqD hr.units) (pe_ix ix_tup (pv 4) pe_int (fun _ _ => rfl)) pe_str (nomark _)) (pss_one (ps_expr (pe_bm PySem.F.plainAttrs_list PySem.F.slot_list_remove PySem.F.type_list_remove mt_remove (pv 2) (pa_cons (pe_ix ix_tup (pv 4) pe_int (fun _ _ => rfl)) pa_nil)))) pss_nil) (pss_one (ps_if (pt_cmpR op_notIn_seq (pe_ix ix_tup (pv 4) pe_int (fun _ _ => rfl)) (pv 2) (by rfl)) (pss_one (ps_expr (pe_bm PySem.F.plainAttrs_list PySem.F.slot_list_append PySem.F.type_list_append mt_append (pv 2) (pa_cons (pe_ix ix_tup (pv 4) pe_int (fun _ _ => rfl)) pa_nil)))) pss_nil))) pss_nil)))) (pss_one (ps_ret (pe_callB cr_sorted (by rfl) n_sorted (by decide +kernel) (pa_cons (pv 2) pa_nil)))))), ?_⟩
  intro ds r ⟨n, lot, ms, b, hn, hl, hm, hz, e1, e2⟩
  subst e1 e2
  refine s_setL (jl_listS (b := b) (j_var rfl)) fun a => ?_
  have hlen : ((ms.map dM).length : Int).toNat = ms.length := by rw [List.length_map]; omega
  refine s_for (ds := rgD 0 ((ms.map dM).length : Int).toNat) (ji_rng1 (JA.td (ja_cons (j_cb (ja_one (j_var rfl).td) cb_lenL) ja_nil)) (by rw [List.length_map]; omega) (by omega)) [3] (fun k S => ∃ x3 x4, S = [.d (sqD b (iL (iZ lot))), .d (dMs ms), .l a (.lst (iL (iZ (bRun lot (ms.drop (ms.length - k)))))), x3, x4])
    ⟨.un, .un, by rw [Nat.sub_zero, List.drop_length]; rfl⟩ (fun k d S2 hd hI => ?_) (fun S2 hI => ?_)
  · obtain ⟨x3, x4, rfl⟩ := hI
    have hk : k < ms.length := by
      have := (List.getElem?_eq_some_iff.mp hd).1
      rw [rgD_len, hlen] at this
      exact this
    rw [hlen, rgD_get hk] at hd
    cases hd
    rw [Int.zero_add]
    obtain ⟨mk, q⟩ : ∃ mk, ms[ms.length - 1 - k]? = some mk := ⟨_, List.getElem?_eq_getElem (by omega)⟩
    have hok := hm mk (List.mem_of_getElem? q)
    have nx : bRun lot (ms.drop (ms.length - (k + 1))) = bStep mk (bRun lot (ms.drop (ms.length - k))) := by
      rw [show ms.length - (k + 1) = ms.length - 1 - k by omega, drop_cons q, show ms.length - 1 - k + 1 = ms.length - k by omega]
      rfl
    rw [nx]
    have hb : BI n (bRun lot (ms.drop (ms.length - k))) := hl.run fun m h => hm m (List.mem_of_mem_drop h)
    generalize bRun lot (ms.drop (ms.length - k)) = now at hb
    have qi : (((ms.map dM).length : Int) - 1) - (k : Nat) = ((ms.length - 1 - k : Nat) : Int) := by rw [List.length_map]; omega
    refine ⟨_, jg_name (by simp), ?_⟩
    refine s_set [.d (sqD b (iL (iZ lot))), .d (dMs ms), .l a (.lst (iL (iZ now))), .d (.int (k : Nat)), .d (dM mk)] (j_ixL (j_var rfl) (j_op (j_op (j_cb (ja_one (j_var rfl).td) cb_lenL) j_int.td opv_i0) (j_var rfl).td opv_i0).td (by rw [qi]; exact atI_nat (by rw [List.getElem?_map, q]; rfl))) rfl ?_
    refine s_if (b := decide (mk.i ∈ now)) (jt_is (jt_B (j_op (j_ixT (xs := dMi mk) (i := 0) (x := .int (mk.i : Nat)) (j_var rfl) j_int.td rfl) (j_varL rfl) (opv_inL rfl (flat_iL _))).td) inD_iZ) (fun c => ?_) (fun c => ?_)
    · have c1 : mk.i ∈ now := of_decide_eq_true c
      obtain ⟨j, g1, g2, g3⟩ := erase_at c1
      refine s_ifS1 [.d (sqD b (iL (iZ lot))), .d (dMs ms), .l a (.lst (iL (iZ (if mk.t then now.erase mk.i else now)))), .d (.int (k : Nat)), .d (dM mk)]
        (b := mk.t) (jt_is (jt_B (j_op (j_ixT (xs := dMi mk) (i := 2) (x := .str (word mk.t)) (j_var rfl) j_int.td rfl) j_str.td (opv_eqD ((sh_str (word_ok _) (n := 0)).ok (by decide)) ((sh_str (by decide +kernel) (n := 0)).ok (by decide)))).td) (by rw [eqv_str]; exact word_take _)) (fun ct => ?_) (fun ct => ?_) ?_
      · refine st_remI (i := 2) (a := a) (ns := iZ now) (k := (mk.i : Nat)) (j := j) rfl (j_ixT (xs := dMi mk) (i := 0) (x := .int (mk.i : Nat)) (j_var rfl) j_int.td rfl).td g1 g2 ?_
        show _ = _
        rw [g3, if_pos ct]
        rfl
      · refine st_next ?_
        show _ = _
        rw [ct]
        rfl
      · have hb2 : BI n (if mk.t then now.erase mk.i else now) := by
          split
          · exact hb.er _
          · exact hb
        have e3 : bStep mk now = if mk.j ∈ (if mk.t then now.erase mk.i else now) then (if mk.t then now.erase mk.i else now) else (if mk.t then now.erase mk.i else now) ++ [mk.j] := by
          unfold bStep
          rw [if_pos c1]
        rw [e3]
        generalize (if mk.t then now.erase mk.i else now) = n1 at hb2
        refine s_if (b := !decide (mk.j ∈ n1)) (jt_is (jt_B (j_op (j_ixT (xs := dMi mk) (i := 1) (x := .int (mk.j : Nat)) (j_var rfl) j_int.td rfl) (j_varL rfl) (opv_niL rfl (flat_iL _))).td) (by rw [inD_iZ])) (fun c2 => ?_) (fun c2 => ?_)
        · have c3 : mk.j ∉ n1 := of_decide_eq_false (by simpa using c2)
          refine st_app (m := false) (i := 2) (a := a) (xs := iL (iZ n1)) (ys := iL (iZ n1)) (j_ixT (xs := dMi mk) (i := 1) (x := .int (mk.j : Nat)) (j_var rfl) j_int.td rfl) rfl (by have := hb2.len; rw [sizeLine_eq]; simp [iZ]; omega) ⟨.d (.int (k : Nat)), .d (dM mk), ?_⟩ xin_no rfl
          rw [if_neg c3]
          show _ = [_, _, SD.l a (.lst (iL (iZ (n1 ++ [mk.j])))), _, _]
          unfold iZ iL
          rw [List.map_append, List.map_append]
          rfl
        · have c3 : mk.j ∈ n1 := of_decide_eq_true (by simpa using c2)
          exact st_next ⟨.d (.int (k : Nat)), .d (dM mk), by rw [if_pos c3]⟩
    · have c1 : mk.i ∉ now := of_decide_eq_false c
      refine st_next ⟨.d (.int (k : Nat)), .d (dM mk), ?_⟩
      unfold bStep
      rw [if_neg c1]
  · obtain ⟨x3, x4, rfl⟩ := hI
    rw [rgD_len, hlen, Nat.sub_self, List.drop_zero]
    have hb : BI n (bRun lot ms) := hl.run hm
    have := hb.len
    exact s_retP (jl_sorted (ns := iZ (bRun lot ms)) (j_varL rfl) (by simp [iZ]; omega)).dd rfl
end
end DL
-- A12
namespace DL
open PySem PySem.Spec PyProof.Rows L2
section
variable {P : Program} {w : World} {K : PySem.W.Frag} {mg : Str → Option Value} {base : Heap}
abbrev drop1 (ns : List Int) : List Int := ns.dropLast
def anyMk (n : Nat) (ns : List Int) : Mk3 := ⟨pickV ns n, (pickV ns n + 1 + pickV (drop1 ns) (n - 1)) % n, pickV (drop1 (drop1 ns)) 2 == 0⟩
def anyF (n : Nat) (ns : List Int) : Nat → List Mk3 × List Int
  | 0 => ([], ns)
  | k + 1 => ((anyF n ns k).1 ++ [anyMk n (anyF n ns k).2], drop1 (drop1 (drop1 (anyF n ns k).2)))
theorem anyMk_ok {n : Nat} {ns : List Int} (h : 2 ≤ n) : okM n (anyMk n ns) := by
  have h1 := pickV_lt (ns := ns) (m := n) (by omega)
  have h2 := pickV_lt (ns := drop1 ns) (m := n - 1) (by omega)
  refine ⟨h1, Nat.mod_lt _ (by omega), fun e => ?_⟩
  have e : pickV ns n = (pickV ns n + 1 + pickV (drop1 ns) (n - 1)) % n := e
  by_cases c : pickV ns n + 1 + pickV (drop1 ns) (n - 1) < n
  · rw [Nat.mod_eq_of_lt c] at e
    omega
  · rw [Nat.mod_eq_sub_mod (by omega), Nat.mod_eq_of_lt (by omega)] at e
    omega
theorem anyF_ok {n : Nat} {ns : List Int} (h : 2 ≤ n) : ∀ k, ∀ m ∈ (anyF n ns k).1, okM n m
  | 0, m, hm => by cases hm
  | k + 1, m, hm => by
    rcases List.mem_append.mp hm with hm | hm
    · exact anyF_ok h k m hm
    · rw [List.mem_singleton.mp hm]
      exact anyMk_ok h
theorem anyF_len {n : Nat} {ns : List Int} : ∀ k, (anyF n ns k).1.length = k
  | 0 => rfl
  | k + 1 => by rw [anyF, List.length_append, anyF_len k]; rfl
def R_any (c : Ct) (ds : List D) (r : Res) (c' : Ct) : Prop := ∃ (ns : List Int) (n k : Nat), 2 ≤ n ∧ n ≤ 6 ∧ k < 1000 ∧ c = pool ns ∧ ds = [.int (n : Nat), .int (k : Nat)] ∧ r = .ok (dMs (anyF n ns k).1) ∧ c' = pool (anyF n ns k).2
theorem len_R_any : ∀ c ds r c', R_any c ds r c' → ds.length + 1 = 3 := fun c ds r c' ⟨_, _, _, _, _, _, _, h, _⟩ => by rw [h]; rfl
abbrev s__law_any_marks : Stmt := top 37
theorem sc__law_any_marks : FnScope ["_law_pool_here", "_law_size", "_law_many", "_law_marks", "_law_turn", "_law_i", "_law_j"] ["_law_pool_here", "_law_size", "_law_many"] (defScope s__law_any_marks) := ⟨rfl, rfl, rfl, by decide +kernel, rfl, by decide +kernel, by decide +kernel⟩
theorem ok__law_any_marks (T : GlX mg K) (hF : ∃ fd, L2.Fun K "_law_any_marks" "_law_any_marks" s__law_any_marks (He.ga K "_law_any_marks") fd) (hG : mg "_law_any_marks" = some (.ref (He.ga K "_law_any_marks"))) (F__law_pick : FO P w K mg base "_law_pick" 1 ["_law_pool_here", "_law_many"] (spM K R_pick)) : FO P w K mg base "_law_any_marks" 2 ["_law_pool_here", "_law_size", "_law_many"] (spM K R_any) := by
  obtain ⟨fd, F⟩ := hF
  have n_range := T.n_range
  have n_int := T.n_int
  refine fo_makeM F hG (fun _ _ _ _ _ _ us hl => match us, hl with | [_, _, _], _ => rfl) sc__law_any_marks len_R_any fun cdv A outer s H E0 hr tk => ⟨_, (pss_cons (ps_set (i := 3) sc__law_any_marks.nd rfl (Or.inl rfl) (pe_lst pa_nil)) (pss_cons (ps_for (passes_of rfl) rfl (pi_range1 (by rfl) n_range (pa_cons (pv 2) pa_nil)) (pg_name (i := 4) sc__law_any_marks.nd rfl (Or.inl rfl)) (pss_cons (ps_set (i := 5) sc__law_any_marks.nd rfl (Or.inl rfl) (pe_fo F__law_pick (hr.mono (by decide)) (by rfl) tk (pa_cons (pv 0) (pa_cons (pv 1) pa_nil)))) (pss_cons (ps_set (i := 6) sc__law_any_marks.nd rfl (Or.inl rfl) (pe_op op_mod (pe_callTy call_int1 (by rfl) n_int (by decide +kernel) (pa_cons (pe_op op_add (pe_op op_add (pv 5) pe_int) (pe_fo F__law_pick (hr.mono (by decide)) (by rfl) tk (pa_cons (pv 0) (pa_cons (pe_op op_sub (pv 1) pe_int) pa_nil)))) pa_nil)) (pv 1))) (pss_one (ps_expr (pe_bm PySem.F.plainAttrs_list PySem.F.slot_list_append PySem.F.type_list_append mt_append (pv 3) (pa_cons (pe_tup (pa_cons (pv 5) (pa_cons (pv 6) (pa_cons (pe_ix ix_list (pe_lst (pa_cons pe_str (pa_cons pe_str pa_nil))) (pe_fo F__law_pick (hr.mono (by decide)) (by rfl) tk (pa_cons (pv 0) (pa_cons pe_int pa_nil))) (fun _ _ => rfl)) pa_nil)))) pa_nil))))))) (pss_one (ps_ret (pv 3))))), ?_⟩
  intro a c ds r c' ⟨ns, n, k, h2, h6, hk, ec, e1, e2, e3⟩
  subst ec e1 e2 e3
  refine s_setL (jl_lst ja_nil (Nat.zero_le _)) fun b => ?_
  refine s_for (ds := rgD 0 ((k : Nat) : Int).toNat) (ji_rng1 (JA.td (ja_cons (j_var rfl) ja_nil)) (by omega) (by omega)) [4] (fun i S => ∃ x4 x5 x6, S = [.l a (pool (anyF n ns i).2), .d (.int (n : Nat)), .d (.int (k : Nat)), .l b (.lst ((anyF n ns i).1.map dM)), x4, x5, x6]) ⟨.un, .un, .un, rfl⟩ (fun i d S2 hd hI => ?_) (fun S2 hI => ?_)
  · obtain ⟨x4, x5, x6, rfl⟩ := hI
    have hi : i < k := by
      have := (List.getElem?_eq_some_iff.mp hd).1
      rw [rgD_len, Int.toNat_natCast] at this
      exact this
    have hl := anyF_len (n := n) (ns := ns) i
    rw [anyF]
    generalize hp : (anyF n ns i).2 = p
    generalize hm : (anyF n ns i).1 = ms at hl
    have q1 := pickV_lt (ns := p) (m := n) (by omega)
    have q2 := pickV_lt (ns := drop1 p) (m := n - 1) (by omega)
    have q3 := pickV_lt (ns := drop1 (drop1 p)) (m := 2) (by omega)
    refine ⟨_, jg_name (by simp), ?_⟩
    refine s_setm [.l a (pool (drop1 p)), .d (.int (n : Nat)), .d (.int (k : Nat)), .l b (.lst (ms.map dM)), .d d, .d (.int (pickV p n : Nat)), x6]
      (j_callM (i := 0) (a := a) (c := pool p) (c' := pool (drop1 p)) rfl (ja_cons (j_var rfl) ja_nil) rfl ⟨p, n, by omega, rfl, rfl, rfl, rfl⟩) rfl ?_
    refine s_setm [.l a (pool (drop1 (drop1 p))), .d (.int (n : Nat)), .d (.int (k : Nat)), .l b (.lst (ms.map dM)), .d d, .d (.int (pickV p n : Nat)), .d (.int ((anyMk n p).j : Nat))]
      (j_is (j_op (j_cb (ja_one (j_op (j_op (j_var rfl) j_int.td opv_i0) (j_callM (i := 0) (a := a) (c := pool (drop1 p)) (c' := pool (drop1 (drop1 p))) rfl (ja_cons (j_op (j_var rfl) j_int.td opv_i0) ja_nil) rfl ⟨drop1 p, n - 1, by omega, rfl, by rw [show ((n - 1 : Nat) : Int) = (n : Int) - 1 by omega], rfl, rfl⟩).td opv_i0).td) cb_int) (j_var rfl).td (opv_i (by omega))) ?_) rfl ?_
    · show PyData.int (((pickV p n : Int) + 1 + (pickV (drop1 p) (n - 1) : Nat)) % (n : Nat)) = PyData.int (((pickV p n + 1 + pickV (drop1 p) (n - 1)) % n : Nat) : Int)
      rw [Int.natCast_emod]
      rfl
    · refine st_app (m := true) (i := 3) (a := b) (xs := ms.map dM) (ys := ms.map dM) (x := dM (anyMk n p)) (S' := [.l a (pool (drop1 (drop1 (drop1 p)))), .d (.int (n : Nat)), .d (.int (k : Nat)), .l b (.lst (ms.map dM)), .d d, .d (.int (pickV p n : Nat)), .d (.int ((anyMk n p).j : Nat))])
        (j_tup (ja_cons (j_var rfl) (ja_cons (j_var rfl) (ja_cons (j_ixL (xs := [.str wTake, .str wCall]) (i := (pickV (drop1 (drop1 p)) 2 : Nat)) (x := .str (word (anyMk n p).t)) (jl_lst (ja_cons j_str (ja_cons j_str ja_nil)) (by rw [sizeLine_eq]; decide)).dd
          (j_callM (i := 0) (a := a) (c := pool (drop1 (drop1 p))) (c' := pool (drop1 (drop1 (drop1 p)))) rfl (ja_cons j_int ja_nil) rfl ⟨drop1 (drop1 p), 2, by omega, rfl, rfl, rfl, rfl⟩).td ?_) ja_nil))) (by show 3 ≤ _; rw [sizeLine_eq]; decide)) rfl (by rw [List.length_map, hl, sizeLine_eq]; omega) ⟨.d d, .d (.int (pickV p n : Nat)), .d (.int ((anyMk n p).j : Nat)), ?_⟩ xin_no rfl
      · have e : pickV (drop1 (drop1 p)) 2 = 0 ∨ pickV (drop1 (drop1 p)) 2 = 1 := by omega
        show atI [PyData.str wTake, PyData.str wCall] _ = some (PyData.str (word (pickV (drop1 (drop1 p)) 2 == 0)))
        rcases e with e | e <;> rw [e] <;> rfl
      · rw [List.map_append]
        rfl
  · obtain ⟨x4, x5, x6, rfl⟩ := hI
    rw [rgD_len, Int.toNat_natCast]
    exact st_frz (i := 3) rfl (s_ret (j_var rfl) fun v G H d => ⟨rfl, _, rfl, d⟩)
theorem BI_one {n p : Nat} (h : p < n) : BI n [p] := ⟨by simp, fun q hq => by rw [List.mem_singleton.mp hq]; exact h⟩
abbrev dTL (n : Nat) (ms : List Mk3) : D := .tuple ((List.range n).map fun p => .tuple (dSort (bRun [p] ms)))
def R_tabL (ds : List D) (r : Res) : Prop := ∃ n ms, 2 ≤ n ∧ n ≤ 6 ∧ (∀ m ∈ ms, okM n m) ∧ ms.length < 1000 ∧ ds = [.int (n : Nat), dMs ms] ∧ r = .ok (dTL n ms)
theorem len_R_tabL : ∀ ds r, R_tabL ds r → ds.length = 2 := fun ds r ⟨_, _, _, _, _, _, h, _⟩ => by rw [h]; rfl
theorem range_of {n k : Nat} {d : D} (hd : (rgD 0 ((n : Nat) : Int).toNat)[k]? = some d) : k < n ∧ d = .int (k : Nat) := by
  have hk : k < n := by
    have := (List.getElem?_eq_some_iff.mp hd).1
    rw [rgD_len, Int.toNat_natCast] at this
    exact this
  rw [Int.toNat_natCast, rgD_get hk] at hd
  cases hd
  exact ⟨hk, by rw [Int.zero_add]⟩
abbrev s__law_table_of : Stmt := top 38
theorem sc__law_table_of : FnScope ["_law_size", "_law_marks", "_law_place"] ["_law_size", "_law_marks"] (defScope s__law_table_of) := ⟨rfl, rfl, rfl, by decide +kernel, rfl, by decide +kernel, by decide +kernel⟩
theorem ok__law_table_of (T : GlX mg K) (hF : ∃ fd, L2.Fun K "_law_table_of" "_law_table_of" s__law_table_of (He.ga K "_law_table_of") fd) (hG : mg "_law_table_of" = some (.ref (He.ga K "_law_table_of"))) (F__law_back : FO P w K mg base "_law_back" 1 ["_law_lot", "_law_marks"] (spD K R_backL)) : FO P w K mg base "_law_table_of" 2 ["_law_size", "_law_marks"] (spD K R_tabL) := by
  obtain ⟨fd, F⟩ := hF
  have n_tuple := T.n_tuple
  have n_range := T.n_range
  refine fo_make F hG (fun _ _ _ _ _ _ us hl => match us, hl with | [_, _], _ => rfl) sc__law_table_of len_R_tabL fun cdv A outer s H E0 hr tk => ⟨_, (pss_one (ps_ret (pe_callTy call_tuple_of (by rfl) n_tuple (by decide +kernel) (pa_cons (pe_lc (own := [("_law_place", 2)]) (g := gName 2) (tt := tYes) rfl sc__law_table_of.nd (pi_range1 (by rfl) n_range (pa_cons (pv 0) pa_nil)) (blkOk_by (N := ["_law_size", "_law_marks", "_law_place"]) (sc := defScope s__law_table_of) (by decide +kernel)) (fun _ _ _ _ _ => (pg_name (i := 2) sc__law_table_of.nd rfl (Or.inl rfl))) (fun _ _ _ _ _ => pts_nil) (fun _ _ _ _ _ => (pe_callTy (call_tuple_of : CallR _ (.type "tuple") (rTupQ K)) (by rfl) n_tuple (by decide +kernel) (pa_cons (pe_fo F__law_back (hr.mono (by decide)) (by rfl) tkN (pa_cons (pe_lst (pa_cons (pv 2) pa_nil)) (pa_cons (pv 1) pa_nil))) pa_nil)))) pa_nil)))), ?_⟩
  intro ds r ⟨n, ms, h2, h6, hm, hz, e1, e2⟩
  subst e1 e2
  refine s_retP (j_is (j_tupL (jl_map (k := 2) (ds := rgD 0 ((n : Nat) : Int).toNat) (ji_rng1 (JA.td (ja_cons (j_var rfl) ja_nil)) (by omega) (by omega)) rfl (fun p => .tuple (dSort (bRun [p] ms))) (fun k d hd => ?_) (by rw [rgD_len, sizeLine_eq]; omega)).sdL) (by rw [rgD_len, Int.toNat_natCast])) rfl
  obtain ⟨hk, rfl⟩ := range_of hd
  exact j_tupL (J.sdL (j_call (ja_cons (jl_lst (ja_cons (j_var rfl) ja_nil) (by show 1 ≤ _; rw [sizeLine_eq]; decide)).dd (ja_cons (j_var rfl) ja_nil)) ⟨n, [k], ms, false, by omega, BI_one hk, hm, hz, rfl, rfl⟩))
def indG (n : Nat) (l : List Nat) : List Int := (List.range n).map fun p => if p ∈ l then 1 else 0
def alikeF (n : Nat) (ms ms2 : List Mk3) : Bool := (lotsF n).all fun l => decide (runG (indG n l) ms = runG (indG n l) ms2)
theorem indG_len {n : Nat} {l : List Nat} : (indG n l).length = n := by simp [indG]
theorem inD_iN {p : Nat} {now : List Nat} : inD (.int (p : Nat)) (iN now) = decide (p ∈ now) := by
  have : iN now = iL (iZ now) := by
    unfold iN iL iZ
    rw [List.map_map]
    rfl
  rw [this, inD_iZ]
theorem flat_iN (ns : List Nat) : (iN ns).all flatD = true := by
  induction ns with
  | nil => rfl
  | cons a ns ih => exact ih
theorem eqv_GL {a b : List Int} : PyData.eqv (.list (iL a)) (.list (iL b)) = decide (a = b) := by rw [PyData.eqv, eqv_G]
theorem sh_GL {gs : List Int} : Sh 1 (.list (iL gs)) := sh_lst fun x hx => by
  obtain ⟨i, _, rfl⟩ := List.mem_map.mp hx
  exact sh_int
def R_alike (ds : List D) (r : Res) : Prop := ∃ n ms ms2, 2 ≤ n ∧ n ≤ 6 ∧ (∀ m ∈ ms, okM n m) ∧ (∀ m ∈ ms2, okM n m) ∧ ds = [.int (n : Nat), dMs ms, dMs ms2] ∧ r = .ok (.bool (alikeF n ms ms2))
theorem len_R_alike : ∀ ds r, R_alike ds r → ds.length = 3 := fun ds r ⟨_, _, _, _, _, _, _, h, _⟩ => by rw [h]; rfl
abbrev s__law_starts_alike : Stmt := top 39
theorem sc__law_starts_alike : FnScope ["_law_size", "_law_marks", "_law_others", "_law_start", "_law_grades", "_law_place"] ["_law_size", "_law_marks", "_law_others"] (defScope s__law_starts_alike) := ⟨rfl, rfl, rfl, by decide +kernel, rfl, by decide +kernel, by decide +kernel⟩
theorem ok__law_starts_alike (T : GlX mg K) (hF : ∃ fd, L2.Fun K "_law_starts_alike" "_law_starts_alike" s__law_starts_alike (He.ga K "_law_starts_alike") fd) (hG : mg "_law_starts_alike" = some (.ref (He.ga K "_law_starts_alike"))) (F__law_lots : FO P w K mg base "_law_lots" 1 ["_law_size"] (spD K R_lots)) (F__law_do : FO P w K mg base "_law_do" 1 ["_law_grades", "_law_marks"] (spD K R_do)) : FO P w K mg base "_law_starts_alike" 2 ["_law_size", "_law_marks", "_law_others"] (spD K R_alike) := by
  obtain ⟨fd, F⟩ := hF
  have n_range := T.n_range
  have n_int := T.n_int
  refine fo_make F hG (fun _ _ _ _ _ _ us hl => match us, hl with | [_, _, _], _ => rfl) sc__law_starts_alike len_R_alike fun cdv A outer s H E0 hr tk => ⟨_, (pss_cons (ps_for (passes_of rfl) rfl (pi_list (pe_fo F__law_lots (hr.mono (by decide)) (by rfl) tk (pa_cons (pv 0) pa_nil))) (pg_name (i := 3) sc__law_starts_alike.nd rfl (Or.inr rfl)) (pss_cons (ps_setLc (i := 4) (own := [("_law_place", 5)]) (g := gName 5) (tt := tYes) rfl sc__law_starts_alike.nd rfl rfl (sw_true rfl rfl rfl (by decide +kernel)) (pi_range1 (by rfl) n_range (pa_cons (pv 0) pa_nil)) (blkOk_by (N := ["_law_size", "_law_marks", "_law_others", "_law_start", "_law_grades", "_law_place"]) (sc := defScope s__law_starts_alike) (by decide +kernel)) (fun _ _ _ _ _ => (pg_name (i := 5) sc__law_starts_alike.nd rfl (Or.inl rfl))) (fun _ _ _ _ _ => pts_nil) (fun _ _ _ _ _ => (pe_callTy call_int1 (by rfl) n_int (by decide +kernel) (pa_cons (pe_cmpR (op_in_seq : OpR _ (compareOp .In) (rIn K false)) (pv 5) (pv 3) (by rfl)) pa_nil)))) (pss_one (ps_if (pt_cmpR (op_neD hr.units) (pe_fo F__law_do (hr.mono (by decide)) (by rfl) tk (pa_cons (pv 4) (pa_cons (pv 1) pa_nil))) (pe_fo F__law_do (hr.mono (by decide)) (by rfl) tk (pa_cons (pv 4) (pa_cons (pv 2) pa_nil))) (nomark _)) (pss_one (ps_ret pe_bl)) pss_nil)))) (pss_one (ps_ret pe_bl))), ?_⟩
  intro ds r ⟨n, ms, ms2, h2, h6, hm, hm2, e1, e2⟩
  subst e1
  refine s_for (ji_list (j_call (ja_cons (j_var rfl) ja_nil) ⟨n, by omega, rfl, rfl⟩)) [3] (fun i S => ((lotsF n).take i).all (fun l => decide (runG (indG n l) ms = runG (indG n l) ms2)) = true ∧ ∃ x3 x4, S = [.d (.int (n : Nat)), .d (dMs ms), .d (dMs ms2), x3, x4, .un]) ⟨rfl, .un, .un, rfl⟩ (fun i d S2 hd hI => ?_) (fun S2 hI => ?_)
  · obtain ⟨ha, x3, x4, rfl⟩ := hI
    rw [List.getElem?_map] at hd
    cases q : (lotsF n)[i]? with
    | none => rw [q] at hd; cases hd
    | some l =>
      rw [q] at hd
      cases hd
      refine ⟨_, jg_name (by simp), ?_⟩
      refine s_set [.d (.int (n : Nat)), .d (dMs ms), .d (dMs ms2), .d (dNl l), .d (.list (iL (indG n l))), .un] (j_is (jl_map (k := 5) (ds := rgD 0 ((n : Nat) : Int).toNat) (ji_rng1 (JA.td (ja_cons (j_var rfl) ja_nil)) (by omega) (by omega)) rfl (fun p => .int (if p ∈ l then 1 else 0)) (fun k d hd => ?_) (by rw [rgD_len, sizeLine_eq]; omega)).dd (by rw [rgD_len, Int.toNat_natCast]; unfold indG iL; rw [List.map_map]; rfl)) rfl ?_
      · obtain ⟨hk, rfl⟩ := range_of hd
        exact j_is (j_cb (ja_one (j_op (j_var rfl) (j_var rfl).td (opv_inL rfl (flat_iN _))).td) cb_intB) (by rw [inD_iN]; by_cases c : k ∈ l <;> simp [c])
      · refine s_if (b := !decide (runG (indG n l) ms = runG (indG n l) ms2)) (jt_is (jt_B (j_op (j_call (ja_cons (j_var rfl) (ja_cons (j_var rfl) ja_nil)) ⟨false, indG n l, ms, by rw [indG_len]; exact hm, rfl, rfl⟩) (j_call (ja_cons (j_var rfl) (ja_cons (j_var rfl) ja_nil)) ⟨false, indG n l, ms2, by rw [indG_len]; exact hm2, rfl, rfl⟩).td (opv_neD (sh_GL.ok (by decide)) (sh_GL.ok (by decide)))).td) (by rw [eqv_GL])) (fun c => ?_) (fun c => ?_)
        · refine s_ret j_bl fun v G H d => ⟨_, ?_, d⟩
          rw [e2]
          have : alikeF n ms ms2 = false := by
            unfold alikeF
            rw [List.all_eq_false]
            exact ⟨l, List.mem_of_getElem? q, by simpa using c⟩
          rw [this]
        · refine st_next ⟨?_, _, _, rfl⟩
          rw [List.take_add_one, q, List.all_append, ha]
          simpa using c
  · obtain ⟨ha, x3, x4, rfl⟩ := hI
    rw [List.length_map, List.take_length] at ha
    refine s_retP j_bl ?_
    rw [e2, alikeF, ha]
end
end DL
-- A13
namespace DL
open PySem PySem.Spec PyProof.Rows L2
section
variable {P : Program} {w : World} {K : PySem.W.Frag} {mg : Str → Option Value} {base : Heap}
abbrev mk0 : Mk3 := ⟨0, 1, true⟩
def twiceAt (ms : List Mk3) (k : Nat) : List Mk3 := ms.take k ++ [ms.getD k mk0, ms.getD k mk0] ++ ms.drop (k + 1)
def swapAt (ms : List Mk3) (k : Nat) : List Mk3 := ms.take k ++ [ms.getD (k + 1) mk0, ms.getD k mk0] ++ ms.drop (k + 2)
def secondF (n : Nat) (ms : List Mk3) (ns : List Int) : List Mk3 × List Int :=
  if pickV ns 4 = 1 then anyF n (drop1 (drop1 ns)) (pickV (drop1 ns) 12)
  else if pickV ns 4 = 2 ∧ 0 < ms.length then (twiceAt ms (pickV (drop1 ns) ms.length), drop1 (drop1 ns))
  else if pickV ns 4 = 3 ∧ 1 < ms.length then (swapAt ms (pickV (drop1 ns) (ms.length - 1)), drop1 (drop1 ns))
  else (ms, drop1 ns)
theorem getD_memM {ms : List Mk3} {k : Nat} (h : k < ms.length) : ms.getD k mk0 ∈ ms := by
  simp [List.getD, List.getElem?_eq_getElem h]
theorem twice_ok {n : Nat} {ms : List Mk3} {k : Nat} (h : ∀ m ∈ ms, okM n m) (hk : k < ms.length) : ∀ m ∈ twiceAt ms k, okM n m := fun m hm => by
  have hg := h _ (getD_memM hk)
  rcases List.mem_append.mp hm with hm | hm
  · rcases List.mem_append.mp hm with hm | hm
    · exact h m (List.mem_of_mem_take hm)
    · rcases List.mem_cons.mp hm with rfl | hm
      · exact hg
      · rw [List.mem_singleton.mp hm]; exact hg
  · exact h m (List.mem_of_mem_drop hm)
theorem swap_ok {n : Nat} {ms : List Mk3} {k : Nat} (h : ∀ m ∈ ms, okM n m) (hk : k + 1 < ms.length) : ∀ m ∈ swapAt ms k, okM n m := fun m hm => by
  have hg := h _ (getD_memM (show k < ms.length by omega))
  have hg2 := h _ (getD_memM hk)
  rcases List.mem_append.mp hm with hm | hm
  · rcases List.mem_append.mp hm with hm | hm
    · exact h m (List.mem_of_mem_take hm)
    · rcases List.mem_cons.mp hm with rfl | hm
      · exact hg2
      · rw [List.mem_singleton.mp hm]; exact hg
  · exact h m (List.mem_of_mem_drop hm)
theorem second_ok {n : Nat} {ms : List Mk3} {ns : List Int} (hn : 2 ≤ n) (h : ∀ m ∈ ms, okM n m) : ∀ m ∈ (secondF n ms ns).1, okM n m := by
  unfold secondF
  split
  · exact anyF_ok hn _
  · split
    · rename_i c
      exact twice_ok h (pickV_lt c.2)
    · split
      · rename_i c
        have := pickV_lt (ns := drop1 ns) (m := ms.length - 1) (by omega)
        exact swap_ok h (by omega)
      · exact h
theorem second_len {n : Nat} {ms : List Mk3} {ns : List Int} : (secondF n ms ns).1.length ≤ ms.length + 12 := by
  unfold secondF
  split
  · have := pickV_lt (ns := drop1 ns) (m := 12) (by omega)
    rw [anyF_len]
    omega
  · split
    · unfold twiceAt; simp; omega
    · split
      · unfold swapAt; simp; omega
      · exact Nat.le_add_right _ _
def R_second (c : Ct) (ds : List D) (r : Res) (c' : Ct) : Prop := ∃ (ns : List Int) (n : Nat) (ms : List Mk3), 2 ≤ n ∧ n ≤ 6 ∧ ms.length < 500 ∧ c = pool ns ∧ ds = [.int (n : Nat), dMs ms] ∧ r = .ok (dMs (secondF n ms ns).1) ∧ c' = pool (secondF n ms ns).2
theorem len_R_second : ∀ c ds r c', R_second c ds r c' → ds.length + 1 = 3 := fun c ds r c' ⟨_, _, _, _, _, _, _, h, _⟩ => by rw [h]; rfl
theorem get_M {ms : List Mk3} {k : Nat} (h : k < ms.length) : (ms.map dM)[k]? = some (dM (ms.getD k mk0)) := by
  rw [List.getElem?_map, List.getElem?_eq_getElem h]
  simp [List.getD, List.getElem?_eq_getElem h]
theorem j_ltL {E : L2.St → XK} {m : Bool} {S : List SD} {xs : List D} {i : Nat} (h : S[i]? = some (.d (.list xs))) : J K E m (tCB (rLenQ K) (tCons (tVar i) tNil)) S S (DL.dd K (.int xs.length)) nox := j_cb (ja_one (j_var h).td) cb_lenL
abbrev s__law_second : Stmt := top 40
theorem sc__law_second : FnScope ["_law_pool_here", "_law_size", "_law_marks", "_law_word", "_law_others", "_law_at"] ["_law_pool_here", "_law_size", "_law_marks"] (defScope s__law_second) := ⟨rfl, rfl, rfl, by decide +kernel, rfl, by decide +kernel, by decide +kernel⟩
theorem ok__law_second (T : GlX mg K) (hF : ∃ fd, L2.Fun K "_law_second" "_law_second" s__law_second (He.ga K "_law_second") fd) (hG : mg "_law_second" = some (.ref (He.ga K "_law_second"))) (F__law_pick : FO P w K mg base "_law_pick" 1 ["_law_pool_here", "_law_many"] (spM K R_pick)) (F__law_any_marks : FO P w K mg base "_law_any_marks" 2 ["_law_pool_here", "_law_size", "_law_many"] (spM K R_any)) : FO P w K mg base "_law_second" 3 ["_law_pool_here", "_law_size", "_law_marks"] (spM K R_second) := by
  obtain ⟨fd, F⟩ := hF
  have n_len := T.n_len
  have n_list := T.n_list
  refine fo_makeM F hG (fun _ _ _ _ _ _ us hl => match us, hl with | [_, _, _], _ => rfl) sc__law_second len_R_second fun cdv A outer s H E0 hr tk => ⟨_, (pss_cons (ps_set (i := 3) sc__law_second.nd rfl (Or.inl rfl) (pe_fo F__law_pick (hr.mono (by decide)) (by rfl) tk (pa_cons (pv 0) (pa_cons pe_int pa_nil)))) (pss_cons (ps_set (i := 4) sc__law_second.nd rfl (Or.inl rfl) (pe_callTy call_list_of (by rfl) n_list (by decide +kernel) (pa_cons (pv 2) pa_nil))) (pss_cons (ps_if (pt_cmpR (op_eqD hr.units) (pv 3) pe_int (nomark _)) (pss_one (ps_ret (pe_fo F__law_any_marks (hr.mono (by decide)) (by rfl) tk (pa_cons (pv 0) (pa_cons (pv 1) (pa_cons (pe_fo F__law_pick (hr.mono (by decide)) (by rfl) tk (pa_cons (pv 0) (pa_cons pe_int pa_nil))) pa_nil)))))) pss_nil) (pss_cons (ps_if (PW.pt (pw_and (pt_cmpR (op_eqD hr.units) (pv 3) pe_int (nomark _)) (pw_and1 (pt_cmpR op_gt (pe_callB call_len_seq (by rfl) n_len (by decide +kernel) (pa_cons (pv 2) pa_nil)) pe_int (nomark _))))) (pss_cons (ps_set (i := 5) sc__law_second.nd rfl (Or.inl rfl) (pe_fo F__law_pick (hr.mono (by decide)) (by rfl) tk (pa_cons (pv 0) (pa_cons (pe_callB call_len_seq (by rfl) n_len (by decide +kernel) (pa_cons (pv 2) pa_nil)) pa_nil)))) (pss_one (ps_ret (pe_op op_cat (pe_op op_cat (pe_slice sl_list (pv 2) po_none (po_some (pv 5))) (pe_lst (pa_cons (pe_ix ix_list (pv 2) (pv 5) (fun _ _ => rfl)) (pa_cons (pe_ix ix_list (pv 2) (pv 5) (fun _ _ => rfl)) pa_nil)))) (pe_slice sl_list (pv 2) (po_some (pe_op op_add (pv 5) pe_int)) po_none))))) pss_nil) (pss_cons (ps_if (PW.pt (pw_and (pt_cmpR (op_eqD hr.units) (pv 3) pe_int (nomark _)) (pw_and1 (pt_cmpR op_gt (pe_callB call_len_seq (by rfl) n_len (by decide +kernel) (pa_cons (pv 2) pa_nil)) pe_int (nomark _))))) (pss_cons (ps_set (i := 5) sc__law_second.nd rfl (Or.inl rfl) (pe_fo F__law_pick (hr.mono (by decide)) (by rfl) tk (pa_cons (pv 0) (pa_cons (pe_op op_sub (pe_callB call_len_seq (by rfl) n_len (by decide +kernel) (pa_cons (pv 2) pa_nil)) pe_int) pa_nil)))) (pss_one (ps_ret (pe_op op_cat (pe_op op_cat (pe_slice sl_list (pv 2) po_none (po_some (pv 5))) (pe_lst (pa_cons (pe_ix ix_list (pv 2) (pe_op op_add (pv 5) pe_int) (fun _ _ => rfl)) (pa_cons (pe_ix ix_list (pv 2) (pv 5) (fun _ _ => rfl)) pa_nil)))) (pe_slice sl_list (pv 2) (po_some (pe_op op_add (pv 5) pe_int)) po_none))))) pss_nil) (pss_one (ps_ret (pv 4)))))))), ?_⟩
  intro a c ds r c' ⟨ns, n, ms, h2, h6, hz, ec, e1, e2, e3⟩
  subst ec e1 e2 e3
  have q4 := pickV_lt (ns := ns) (m := 4) (by omega)
  refine s_setm [.l a (pool (drop1 ns)), .d (.int (n : Nat)), .d (dMs ms), .d (.int (pickV ns 4 : Nat)), .un, .un] (j_callM (i := 0) (a := a) (c := pool ns) (c' := pool (drop1 ns)) rfl (ja_cons j_int ja_nil) rfl ⟨ns, 4, by omega, rfl, rfl, rfl, rfl⟩) rfl ?_
  refine s_setL (jl_listS (b := false) (j_var rfl)) fun b => ?_
  refine st_frz (i := 4) rfl ?_
  refine s_guard (b := decide (pickV ns 4 = 1)) (jt_is (jt_B (j_op (j_var rfl) j_int.td (opv_eqD (by rfl) (by rfl))).td) (by rw [eqv_int]; by_cases h : pickV ns 4 = 1 <;> simp [h] <;> omega)) (fun h => ?_) (fun h => ?_)
  · have h := of_decide_eq_true h
    have q := pickV_lt (ns := drop1 ns) (m := 12) (by omega)
    have e : secondF n ms ns = anyF n (drop1 (drop1 ns)) (pickV (drop1 ns) 12) := by unfold secondF; rw [if_pos h]
    rw [e]
    exact s_retm (S' := [.l a (pool (anyF n (drop1 (drop1 ns)) (pickV (drop1 ns) 12)).2), .d (.int (n : Nat)), .d (dMs ms), .d (.int (pickV ns 4 : Nat)), .d (dMs ms), .un]) (x := dMs (anyF n (drop1 (drop1 ns)) (pickV (drop1 ns) 12)).1)
      (j_callM (i := 0) (a := a) (c := pool (drop1 (drop1 ns))) (c' := pool (anyF n (drop1 (drop1 ns)) (pickV (drop1 ns) 12)).2) rfl (ja_cons (j_var rfl) (ja_cons (j_callM (i := 0) (a := a) (c := pool (drop1 ns)) (c' := pool (drop1 (drop1 ns))) rfl (ja_cons j_int ja_nil) rfl ⟨drop1 ns, 12, by omega, rfl, rfl, rfl, rfl⟩) ja_nil)) rfl
        ⟨drop1 (drop1 ns), n, pickV (drop1 ns) 12, h2, h6, by omega, rfl, rfl, rfl, rfl⟩) fun v G H d => ⟨rfl, _, rfl, d⟩
  · have h1 := of_decide_eq_false h
    refine s_guard (b := decide (pickV ns 4 = 2) && decide (0 < ms.length)) (jt_and (jt_is (jt_B (j_op (j_var rfl) j_int.td (opv_eqD (by rfl) (by rfl))).td) (by rw [eqv_int]; by_cases h : pickV ns 4 = 2 <;> simp [h] <;> omega)) fun _ => jt_is (jt_B (j_op (j_ltL rfl) j_int.td opv_b0).td) (by rw [List.length_map]; by_cases h : 0 < ms.length <;> simp [h])) (fun h => ?_) (fun h => ?_)
    · rw [Bool.and_eq_true] at h
      have c1 := of_decide_eq_true h.1
      have c2 := of_decide_eq_true h.2
      have q := pickV_lt (ns := drop1 ns) (m := ms.length) c2
      have e : secondF n ms ns = (twiceAt ms (pickV (drop1 ns) ms.length), drop1 (drop1 ns)) := by unfold secondF; rw [if_neg h1, if_pos ⟨c1, c2⟩]
      rw [e]
      generalize hk : pickV (drop1 ns) ms.length = k at q
      refine s_setm [.l a (pool (drop1 (drop1 ns))), .d (.int (n : Nat)), .d (dMs ms), .d (.int (pickV ns 4 : Nat)), .d (dMs ms), .d (.int (k : Nat))] (j_callM (i := 0) (a := a) (c := pool (drop1 ns)) (c' := pool (drop1 (drop1 ns))) rfl (ja_cons (j_ltL rfl) ja_nil) rfl ⟨drop1 ns, ms.length, c2, rfl, by rw [List.length_map], by rw [hk], rfl⟩) rfl ?_
      refine s_ret (S' := [.l a (pool (drop1 (drop1 ns))), .d (.int (n : Nat)), .d (dMs ms), .d (.int (pickV ns 4 : Nat)), .d (dMs ms), .d (.int (k : Nat))]) (j_is (jl_cat (JL.sdL (jl_cat (JL.sdL (jl_sl (lo := none) (hi := some (k : Int)) (J.sdL (j_var rfl)) jo_none (jo_some (j_var rfl).td)))
        (JL.sdL (jl_lst (ja_cons (j_ixL (j_var rfl) (j_var rfl).td (atI_nat (get_M q))) (ja_cons (j_ixL (j_var rfl) (j_var rfl).td (atI_nat (get_M q))) ja_nil)) (by show 2 ≤ _; rw [sizeLine_eq]; decide))) ?_)) (JL.sdL (jl_sl (lo := some ((k : Int) + 1)) (hi := none) (J.sdL (j_var rfl)) (jo_some (j_op (j_var rfl) j_int.td opv_i0).td) jo_none)) ?_).dd ?_) fun v G H d => ⟨rfl, _, rfl, d⟩
      · rw [cut_lo (by simp; omega), sizeLine_eq]
        simp
        omega
      · rw [cut_lo (by simp; omega), show ((k : Int) + 1) = ((k + 1 : Nat) : Int) by omega, cut_hi (by simp; omega), sizeLine_eq]
        simp
        omega
      · rw [cut_lo (by simp; omega), show ((k : Int) + 1) = ((k + 1 : Nat) : Int) by omega, cut_hi (by simp; omega)]
        unfold dMs twiceAt
        simp
    · have h2' : ¬ (pickV ns 4 = 2 ∧ 0 < ms.length) := fun z => by
        rw [decide_eq_true z.1, decide_eq_true z.2] at h
        cases h
      refine s_guard (b := decide (pickV ns 4 = 3) && decide (1 < ms.length)) (jt_and (jt_is (jt_B (j_op (j_var rfl) j_int.td (opv_eqD (by rfl) (by rfl))).td) (by rw [eqv_int]; by_cases h : pickV ns 4 = 3 <;> simp [h] <;> omega)) fun _ => jt_is (jt_B (j_op (j_ltL rfl) j_int.td opv_b0).td) (by rw [List.length_map]; by_cases h : 1 < ms.length <;> simp [h] <;> omega)) (fun h => ?_) (fun h => ?_)
      · rw [Bool.and_eq_true] at h
        have c1 := of_decide_eq_true h.1
        have c2 := of_decide_eq_true h.2
        have q := pickV_lt (ns := drop1 ns) (m := ms.length - 1) (by omega)
        have e : secondF n ms ns = (swapAt ms (pickV (drop1 ns) (ms.length - 1)), drop1 (drop1 ns)) := by unfold secondF; rw [if_neg h1, if_neg h2', if_pos ⟨c1, c2⟩]
        rw [e]
        generalize hk : pickV (drop1 ns) (ms.length - 1) = k at q
        refine s_setm [.l a (pool (drop1 (drop1 ns))), .d (.int (n : Nat)), .d (dMs ms), .d (.int (pickV ns 4 : Nat)), .d (dMs ms), .d (.int (k : Nat))] (j_callM (i := 0) (a := a) (c := pool (drop1 ns)) (c' := pool (drop1 (drop1 ns))) rfl (ja_cons (j_op (j_ltL rfl) j_int.td opv_i0) ja_nil) rfl ⟨drop1 ns, ms.length - 1, by omega, rfl, by rw [List.length_map, show ((ms.length - 1 : Nat) : Int) = (ms.length : Int) - 1 by omega], by rw [hk], rfl⟩) rfl ?_
        have g1 : atI (ms.map dM) ((k : Int) + 1) = some (dM (ms.getD (k + 1) mk0)) := by
          rw [show ((k : Int) + 1) = ((k + 1 : Nat) : Int) by omega]
          exact atI_nat (get_M (by omega))
        refine s_ret (S' := [.l a (pool (drop1 (drop1 ns))), .d (.int (n : Nat)), .d (dMs ms), .d (.int (pickV ns 4 : Nat)), .d (dMs ms), .d (.int (k : Nat))]) (j_is (jl_cat (JL.sdL (jl_cat (JL.sdL (jl_sl (lo := none) (hi := some (k : Int)) (J.sdL (j_var rfl)) jo_none (jo_some (j_var rfl).td)))
          (JL.sdL (jl_lst (ja_cons (j_ixL (j_var rfl) (j_op (j_var rfl) j_int.td opv_i0).td g1) (ja_cons (j_ixL (j_var rfl) (j_var rfl).td (atI_nat (get_M (show k < ms.length by omega)))) ja_nil)) (by show 2 ≤ _; rw [sizeLine_eq]; decide))) ?_)) (JL.sdL (jl_sl (lo := some ((k : Int) + 2)) (hi := none) (J.sdL (j_var rfl)) (jo_some (j_op (j_var rfl) j_int.td opv_i0).td) jo_none)) ?_).dd ?_) fun v G H d => ⟨rfl, _, rfl, d⟩
        · rw [cut_lo (by simp; omega), sizeLine_eq]
          simp
          omega
        · rw [cut_lo (by simp; omega), show ((k : Int) + 2) = ((k + 2 : Nat) : Int) by omega, cut_hi (by simp; omega), sizeLine_eq]
          simp
          omega
        · rw [cut_lo (by simp; omega), show ((k : Int) + 2) = ((k + 2 : Nat) : Int) by omega, cut_hi (by simp; omega)]
          unfold dMs swapAt
          simp
      · have h3' : ¬ (pickV ns 4 = 3 ∧ 1 < ms.length) := fun z => by
          rw [decide_eq_true z.1, decide_eq_true z.2] at h
          cases h
        have e : secondF n ms ns = (ms, drop1 ns) := by unfold secondF; rw [if_neg h1, if_neg h2', if_neg h3']
        rw [e]
        exact s_ret (j_var rfl) fun v G H d => ⟨rfl, _, rfl, d⟩
end
end DL
-- A14
namespace DL
open PySem PySem.Spec PyProof.Rows L2
theorem getD_set {xs : List Nat} {i k v : Nat} (h : k < xs.length) : (xs.set i v).getD k 0 = if i = k then v else xs.getD k 0 := by
  simp only [List.getD, List.getElem?_set]
  by_cases c : i = k
  · subst c
    simp [h]
  · simp [c]
theorem srcStep_at {xs : List Nat} {m : Mk3} {r : Nat} (h : r < xs.length) : (srcStep xs m).getD r 0 = if m.i = r then (if m.t then xs.getD m.j 0 else xs.getD m.i 0 ||| xs.getD m.j 0) else xs.getD r 0 := by
  unfold srcStep
  rw [getD_set h]
theorem mem_bStep {n : Nat} {now : List Nat} {m : Mk3} {r : Nat} (h : BI n now) (hm : okM n m) : r ∈ bStep m now ↔ (r ∈ now ∧ (r ≠ m.i ∨ m.t = false)) ∨ (m.i ∈ now ∧ r = m.j) := by
  have hne := hm.2.2
  unfold bStep
  by_cases c : m.i ∈ now
  · rw [if_pos c]
    have e : ∀ q, q ∈ (if m.t then now.erase m.i else now) ↔ (q ∈ now ∧ (q ≠ m.i ∨ m.t = false)) := fun q => by
      cases ht : m.t with
      | true =>
        rw [if_pos rfl, h.1.mem_erase_iff]
        constructor
        · exact fun z => ⟨z.2, .inl z.1⟩
        · rintro ⟨z1, z2 | z2⟩
          · exact ⟨z2, z1⟩
          · cases z2
      | false => simp
    generalize (if m.t then now.erase m.i else now) = n1 at e
    by_cases c2 : m.j ∈ n1
    · rw [if_pos c2, e]
      constructor
      · exact .inl
      · rintro (z | ⟨_, rfl⟩)
        · exact z
        · exact (e _).mp c2
    · rw [if_neg c2, List.mem_append, e, List.mem_singleton]
      constructor
      · rintro (z | z)
        · exact .inl z
        · exact .inr ⟨c, z⟩
      · rintro (z | ⟨_, z⟩)
        · exact .inl z
        · exact .inr z
  · rw [if_neg c]
    constructor
    · intro z
      exact .inl ⟨z, .inl fun e => c (e ▸ z)⟩
    · rintro (z | ⟨z, _⟩)
      · exact z.1
      · exact (c z).elim
theorem src_bit {n : Nat} : ∀ {ms : List Mk3} {xs : List Nat} {p q : Nat}, (∀ m ∈ ms, okM n m) → xs.length = n → p < n → (((srcRun xs ms).getD p 0).testBit q = true ↔ ∃ r ∈ bRun [p] ms, (xs.getD r 0).testBit q = true)
  | [], xs, p, q, _, _, hp => by
    show (xs.getD p 0).testBit q = true ↔ ∃ r ∈ [p], _
    simp
  | m :: ms, xs, p, q, hm, hx, hp => by
    have hok := hm m List.mem_cons_self
    have hms : ∀ k ∈ ms, okM n k := fun k hk => hm k (List.mem_cons_of_mem _ hk)
    have ih := src_bit (ms := ms) (xs := srcStep xs m) (p := p) (q := q) hms (by rw [srcStep_len, hx]) hp
    have hb : BI n (bRun [p] ms) := (BI_one hp).run hms
    show ((srcRun (srcStep xs m) ms).getD p 0).testBit q = true ↔ ∃ r ∈ bStep m (bRun [p] ms), _
    rw [ih]
    generalize bRun [p] ms = now at hb
    constructor
    · rintro ⟨r, hr, hq⟩
      rw [srcStep_at (by rw [hx]; exact hb.2 r hr)] at hq
      by_cases c : m.i = r
      · subst c
        rw [if_pos rfl] at hq
        cases ht : m.t with
        | true =>
          rw [ht, if_pos rfl] at hq
          exact ⟨m.j, (mem_bStep hb hok).mpr (.inr ⟨hr, rfl⟩), hq⟩
        | false =>
          rw [ht, if_neg Bool.false_ne_true, Nat.testBit_or, Bool.or_eq_true] at hq
          rcases hq with hq | hq
          · exact ⟨m.i, (mem_bStep hb hok).mpr (.inl ⟨hr, .inr ht⟩), hq⟩
          · exact ⟨m.j, (mem_bStep hb hok).mpr (.inr ⟨hr, rfl⟩), hq⟩
      · rw [if_neg c] at hq
        exact ⟨r, (mem_bStep hb hok).mpr (.inl ⟨hr, .inl (Ne.symm c)⟩), hq⟩
    · rintro ⟨r, hr, hq⟩
      rcases (mem_bStep hb hok).mp hr with ⟨h1, h2⟩ | ⟨h1, rfl⟩
      · by_cases c : m.i = r
        · subst c
          have ht : m.t = false := h2.resolve_left fun z => z rfl
          refine ⟨m.i, h1, ?_⟩
          rw [srcStep_at (by rw [hx]; exact hb.2 _ h1), if_pos rfl, ht, if_neg Bool.false_ne_true, Nat.testBit_or, hq]
          rfl
        · refine ⟨r, h1, ?_⟩
          rw [srcStep_at (by rw [hx]; exact hb.2 _ h1), if_neg c]
          exact hq
      · refine ⟨m.i, h1, ?_⟩
        rw [srcStep_at (by rw [hx]; exact hb.2 _ h1), if_pos rfl]
        cases ht : m.t with
        | true => rw [if_pos rfl]; exact hq
        | false =>
          rw [if_neg Bool.false_ne_true, Nat.testBit_or, hq, Bool.or_true]
theorem initM_at {n r : Nat} (h : r < n) : (initM n).getD r 0 = 2 ^ r := by
  unfold initM
  simp [List.getD, h, Nat.one_shiftLeft]
theorem srcM_bit {n : Nat} {ms : List Mk3} {p q : Nat} (hm : ∀ m ∈ ms, okM n m) (hp : p < n) : ((srcM n ms).getD p 0).testBit q = true ↔ q ∈ bRun [p] ms := by
  rw [srcM, src_bit hm initM_len hp]
  have hb : BI n (bRun [p] ms) := (BI_one hp).run hm
  constructor
  · rintro ⟨r, hr, hq⟩
    rw [initM_at (hb.2 r hr), Nat.testBit_two_pow] at hq
    rw [← of_decide_eq_true hq]
    exact hr
  · intro h
    refine ⟨q, h, ?_⟩
    rw [initM_at (hb.2 q h), Nat.testBit_two_pow]
    exact decide_eq_true rfl
theorem lotN_pw (m : Nat) : (lotN m).Pairwise (· < ·) := List.Pairwise.filter _ List.pairwise_lt_range
theorem lotN_nodup (m : Nat) : (lotN m).Nodup := (lotN_pw m).imp fun h => Nat.ne_of_lt h
theorem sort_lot {now : List Nat} {m : Nat} (h : now.Nodup) (e : ∀ q, q ∈ now ↔ m.testBit q = true) : sortI (iZ now) = iZ (lotN m) := by
  have p : now.Perm (lotN m) := (List.perm_ext_iff_of_nodup h (lotN_nodup m)).mpr fun q => by rw [e, mem_lotN]
  refine sorted_uniq ((sortI_perm _).trans (p.map _)) (sortI_pw _) ?_
  exact List.Pairwise.map _ (fun a b hab => by omega) (lotN_pw m)
theorem iL_iZ (xs : List Nat) : iL (iZ xs) = iN xs := by
  unfold iL iZ iN
  rw [List.map_map]
  rfl
theorem dSort_eq {n : Nat} {ms : List Mk3} {p : Nat} (hm : ∀ m ∈ ms, okM n m) (hp : p < n) : PyData.tuple (dSort (bRun [p] ms)) = dL (lotN ((srcM n ms).getD p 0)) := by
  have hb : BI n (bRun [p] ms) := (BI_one hp).run hm
  unfold dSort
  rw [sort_lot hb.1 fun q => (srcM_bit hm hp).symm, iL_iZ]
theorem map_getD {xs : List Nat} {n : Nat} {β : Type} {f : Nat → β} (h : xs.length = n) : (List.range n).map (fun p => f (xs.getD p 0)) = xs.map f := by
  apply List.ext_getElem?
  intro i
  rw [List.getElem?_map, List.getElem?_map]
  by_cases c : i < n
  · rw [List.getElem?_range c, List.getElem?_eq_getElem (by omega)]
    simp [List.getD, List.getElem?_eq_getElem (show i < xs.length by omega)]
  · rw [List.getElem?_eq_none (by simpa using c), List.getElem?_eq_none (by omega)]
    rfl
theorem dTL_eq {n : Nat} {ms : List Mk3} (hm : ∀ m ∈ ms, okM n m) : dTL n ms = dT (srcM n ms) := by
  unfold dTL dT
  rw [← map_getD (f := fun m => dL (lotN m)) (srcM_len (n := n) (ms := ms))]
  congr 1
  exact List.map_congr_left fun p hp => dSort_eq hm (List.mem_range.mp hp)
theorem maxL_uniq {l : List Int} {b : Int} (h1 : b ∈ l) (h2 : ∀ y ∈ l, y ≤ b) : maxL l = b :=
  Int.le_antisymm (h2 _ (maxL_mem (List.ne_nil_of_mem h1))) (maxL_ge h1)
theorem topG_mem {gs : List Int} {m : Nat} (h : 0 < m) : ∃ p, m.testBit p = true ∧ gs.getD p 0 = topG gs m := by
  obtain ⟨p, hp, e⟩ := List.mem_map.mp (maxL_mem (l := (lotN m).map fun p => gs.getD p 0) (by simpa using lotN_ne h))
  exact ⟨p, mem_lotN.mp hp, e⟩
theorem topG_ge {gs : List Int} {m p : Nat} (h : m.testBit p = true) : gs.getD p 0 ≤ topG gs m := maxL_ge (List.mem_map.mpr ⟨p, mem_lotN.mpr h, rfl⟩)
theorem topG_is {gs : List Int} {m p : Nat} (h : m.testBit p = true) (h2 : ∀ q, m.testBit q = true → gs.getD q 0 ≤ gs.getD p 0) : topG gs m = gs.getD p 0 :=
  maxL_uniq (List.mem_map.mpr ⟨p, mem_lotN.mpr h, rfl⟩) fun y hy => by
    obtain ⟨q, hq, rfl⟩ := List.mem_map.mp hy
    exact h2 q (mem_lotN.mp hq)
theorem topG_or {gs : List Int} {a b : Nat} (ha : 0 < a) (hb : 0 < b) : topG gs (a ||| b) = if topG gs b > topG gs a then topG gs b else topG gs a := by
  obtain ⟨p, hp, ep⟩ := topG_mem (gs := gs) ha
  obtain ⟨q, hq, eq⟩ := topG_mem (gs := gs) hb
  split
  · rename_i c
    rw [← eq]
    refine topG_is (by rw [Nat.testBit_or, hq, Bool.or_true]) fun r hr => ?_
    rw [Nat.testBit_or, Bool.or_eq_true] at hr
    rcases hr with hr | hr
    · have := topG_ge (gs := gs) hr; omega
    · have := topG_ge (gs := gs) hr; omega
  · rename_i c
    rw [← ep]
    refine topG_is (by rw [Nat.testBit_or, hp, Bool.true_or]) fun r hr => ?_
    rw [Nat.testBit_or, Bool.or_eq_true] at hr
    rcases hr with hr | hr
    · have := topG_ge (gs := gs) hr; omega
    · have := topG_ge (gs := gs) hr; omega
theorem topG_pow {gs : List Int} {p : Nat} : topG gs (2 ^ p) = gs.getD p 0 := topG_is (by rw [Nat.testBit_two_pow]; exact decide_eq_true rfl) fun q hq => by
  rw [Nat.testBit_two_pow] at hq
  rw [← of_decide_eq_true hq]
  exact Int.le_refl _
theorem ends_run {n : Nat} {gs : List Int} : ∀ {ms : List Mk3} {xs : List Nat}, (∀ m ∈ ms, okM n m) → GoodM n xs → endsG (srcRun xs ms) gs = runG (endsG xs gs) ms
  | [], _, _, _ => rfl
  | m :: ms, xs, hm, g => by
    have hok := hm m List.mem_cons_self
    rw [srcRun, runG, ends_run (fun k hk => hm k (List.mem_cons_of_mem _ hk)) (goodM_step g hok)]
    congr 1
    have hi : m.i < xs.length := by rw [g.1]; exact hok.1
    have hj : m.j < xs.length := by rw [g.1]; exact hok.2.1
    have at_ : ∀ k, k < xs.length → (endsG xs gs).getD k 0 = topG gs (xs.getD k 0) := fun k hk => by
      unfold endsG
      simp [List.getD, List.getElem?_eq_getElem hk]
    unfold srcStep stepG
    rw [at_ _ hi, at_ _ hj]
    unfold endsG
    rw [List.map_set]
    congr 1
    cases m.t with
    | true => rfl
    | false =>
      rw [if_neg Bool.false_ne_true, if_neg Bool.false_ne_true]
      exact topG_or (g.2 _ (getD_mem hi)).1 (g.2 _ (getD_mem hj)).1
theorem ends_eq {n : Nat} {gs : List Int} {ms : List Mk3} (hm : ∀ m ∈ ms, okM n m) (hl : gs.length = n) : endsG (srcM n ms) gs = runG gs ms := by
  rw [srcM, ends_run hm goodM_init]
  congr 1
  unfold endsG initM
  rw [List.map_map]
  apply List.ext_getElem?
  intro i
  rw [List.getElem?_map]
  by_cases c : i < n
  · rw [List.getElem?_range c, List.getElem?_eq_getElem (by omega)]
    show some (topG gs (1 <<< i)) = _
    rw [Nat.one_shiftLeft, topG_pow]
    simp [List.getD, List.getElem?_eq_getElem (show i < gs.length by omega)]
  · rw [List.getElem?_eq_none (by simpa using c), List.getElem?_eq_none (by omega)]
    rfl
end DL
-- A15
namespace DL
open PySem PySem.Spec PyProof.Rows L2
theorem lots_mem : ∀ {n q : Nat}, q < n → [q] ∈ lotsF n
  | n + 1, q, h => by
    rw [lotsF, List.mem_append]
    by_cases c : q < n
    · exact .inl (lots_mem c)
    · have : q = n := by omega
      subst this
      refine .inr (List.mem_map.mpr ⟨[], ?_, rfl⟩)
      have : ∀ n, ([] : List Nat) ∈ lotsF n := by
        intro n
        induction n with
        | zero => exact List.mem_singleton.mpr rfl
        | succ n ih => exact List.mem_append.mpr (.inl ih)
      exact this q
theorem ind_at {n p : Nat} {l : List Nat} (h : p < n) : (indG n l).getD p 0 = if p ∈ l then 1 else 0 := by
  unfold indG
  simp [List.getD, h]
theorem run_ind {n p q : Nat} {ms : List Mk3} (hm : ∀ m ∈ ms, okM n m) (hp : p < n) (hq : q < n) : (runG (indG n [q]) ms).getD p 0 = if ((srcM n ms).getD p 0).testBit q then 1 else 0 := by
  rw [← ends_eq hm indG_len]
  have g := goodM hm
  have hpl : p < (srcM n ms).length := by rw [srcM_len]; exact hp
  have gx := g.2 _ (getD_mem hpl)
  have e : (endsG (srcM n ms) (indG n [q])).getD p 0 = topG (indG n [q]) ((srcM n ms).getD p 0) := by
    unfold endsG
    simp [List.getD, List.getElem?_eq_getElem hpl]
  rw [e]
  generalize (srcM n ms).getD p 0 = x at gx
  have bit : ∀ r, x.testBit r = true → r < n := fun r hr => lotN_lt gx.2 (mem_lotN.mpr hr)
  cases c : x.testBit q with
  | true =>
    rw [if_pos rfl, topG_is c fun r hr => ?_, ind_at hq]
    · simp
    · rw [ind_at (bit r hr), ind_at hq]
      by_cases c2 : r = q <;> simp [c2]
  | false =>
    rw [if_neg Bool.false_ne_true]
    obtain ⟨r, hr, er⟩ := topG_mem (gs := indG n [q]) gx.1
    rw [← er, ind_at (bit r hr)]
    have : r ≠ q := fun z => by rw [z, c] at hr; cases hr
    simp [this]
theorem alike_eq {n : Nat} {ms ms2 : List Mk3} (h1 : ∀ m ∈ ms, okM n m) (h2 : ∀ m ∈ ms2, okM n m) : alikeF n ms ms2 = decide (srcM n ms = srcM n ms2) := by
  by_cases c : srcM n ms = srcM n ms2
  · rw [decide_eq_true c]
    unfold alikeF
    rw [List.all_eq_true]
    intro l _
    rw [decide_eq_true_eq, ← ends_eq h1 indG_len, ← ends_eq h2 indG_len, c]
  · rw [decide_eq_false c, Bool.eq_false_iff]
    intro a
    refine c ?_
    unfold alikeF at a
    rw [List.all_eq_true] at a
    apply List.ext_getElem?
    intro p
    by_cases hp : p < n
    · have l1 : p < (srcM n ms).length := by rw [srcM_len]; exact hp
      have l2 : p < (srcM n ms2).length := by rw [srcM_len]; exact hp
      have e : (srcM n ms).getD p 0 = (srcM n ms2).getD p 0 := by
        apply Nat.eq_of_testBit_eq
        intro q
        by_cases hq : q < n
        · have r1 := run_ind h1 hp hq
          have r2 := run_ind h2 hp hq
          rw [of_decide_eq_true (a [q] (lots_mem hq)), r2] at r1
          generalize ((srcM n ms).getD p 0).testBit q = x at r1
          generalize ((srcM n ms2).getD p 0).testBit q = y at r1
          cases x <;> cases y <;> first | rfl | simp at r1
        · have g1 := ((goodM h1).2 _ (getD_mem l1)).2
          have g2 := ((goodM h2).2 _ (getD_mem l2)).2
          rw [Nat.testBit_lt_two_pow (Nat.lt_of_lt_of_le g1 (pow_le (by omega))), Nat.testBit_lt_two_pow (Nat.lt_of_lt_of_le g2 (pow_le (by omega)))]
      simp only [List.getD, List.getElem?_eq_getElem l1, List.getElem?_eq_getElem l2] at e
      rw [List.getElem?_eq_getElem l1, List.getElem?_eq_getElem l2]
      exact congrArg some e
    · rw [List.getElem?_eq_none (by rw [srcM_len]; omega), List.getElem?_eq_none (by rw [srcM_len]; omega)]
theorem lotN_inj {a b : Nat} (h : lotN a = lotN b) : a = b := by
  apply Nat.eq_of_testBit_eq
  intro i
  have e : a.testBit i = true ↔ b.testBit i = true := by rw [← mem_lotN, ← mem_lotN, h]
  cases h1 : a.testBit i <;> cases h2 : b.testBit i <;> first | rfl | (rw [h1, h2] at e; simp at e)
theorem eqv_T : ∀ {xs ys : List Nat}, PyData.eqvAll (xs.map fun m => dL (lotN m)) (ys.map fun m => dL (lotN m)) = decide (xs = ys)
  | [], [] => by simp [PyData.eqvAll]
  | [], b :: bs => by simp [PyData.eqvAll]
  | a :: as, [] => by simp [PyData.eqvAll]
  | a :: as, b :: bs => by
    rw [List.map_cons, List.map_cons, PyData.eqvAll, eqv_T, PyData.eqv]
    show (PyData.eqvAll (iN (lotN a)) (iN (lotN b)) && _) = _
    rw [eqv_iN]
    by_cases h : a = b
    · subst h; simp
    · have : lotN a ≠ lotN b := fun e => h (lotN_inj e)
      simp [h, this]
theorem eqv_dT {xs ys : List Nat} : PyData.eqv (dT xs) (dT ys) = decide (xs = ys) := by rw [PyData.eqv, eqv_T]
theorem sh_dL {ps : List Nat} : Sh 1 (dL ps) := sh_tup fun x hx => by
  obtain ⟨i, _, rfl⟩ := List.mem_map.mp hx
  exact sh_int
theorem sh_dT {xs : List Nat} : Sh 2 (dT xs) := sh_tup fun x hx => by
  obtain ⟨i, _, rfl⟩ := List.mem_map.mp hx
  exact sh_dL
theorem eqv_dL {a b : List Nat} : PyData.eqv (dL a) (dL b) = decide (a = b) := by rw [PyData.eqv]; exact eqv_iN a b
theorem srcRun_app {xs : List Nat} : ∀ {ms ms2 : List Mk3}, srcRun xs (ms ++ ms2) = srcRun (srcRun xs ms) ms2
  | [], _ => rfl
  | m :: ms, ms2 => srcRun_app (ms := ms)
theorem foldl_bit {xs : List Nat} : ∀ {ps : List Nat} {b q : Nat}, (ps.foldl (fun acc p => acc ||| xs.getD p 0) b).testBit q = true ↔ b.testBit q = true ∨ ∃ r ∈ ps, (xs.getD r 0).testBit q = true
  | [], b, q => by simp
  | p :: ps, b, q => by
    rw [List.foldl_cons, foldl_bit, Nat.testBit_or, Bool.or_eq_true]
    simp only [List.mem_cons, exists_eq_or_imp]
    exact or_assoc
theorem app_src {n p : Nat} {ms ms2 : List Mk3} (h1 : ∀ m ∈ ms, okM n m) (h2 : ∀ m ∈ ms2, okM n m) (hp : p < n) : (srcM n (ms ++ ms2)).getD p 0 = backN (srcM n ms) ((srcM n ms2).getD p 0) := by
  apply Nat.eq_of_testBit_eq
  intro q
  have e : ((srcM n (ms ++ ms2)).getD p 0).testBit q = true ↔ (backN (srcM n ms) ((srcM n ms2).getD p 0)).testBit q = true := by
    unfold backN
    rw [foldl_bit, show srcM n (ms ++ ms2) = srcRun (srcM n ms) ms2 from srcRun_app, src_bit h2 srcM_len hp]
    simp only [Nat.zero_testBit, Bool.false_eq_true, false_or]
    constructor
    · rintro ⟨r, hr, hq⟩
      exact ⟨r, mem_lotN.mpr ((srcM_bit h2 hp).mpr hr), hq⟩
    · rintro ⟨r, hr, hq⟩
      exact ⟨r, (srcM_bit h2 hp).mp (mem_lotN.mp hr), hq⟩
  cases a : ((srcM n (ms ++ ms2)).getD p 0).testBit q <;> cases b : (backN (srcM n ms) ((srcM n ms2).getD p 0)).testBit q <;> first | rfl | (rw [a, b] at e; simp at e)
theorem maskL_lot {n : Nat} : ∀ {ps : List Nat} {m0 : Nat}, ps.Nodup → (∀ p ∈ ps, p < n ∧ m0.testBit p = false) → maskL n m0 (iN ps) = .ok (ps.foldl (fun acc p => acc ||| 1 <<< p) m0)
  | [], m0, _, _ => rfl
  | p :: ps, m0, hn, h => by
    have hn' := List.nodup_cons.mp hn
    have h1 := h p List.mem_cons_self
    show maskL n m0 (.int (p : Nat) :: iN ps) = _
    rw [maskL, if_pos (btw_nat h1.1)]
    have e : (if m0.testBit ((p : Nat) : Int).toNat = true then Except.error (PyData.int (p : Nat)) else maskL n (m0 ||| 1 <<< ((p : Nat) : Int).toNat) (iN ps)) = maskL n (m0 ||| 1 <<< p) (iN ps) := by
      rw [Int.toNat_natCast, h1.2]
      rfl
    refine e.trans ?_
    rw [maskL_lot hn'.2 fun q hq => ⟨(h q (List.mem_cons_of_mem _ hq)).1, ?_⟩]
    · rfl
    · rw [Nat.testBit_or, (h q (List.mem_cons_of_mem _ hq)).2, Nat.one_shiftLeft, Nat.testBit_two_pow, Bool.false_or]
      exact decide_eq_false fun z => hn'.1 (z ▸ hq)
theorem fold_bit : ∀ {ps : List Nat} {b q : Nat}, (ps.foldl (fun acc p => acc ||| 1 <<< p) b).testBit q = true ↔ b.testBit q = true ∨ q ∈ ps
  | [], b, q => by simp
  | p :: ps, b, q => by
    rw [List.foldl_cons, fold_bit, Nat.testBit_or, Bool.or_eq_true, Nat.one_shiftLeft, Nat.testBit_two_pow, List.mem_cons, decide_eq_true_eq, or_assoc, eq_comm (a := p)]
theorem maskOf_lot {n m : Nat} (h : m < 2 ^ n) : maskOf (dL (lotN m)) n = .ok (.int (m : Nat)) := by
  show (match maskL n 0 (iN (lotN m)) with | .ok m => Except.ok (PyData.int (m : Nat)) | .error x => .error (eLot x)) = _
  rw [maskL_lot (lotN_nodup m) fun p hp => ⟨lotN_lt h hp, Nat.zero_testBit p⟩]
  have e : (lotN m).foldl (fun acc p => acc ||| 1 <<< p) 0 = m := by
    apply Nat.eq_of_testBit_eq
    intro q
    have := fold_bit (ps := lotN m) (b := 0) (q := q)
    rw [mem_lotN] at this
    simp only [Nat.zero_testBit, Bool.false_eq_true, false_or] at this
    cases a : ((lotN m).foldl (fun acc p => acc ||| 1 <<< p) 0).testBit q <;> cases b : m.testBit q <;> first | rfl | (rw [a, b] at this; simp at this)
  simp only [e]
def dueF (gs : List Int) (m : Mk3) : Bool := if m.t then !decide (gs.getD m.i 0 = gs.getD m.j 0) else decide (gs.getD m.j 0 > gs.getD m.i 0)
theorem eff_due {gs : List Int} {m : Mk3} (h : m.i < gs.length) : (!decide (gs = stepG gs m)) = dueF gs m := by
  have gi : gs.getD m.i 0 = gs[m.i] := by simp [List.getD, List.getElem?_eq_getElem h]
  have key : ∀ v, gs = gs.set m.i v ↔ gs.getD m.i 0 = v := fun v => by
    constructor
    · intro e
      have : (gs.set m.i v).getD m.i 0 = v := by simp [List.getD, h]
      rw [← e] at this
      exact this
    · intro e
      rw [← e, gi, List.set_getElem_self]
  unfold stepG dueF
  cases m.t with
  | true =>
    rw [if_pos rfl, if_pos rfl]
    by_cases c : gs.getD m.i 0 = gs.getD m.j 0
    · rw [decide_eq_true ((key _).mpr c), decide_eq_true c]
    · rw [decide_eq_false fun z => c ((key _).mp z), decide_eq_false c]
  | false =>
    rw [if_neg Bool.false_ne_true, if_neg Bool.false_ne_true]
    by_cases c : gs.getD m.j 0 > gs.getD m.i 0
    · rw [if_pos c, decide_eq_true c, decide_eq_false fun z => by have := (key _).mp z; omega]
      rfl
    · rw [if_neg c, decide_eq_false c, decide_eq_true ((key _).mpr rfl)]
      rfl
theorem run_flat {n : Nat} {g : Int} : ∀ {ms : List Mk3}, (∀ m ∈ ms, okM n m) → runG (List.replicate n g) ms = List.replicate n g
  | [], _ => rfl
  | m :: ms, hm => by
    have hok := hm m List.mem_cons_self
    have e : stepG (List.replicate n g) m = List.replicate n g := by
      have gi : (List.replicate n g).getD m.i 0 = g := by simp [List.getD, hok.1]
      have gj : (List.replicate n g).getD m.j 0 = g := by simp [List.getD, hok.2.1]
      unfold stepG
      rw [gi, gj]
      have : (if m.t then g else if g > g then g else g) = g := by cases m.t <;> simp
      rw [this]
      have := List.set_getElem_self (as := List.replicate n g) (i := m.i) (by simpa using hok.1)
      rwa [List.getElem_replicate] at this
    rw [runG, e]
    exact run_flat fun k hk => hm k (List.mem_cons_of_mem _ hk)
theorem eff_flat {n : Nat} {g : Int} {ms : List Mk3} (hm : ∀ m ∈ ms, okM n m) : effL (List.replicate n g) ms = List.replicate ms.length false := by
  unfold effL
  apply List.eq_replicate_iff.mpr
  refine ⟨by simp, fun b hb => ?_⟩
  obtain ⟨k, _, rfl⟩ := List.mem_map.mp hb
  rw [run_flat fun m h => hm m (List.mem_of_mem_take h), run_flat fun m h => hm m (List.mem_of_mem_take h)]
  simp
end DL
-- A16
namespace DL
open PySem PySem.Spec PyProof.Rows L2
section
variable {P : Program} {w : World} {K : PySem.W.Frag} {mg : Str → Option Value} {base : Heap}
theorem isW_ints {gs : List Int} : (iL gs).findIdx? (fun x => !isW x) = none := fi_none fun j y hy => by
  rw [List.getElem?_map] at hy
  cases q : gs[j]? with
  | none => rw [q] at hy; cases hy
  | some g =>
    rw [q] at hy
    cases hy
    rfl
theorem gradesOf_ok {n : Nat} {gs : List Int} {b : Bool} (h : gs.length = n) : gradesOf (sqD b (iL gs)) n = .ok (dG gs) := by
  have e : itm (sqD b (iL gs)) = some (iL gs) := by cases b <;> rfl
  unfold gradesOf
  rw [e]
  simp only
  rw [if_neg (by rw [List.length_map]; omega), isW_ints]
theorem worldG_ok {gs : List Int} {b : Bool} (h : 2 ≤ gs.length ∧ gs.length ≤ 6) : worldG (sqD b (iL gs)) = .ok (dG gs) := by
  have e : itm (sqD b (iL gs)) = some (iL gs) := by cases b <;> rfl
  unfold worldG
  rw [e]
  simp only
  rw [if_pos (by rw [List.length_map]; exact h), List.length_map]
  exact gradesOf_ok rfl
theorem pl_ints (gs : List Int) : plAll (iL gs) = true := by
  induction gs with
  | nil => rfl
  | cons g gs ih => exact ih
theorem goes_L {gs : List Int} {ms : List Mk3} {b : Bool} (h : 2 ≤ gs.length ∧ gs.length ≤ 6) (hm : ∀ m ∈ ms, okM gs.length m) : Goes (sqD b (iL gs)) (dMs ms) gs ms := ⟨worldG_ok h, h, marksOf_L hm, hm⟩
theorem arg_L {gs : List Int} {ms : List Mk3} {b : Bool} (hz : ms.length < 1000) : Arg (sqD b (iL gs)) (dMs ms) := ⟨by cases b <;> exact pl_ints gs, pl_M ms, fun xs e => by
  cases e
  rw [List.length_map, sizeLine_eq]
  omega⟩
theorem eqv_refl_L {gs : List Int} : PyData.eqv (.list (iL gs)) (.list (iL gs)) = true := by rw [eqv_GL]; exact decide_eq_true rfl
theorem kit_tuple : PySem.W.kitOne K (.type "tuple") (.type "tuple") = some true := kit_ty (r := true) (by decide +kernel)
theorem kit_bb : PySem.W.kitOne K (.type "bool") (.type "bool") = some true := kit_ty (r := true) (by decide +kernel)
def R_endsR (ds : List D) (r : Res) : Prop := ∃ n ms gs, RunOk n ms ∧ gs.length = n ∧ ds = [.int (n : Nat), dMs ms, dR n ms, .list (iL gs)] ∧ r = .ok (.bool true)
theorem len_R_endsR : ∀ ds r, R_endsR ds r → ds.length = 4 := fun ds r ⟨_, _, _, _, _, h, _⟩ => by rw [h]; rfl
abbrev s__law_ends_right : Stmt := top 41
theorem sc__law_ends_right : FnScope ["_law_size", "_law_marks", "_law_run", "_law_grades", "_law_kept", "_law_ends", "_law_place", "_law_told", "_law_p"] ["_law_size", "_law_marks", "_law_run", "_law_grades"] (defScope s__law_ends_right) := ⟨rfl, rfl, rfl, by decide +kernel, rfl, by decide +kernel, by decide +kernel⟩
theorem ok__law_ends_right (T : GlX mg K) (hF : ∃ fd, L2.Fun K "_law_ends_right" "_law_ends_right" s__law_ends_right (He.ga K "_law_ends_right") fd) (hG : mg "_law_ends_right" = some (.ref (He.ga K "_law_ends_right"))) (F__law_do : FO P w K mg base "_law_do" 1 ["_law_grades", "_law_marks"] (spD K R_do)) (F_end_grades : FO P w K mg base "end_grades" 5 ["grades", "marks"] (spD K R_end_grades)) (F__law_back : FO P w K mg base "_law_back" 1 ["_law_lot", "_law_marks"] (spD K R_backL)) (M_sources : MO P w K mg base "Run" "sources" 4 ["self", "place"] (spD K R_sources)) (M_ends : MO P w K mg base "Run" "ends" 4 ["self", "grades"] (spD K R_ends)) : FO P w K mg base "_law_ends_right" 6 ["_law_size", "_law_marks", "_law_run", "_law_grades"] (spD K R_endsR) := by
  obtain ⟨fd, F⟩ := hF
  have n_list := T.n_list
  have n_tuple := T.n_tuple
  have n_range := T.n_range
  have n_max := T.n_max
  have n_isinstance := T.n_isinstance
  refine fo_make F hG (fun _ _ _ _ _ _ us hl => match us, hl with | [_, _, _, _], _ => rfl) sc__law_ends_right len_R_endsR fun cdv A outer s H E0 hr tk => ⟨_, (pss_cons (ps_set (i := 4) sc__law_ends_right.nd rfl (Or.inl rfl) (pe_callTy call_list_of (by rfl) n_list (by decide +kernel) (pa_cons (pv 3) pa_nil))) (pss_cons (ps_set (i := 5) sc__law_ends_right.nd rfl (Or.inl rfl) (pe_mo (pv 2) M_ends (hr.mono (by decide)) tk (pa_cons (pv 3) pa_nil))) (pss_cons (ps_if (PW.pt (pw_or (pt_not (pt_val (pe_callB call_isi (by rfl) n_isinstance (by decide +kernel) (pa_cons (pv 5) (pa_cons (pe_bltn (v := .ty "tuple") (u := .type "tuple") (by rfl) n_tuple (by decide +kernel) rfl) pa_nil))))) (pw_or1 (pt_cmpR (op_neD hr.units) (pv 3) (pv 4) (nomark _))))) (pss_one (ps_ret pe_bl)) pss_nil) (pss_cons (ps_for (passes_of rfl) rfl (pi_range1 (by rfl) n_range (pa_cons (pv 0) pa_nil)) (pg_name (i := 6) sc__law_ends_right.nd rfl (Or.inl rfl)) (pss_cons (ps_set (i := 7) sc__law_ends_right.nd rfl (Or.inl rfl) (pe_mo (pv 2) M_sources (hr.mono (by decide)) tk (pa_cons (pv 6) pa_nil))) (pss_one (ps_if (PW.pt (pw_or (pt_cmpR (op_neD hr.units) (pv 7) (pe_callTy call_tuple_of (by rfl) n_tuple (by decide +kernel) (pa_cons (pe_fo F__law_back (hr.mono (by decide)) (by rfl) tk (pa_cons (pe_lst (pa_cons (pv 6) pa_nil)) (pa_cons (pv 1) pa_nil))) pa_nil)) (nomark _)) (pw_or1 (pt_cmpR (op_neD hr.units) (pe_ix ix_tup (pv 5) (pv 6) (fun _ _ => rfl)) (pe_callB (cr_max rfl) (by rfl) n_max (by decide +kernel) (pa_cons (pe_lc (own := [("_law_p", 8)]) (g := gName 8) (tt := tYes) rfl sc__law_ends_right.nd (pi_tup (pv 7)) (blkOk_by (N := ["_law_size", "_law_marks", "_law_run", "_law_grades", "_law_kept", "_law_ends", "_law_place", "_law_told", "_law_p"]) (sc := defScope s__law_ends_right) (by decide +kernel)) (fun _ _ _ _ _ => (pg_name (i := 8) sc__law_ends_right.nd rfl (Or.inl rfl))) (fun _ _ _ _ _ => pts_nil) (fun _ _ _ _ _ => (pe_ix (ix_list : IxR _ (rIxL K)) (pv 3) (pv 8) (fun _ _ => rfl)))) pa_nil)) (nomark _))))) (pss_one (ps_ret pe_bl)) pss_nil)))) (pss_one (ps_ret (pe_and (pe_cmpR (op_eqD hr.units) (pv 5) (pe_fo F_end_grades (hr.mono (by decide)) (by rfl) tk (pa_cons (pe_callTy call_tuple_of (by rfl) n_tuple (by decide +kernel) (pa_cons (pv 3) pa_nil)) (pa_cons (pv 1) pa_nil))) (nomark _)) (pe_one (pe_cmpR (op_eqD hr.units) (pe_callTy call_list_of (by rfl) n_list (by decide +kernel) (pa_cons (pv 5) pa_nil)) (pe_fo F__law_do (hr.mono (by decide)) (by rfl) tk (pa_cons (pv 3) (pa_cons (pv 1) pa_nil))) (nomark _)))))))))), ?_⟩
  intro ds r ⟨n, ms, gs, hok, hl, e1, e2⟩
  subst e1 e2
  have hn := hok.sz
  have hm := hok.ok
  have g := goodM hm
  refine s_setL (jl_listS (b := false) (j_var rfl)) fun b => ?_
  refine st_frz (i := 4) rfl ?_
  refine s_set [.d (.int (n : Nat)), .d (dMs ms), .d (dR n ms), .d (.list (iL gs)), .d (.list (iL gs)), .d (dG (endsG (srcM n ms) gs)), .un, .un, .un]
    (j_meth (j_var rfl) (ja_cons (j_var rfl) ja_nil) (by decide) ⟨n, ms, .list (iL gs), hok, pl_ints gs, rfl, .inr ⟨gs, gradesOf_ok (b := false) hl, hl, rfl⟩⟩) rfl ?_
  refine s_guard (b := false) (jt_orF (jt_is (jt_not (jt_test (j_isi (j_var rfl).td (.ty "tuple") ty_tup kit_tuple).td)) rfl) (jt_is (jt_B (j_op (j_var rfl) (j_var rfl).td (opv_neD (sh_GL.ok (by decide)) (sh_GL.ok (by decide)))).td) (by rw [eqv_refl_L]; rfl))) (fun h => nomatch h) (fun _ => ?_)
  refine s_for (ds := rgD 0 ((n : Nat) : Int).toNat) (ji_rng1 (JA.td (ja_cons (j_var rfl) ja_nil)) (by omega) (by omega)) [6] (fun i S => ∃ x6 x7, S = [.d (.int (n : Nat)), .d (dMs ms), .d (dR n ms), .d (.list (iL gs)), .d (.list (iL gs)), .d (dG (endsG (srcM n ms) gs)), x6, x7, .un]) ⟨.un, .un, rfl⟩ (fun i d S2 hd hI => ?_) (fun S2 hI => ?_)
  · obtain ⟨x6, x7, rfl⟩ := hI
    obtain ⟨hk, rfl⟩ := range_of hd
    have hpl : i < (srcM n ms).length := by rw [srcM_len]; exact hk
    have gx := g.2 _ (getD_mem hpl)
    have hb : (endsG (srcM n ms) gs).getD i 0 = topG gs ((srcM n ms).getD i 0) := by
      unfold endsG
      simp [List.getD, List.getElem?_eq_getElem hpl]
    refine ⟨_, jg_name (by simp), ?_⟩
    refine s_set [.d (.int (n : Nat)), .d (dMs ms), .d (dR n ms), .d (.list (iL gs)), .d (.list (iL gs)), .d (dG (endsG (srcM n ms) gs)), .d (.int (i : Nat)), .d (dL (lotN ((srcM n ms).getD i 0))), .un]
      (j_meth (j_var rfl) (ja_cons (j_var rfl) ja_nil) (by decide) ⟨n, ms, .int (i : Nat), hok, rfl, rfl, .inr ⟨i, hk, rfl, rfl⟩⟩) rfl ?_
    refine s_if (b := false) (jt_orF (jt_is (jt_B (j_op (j_var rfl) (j_tupL (J.sdL (j_call (ja_cons (jl_lst (ja_cons (j_var rfl) ja_nil) (by show 1 ≤ _; rw [sizeLine_eq]; decide)).dd (ja_cons (j_var rfl) ja_nil)) ⟨n, [i], ms, false, by omega, BI_one hk, hm, hok.l, rfl, rfl⟩))).td (opv_neD (sh_dL.ok (by decide)) (by rw [dSort_eq hm hk]; exact sh_dL.ok (by decide)))).td) (by rw [dSort_eq hm hk, eqv_dL]; simp))
      (jt_is (jt_B (j_op (j_ixT (x := .int (topG gs ((srcM n ms).getD i 0))) (j_var rfl) (j_var rfl).td (by rw [← hb]; exact atI_nat (get_map (by unfold endsG; rw [List.length_map]; exact hpl)))) (J.td (j_cb (φ := DL.dd K (.int (topG gs ((srcM n ms).getD i 0)))) (ja_one (j_is (jl_maps (k := 8) (lotN ((srcM n ms).getD i 0)) (fun p => .int (p : Nat)) (fun p => .int (gs.getD p 0)) (ji_tup (j_var rfl)) rfl (fun p hp => ?_) ?_).dd (y := .list (iL ((lotN ((srcM n ms).getD i 0)).map fun p => gs.getD p 0))) (by unfold iL; rw [List.map_map]; rfl)).td) (cb_max (maxL_mem (by simpa using lotN_ne gx.1)) fun y hy => maxL_ge hy))) (opv_neD (by rfl) (by rfl))).td) (by rw [eqv_int]; simp))) (fun h => nomatch h) (fun _ => st_next ⟨_, _, rfl⟩)
    · exact j_ixL (j_var rfl) (j_var rfl).td (atI_nat (get_ints (by rw [hl]; exact lotN_lt gx.2 hp)))
    · have := lotN_len gx.2
      rw [sizeLine_eq]
      omega
  · obtain ⟨x6, x7, rfl⟩ := hI
    have he := ends_eq hm hl
    have hm' : ∀ m ∈ ms, okM gs.length m := by rw [hl]; exact hm
    have hl' : 2 ≤ gs.length ∧ gs.length ≤ 6 := by rw [hl]; exact hn
    refine s_retP (j_is (j_and (a := true) (J.td (j_is (j_op (j_var rfl) (j_call (x := dG (runG gs ms)) (ja_cons (j_tupL (J.sdL (j_var rfl))) (ja_cons (j_var rfl) ja_nil)) ⟨dG gs, dMs ms, arg_L (b := true) hok.l, rfl, .inr (.inr ⟨gs, ms, goes_L (b := true) hl' hm', rfl⟩)⟩).td (opv_eqD (sh_G.ok (by decide)) (sh_G.ok (by decide)))) (by rw [eqv_GT, he]; simp))) fun _ =>
      j_op (jl_listT (J.sdT (j_var rfl))).dd (j_call (ja_cons (j_var rfl) (ja_cons (j_var rfl) ja_nil)) ⟨false, gs, ms, hm', rfl, rfl⟩).td (opv_eqD (sh_GL.ok (by decide)) (sh_GL.ok (by decide)))) (by rw [eqv_GL, he]; simp)) rfl
end
end DL
-- A17
namespace DL
open PySem PySem.Spec PyProof.Rows L2
section
variable {P : Program} {w : World} {K : PySem.W.Frag} {mg : Str → Option Value} {base : Heap}
theorem sh_B {bs : List Bool} : Sh 1 (.tuple (bs.map PyData.bool)) := sh_tup fun x hx => by
  obtain ⟨i, _, rfl⟩ := List.mem_map.mp hx
  exact sh_bool
theorem eqv_bools : ∀ bs : List Bool, PyData.eqvAll (bs.map PyData.bool) (bs.map PyData.bool) = true
  | [] => rfl
  | b :: bs => by rw [List.map_cons, PyData.eqvAll, eqv_bools bs]; simp [PyData.eqv]
theorem effL_len {gs : List Int} {ms : List Mk3} : (effL gs ms).length = ms.length := by simp [effL]
theorem effL_at {gs : List Int} {ms : List Mk3} {k : Nat} {m : Mk3} (h : ms[k]? = some m) (hm : okM gs.length m) : ((effL gs ms).map PyData.bool)[k]? = some (.bool (dueF (runG gs (ms.take k)) m)) := by
  have hk := (List.getElem?_eq_some_iff.mp h).1
  unfold effL
  rw [List.map_map, List.getElem?_map, List.getElem?_range hk]
  show some (PyData.bool (!decide (runG gs (ms.take k) = runG gs (ms.take (k + 1))))) = _
  rw [runG_take h, eff_due (by rw [runG_len]; exact hm.1)]
theorem flat_rep {k : Nat} : (List.replicate k [PyData.bool false]).flatten = (List.replicate k false).map PyData.bool := by
  induction k with
  | zero => rfl
  | succ k ih => rw [List.replicate_succ, List.flatten_cons, ih]; rfl
def R_effR (ds : List D) (r : Res) : Prop := ∃ n ms gs, 2 ≤ n ∧ n ≤ 6 ∧ (∀ m ∈ ms, okM n m) ∧ ms.length < 1000 ∧ gs.length = n ∧ ds = [dMs ms, .list (iL gs)] ∧ r = .ok (.bool true)
theorem len_R_effR : ∀ ds r, R_effR ds r → ds.length = 2 := fun ds r ⟨_, _, _, _, _, _, _, _, h, _⟩ => by rw [h]; rfl
abbrev s__law_effects_right : Stmt := top 42
theorem sc__law_effects_right : FnScope ["_law_marks", "_law_grades", "_law_told", "_law_now", "_law_k", "_law_mark", "_law_due", "_law_flat", "_law_grade"] ["_law_marks", "_law_grades"] (defScope s__law_effects_right) := ⟨rfl, rfl, rfl, by decide +kernel, rfl, by decide +kernel, by decide +kernel⟩
theorem ok__law_effects_right (T : GlX mg K) (hF : ∃ fd, L2.Fun K "_law_effects_right" "_law_effects_right" s__law_effects_right (He.ga K "_law_effects_right") fd) (hG : mg "_law_effects_right" = some (.ref (He.ga K "_law_effects_right"))) (F_effective : FO P w K mg base "effective" 9 ["grades", "marks"] (spD K R_effective)) (F__law_do : FO P w K mg base "_law_do" 1 ["_law_grades", "_law_marks"] (spD K R_do)) : FO P w K mg base "_law_effects_right" 10 ["_law_marks", "_law_grades"] (spD K R_effR) := by
  obtain ⟨fd, F⟩ := hF
  have n_tuple := T.n_tuple
  have n_len := T.n_len
  have n_range := T.n_range
  have n_isinstance := T.n_isinstance
  have n_bool := T.n_bool
  have n_list := T.n_list
  refine fo_make F hG (fun _ _ _ _ _ _ us hl => match us, hl with | [_, _], _ => rfl) sc__law_effects_right len_R_effR fun cdv A outer s H E0 hr tk => ⟨_, (pss_cons (ps_set (i := 2) sc__law_effects_right.nd rfl (Or.inl rfl) (pe_fo F_effective (hr.mono (by decide)) (by rfl) tk (pa_cons (pv 1) (pa_cons (pv 0) pa_nil)))) (pss_cons (ps_if (PW.pt (pw_or (pt_not (pt_val (pe_callB call_isi (by rfl) n_isinstance (by decide +kernel) (pa_cons (pv 2) (pa_cons (pe_bltn (v := .ty "tuple") (u := .type "tuple") (by rfl) n_tuple (by decide +kernel) rfl) pa_nil))))) (pw_or1 (pt_cmpR (op_neD hr.units) (pe_callB call_len_seq (by rfl) n_len (by decide +kernel) (pa_cons (pv 2) pa_nil)) (pe_callB call_len_seq (by rfl) n_len (by decide +kernel) (pa_cons (pv 0) pa_nil)) (nomark _))))) (pss_one (ps_ret pe_bl)) pss_nil) (pss_cons (ps_set (i := 3) sc__law_effects_right.nd rfl (Or.inl rfl) (pe_callTy call_list_of (by rfl) n_list (by decide +kernel) (pa_cons (pv 1) pa_nil))) (pss_cons (ps_for (passes_of rfl) rfl (pi_range1 (by rfl) n_range (pa_cons (pe_callB call_len_seq (by rfl) n_len (by decide +kernel) (pa_cons (pv 0) pa_nil)) pa_nil)) (pg_name (i := 4) sc__law_effects_right.nd rfl (Or.inl rfl)) (pss_cons (ps_set (i := 5) sc__law_effects_right.nd rfl (Or.inl rfl) (pe_ix ix_list (pv 0) (pv 4) (fun _ _ => rfl))) (pss_cons (ps_set (i := 6) sc__law_effects_right.nd rfl (Or.inl rfl) (pe_cmpR (op_neD hr.units) (pe_ix ix_list (pv 3) (pe_ix ix_tup (pv 5) pe_int (fun _ _ => rfl)) (fun _ _ => rfl)) (pe_ix ix_list (pv 3) (pe_ix ix_tup (pv 5) pe_int (fun _ _ => rfl)) (fun _ _ => rfl)) (nomark _))) (pss_cons (ps_if (pt_cmpR (op_eqD hr.units) (pe_ix ix_tup (pv 5) pe_int (fun _ _ => rfl)) pe_str (nomark _)) (pss_one (ps_set (i := 6) sc__law_effects_right.nd rfl (Or.inl rfl) (pe_cmpR op_gt (pe_ix ix_list (pv 3) (pe_ix ix_tup (pv 5) pe_int (fun _ _ => rfl)) (fun _ _ => rfl)) (pe_ix ix_list (pv 3) (pe_ix ix_tup (pv 5) pe_int (fun _ _ => rfl)) (fun _ _ => rfl)) (nomark _)))) pss_nil) (pss_cons (ps_if (PW.pt (pw_or (pt_not (pt_val (pe_callB call_isi (by rfl) n_isinstance (by decide +kernel) (pa_cons (pe_ix ix_tup (pv 2) (pv 4) (fun _ _ => rfl)) (pa_cons (pe_bltn (v := .ty "bool") (u := .type "bool") (by rfl) n_bool (by decide +kernel) rfl) pa_nil))))) (pw_or1 (pt_cmpR (op_neD hr.units) (pe_ix ix_tup (pv 2) (pv 4) (fun _ _ => rfl)) (pv 6) (nomark _))))) (pss_one (ps_ret pe_bl)) pss_nil) (pss_one (ps_set (i := 3) sc__law_effects_right.nd rfl (Or.inl rfl) (pe_fo F__law_do (hr.mono (by decide)) (by rfl) tk (pa_cons (pv 3) (pa_cons (pe_lst (pa_cons (pv 5) pa_nil)) pa_nil)))))))))) (pss_cons (ps_set (i := 7) sc__law_effects_right.nd rfl (Or.inl rfl) (pe_fo F_effective (hr.mono (by decide)) (by rfl) tk (pa_cons (pe_lc (own := [("_law_grade", 8)]) (g := gName 8) (tt := tYes) rfl sc__law_effects_right.nd (pi_list (pv 1)) (blkOk_by (N := ["_law_marks", "_law_grades", "_law_told", "_law_now", "_law_k", "_law_mark", "_law_due", "_law_flat", "_law_grade"]) (sc := defScope s__law_effects_right) (by decide +kernel)) (fun _ _ _ _ _ => (pg_name (i := 8) sc__law_effects_right.nd rfl (Or.inl rfl))) (fun _ _ _ _ _ => pts_nil) (fun _ _ _ _ _ => (pe_ix (ix_list : IxR _ (rIxL K)) (pv 1) pe_int (fun _ _ => rfl)))) (pa_cons (pv 0) pa_nil)))) (pss_one (ps_ret (pe_cmpR (op_eqD hr.units) (pv 7) (pe_callTy call_tuple_of (by rfl) n_tuple (by decide +kernel) (pa_cons (pe_op op_rep (pe_lst (pa_cons pe_bl pa_nil)) (pe_callB call_len_seq (by rfl) n_len (by decide +kernel) (pa_cons (pv 0) pa_nil))) pa_nil)) (nomark _))))))))), ?_⟩
  intro ds r ⟨n, ms, gs, h2, h6, hm0, hz, hl, e1, e2⟩
  subst e1 e2
  have hm : ∀ m ∈ ms, okM gs.length m := by rw [hl]; exact hm0
  have hl' : 2 ≤ gs.length ∧ gs.length ≤ 6 := by omega
  refine s_set [.d (dMs ms), .d (.list (iL gs)), .d (.tuple ((effL gs ms).map PyData.bool)), .un, .un, .un, .un, .un, .un] (j_call (ja_cons (j_var rfl) (ja_cons (j_var rfl) ja_nil)) ⟨.list (iL gs), dMs ms, arg_L (b := false) hz, rfl, gs, ms, goes_L (b := false) hl' hm, hz, rfl⟩) rfl ?_
  refine s_guard (b := false) (jt_orF (jt_is (jt_not (jt_test (j_isi (j_var rfl).td (.ty "tuple") ty_tup kit_tuple).td)) rfl) (jt_is (jt_B (j_op (j_ltT rfl) (j_ltL (m := false) rfl).td (opv_neD (by rfl) (by rfl))).td) (by rw [eqv_int, List.length_map, List.length_map, effL_len]; simp))) (fun h => nomatch h) (fun _ => ?_)
  refine s_setL (jl_listS (b := false) (j_var rfl)) fun b => ?_
  refine st_frz (i := 3) rfl ?_
  have hlen : ((ms.map dM).length : Int).toNat = ms.length := by rw [List.length_map]; omega
  refine s_for (ds := rgD 0 ((ms.map dM).length : Int).toNat) (ji_rng1 (JA.td (ja_cons (j_ltL rfl) ja_nil)) (by rw [List.length_map]; omega) (by omega)) [4] (fun k S => ∃ x4 x5 x6, S = [.d (dMs ms), .d (.list (iL gs)), .d (.tuple ((effL gs ms).map PyData.bool)), .d (.list (iL (runG gs (ms.take k)))), x4, x5, x6, .un, .un]) ⟨.un, .un, .un, rfl⟩ (fun k d S2 hd hI => ?_) (fun S2 hI => ?_)
  · obtain ⟨x4, x5, x6, rfl⟩ := hI
    obtain ⟨hk, rfl⟩ := range_of (n := (ms.map dM).length) hd
    rw [List.length_map] at hk
    obtain ⟨mk, q⟩ : ∃ mk, ms[k]? = some mk := ⟨_, List.getElem?_eq_getElem hk⟩
    have hok := hm mk (List.mem_of_getElem? q)
    have he := effL_at q hok
    have hnext := runG_take (gs := gs) q
    generalize hc : runG gs (ms.take k) = cur at he hnext
    have hcl : cur.length = gs.length := by rw [← hc, runG_len]
    have g1 : (iL cur)[mk.i]? = some (.int (cur.getD mk.i 0)) := get_ints (by rw [hcl]; exact hok.1)
    have g2 : (iL cur)[mk.j]? = some (.int (cur.getD mk.j 0)) := get_ints (by rw [hcl]; exact hok.2.1)
    refine ⟨_, jg_name (by simp), ?_⟩
    refine s_set [.d (dMs ms), .d (.list (iL gs)), .d (.tuple ((effL gs ms).map PyData.bool)), .d (.list (iL cur)), .d (.int (k : Nat)), .d (dM mk), x6, .un, .un] (j_ixL (j_var rfl) (j_var rfl).td (atI_nat (by rw [List.getElem?_map, q]; rfl))) rfl ?_
    refine s_set [.d (dMs ms), .d (.list (iL gs)), .d (.tuple ((effL gs ms).map PyData.bool)), .d (.list (iL cur)), .d (.int (k : Nat)), .d (dM mk), .d (.bool (!decide (cur.getD mk.i 0 = cur.getD mk.j 0))), .un, .un]
      (j_is (j_op (j_ixL (j_var rfl) (j_ixT (xs := dMi mk) (i := 0) (x := .int (mk.i : Nat)) (j_var rfl) j_int.td rfl).td (atI_nat g1)) (j_ixL (j_var rfl) (j_ixT (xs := dMi mk) (i := 1) (x := .int (mk.j : Nat)) (j_var rfl) j_int.td rfl).td (atI_nat g2)).td (opv_neD (by rfl) (by rfl))) (by rw [eqv_int]; generalize cur.getD mk.i 0 = u1; generalize cur.getD mk.j 0 = u2; by_cases c : u1 = u2 <;> simp [c])) rfl ?_
    refine s_ifS1 [.d (dMs ms), .d (.list (iL gs)), .d (.tuple ((effL gs ms).map PyData.bool)), .d (.list (iL cur)), .d (.int (k : Nat)), .d (dM mk), .d (.bool (dueF cur mk)), .un, .un] (b := !mk.t)
      (jt_is (jt_B (j_op (j_ixT (xs := dMi mk) (i := 2) (x := .str (word mk.t)) (j_var rfl) j_int.td rfl) j_str.td (opv_eqD ((sh_str (word_ok _) (n := 0)).ok (by decide)) ((sh_str (by decide +kernel) (n := 0)).ok (by decide)))).td) (by rw [eqv_str]; exact word_call _)) (fun ct => ?_) (fun ct => ?_) ?_
    · have ct' : mk.t = false := by simpa using ct
      refine st_set (m := false) (x := .bool (dueF cur mk)) (j_is (j_op (j_ixL (j_var rfl) (j_ixT (xs := dMi mk) (i := 1) (x := .int (mk.j : Nat)) (j_var rfl) j_int.td rfl).td (atI_nat g2)) (j_ixL (j_var rfl) (j_ixT (xs := dMi mk) (i := 0) (x := .int (mk.i : Nat)) (j_var rfl) j_int.td rfl).td (atI_nat g1)).td opv_b0) ?_) rfl xin_no
      unfold dueF
      rw [ct', if_neg Bool.false_ne_true]
    · have ct' : mk.t = true := by simpa using ct
      refine st_next ?_
      show _ = _
      unfold dueF
      rw [ct', if_pos rfl]
    · refine s_guard (b := false) (jt_orF (jt_is (jt_not (jt_test (j_isi (j_ixT (j_var rfl) (j_var rfl).td (atI_nat he)).td (.ty "bool") ty_bl kit_bb).td)) rfl) (jt_is (jt_B (j_op (j_ixT (j_var rfl) (j_var rfl).td (atI_nat he)) (j_var rfl).td (opv_neD (by rfl) (by rfl))).td) (by simp [PyData.eqv]))) (fun h => nomatch h) (fun _ => ?_)
      refine st_set (m := false) (x := .list (iL (runG gs (ms.take (k + 1))))) (j_call (ja_cons (j_var rfl) (ja_cons (jl_lst (ja_cons (j_var rfl) ja_nil) (by show 1 ≤ _; rw [sizeLine_eq]; decide)).dd ja_nil)) ⟨false, cur, [mk], ?_, rfl, by rw [hnext]; rfl⟩) ⟨_, _, _, rfl⟩ xin_no
      intro m hm'
      rw [List.mem_singleton.mp hm', hcl]
      exact hok
  · obtain ⟨x4, x5, x6, rfl⟩ := hI
    have hne : gs ≠ [] := fun e => by rw [e] at hl'; exact absurd hl'.1 (by decide)
    obtain ⟨g0, hg0⟩ : ∃ g0, gs[0]? = some g0 := ⟨_, List.getElem?_eq_getElem (by omega)⟩
    have hm1 : ∀ m ∈ ms, okM (List.replicate n g0).length m := by rw [List.length_replicate]; exact hm0
    refine s_set [.d (dMs ms), .d (.list (iL gs)), .d (.tuple ((effL gs ms).map PyData.bool)), .d (.list (iL (runG gs (ms.take (rgD 0 ((ms.map dM).length : Int).toNat).length)))), x4, x5, x6, .d (.tuple ((effL (List.replicate n g0) ms).map PyData.bool)), .un]
      (j_call (ja_cons (j_is (jl_maps (k := 8) gs PyData.int (fun _ => .int g0) (ji_list (j_var rfl)) rfl (fun p hp => ?_) (by rw [sizeLine_eq]; omega)).dd (y := .list (iL (List.replicate n g0))) (by rw [← hl]; unfold iL; rw [List.map_replicate, List.map_const'])) (ja_cons (j_var rfl) ja_nil)) ⟨.list (iL (List.replicate n g0)), dMs ms, arg_L (b := false) hz, rfl, _, ms, goes_L (b := false) (by rw [List.length_replicate]; omega) hm1, hz, rfl⟩) rfl ?_
    · exact j_ixL (j_var rfl) j_int.td (by show atI (iL gs) ((0 : Nat) : Int) = _; exact atI_nat (by rw [List.getElem?_map, hg0]; rfl))
    · refine s_retP (j_is (j_op (j_var rfl) (j_tupL (JL.sdL (jl_rep (k := (ms.map dM).length) (JL.sdL (jl_lst (ja_cons j_bl ja_nil) (by show 1 ≤ _; rw [sizeLine_eq]; decide))) (j_ltL rfl).td (by rw [List.length_map]; omega) (by show 1 * _ ≤ _; rw [List.length_map, sizeLine_eq]; omega)))).td (opv_eqD (sh_B.ok (by decide)) ?_)) ?_) rfl
      · rw [flat_rep]
        exact sh_B.ok (by decide)
      · rw [flat_rep, eff_flat hm0, List.length_map, Int.toNat_natCast, PyData.eqv, eqv_bools]
end
end DL
-- DB2
namespace DL
open PySem PySem.Spec PyProof.Rows L2
section
variable {P : Program} {w : World} {K : PySem.W.Frag} {mg : Str → Option Value} {base : Heap}
variable {X : Cx} {W : WX} {k : Nat} {nm C m f pn : Str} {ps : List Str} {sp : Sp} {e o a b : Expr} {es : List Expr} {t tas : TA} {te ta tb : TE} {p pos apos pos' : Pos} {op : Operator}
theorem pe_moT {pl : Sem Bool} (he : PE X o ta) (M : MO P w K mg base C m k ps sp) (hr : Room k X.A) (tk : Takes X W) (ha : PA X (e :: es) t)
    (eP : X.prog = P := by rfl) (ew : X.w = w := by rfl) (eK : X.K = K := by rfl) (em : X.mg = mg := by rfl) (eb : X.base = base := by rfl)
    (hst : starEach (e :: es) X.env = (false, eval e X.env) :: starEach es X.env := by rfl) (hpl : (backTo pos (starEach es X.env)).any (·.1) = false := by rfl)
    (ht : eval (.Call (.Attribute o m apos) (e :: es) [] pos) X.env = (do
      let ov ← eval o X.env
      standAt apos.atName
      let (f, first) ← holding [ov] (getMethod ov m pl)
      callWith pos f first (backTo pos (starEach (e :: es) X.env)) (backToKw pos (keywordEach [] X.env))) := by rfl) : PE X (.Call (.Attribute o m apos) (e :: es) [] pos) (tMethSD (He.ga K C) m sp [] (WE W) ta t) := by
  subst eP ew eK em eb
  exact pe_mo he M hr tk ha hst hpl ht
theorem pe_coT (M : CO P w K mg base C k ps sp) (hr : Room (k + 1) X.A) (hg : Gl X C) (tk : Takes X W) (ha : PA X (e :: es) t) 
    (eP : X.prog = P := by rfl) (ew : X.w = w := by rfl) (eK : X.K = K := by rfl) (em : X.mg = mg := by rfl) (eb : X.base = base := by rfl) (hdb : (C == ("__debug__" : Str)) = false := by decide)
    (he : starEach (e :: es) X.env = (false, eval e X.env) :: starEach es X.env := by rfl) (hpl : (backTo pos (starEach es X.env)).any (·.1) = false := by rfl) : PE X (.Call (.Name C p) (e :: es) [] pos) (tMakeSD (He.ga K C) sp [] (WE W) t) := by
  subst eP ew eK em eb
  exact pe_co M hr hg tk ha hdb he hpl
theorem pe_soTr (M : SO P w K mg base C (PySem.dunder op.info.2) k ps sp) (hr : Room k X.A) (tk : Takes X W) (h1 : PE X a ta) (h2 : PE X b tb)
    (eP : X.prog = P := by rfl) (ew : X.w = w := by rfl) (eK : X.K = K := by rfl) (em : X.mg = mg := by rfl) (eb : X.base = base := by rfl) : PE X (.BinOp a op b pos) (tOwnCC (He.ga K C) sp (WE W) ta tb) := by
  subst eP ew eK em eb
  exact pe_so M hr tk h1 h2
theorem call_soLenT (M : SO P w K mg base C "__len__" k ps sp) (hr : Room (k + 1) X.A)
    (eP : X.prog = P := by rfl) (ew : X.w = w := by rfl) (eK : X.K = K := by rfl) (em : X.mg = mg := by rfl) (eb : X.base = base := by rfl) : CallR X (.builtin "len") (rOwnLen (He.ga K C) sp) := by
  subst eP ew eK em eb
  exact call_soLen M hr
theorem op_eqDT {K : PySem.W.Frag} (hu : X.A.units + 64 < cLine) (eK : X.K = K := by rfl) : OpR X (compareOp .Eq) (rEqD K) := by
  subst eK
  exact op_eqD hu
theorem op_neDT {K : PySem.W.Frag} (hu : X.A.units + 64 < cLine) (eK : X.K = K := by rfl) : OpR X (compareOp .NotEq) (rNeD K) := by
  subst eK
  exact op_neD hu
end
section
variable {K : PySem.W.Frag} {E : L2.St → XK} {m : Bool} {te : TE} {tas tr : TA} {S S' S1 S2 : List SD} {χ : XO}
theorem j_tupX (h : JA K E m tas S S' (fun _ _ _ => False) χ) : J K E m (tTup tas) S S' (fun _ _ _ => False) χ := fun σ G H s Q k e => h σ G H s _ (fun _ _ _ _ _ _ z => z.elim) e
theorem ja_consB {φ : V → Hp → Hp → Prop} (h : J K E false te S S φ nox) (hr : JA K E false tr S S2 (fun _ _ _ => False) χ) : JA K E m (tCons te tr) S S2 (fun _ _ _ => False) χ := fun σ G H s Q k e =>
  h σ G H s _ (fun v G1 H1 st1 s1 o1 d1 => hr σ G1 H1 s1 _ (fun _ _ _ _ _ _ z => z.elim) fun C d G' H' z => e C d G' H' (z.later st1.no_of)) fun _ _ _ _ z => z.ex.elim fun _ ⟨_, _, q, _⟩ => q.elim
end
section
def tTry (K : PySem.W.Frag) (i : Nat) (Wout : WX) (l : List (Value × HT)) (tb : WX → TS) : TS := fun D σ H => tb (wManyAs K i Wout D l) D σ H
theorem ps_tryN {X : Cx} {n : Str} {i : Nat} {Wout : WX} {body : List Stmt} {h₀ : ExceptHandler} {hds : List ExceptHandler} {l : List (Value × HT)} {tb : WX → TS} {pos : Pos} (hs : X.stack = X.env :: X.outer) (hf : X.env.frame = some X.env.locals) (hN : X.N.Nodup) (hi : X.N[i]? = some n) (hln : X.env.kindOf n = some .local) (tk : Takes X Wout)
    (hb : ∀ (W : WX) (pn : List (Addr × Obj)) (xe : Value → Shared → Prop), Takes (X.tr pn xe) W → PassesOwn (model X.prog X.w) X.A X.env xe → PSs (X.tr pn xe) body (tb W))
    (hh : HdsAs X n (h₀ :: hds) l) : PS X (.Try body (h₀ :: hds) [] [] pos) (tTry X.K i Wout l tb) := ps_try_manyAs hs hf hN hi hln tk hb hh
variable {K : PySem.W.Frag} {E : L2.St → XK} {S : List SD} {P : Post}
theorem st_tryN {i : Nat} {tb : WX → TS} {l : List (Value × HT)} {Pb : Post} {Wout : WX} (hi : ∀ S', Pb.nx S' → P.nx S') (hr : ∀ v G H S', Pb.rt v G H S' → P.rt v G H S') (hbk : ∀ S', Pb.bk S' → P.bk S') (hct : ∀ S', Pb.ct S' → P.ct S')
    (body : ∀ W : WX, ST K (WE W) (tb W) S Pb)
    (hd : ∀ C f x S', Pb.xc C f x S' → (∀ a xs, S'[i]? ≠ some (.l a xs)) ∧ ∃ ts, HM K C l ts ∧ ∀ a d, ST K E (ts a (.ref (He.ga K C)) (some d)) (S'.set i (.p (exP K a d f x))) { P with nx := fun S2 => (∀ a xs, S2[i]? ≠ some (.l a xs)) ∧ P.nx (S2.set i .un), bk := fun _ => False, ct := fun _ => False }) :
    ST K E (tTry K i Wout l tb) S P := st_try hi hr hbk hct body hd
end
end DL
-- A18
namespace DL
open PySem PySem.Spec PyProof.Rows L2
section
variable {P : Program} {w : World} {K : PySem.W.Frag} {mg : Str → Option Value} {base : Heap}
inductive Ref (n : Nat) (ms : List Mk3) : Nat → D → Str → Exn → Prop where
  | place (v : D) : pl v = true → btw v 0 (n - 1) = false → Ref n ms 0 v "place" (ePlace v)
  | grades (v x : D) : pl v = true → gradesOf v n = .error (eGrades x) → Ref n ms 1 v "grades" (eGrades x)
  | size (n2 : Nat) (ms2 : List Mk3) : RunOk n2 ms2 → n2 ≠ n → Ref n ms 2 (dR n2 ms2) "size" ⟨"OtherSize", "size", .int (n2 : Nat)⟩
  | number (v : D) : pl v = true → btw v 2 6 = false → Ref n ms 3 v "number" (eNum (.str "size"))
theorem Ref.lt {n : Nat} {ms : List Mk3} {k : Nat} {v : D} {t : Str} {e : Exn} (h : Ref n ms k v t e) : k < 4 := by cases h <;> decide
def R_refused (ds : List D) (r : Res) : Prop := ∃ n ms k v t e, RunOk n ms ∧ Ref n ms k v t e ∧ ds = [dR n ms, .int (k : Nat), v] ∧ r = .ok (.tuple [.str t, e.x, .bool true])
theorem len_R_refused : ∀ ds r, R_refused ds r → ds.length = 3 := fun ds r ⟨_, _, _, _, _, _, _, _, h, _⟩ => by rw [h]; rfl
theorem HM4 {K : PySem.W.Frag} {mg : Str → Option Value} (T : GlX mg K) {t0 t1 t2 t3 : HT} {C : Str} {ts : HT}
    (h : (C = "BadPlace" ∧ ts = t0) ∨ (C = "BadGrades" ∧ ts = t1) ∨ (C = "OtherSize" ∧ ts = t2) ∨ (C = "BadNumber" ∧ ts = t3)) :
    HM K C [(.ref (He.ga K "BadPlace"), t0), (.ref (He.ga K "BadGrades"), t1), (.ref (He.ga K "OtherSize"), t2), (.ref (He.ga K "BadNumber"), t3)] ts := by
  rcases h with ⟨rfl, rfl⟩ | ⟨rfl, rfl⟩ | ⟨rfl, rfl⟩ | ⟨rfl, rfl⟩
  · exact .here (T.exm _ (by decide) _ (by decide))
  · exact .there (T.exm _ (by decide) _ (by decide)) (.here (T.exm _ (by decide) _ (by decide)))
  · exact .there (T.exm _ (by decide) _ (by decide)) (.there (T.exm _ (by decide) _ (by decide)) (.here (T.exm _ (by decide) _ (by decide))))
  · exact .there (T.exm _ (by decide) _ (by decide)) (.there (T.exm _ (by decide) _ (by decide)) (.there (T.exm _ (by decide) _ (by decide)) (.here (T.exm _ (by decide) _ (by decide)))))
abbrev s__law_refused : Stmt := top 43
theorem sc__law_refused : FnScope ["_law_run", "_law_door", "_law_value", "_law_told", "error"] ["_law_run", "_law_door", "_law_value"] (defScope s__law_refused) := ⟨rfl, rfl, rfl, by decide +kernel, rfl, by decide +kernel, by decide +kernel⟩
theorem ok__law_refused (T : GlX mg K) (hF : ∃ fd, L2.Fun K "_law_refused" "_law_refused" s__law_refused (He.ga K "_law_refused") fd) (hG : mg "_law_refused" = some (.ref (He.ga K "_law_refused"))) (S_len : SO P w K mg base "Run" "__len__" 1 ["self"] (spD K R_len)) (M_sources : MO P w K mg base "Run" "sources" 4 ["self", "place"] (spD K R_sources)) (M_ends : MO P w K mg base "Run" "ends" 4 ["self", "grades"] (spD K R_ends)) (S_Add : SO P w K mg base "Run" "__add__" 7 ["self", "other"] (spD K R_add)) (C_Run : CO P w K mg base "Run" 5 ["self", "size", "marks"] (spM K R_Run)) : FO P w K mg base "_law_refused" 8 ["_law_run", "_law_door", "_law_value"] (spD K R_refused) := by
  obtain ⟨fd, F⟩ := hF
  have n_len := T.n_len
  have e_BadNumber := T.e_BadNumber
  have n_isinstance := T.n_isinstance
  have g_OtherSize := T.g_OtherSize
  have g_RatesError := T.g_RatesError
  have x_BadNumber := T.x_BadNumber
  have f_BadNumber := T.f_BadNumber
  have g_BadNumber := T.g_BadNumber
  have e_OtherSize := T.e_OtherSize
  have x_OtherSize := T.x_OtherSize
  have f_OtherSize := T.f_OtherSize
  have e_BadGrades := T.e_BadGrades
  have g_BadPlace := T.g_BadPlace
  have x_BadGrades := T.x_BadGrades
  have f_BadGrades := T.f_BadGrades
  have g_BadGrades := T.g_BadGrades
  have e_BadPlace := T.e_BadPlace
  have x_BadPlace := T.x_BadPlace
  have f_BadPlace := T.f_BadPlace
  refine fo_make F hG (fun _ _ _ _ _ _ us hl => match us, hl with | [_, _, _], _ => rfl) sc__law_refused len_R_refused fun cdv A outer s H E0 hr tk => ⟨_, (pss_cons (ps_set (i := 3) sc__law_refused.nd rfl (Or.inl rfl) (pe_tup (pa_cons pe_str (pa_cons pe_int (pa_cons pe_bl pa_nil))))) (pss_cons (ps_tryN (i := 4) rfl rfl sc__law_refused.nd rfl rfl tk (fun W pn xe tkW pso => (pss_one (ps_if (pt_cmpR (op_eqDT (K := K) hr.units) (pv 1) pe_int (nomark _)) (pss_one (ps_expr (pe_moT (pv 0) M_sources (hr.mono (by decide)) tkW (pa_cons (pv 2) pa_nil)))) (pss_one (ps_if (pt_cmpR (op_eqDT (K := K) hr.units) (pv 1) pe_int (nomark _)) (pss_one (ps_expr (pe_moT (pv 0) M_ends (hr.mono (by decide)) tkW (pa_cons (pv 2) pa_nil)))) (pss_one (ps_if (pt_cmpR (op_eqDT (K := K) hr.units) (pv 1) pe_int (nomark _)) (pss_one (ps_set (i := 3) sc__law_refused.nd rfl (Or.inl rfl) (pe_tup (pa_cons pe_str (pa_cons (pe_callB (call_soLenT S_len (hr.mono (by decide))) (by rfl) n_len (by decide +kernel) (pa_cons (pe_soTr S_Add (hr.mono (by decide)) tkW (pv 0) (pv 2)) pa_nil)) (pa_cons pe_bl pa_nil)))))) (pss_one (ps_set (i := 3) sc__law_refused.nd rfl (Or.inl rfl) (pe_tup (pa_cons pe_str (pa_cons (pe_callB (call_soLenT S_len (hr.mono (by decide))) (by rfl) n_len (by decide +kernel) (pa_cons (pe_coT C_Run (hr.mono (by decide)) (by rfl) tkW (pa_cons (pv 2) (pa_cons (pe_lst pa_nil) pa_nil))) pa_nil)) (pa_cons pe_bl pa_nil))))))))))))) (HdsAs.cons ⟨by rfl, by decide, .inl g_BadPlace⟩ (fun a oe cls d pn hz hfl => (pss_one (ps_set (i := 3) sc__law_refused.nd rfl (Or.inl rfl) (pe_tup (pa_cons pe_str (pa_cons (pe_xf x_BadPlace f_BadPlace hz hfl (pv 4)) (pa_cons (pe_and (pe_callB (call_isX e_BadPlace hz hfl) (by rfl) n_isinstance (by decide +kernel) (pa_cons (pv 4) (pa_cons (pe_glob (v := .ref (He.ga K "RatesError")) (by rfl) g_RatesError rfl) pa_nil))) (pe_one (pe_not (pe_callB (call_isX e_BadPlace hz hfl) (by rfl) n_isinstance (by decide +kernel) (pa_cons (pv 4) (pa_cons (pe_glob (v := .ref (He.ga K "BadGrades")) (by rfl) g_BadGrades rfl) pa_nil)))))) pa_nil))))))) (HdsAs.cons ⟨by rfl, by decide, .inl g_BadGrades⟩ (fun a oe cls d pn hz hfl => (pss_one (ps_set (i := 3) sc__law_refused.nd rfl (Or.inl rfl) (pe_tup (pa_cons pe_str (pa_cons (pe_xf x_BadGrades f_BadGrades hz hfl (pv 4)) (pa_cons (pe_and (pe_callB (call_isX e_BadGrades hz hfl) (by rfl) n_isinstance (by decide +kernel) (pa_cons (pv 4) (pa_cons (pe_glob (v := .ref (He.ga K "RatesError")) (by rfl) g_RatesError rfl) pa_nil))) (pe_one (pe_not (pe_callB (call_isX e_BadGrades hz hfl) (by rfl) n_isinstance (by decide +kernel) (pa_cons (pv 4) (pa_cons (pe_glob (v := .ref (He.ga K "BadPlace")) (by rfl) g_BadPlace rfl) pa_nil)))))) pa_nil))))))) (HdsAs.cons ⟨by rfl, by decide, .inl g_OtherSize⟩ (fun a oe cls d pn hz hfl => (pss_one (ps_set (i := 3) sc__law_refused.nd rfl (Or.inl rfl) (pe_tup (pa_cons pe_str (pa_cons (pe_xf x_OtherSize f_OtherSize hz hfl (pv 4)) (pa_cons (pe_and (pe_callB (call_isX e_OtherSize hz hfl) (by rfl) n_isinstance (by decide +kernel) (pa_cons (pv 4) (pa_cons (pe_glob (v := .ref (He.ga K "RatesError")) (by rfl) g_RatesError rfl) pa_nil))) (pe_one (pe_not (pe_callB (call_isX e_OtherSize hz hfl) (by rfl) n_isinstance (by decide +kernel) (pa_cons (pv 4) (pa_cons (pe_glob (v := .ref (He.ga K "BadNumber")) (by rfl) g_BadNumber rfl) pa_nil)))))) pa_nil))))))) (HdsAs.cons ⟨by rfl, by decide, .inl g_BadNumber⟩ (fun a oe cls d pn hz hfl => (pss_one (ps_set (i := 3) sc__law_refused.nd rfl (Or.inl rfl) (pe_tup (pa_cons pe_str (pa_cons (pe_xf x_BadNumber f_BadNumber hz hfl (pv 4)) (pa_cons (pe_and (pe_callB (call_isX e_BadNumber hz hfl) (by rfl) n_isinstance (by decide +kernel) (pa_cons (pv 4) (pa_cons (pe_glob (v := .ref (He.ga K "RatesError")) (by rfl) g_RatesError rfl) pa_nil))) (pe_one (pe_not (pe_callB (call_isX e_BadNumber hz hfl) (by rfl) n_isinstance (by decide +kernel) (pa_cons (pv 4) (pa_cons (pe_glob (v := .ref (He.ga K "OtherSize")) (by rfl) g_OtherSize rfl) pa_nil)))))) pa_nil))))))) HdsAs.nil))))) (pss_one (ps_ret (pv 3))))), ?_⟩
  intro ds r ⟨n, ms, k, v, t, e, hok, hr0, e1, e2⟩
  subst e1 e2
  refine s_set [.d (dR n ms), .d (.int (k : Nat)), .d v, .d (.tuple [.str "told", .int 0, .bool true]), .un] (j_tup (ja_cons j_str (ja_cons j_int (ja_cons j_bl ja_nil))) (by rw [sizeLine_eq]; decide)) rfl ?_
  refine st_seq1 [.d (dR n ms), .d (.int (k : Nat)), .d v, .d (.tuple [.str t, e.x, .bool true]), .un]
    (st_tryN (i := 4) (Pb := ⟨fun _ => False, fun _ _ _ _ => False, fun C f x S2 => e = ⟨C, f, x⟩ ∧ S2 = [.d (dR n ms), .d (.int (k : Nat)), .d v, .d (.tuple [.str "told", .int 0, .bool true]), .un], fun _ => False, fun _ => False⟩)
      (fun _ z => z.elim) (fun _ _ _ _ z => z.elim) (fun _ z => z.elim) (fun _ z => z.elim) (fun W => ?_) (fun C f x S2 hx => ?_))
    (s_retP (j_var rfl) rfl)
  · refine s_if (b := decide (k = 0)) (jt_is (jt_B (j_op (j_var rfl) j_int.td (opv_eqD (by rfl) (by rfl))).td) (by rw [eqv_int]; exact decide_eq_decide.mpr (by omega))) (fun c => ?_) (fun c => ?_)
    · cases hr0 with
      | place v hv hb => exact st_dropX (m := false) (j_methX (j_var rfl) (ja_cons (j_var rfl) ja_nil) (by decide) ⟨n, ms, v, hok, hv, rfl, .inl ⟨hb, rfl⟩⟩) (fun C f x h => ⟨h, rfl⟩)
      | _ => simp at c
    refine s_if (b := decide (k = 1)) (jt_is (jt_B (j_op (j_var rfl) j_int.td (opv_eqD (by rfl) (by rfl))).td) (by rw [eqv_int]; exact decide_eq_decide.mpr (by omega))) (fun c => ?_) (fun c => ?_)
    · cases hr0 with
      | grades v x hv hb => exact st_dropX (m := false) (j_methX (j_var rfl) (ja_cons (j_var rfl) ja_nil) (by decide) ⟨n, ms, v, hok, hv, rfl, .inl ⟨_, hb, rfl⟩⟩) (fun C f x h => ⟨h, rfl⟩)
      | _ => simp at c
    refine s_if (b := decide (k = 2)) (jt_is (jt_B (j_op (j_var rfl) j_int.td (opv_eqD (by rfl) (by rfl))).td) (by rw [eqv_int]; exact decide_eq_decide.mpr (by omega))) (fun c => ?_) (fun c => ?_)
    · cases hr0 with
      | size n2 ms2 hok2 hne => exact st_asgX (m := false) (j_tupX (ja_consB j_str (ja_consX (j_cbX (ja_consX (j_ownCCX (j_var rfl) (j_var rfl) ⟨n, ms, n2, ms2, hok, hok2, rfl, .inl ⟨hne, rfl⟩⟩)))))) (fun C f x h => ⟨h, rfl⟩)
      | _ => simp at c
    cases hr0 with
    | number v hv hb => exact st_asgX (m := false) (j_tupX (ja_consB j_str (ja_consX (j_cbX (ja_consX (j_makeX (ja_cons (j_var rfl) (ja_cons (jl_lst ja_nil (by show 0 ≤ _; omega)).dd ja_nil)) fun dx => ⟨.ins "Run" dx [] [], dx, v, .list [], rfl, hv, rfl, (by intro xs h; cases h; show 0 < sizeLine; rw [sizeLine_eq]; decide), rfl, .inl ⟨hb, rfl⟩⟩)))))) (fun C f x h => ⟨h, rfl⟩)
    | _ => simp at *
  · obtain ⟨he, rfl⟩ := hx
    have fin : ∀ (a d : Addr) (C2 : Str), C ∈ errs4 → C2 ∈ errs4 → (C == C2) = false → ∀ (tt : Str), ST K (fun _ => E0)
        (tAsg (tTup (tCons (tC (.str tt)) (tCons (tXf a (.ref (He.ga K C)) (some d) (He.ga K C) f (tVar 4)) (tCons (tAndV
          (tCB (fun xs H_2 Q => ∃ dd, Value.ref (He.ga K C) = .ref (He.ga K C) ∧ some d = some dd ∧ rIsX K (He.ga K C) a dd xs H_2 Q) (tCons (tVar 4) (tCons (tC (V.ref (He.ga K "RatesError"))) tNil)))
          (tNotV (tCB (fun xs H_2 Q => ∃ dd, Value.ref (He.ga K C) = .ref (He.ga K C) ∧ some d = some dd ∧ rIsX K (He.ga K C) a dd xs H_2 Q) (tCons (tVar 4) (tCons (tC (V.ref (He.ga K C2))) tNil))))) tNil)))) (gName 3))
        [.d (dR n ms), .d (.int (k : Nat)), .d v, .d (.tuple [.str "told", .int 0, .bool true]), .p (exP K a d f x)]
        ⟨fun S2 => (∀ a xs, S2[4]? ≠ some (.l a xs)) ∧ S2.set 4 .un = [.d (dR n ms), .d (.int (k : Nat)), .d v, .d (.tuple [.str tt, x, .bool true]), .un], fun _ _ _ _ => False, fun _ _ _ _ => False, fun _ => False, fun _ => False⟩ := by
      intro a d C2 h1 h2 h3 tt
      refine st_set (m := false) (x := .tuple [.str tt, x, .bool true]) (j_tup (ja_cons j_str (ja_cons (j_xf rfl) (ja_cons (j_andT (j_isX rfl (.own _) (T.kitR _ h1)).td (j_is (j_not (j_isX rfl (.own _) (T.kitN _ h1 _ h2)).td) (by rw [h3]; rfl))) ja_nil))) (by show 3 ≤ _; rw [sizeLine_eq]; decide)) ⟨(fun a xs h => nomatch h), rfl⟩ xin_no
    have imp : ∀ {t' : TS} {S9 : List SD} {N : List SD → Prop}, ST K (fun _ => E0) t' S9 ⟨N, fun _ _ _ _ => False, fun _ _ _ _ => False, fun _ => False, fun _ => False⟩ → ∀ {P9 : Post}, ST K (fun _ => E0) t' S9 { P9 with nx := N, bk := fun _ => False, ct := fun _ => False } := fun h => h.imp (fun _ z => z) (fun _ _ _ _ z => z.elim) (fun _ _ _ _ z => z.elim) (fun _ z => z.elim) (fun _ z => z.elim)
    cases hr0 with
    | place v hv hb =>
      cases he
      exact ⟨(fun a xs h => nomatch h), _, HM4 T (.inl ⟨rfl, rfl⟩), fun a d => imp (fin a d "BadGrades" (by decide) (by decide) (by decide) "place")⟩
    | grades v x hv hb =>
      cases he
      exact ⟨(fun a xs h => nomatch h), _, HM4 T (.inr (.inl ⟨rfl, rfl⟩)), fun a d => imp (fin a d "BadPlace" (by decide) (by decide) (by decide) "grades")⟩
    | size n2 ms2 hok2 hne =>
      cases he
      exact ⟨(fun a xs h => nomatch h), _, HM4 T (.inr (.inr (.inl ⟨rfl, rfl⟩))), fun a d => imp (fin a d "BadNumber" (by decide) (by decide) (by decide) "size")⟩
    | number v hv hb =>
      cases he
      exact ⟨(fun a xs h => nomatch h), _, HM4 T (.inr (.inr (.inr ⟨rfl, rfl⟩))), fun a d => imp (fin a d "OtherSize" (by decide) (by decide) (by decide) "number")⟩
end
end DL
-- A19
namespace DL
open PySem PySem.Spec PyProof.Rows L2
section
variable {P : Program} {w : World} {K : PySem.W.Frag} {mg : Str → Option Value} {base : Heap}
abbrev w7 : Str := "7"
abbrev w01 : Str := "01"
abbrev bads (n : Nat) : List D := [.int (-1), .int (n : Nat), .bool true, .none, .tuple [.int 0]]
abbrev torns : List D := [.bool true, .none, .str w7, .tuple [.int 1]]
abbrev wrongs (gs : List Int) : List D := [.list [], .list (iL gs ++ [.int 0]), .none, .str w01]
abbrev sizes4 : List D := [.int 1, .int 7, .bool true, .none, .int (-2)]
theorem bads_at {n k : Nat} (h : k < 5) : ∃ v, (bads n)[k]? = some v ∧ pl v = true ∧ btw v 0 (n - 1) = false ∧ Sh 1 v ∧ PyData.eqv v v = true := by
  match k, h with
  | 0, _ => exact ⟨_, rfl, rfl, rfl, sh_int, by simp [PyData.eqv]⟩
  | 1, _ => exact ⟨_, rfl, rfl, by simp [btw]; omega, sh_int, by simp [PyData.eqv]⟩
  | 2, _ => exact ⟨_, rfl, rfl, rfl, sh_bool, by simp [PyData.eqv]⟩
  | 3, _ => exact ⟨_, rfl, rfl, rfl, sh_none, by simp [PyData.eqv]⟩
  | 4, _ => exact ⟨_, rfl, rfl, rfl, sh_tup fun x hx => by rw [List.mem_singleton.mp hx]; exact sh_int, by simp [PyData.eqv, PyData.eqvAll]⟩
theorem torns_at {k : Nat} (h : k < 4) : ∃ v, torns[k]? = some v ∧ pl v = true ∧ isW v = false := by
  match k, h with
  | 0, _ => exact ⟨_, rfl, rfl, rfl⟩
  | 1, _ => exact ⟨_, rfl, rfl, rfl⟩
  | 2, _ => exact ⟨_, rfl, rfl, rfl⟩
  | 3, _ => exact ⟨_, rfl, rfl, rfl⟩
theorem sizes_at {k : Nat} (h : k < 5) : ∃ v, sizes4[k]? = some v ∧ pl v = true ∧ btw v 2 6 = false := by
  match k, h with
  | 0, _ => exact ⟨_, rfl, rfl, rfl⟩
  | 1, _ => exact ⟨_, rfl, rfl, rfl⟩
  | 2, _ => exact ⟨_, rfl, rfl, rfl⟩
  | 3, _ => exact ⟨_, rfl, rfl, rfl⟩
  | 4, _ => exact ⟨_, rfl, rfl, rfl⟩
theorem plAll_of : ∀ {xs : List D}, (∀ x ∈ xs, pl x = true) → plAll xs = true
  | [], _ => rfl
  | x :: xs, h => by rw [plAll, h x (.head _), plAll_of fun y hy => h y (.tail _ hy)]; rfl
theorem wrongs_at {gs : List Int} {n k : Nat} (h : k < 4) (hl : gs.length = n) (h2 : 2 ≤ n) : ∃ v, (wrongs gs)[k]? = some v ∧ pl v = true ∧ gradesOf v n = .error (eGrades (.int (-1))) := by
  match k, h with
  | 0, _ => exact ⟨_, rfl, rfl, by simp [gradesOf, itm]; omega⟩
  | 1, _ => exact ⟨_, rfl, by
      show plAll _ = true
      refine plAll_of fun x hx => ?_
      rcases List.mem_append.mp hx with hx | hx
      · exact plAll_mem (pl_ints gs) hx
      · rw [List.mem_singleton.mp hx]; rfl, by
      show (if ((iL gs ++ [PyData.int 0]).length : Int) ≠ n then _ else _) = _
      rw [if_pos (by simp; omega)]⟩
  | 2, _ => exact ⟨_, rfl, rfl, rfl⟩
  | 3, _ => exact ⟨_, rfl, rfl, rfl⟩
theorem torn_err {gs : List Int} {n k : Nat} {v : D} (hl : gs.length = n) (hk : k < n) (hv : isW v = false) : gradesOf (.list ((iL gs).set k v)) n = .error (eGrades (.int (k : Nat))) := by
  show (if (((iL gs).set k v).length : Int) ≠ n then _ else _) = _
  rw [if_neg (by simp [hl])]
  have e : ((iL gs).set k v).findIdx? (fun x => !isW x) = some k := by
    rw [List.findIdx?_eq_some_iff_getElem]
    refine ⟨by simp [hl, hk], by simp [hv], fun j hj => ?_⟩
    rw [List.getElem_set_ne (by omega)]
    simp [isW]
  rw [e]
theorem torn_pl {gs : List Int} {k : Nat} {v : D} (hv : pl v = true) : pl (.list ((iL gs).set k v)) = true := by
  show plAll _ = true
  refine plAll_of fun x hx => ?_
  rcases List.mem_or_eq_of_mem_set hx with hx | rfl
  · exact plAll_mem (pl_ints gs) hx
  · exact hv
theorem third_at {n : Nat} (h2 : 2 ≤ n) (h6 : n ≤ 6) : ∃ t : Nat, ((n : Int) - 1) % 5 + 2 = (t : Nat) ∧ 2 ≤ t ∧ t ≤ 6 ∧ t ≠ n := by
  refine ⟨(n - 1) % 5 + 2, by omega, by omega, by omega, by omega⟩
theorem run_nil {t : Nat} (h2 : 2 ≤ t) (h6 : t ≤ 6) : RunOk t [] := ⟨⟨h2, h6⟩, (fun _ h => nomatch h), by decide⟩
theorem sh_three {n : Nat} {t : Str} {x : D} (ht : PyData.strOk t = true) (hx : Sh n x) : Sh (n + 1) (.tuple [.str t, x, .bool true]) := sh_tup fun y hy => by
  rcases List.mem_cons.mp hy with rfl | hy
  · exact sh_str ht
  rcases List.mem_cons.mp hy with rfl | hy
  · exact hx
  rcases List.mem_cons.mp hy with rfl | hy
  · exact sh_bool
  exact nomatch hy
theorem eqv_three {t : Str} {x : D} (hx : PyData.eqv x x = true) : (!PyData.eqv (.tuple [.str t, x, .bool true]) (.tuple [.str t, x, .bool true])) = false := by
  simp [PyData.eqv, PyData.eqvAll, hx]
abbrev drop5 (ns : List Int) : List Int := drop1 (drop1 (drop1 (drop1 (drop1 ns))))
def R_doors (c : Ct) (ds : List D) (r : Res) (c' : Ct) : Prop := ∃ (ns : List Int) (n : Nat) (ms : List Mk3) (gs : List Int), RunOk n ms ∧ gs.length = n ∧ c = pool ns ∧ ds = [dR n ms, .int (n : Nat), .list (iL gs)] ∧ r = .ok (.bool true) ∧ c' = pool (drop5 ns)
theorem len_R_doors : ∀ c ds r c', R_doors c ds r c' → ds.length + 1 = 4 := fun c ds r c' ⟨_, _, _, _, _, _, _, h, _⟩ => by rw [h]; rfl
abbrev s__law_doors : Stmt := top 44
theorem sc__law_doors : FnScope ["_law_pool_here", "_law_run", "_law_size", "_law_grades", "_law_bad", "_law_at", "_law_torn", "_law_wrong", "_law_third"] ["_law_pool_here", "_law_run", "_law_size", "_law_grades"] (defScope s__law_doors) := ⟨rfl, rfl, rfl, by decide +kernel, rfl, by decide +kernel, by decide +kernel⟩
theorem ok__law_doors (T : GlX mg K) (hF : ∃ fd, L2.Fun K "_law_doors" "_law_doors" s__law_doors (He.ga K "_law_doors") fd) (hG : mg "_law_doors" = some (.ref (He.ga K "_law_doors"))) (F__law_refused : FO P w K mg base "_law_refused" 8 ["_law_run", "_law_door", "_law_value"] (spD K R_refused)) (F__law_pick : FO P w K mg base "_law_pick" 1 ["_law_pool_here", "_law_many"] (spM K R_pick)) (C_Run : CO P w K mg base "Run" 5 ["self", "size", "marks"] (spM K R_Run)) : FO P w K mg base "_law_doors" 9 ["_law_pool_here", "_law_run", "_law_size", "_law_grades"] (spM K R_doors) := by
  obtain ⟨fd, F⟩ := hF
  have n_int := T.n_int
  have n_list := T.n_list
  refine fo_makeM F hG (fun _ _ _ _ _ _ us hl => match us, hl with | [_, _, _, _], _ => rfl) sc__law_doors len_R_doors fun cdv A outer s H E0 hr tk => ⟨_, (pss_cons (ps_set (i := 4) sc__law_doors.nd rfl (Or.inl rfl) (pe_ix ix_list (pe_lst (pa_cons (pe_un un_neg pe_int) (pa_cons (pv 2) (pa_cons pe_bl (pa_cons pe_non (pa_cons (pe_tup (pa_cons pe_int pa_nil)) pa_nil)))))) (pe_fo F__law_pick (hr.mono (by decide)) (by rfl) tk (pa_cons (pv 0) (pa_cons pe_int pa_nil))) (fun _ _ => rfl))) (pss_cons (ps_set (i := 5) sc__law_doors.nd rfl (Or.inl rfl) (pe_fo F__law_pick (hr.mono (by decide)) (by rfl) tk (pa_cons (pv 0) (pa_cons (pv 2) pa_nil)))) (pss_cons (ps_set (i := 6) sc__law_doors.nd rfl (Or.inl rfl) (pe_callTy call_list_of (by rfl) n_list (by decide +kernel) (pa_cons (pv 3) pa_nil))) (pss_cons (ps_asg (pe_ix ix_list (pe_lst (pa_cons pe_bl (pa_cons pe_non (pa_cons pe_str (pa_cons (pe_tup (pa_cons pe_int pa_nil)) pa_nil))))) (pe_fo F__law_pick (hr.mono (by decide)) (by rfl) tk (pa_cons (pv 0) (pa_cons pe_int pa_nil))) (fun _ _ => rfl)) (pg_sub (pv 6) (pv 5) set_list)) (pss_cons (ps_set (i := 7) sc__law_doors.nd rfl (Or.inl rfl) (pe_ix ix_list (pe_lst (pa_cons (pe_lst pa_nil) (pa_cons (pe_op op_cat (pv 3) (pe_lst (pa_cons pe_int pa_nil))) (pa_cons pe_non (pa_cons pe_str pa_nil))))) (pe_fo F__law_pick (hr.mono (by decide)) (by rfl) tk (pa_cons (pv 0) (pa_cons pe_int pa_nil))) (fun _ _ => rfl))) (pss_cons (ps_set (i := 8) sc__law_doors.nd rfl (Or.inl rfl) (pe_op op_add (pe_op op_mod (pe_callTy call_int1 (by rfl) n_int (by decide +kernel) (pa_cons (pe_op op_sub (pv 2) pe_int) pa_nil)) pe_int) pe_int)) (pss_cons (ps_if (PW.pt (pw_or (pt_cmpR (op_neD hr.units) (pe_fo F__law_refused (hr.mono (by decide)) (by rfl) tk (pa_cons (pv 1) (pa_cons pe_int (pa_cons (pv 4) pa_nil)))) (pe_tup (pa_cons pe_str (pa_cons (pv 4) (pa_cons pe_bl pa_nil)))) (nomark _)) (pw_or1 (pt_cmpR (op_neD hr.units) (pe_fo F__law_refused (hr.mono (by decide)) (by rfl) tk (pa_cons (pv 1) (pa_cons pe_int (pa_cons (pv 6) pa_nil)))) (pe_tup (pa_cons pe_str (pa_cons (pv 5) (pa_cons pe_bl pa_nil)))) (nomark _))))) (pss_one (ps_ret pe_bl)) pss_nil) (pss_cons (ps_if (pt_cmpR (op_neD hr.units) (pe_fo F__law_refused (hr.mono (by decide)) (by rfl) tk (pa_cons (pv 1) (pa_cons pe_int (pa_cons (pv 7) pa_nil)))) (pe_tup (pa_cons pe_str (pa_cons (pe_un un_neg pe_int) (pa_cons pe_bl pa_nil)))) (nomark _)) (pss_one (ps_ret pe_bl)) pss_nil) (pss_cons (ps_if (pt_cmpR (op_neD hr.units) (pe_fo F__law_refused (hr.mono (by decide)) (by rfl) tk (pa_cons (pv 1) (pa_cons pe_int (pa_cons (pe_co C_Run (hr.mono (by decide)) (by rfl) tk (pa_cons (pv 8) (pa_cons (pe_lst pa_nil) pa_nil))) pa_nil)))) (pe_tup (pa_cons pe_str (pa_cons (pv 8) (pa_cons pe_bl pa_nil)))) (nomark _)) (pss_one (ps_ret pe_bl)) pss_nil) (pss_one (ps_ret (pe_cmpR (op_eqD hr.units) (pe_fo F__law_refused (hr.mono (by decide)) (by rfl) tk (pa_cons (pv 1) (pa_cons pe_int (pa_cons (pe_ix ix_list (pe_lst (pa_cons pe_int (pa_cons pe_int (pa_cons pe_bl (pa_cons pe_non (pa_cons (pe_un un_neg pe_int) pa_nil)))))) (pe_fo F__law_pick (hr.mono (by decide)) (by rfl) tk (pa_cons (pv 0) (pa_cons pe_int pa_nil))) (fun _ _ => rfl)) pa_nil)))) (pe_tup (pa_cons pe_str (pa_cons pe_str (pa_cons pe_bl pa_nil)))) (nomark _))))))))))))), ?_⟩
  intro a c ds r c' ⟨ns, n, ms, gs, hok, hl, ec, e1, e2, e3⟩
  subst ec e1 e2 e3
  have h2 := hok.sz.1
  have h6 := hok.sz.2
  obtain ⟨bad, b1, b2, b3, b4, b5⟩ := bads_at (n := n) (pickV_lt (ns := ns) (m := 5) (by omega))
  have qk := pickV_lt (ns := drop1 ns) (m := n) (by omega)
  generalize hk : pickV (drop1 ns) n = k at qk
  obtain ⟨tv, t1, t2, t3⟩ := torns_at (pickV_lt (ns := drop1 (drop1 ns)) (m := 4) (by omega))
  obtain ⟨wv, w1, w2, w3⟩ := wrongs_at (gs := gs) (n := n) (pickV_lt (ns := drop1 (drop1 (drop1 ns))) (m := 4) (by omega)) hl h2
  obtain ⟨sv, s1, s2, s3⟩ := sizes_at (pickV_lt (ns := drop1 (drop1 (drop1 (drop1 ns)))) (m := 5) (by omega))
  obtain ⟨t, e3, t4, t5, t6⟩ := third_at h2 h6
  refine s_setm [.l a (pool (drop1 ns)), .d (dR n ms), .d (.int (n : Nat)), .d (.list (iL gs)), .d bad, .un, .un, .un, .un]
    (j_ixL (xs := bads n) (i := (pickV ns 5 : Nat)) (x := bad) (jl_lst (ja_cons (j_neg j_int.td) (ja_cons (j_var rfl) (ja_cons j_bl (ja_cons j_non (ja_cons (j_tup (ja_cons j_int ja_nil) (by rw [sizeLine_eq]; decide)) ja_nil))))) (by show 5 ≤ _; rw [sizeLine_eq]; decide)).dd
      (j_callM (i := 0) (a := a) (c := pool ns) (c' := pool (drop1 ns)) rfl (ja_cons j_int ja_nil) rfl ⟨ns, 5, by omega, rfl, rfl, rfl, rfl⟩).td (atI_nat b1)) rfl ?_
  refine s_setm [.l a (pool (drop1 (drop1 ns))), .d (dR n ms), .d (.int (n : Nat)), .d (.list (iL gs)), .d bad, .d (.int (k : Nat)), .un, .un, .un]
    (j_callM (i := 0) (a := a) (c := pool (drop1 ns)) (c' := pool (drop1 (drop1 ns))) rfl (ja_cons (j_var rfl) ja_nil) rfl ⟨drop1 ns, n, by omega, rfl, rfl, by rw [hk], rfl⟩) rfl ?_
  refine s_setL (jl_listS (b := false) (j_var rfl)) fun b => ?_
  refine st_seq1 [.l a (pool (drop1 (drop1 (drop1 ns)))), .d (dR n ms), .d (.int (n : Nat)), .d (.list (iL gs)), .d bad, .d (.int (k : Nat)), .l b (.lst ((iL gs).set k tv)), .un, .un]
    (st_item (m := true) (i := 6) (a := b) (xs := iL gs) (j := k) (k := (k : Nat)) (x := tv)
      (j_ixL (xs := torns) (i := (pickV (drop1 (drop1 ns)) 4 : Nat)) (x := tv) (jl_lst (ja_cons j_bl (ja_cons j_non (ja_cons j_str (ja_cons (j_tup (ja_cons j_int ja_nil) (by rw [sizeLine_eq]; decide)) ja_nil)))) (by show 4 ≤ _; rw [sizeLine_eq]; decide)).dd
        (j_callM (i := 0) (a := a) (c := pool (drop1 (drop1 ns))) (c' := pool (drop1 (drop1 (drop1 ns)))) rfl (ja_cons j_int ja_nil) rfl ⟨drop1 (drop1 ns), 4, by omega, rfl, rfl, rfl, rfl⟩).td (atI_nat t1)) rfl
      (j_var rfl).td (by rw [List.length_map, hl]; exact ixN_nat qk) rfl xin_no) ?_
  refine st_frz (i := 6) rfl ?_
  refine s_setm [.l a (pool (drop1 (drop1 (drop1 (drop1 ns))))), .d (dR n ms), .d (.int (n : Nat)), .d (.list (iL gs)), .d bad, .d (.int (k : Nat)), .d (.list ((iL gs).set k tv)), .d wv, .un]
    (j_ixL (xs := wrongs gs) (i := (pickV (drop1 (drop1 (drop1 ns))) 4 : Nat)) (x := wv) (jl_lst (ja_cons (jl_lst ja_nil (by show 0 ≤ _; omega)).dd (ja_cons (jl_cat (J.sdL (j_var rfl)) (JL.sdL (jl_lst (ja_cons j_int ja_nil) (by show 1 ≤ _; rw [sizeLine_eq]; decide))) (by rw [sizeLine_eq]; simp; omega)).dd (ja_cons j_non (ja_cons j_str ja_nil)))) (by show 4 ≤ _; rw [sizeLine_eq]; decide)).dd
      (j_callM (i := 0) (a := a) (c := pool (drop1 (drop1 (drop1 ns)))) (c' := pool (drop1 (drop1 (drop1 (drop1 ns))))) rfl (ja_cons j_int ja_nil) rfl ⟨drop1 (drop1 (drop1 ns)), 4, by omega, rfl, rfl, rfl, rfl⟩).td (atI_nat w1)) rfl ?_
  refine s_set [.l a (pool (drop1 (drop1 (drop1 (drop1 ns))))), .d (dR n ms), .d (.int (n : Nat)), .d (.list (iL gs)), .d bad, .d (.int (k : Nat)), .d (.list ((iL gs).set k tv)), .d wv, .d (.int (t : Nat))]
    (j_is (j_op (j_op (j_cb (ja_one (j_op (j_var rfl) j_int.td opv_i0).td) cb_int) j_int.td (opv_i (by omega))) j_int.td opv_i0) (congrArg PyData.int e3)) rfl ?_
  refine s_guard (b := false) (jt_orF (jt_is (jt_B (j_op (j_call (x := .tuple [.str "place", bad, .bool true]) (ja_cons (j_var rfl) (ja_cons j_int (ja_cons (j_var rfl) ja_nil))) ⟨n, ms, 0, bad, "place", _, hok, .place bad b2 b3, rfl, rfl⟩) (j_tup (ja_cons j_str (ja_cons (j_var rfl) (ja_cons j_bl ja_nil))) (by show 3 ≤ _; rw [sizeLine_eq]; decide)).td (opv_neD ((sh_three (by decide +kernel) b4).ok (by decide)) ((sh_three (by decide +kernel) b4).ok (by decide)))).td) (eqv_three b5))
    (jt_is (jt_B (j_op (j_call (x := .tuple [.str "grades", .int (k : Nat), .bool true]) (ja_cons (j_var rfl) (ja_cons j_int (ja_cons (j_var rfl) ja_nil))) ⟨n, ms, 1, _, "grades", _, hok, .grades _ _ (torn_pl t2) (torn_err hl qk t3), rfl, rfl⟩) (j_tup (ja_cons j_str (ja_cons (j_var rfl) (ja_cons j_bl ja_nil))) (by show 3 ≤ _; rw [sizeLine_eq]; decide)).td (opv_neD ((sh_three (n := 0) (by decide +kernel) sh_int).ok (by decide)) ((sh_three (n := 0) (by decide +kernel) sh_int).ok (by decide)))).td) (eqv_three (by simp [PyData.eqv])))) (fun h => nomatch h) (fun _ => ?_)
  refine s_guard (b := false) (jt_is (jt_B (j_op (j_call (x := .tuple [.str "grades", .int (-1), .bool true]) (ja_cons (j_var rfl) (ja_cons j_int (ja_cons (j_var rfl) ja_nil))) ⟨n, ms, 1, _, "grades", _, hok, .grades _ _ w2 w3, rfl, rfl⟩) (j_tup (ja_cons j_str (ja_cons (j_neg j_int.td) (ja_cons j_bl ja_nil))) (by show 3 ≤ _; rw [sizeLine_eq]; decide)).td (opv_neD (by decide +kernel) (by decide +kernel))).td) (eqv_three (by simp [PyData.eqv]))) (fun h => nomatch h) (fun _ => ?_)
  refine s_guard (b := false) (jt_is (jt_B (j_op (j_call (x := .tuple [.str "size", .int (t : Nat), .bool true]) (ja_cons (j_var rfl) (ja_cons j_int (ja_cons (j_make (ns := nsR) (xs := dsR t []) (ja_cons (j_var rfl) (ja_cons (jl_lst ja_nil (by show 0 ≤ _; omega)).dd ja_nil)) fun dx => ⟨dx, .int (t : Nat), .list [], rfl, rfl, rfl, (by intro xs h; cases h; show 0 < sizeLine; rw [sizeLine_eq]; decide), rfl, .inr (.inr ⟨t, [], rfl, rfl, run_nil t4 t5, rfl, rfl⟩)⟩) ja_nil))) ⟨n, ms, 2, _, "size", _, hok, .size t [] (run_nil t4 t5) t6, rfl, rfl⟩) (j_tup (ja_cons j_str (ja_cons (j_var rfl) (ja_cons j_bl ja_nil))) (by show 3 ≤ _; rw [sizeLine_eq]; decide)).td (opv_neD ((sh_three (n := 0) (by decide +kernel) sh_int).ok (by decide)) ((sh_three (n := 0) (by decide +kernel) sh_int).ok (by decide)))).td) (eqv_three (by simp [PyData.eqv]))) (fun h => nomatch h) (fun _ => ?_)
  refine s_retm (S' := [.l a (pool (drop5 ns)), .d (dR n ms), .d (.int (n : Nat)), .d (.list (iL gs)), .d bad, .d (.int (k : Nat)), .d (.list ((iL gs).set k tv)), .d wv, .d (.int (t : Nat))]) (x := .bool true)
    (j_is (j_op (j_call (x := .tuple [.str "number", .str "size", .bool true]) (ja_cons (j_var rfl) (ja_cons j_int (ja_cons (j_ixL (xs := sizes4) (i := (pickV (drop1 (drop1 (drop1 (drop1 ns)))) 5 : Nat)) (x := sv) (jl_lst (ja_cons j_int (ja_cons j_int (ja_cons j_bl (ja_cons j_non (ja_cons (j_neg j_int.td) ja_nil))))) (by show 5 ≤ _; rw [sizeLine_eq]; decide)).dd
      (j_callM (i := 0) (a := a) (c := pool (drop1 (drop1 (drop1 (drop1 ns))))) (c' := pool (drop5 ns)) rfl (ja_cons j_int ja_nil) rfl ⟨drop1 (drop1 (drop1 (drop1 ns))), 5, by omega, rfl, rfl, rfl, rfl⟩).td (atI_nat s1)) ja_nil))) ⟨n, ms, 3, sv, "number", _, hok, .number sv s2 s3, rfl, rfl⟩) (j_tup (ja_cons j_str (ja_cons j_str (ja_cons j_bl ja_nil))) (by show 3 ≤ _; rw [sizeLine_eq]; decide)).td (opv_eqD (by decide +kernel) (by decide +kernel))) (by simp [PyData.eqv, PyData.eqvAll])) fun v G H d => ⟨rfl, _, rfl, d⟩
end
end DL
-- DE2
namespace DL
open PySem PySem.Spec PyProof.Rows L2
section
variable {K : PySem.W.Frag} {E : L2.St → XK} {m : Bool} {te ta tb : TE} {tas : TA} {S S' S1 S2 : List SD} {χ : XO} {x y z : D} {xs ys ds : List D} {t u : TS} {i j : Nat} {P : Post} {a : Addr} {iz : List Int}
def scr (K : PySem.W.Frag) (iz : List Int) : V → Hp → Prop := fun v G => ∃ a, v = .ref a ∧ SqL K G a (iz.map V.int)
theorem scr_mono : Mono (scr K iz) := fun v G G' e ⟨a, h, q⟩ => ⟨a, h, Evl.ex_l e q⟩
def iniP (N : List Str) (φ : V → Hp → Prop) : List SD := SD.p φ :: List.replicate (N.length - 1) SD.un
theorem own_iniP {N : List Str} {φ : V → Hp → Prop} : ¬ own (iniP N φ) a := fun ⟨i, c, e⟩ => by
  unfold iniP at e
  cases i with
  | zero => cases e
  | succ i =>
    rw [List.getElem?_cons_succ, List.getElem?_replicate] at e
    split at e <;> cases e
theorem sl_iniP {N : List Str} {v : V} {G H : Hp} (e : Ex G H) (h : scr K iz v G) : Sl K (iniP N (scr K iz)) (L2.start N [v]) G H := by
  refine ⟨by simp [L2.start, iniP], fun i s w => ?_, fun i j a xs ys w _ => (own_iniP ⟨i, xs, w⟩).elim, e⟩
  unfold iniP at w
  unfold L2.start
  cases i with
  | zero =>
    cases w
    exact ⟨some v, rfl, scr_mono, v, rfl, h⟩
  | succ i =>
    rw [List.getElem?_cons_succ, List.getElem?_replicate] at w
    split at w
    · rename_i c
      cases w
      refine ⟨none, ?_, trivial⟩
      show ((some v :: List.replicate (N.length - 1) none)[i + 1]?) = some none
      rw [List.getElem?_cons_succ, List.getElem?_replicate, if_pos c]
    · cases w
theorem j_lenP (h : S[i]? = some (.p (scr K iz))) : J K E m (tCB (rLenQ K) (tCons (tVar i) tNil)) S S (DL.dd K (.int iz.length)) χ := fun σ G H s Q k _ => by
  obtain ⟨ov, e, _, v, rfl, a, rfl, q⟩ := s.ok i _ h
  refine ⟨.ref a, e, a, iz.map V.int, rfl, Or.inl (Evl.ex_l s.ex q), ?_⟩
  rw [List.length_map]
  exact k _ G H (.refl s.ex) s (fun _ z => z) (.int _)
theorem j_ixP {k : Nat} {z : Int} (h : S[i]? = some (.p (scr K iz))) (hb : J K E m tb S S1 (td K (.int (k : Nat))) nox) (hx : iz[k]? = some z) : J K E m (tOp (rIxL K) (tVar i) tb) S S1 (DL.dd K (.int z)) χ := fun σ G H s Q kk e => by
  obtain ⟨ov, e0, _, v, rfl, a, rfl, q⟩ := s.ok i _ h
  refine ⟨.ref a, e0, hb σ G H s _ (fun w G2 H2 st2 s2 o2 d2 => ?_) fun _ _ _ _ z => z.ex.elim fun _ ⟨_, _, q, _⟩ => q.elim⟩
  obtain rfl := dp_int d2
  refine ⟨a, iz.map V.int, (k : Nat), .int z, rfl, rfl, Evl.ex_l (st2.g.trans st2.h) q, ?_, kk _ G2 H2 st2 s2 o2 (.int z)⟩
  unfold atI
  have hk : k < iz.length := by
    by_cases c : k < iz.length
    · exact c
    · rw [List.getElem?_eq_none (by omega)] at hx
      cases hx
  have hn : ixN (iz.map V.int).length ((k : Nat) : Int) = some k := by
    unfold ixN
    rw [List.length_map]
    simp
    omega
  rw [hn]
  show (iz.map V.int)[k]? = some (V.int z)
  rw [List.getElem?_map, hx]
  rfl
def spNLP (K : PySem.W.Frag) (R : List Int → (List D → Prop) → Prop) : Sp := fun vs H Q E => ∃ G v iz φ, Ex G H ∧ vs = [v] ∧ scr K iz v G ∧ R iz φ ∧ ∀ xs, φ xs → ∀ p us G' H', Stp no G H G' H' → H p = none → G' p = none → H' p = some (.lst us) → DdAll K G' us xs → Q (.ref p) H'
theorem spNLP_use {R : List Int → (List D → Prop) → Prop} {N : List Str} {vs : List V} {H : Hp} {Q : VK} {E0 : XK} (h : spNLP K R vs H Q E0) (st : ∀ iz φ, R iz φ → ST K (fun _ => E0) t (iniP N (scr K iz)) (PRL φ)) :
    t { nx := fun _ H' => Q .non H', rt := Q } (L2.start N vs) H := by
  obtain ⟨G, v, iz, φ, e, rfl, hd, hf, h1⟩ := h
  have n : ∀ {G' H' : Hp}, Stp (own (iniP N (scr K iz))) G H G' H' → Stp no G H G' H' := fun s => s.imp fun a z => own_iniP z
  refine st iz φ hf _ _ G H (sl_iniP e hd) ⟨fun _ _ _ _ p => p.elim, fun v S' σ' G' H' ⟨i, a, xs, ev, hi, f⟩ q s b => ?_, fun _ _ _ _ _ _ _ _ _ p => p.elim, fun _ _ _ _ p => p.elim, fun _ _ _ _ p => p.elim⟩
  subst ev
  obtain ⟨ov, _, _, ga, us, q1, q2⟩ := q.ok i _ hi
  have hn : H a = none := (b a ⟨i, _, hi⟩).elim (fun z => (own_iniP z).elim) id
  exact h1 xs f a us G' H' (n s) hn ga q1 q2
theorem fn_dataLP {P : Program} {w : World} {mg : Str → Option Value} {base : Heap} {x qual : Str} {st : Stmt} {f : Addr} {fd : FuncData} {N ps : List Str} {k : Nat} {R : List Int → (List D → Prop) → Prop} (F : L2.Fun K x qual st f fd) (Sc : FnScope N ps (defScope st))
    (len : ps.length = 1)
    (body : ∀ (cdv : Value) (A : Around) (outer : List Env) (s : Shared) (H : Hp) (E0 : XK), Room k (A.deeper (envOfC qual (defScope st) s.heap.objs.size f cdv)) →
      Takes (cxOf (L2.CX P w) P w K mg base N qual (defScope st) f cdv A outer s H E0) (fun cls d _ H => E0 cls d H) →
      ∃ t, PSs (cxOf (L2.CX P w) P w K mg base N qual (defScope st) f cdv A outer s H E0) (defBody st) t ∧ ∀ iz φ, R iz φ → ST K (fun _ => E0) t (iniP N (scr K iz)) (PRL φ)) :
    FnOk P w K mg base (L2.CX P w) (k + 1) f fd ps (spNLP K R) := by
  refine F.okX Sc (fun vs H Q E h => ?_) fun cdv A outer s H vs Q E0 hr h => ?_
  · obtain ⟨G, v, iz, φ, _, rfl, _⟩ := h
    rw [len]
    rfl
  · obtain ⟨t, h1, h2⟩ := body cdv A outer s H E0 hr (takes_of rfl rfl rfl rfl)
    exact ⟨t, h1, spNLP_use h fun ds φ e => h2 ds φ e⟩
theorem fo_makeLP {P : Program} {w : World} {mg : Str → Option Value} {base : Heap} {nm qual : Str} {st : Stmt} {fd : FuncData} {N ps : List Str} {k : Nat} {R : List Int → (List D → Prop) → Prop} (F : L2.Fun K nm qual st (He.ga K nm) fd) (hG : mg nm = some (.ref (He.ga K nm))) (hb : BindH nm qual st ps)
    (Sc : FnScope N ps (defScope st)) (len : ps.length = 1)
    (body : ∀ (cdv : Value) (A : Around) (outer : List Env) (s : Shared) (H : Hp) (E0 : XK), Room k (A.deeper (envOfC qual (defScope st) s.heap.objs.size (He.ga K nm) cdv)) →
      Takes (cxOf (L2.CX P w) P w K mg base N qual (defScope st) (He.ga K nm) cdv A outer s H E0) (fun cls d _ H => E0 cls d H) →
      ∃ t, PSs (cxOf (L2.CX P w) P w K mg base N qual (defScope st) (He.ga K nm) cdv A outer s H E0) (defBody st) t ∧ ∀ iz φ, R iz φ → ST K (fun _ => E0) t (iniP N (scr K iz)) (PRL φ)) : FO P w K mg base nm (k + 1) ps (spNLP K R) :=
  ⟨hG, F.kp, fd, fn_dataLP F Sc len body, binds_of F hb⟩
theorem s_newLP {R : List Int → (List D → Prop) → Prop} {E1 : L2.St → XK} {φ : List D → Prop} (h : S[j]? = some (.p (scr K iz))) (hR : R iz φ) (k : ∀ xs a, φ xs → ST K E u (S.set i (.l a (.lst xs))) P) :
    ST K E (tSeq (tAsg (tCallSD (spNLP K R) [] E1 (tCons (tVar j) tNil)) (gName i)) u) S P :=
  st_seq (fun S2 => ∃ xs a, φ xs ∧ S2 = S.set i (.l a (.lst xs))) (fun De σ G H s g => by
    obtain ⟨ov, e0, _, v, rfl, q0⟩ := s.ok j _ h
    refine ⟨v, e0, G, v, iz, φ, s.ex, rfl, q0, hR, fun xs f p us G2 H2 st2 hp gp q r => ?_⟩
    have s2 := s.on st2
    have np : ∀ b, own S b → b ≠ p := fun b o e => by
      obtain ⟨u, hu⟩ := s.ownH o
      rw [e, hp] at hu
      cases hu
    refine g.nx _ _ G2 H2 ⟨xs, p, f, rfl⟩ (s2.set ⟨rfl, gp, us, q, r⟩ fun b c e j ys _ w => ?_) (st2.imp fun _ z => z.elim) fun b z => ?_
    · cases e
      exact np p ⟨j, ys, w⟩ rfl
    · by_cases c : b = p
      · subst c
        exact .inr hp
      · obtain ⟨j, ys, w⟩ := z
        by_cases d : i = j
        · subst d
          rw [List.getElem?_set_self'] at w
          cases q2 : S[i]? with
          | none => rw [q2] at w; cases w
          | some z' =>
            rw [q2] at w
            cases (Option.some.inj w)
            exact (c rfl).elim
        · rw [List.getElem?_set_ne d] at w
          exact .inl ⟨j, ys, w⟩) fun S2 ⟨xs, a, f, e⟩ => by
    subst e
    exact k xs a f
def spP (K : PySem.W.Frag) (R : List Int → Res → Prop) : Sp := fun vs H Q E => ∃ G v iz r, Ex G H ∧ vs = [v] ∧ scr K iz v G ∧ R iz r ∧ (∀ x, r = .ok x → ∀ v G' H', Stp no G H G' H' → Dd K G' v x → Q v H') ∧
  (∀ e, r = .error e → ∀ dd v G' H', Stp no G H G' H' → G' dd = some (.xd [(e.f, v)]) → Dd K G' v e.x → E (.ref (He.ga K e.c)) (some dd) H')
theorem spP_use {R : List Int → Res → Prop} {N : List Str} {vs : List V} {H : Hp} {Q : VK} {E0 : XK} (h : spP K R vs H Q E0) (st : ∀ iz r, R iz r → ST K (fun _ => E0) t (iniP N (scr K iz)) (PR K r)) :
    t { nx := fun _ H' => Q .non H', rt := Q } (L2.start N vs) H := by
  obtain ⟨G, v, iz, r, e, rfl, hd, hf, h1, h2⟩ := h
  have n : ∀ {G' H' : Hp}, Stp (own (iniP N (scr K iz))) G H G' H' → Stp no G H G' H' := fun s => s.imp fun a z => own_iniP z
  exact st iz r hf _ _ G H (sl_iniP e hd) ⟨fun S' σ' G' H' p _ s _ => h1 _ p _ _ _ (n s) .non, fun v S' σ' G' H' ⟨x, p, q⟩ _ s _ => h1 x p v _ _ (n s) q,
    fun C f x dd v S' σ' G' H' p _ s _ q1 q2 => h2 _ p dd v _ _ (n s) q1 q2, fun _ _ _ _ p => p.elim, fun _ _ _ _ p => p.elim⟩
theorem fn_dataP {P : Program} {w : World} {mg : Str → Option Value} {base : Heap} {x qual : Str} {st : Stmt} {f : Addr} {fd : FuncData} {N ps : List Str} {k : Nat} {R : List Int → Res → Prop} (F : L2.Fun K x qual st f fd) (Sc : FnScope N ps (defScope st))
    (len : ps.length = 1)
    (body : ∀ (cdv : Value) (A : Around) (outer : List Env) (s : Shared) (H : Hp) (E0 : XK), Room k (A.deeper (envOfC qual (defScope st) s.heap.objs.size f cdv)) →
      Takes (cxOf (L2.CX P w) P w K mg base N qual (defScope st) f cdv A outer s H E0) (fun cls d _ H => E0 cls d H) →
      ∃ t, PSs (cxOf (L2.CX P w) P w K mg base N qual (defScope st) f cdv A outer s H E0) (defBody st) t ∧ ∀ iz r, R iz r → ST K (fun _ => E0) t (iniP N (scr K iz)) (PR K r)) :
    FnOk P w K mg base (L2.CX P w) (k + 1) f fd ps (spP K R) := by
  refine F.okX Sc (fun vs H Q E h => ?_) fun cdv A outer s H vs Q E0 hr h => ?_
  · obtain ⟨G, v, iz, r, _, rfl, _⟩ := h
    rw [len]
    rfl
  · obtain ⟨t, h1, h2⟩ := body cdv A outer s H E0 hr (takes_of rfl rfl rfl rfl)
    exact ⟨t, h1, spP_use h fun ds r e => h2 ds r e⟩
theorem spP_true {R : List Int → Res → Prop} {H : Hp} {ns : List Int} (h : SqL K H a (ns.map V.int)) (r : R ns (.ok (.bool true))) : spP K R [.ref a] H (fun v _ => v = .bl true) fun _ _ _ => False :=
  ⟨H, .ref a, ns, .ok (.bool true), Evl.Ex.refl H, rfl, ⟨a, rfl, h⟩, r, fun x e v G' H' _ d => by
    cases e
    exact dp_bl d, fun e z => nomatch z⟩
end
end DL
-- A20
namespace DL
open PySem PySem.Spec PyProof.Rows L2
section
variable {P : Program} {w : World} {K : PySem.W.Frag} {mg : Str → Option Value} {base : Heap}
def R_pool (iz : List Int) (φ : List D → Prop) : Prop := φ = fun xs => ∃ ns : List Int, xs = iL ns
theorem iL_app {ns : List Int} {x : Int} : iL ns ++ [PyData.int x] = iL (ns ++ [x]) := by simp [iL]
theorem get_int {iz : List Int} {k : Nat} (h : k < iz.length) : iz[k]? = some (iz.getD k 0) := by simp [List.getD, h]
abbrev s__law_pool : Stmt := top 32
theorem sc__law_pool : FnScope ["_law_script", "_law_pool_here", "_law_at", "_law_cell", "_law_turn", "_law_mixed"] ["_law_script"] (defScope s__law_pool) := ⟨rfl, rfl, rfl, by decide +kernel, rfl, by decide +kernel, by decide +kernel⟩
theorem ok__law_pool (T : GlX mg K) (hF : ∃ fd, L2.Fun K "_law_pool" "_law_pool" s__law_pool (He.ga K "_law_pool") fd) (hG : mg "_law_pool" = some (.ref (He.ga K "_law_pool"))) : FO P w K mg base "_law_pool" 1 ["_law_script"] (spNLP K R_pool) := by
  obtain ⟨fd, F⟩ := hF
  have n_range := T.n_range
  have n_min := T.n_min
  have n_len := T.n_len
  have n_int := T.n_int
  refine fo_makeLP F hG (fun _ _ _ _ _ _ us hl => match us, hl with | [_], _ => rfl) sc__law_pool rfl fun cdv A outer s H E0 hr tk => ⟨_, (pss_cons (ps_set (i := 1) sc__law_pool.nd rfl (Or.inl rfl) (pe_lst pa_nil)) (pss_cons (ps_for (passes_of rfl) rfl (pi_range1 (by rfl) n_range (pa_cons (pe_callB (call_min2 rfl) (by rfl) n_min (by decide +kernel) (pa_cons pe_int (pa_cons (pe_callB call_len_seq (by rfl) n_len (by decide +kernel) (pa_cons (pv 0) pa_nil)) pa_nil))) pa_nil)) (pg_name (i := 2) sc__law_pool.nd rfl (Or.inl rfl)) (pss_cons (ps_set (i := 3) sc__law_pool.nd rfl (Or.inl rfl) (pe_callTy call_int1 (by rfl) n_int (by decide +kernel) (pa_cons (pe_ix ix_list (pv 0) (pv 2) (fun _ _ => rfl)) pa_nil))) (pss_cons (ps_if (pt_cmpR op_lt (pv 3) pe_int (nomark _)) (pss_one (ps_set (i := 3) sc__law_pool.nd rfl (Or.inl rfl) (pe_op op_sub pe_int (pe_op op_mul pe_int (pv 3))))) pss_nil) (pss_one (ps_if (pt_cmpR op_ge (pv 3) (pe_op op_pow pe_int pe_int) (nomark _)) (pss_one (ps_for (passes_of rfl) rfl (pi_range1 (by rfl) n_range (pa_cons pe_int pa_nil)) (pg_name (i := 4) sc__law_pool.nd rfl (Or.inl rfl)) (pss_one (ps_if (pt_cmpR op_gt (pv 3) pe_int (nomark _)) (pss_cons (ps_expr (pe_bm PySem.F.plainAttrs_list PySem.F.slot_list_append PySem.F.type_list_append mt_append (pv 1) (pa_cons (pe_op op_mod (pe_callTy call_int1 (by rfl) n_int (by decide +kernel) (pa_cons (pv 3) pa_nil)) pe_int) pa_nil))) (pss_one (ps_set (i := 3) sc__law_pool.nd rfl (Or.inl rfl) (pe_op op_fdiv (pv 3) pe_int)))) pss_nil)))) (pss_cons (ps_set (i := 5) sc__law_pool.nd rfl (Or.inl rfl) (pe_op op_mod (pe_callTy call_int1 (by rfl) n_int (by decide +kernel) (pa_cons (pe_op op_add (pe_op op_add (pe_op op_mul (pv 3) pe_int) (pe_op op_mul (pv 2) pe_int)) pe_int) pa_nil)) pe_int)) (pss_one (ps_for (passes_of rfl) rfl (pi_range1 (by rfl) n_range (pa_cons pe_int pa_nil)) (pg_name (i := 4) sc__law_pool.nd rfl (Or.inl rfl)) (pss_cons (ps_set (i := 5) sc__law_pool.nd rfl (Or.inl rfl) (pe_op op_mod (pe_callTy call_int1 (by rfl) n_int (by decide +kernel) (pa_cons (pe_op op_add (pe_op op_add (pe_op op_mul (pv 5) (pv 5)) (pe_op op_mul (pe_op op_add (pv 4) pe_int) pe_int)) (pv 3)) pa_nil)) pe_int)) (pss_cons (ps_set (i := 5) sc__law_pool.nd rfl (Or.inl rfl) (pe_op op_mod (pe_callTy call_int1 (by rfl) n_int (by decide +kernel) (pa_cons (pe_op op_add (pe_op op_add (pe_op op_mul (pv 5) pe_int) (pv 2)) (pv 4)) pa_nil)) pe_int)) (pss_one (ps_expr (pe_bm PySem.F.plainAttrs_list PySem.F.slot_list_append PySem.F.type_list_append mt_append (pv 1) (pa_cons (pe_op op_fdiv (pv 5) pe_int) pa_nil)))))))))))))) (pss_cons (ps_expr (pe_bm0 PySem.F.plainAttrs_list PySem.F.slot_list_reverse PySem.F.type_list_reverse mt_reverse (pv 1))) (pss_one (ps_ret (pv 1)))))), ?_⟩
  intro iz φ e2
  subst e2
  refine s_setL (jl_lst ja_nil (by show 0 ≤ _; omega)) fun a => ?_
  obtain ⟨m, hm, hm1, hm2⟩ : ∃ m : Nat, (if (iz.length : Int) < 63 then (iz.length : Int) else 63) = (m : Nat) ∧ m ≤ iz.length ∧ m ≤ 63 := by
    by_cases h : (iz.length : Int) < 63
    · exact ⟨iz.length, by rw [if_pos h], by omega, by omega⟩
    · exact ⟨63, by rw [if_neg h]; rfl, by omega, by omega⟩
  refine s_for (ds := rgD 0 ((m : Nat) : Int).toNat) (ji_rng1 (JA.td (ja_cons (j_is (j_cb (ja_consT j_int.td (ja_one (j_lenP rfl).td)) cb_min2) (congrArg PyData.int hm)) ja_nil)) (by omega) (by omega)) [2]
    (fun k S => ∃ (ns : List Int) (x2 x3 x4 x5 : SD), ns.length ≤ 50 * k ∧ S = [.p (scr K iz), .l a (.lst (iL ns)), x2, x3, x4, x5]) ⟨[], .un, .un, .un, .un, by simp, rfl⟩ (fun k d S2 hd hI => ?_) (fun S2 hI => ?_)
  · obtain ⟨ns, x2, x3, x4, x5, hns, rfl⟩ := hI
    obtain ⟨hk, rfl⟩ := range_of hd
    refine ⟨_, jg_name (by simp), ?_⟩
    refine s_set [.p (scr K iz), .l a (.lst (iL ns)), .d (.int (k : Nat)), .d (.int (iz.getD k 0)), x4, x5] (j_cb (ja_one (j_ixP (k := k) (z := iz.getD k 0) rfl (j_var rfl).td (get_int (by omega))).td) cb_int) rfl ?_
    refine s_ifS (fun S2 => ∃ c : Int, S2 = [.p (scr K iz), .l a (.lst (iL ns)), .d (.int (k : Nat)), .d (.int c), x4, x5]) (jt_B (j_op (j_var rfl) j_int.td opv_b0).td) (fun _ => ?_) (fun _ => st_next ⟨_, rfl⟩) (fun S2 hS => ?_)
    · exact st_set (m := false) (j_op j_int (j_op j_int (j_var rfl).td (opv_i (.inl (by decide)))).td opv_i0) ⟨_, rfl⟩ xin_no
    obtain ⟨c, rfl⟩ := hS
    refine s_if (jt_B (j_op (j_var rfl) (j_op j_int j_int.td (opv_i (C := CPow) ⟨by decide, by decide, by decide⟩)).td opv_b0).td) (fun _ => ?_) (fun _ => ?_)
    · refine st_for (m := false) (ds := rgD 0 ((50 : Nat) : Int).toNat) (ji_rng1 (ja_one j_int.td) (by decide) (by decide)) xin_no [4]
        (fun t S => ∃ (us : List Int) (c : Int) (y4 : SD), us.length ≤ 50 * k + t ∧ S = [.p (scr K iz), .l a (.lst (iL us)), .d (.int (k : Nat)), .d (.int c), y4, x5]) ⟨ns, c, x4, by omega, rfl⟩ (fun t d S2 hd hI => ?_) (fun S2 hI => ?_)
      · obtain ⟨us, c, y4, hus, rfl⟩ := hI
        obtain ⟨ht, rfl⟩ := range_of hd
        refine ⟨_, jg_name (by simp), ?_⟩
        refine s_if (jt_B (j_op (j_var rfl) j_int.td opv_b0).td) (fun _ => ?_) (fun _ => st_next ⟨us, c, _, by omega, rfl⟩)
        refine st_seq1 [.p (scr K iz), .l a (.lst (iL (us ++ [c % 30]))), .d (.int (k : Nat)), .d (.int c), .d (.int (t : Nat)), x5]
          (st_app (m := false) (i := 1) (a := a) (xs := iL us) (ys := iL us) (x := .int (c % 30)) (j_op (j_cb (ja_one (j_var rfl).td) cb_int) j_int.td (opv_i (by decide))) rfl (by rw [List.length_map, sizeLine_eq]; omega) (by rw [iL_app]; rfl) xin_no rfl) ?_
        exact st_set (m := false) (x := .int (c / 30)) (j_op (j_var rfl) j_int.td (opv_i (C := CDiv) ⟨by decide, by decide⟩)) ⟨us ++ [c % 30], c / 30, _, by rw [List.length_append]; show us.length + 1 ≤ _; omega, rfl⟩ xin_no
      · obtain ⟨us, c, y4, hus, rfl⟩ := hI
        exact ⟨us, _, _, _, _, by rw [rgD_len] at hus; simp at hus; omega, rfl⟩
    · refine s_set [.p (scr K iz), .l a (.lst (iL ns)), .d (.int (k : Nat)), .d (.int c), x4, .d (.int ((c * 39373 + (k : Nat) * 10007 + 17) % 1000003))]
        (j_op (j_cb (ja_one (j_op (j_op (j_op (j_var rfl) j_int.td (opv_i (.inr (by decide)))) (j_op (j_var rfl) j_int.td (opv_i (.inr (by decide)))).td opv_i0) j_int.td opv_i0).td) cb_int) j_int.td (opv_i (by decide))) rfl ?_
      refine st_for (m := false) (ds := rgD 0 ((6 : Nat) : Int).toNat) (ji_rng1 (ja_one j_int.td) (by decide) (by decide)) xin_no [4]
        (fun t S => ∃ (us : List Int) (mx : Int) (y4 : SD), us.length ≤ 50 * k + t ∧ 0 ≤ mx ∧ mx < 1000037 ∧ S = [.p (scr K iz), .l a (.lst (iL us)), .d (.int (k : Nat)), .d (.int c), y4, .d (.int mx)]) ⟨ns, _, x4, by omega, by omega, by omega, rfl⟩ (fun t d S2 hd hI => ?_) (fun S2 hI => ?_)
      · obtain ⟨us, mx, y4, hus, hx0, hx1, rfl⟩ := hI
        obtain ⟨ht, rfl⟩ := range_of hd
        refine ⟨_, jg_name (by simp), ?_⟩
        refine s_set [.p (scr K iz), .l a (.lst (iL us)), .d (.int (k : Nat)), .d (.int c), .d (.int (t : Nat)), .d (.int ((mx * mx + ((t : Nat) + 3) * 7919 + c) % 1000033))]
          (j_op (j_cb (ja_one (j_op (j_op (j_op (j_var rfl) (j_var rfl).td (opv_i (.inl (by omega)))) (j_op (j_op (j_var rfl) j_int.td opv_i0) j_int.td (opv_i (.inr (by decide)))).td opv_i0) (j_var rfl).td opv_i0).td) cb_int) j_int.td (opv_i (by decide))) rfl ?_
        generalize hm3 : (mx * mx + ((t : Nat) + 3) * 7919 + c) % 1000033 = m3
        refine s_set [.p (scr K iz), .l a (.lst (iL us)), .d (.int (k : Nat)), .d (.int c), .d (.int (t : Nat)), .d (.int ((m3 * 40014 + (k : Nat) + (t : Nat)) % 1000037))]
          (j_op (j_cb (ja_one (j_op (j_op (j_op (j_var rfl) j_int.td (opv_i (.inr (by decide)))) (j_var rfl).td opv_i0) (j_var rfl).td opv_i0).td) cb_int) j_int.td (opv_i (by decide))) rfl ?_
        exact st_app (m := false) (i := 1) (a := a) (xs := iL us) (ys := iL us) (x := .int (((m3 * 40014 + (k : Nat) + (t : Nat)) % 1000037) / 5)) (j_op (j_var rfl) j_int.td (opv_i (C := CDiv) ⟨by decide, by decide⟩)) rfl (by rw [List.length_map, sizeLine_eq]; omega)
          ⟨us ++ [_], (m3 * 40014 + (k : Nat) + (t : Nat)) % 1000037, _, by rw [List.length_append]; show us.length + 1 ≤ _; omega, by omega, by omega, by rw [iL_app]; rfl⟩ xin_no rfl
      · obtain ⟨us, mx, y4, hus, hx0, hx1, rfl⟩ := hI
        exact ⟨us, _, _, _, _, by rw [rgD_len] at hus; simp at hus; omega, rfl⟩
  · obtain ⟨ns, x2, x3, x4, x5, hns, rfl⟩ := hI
    refine st_seq1 [.p (scr K iz), .l a (.lst (iL ns.reverse)), x2, x3, x4, x5] (st_rev (i := 1) rfl (by unfold iL; rw [List.map_reverse]; rfl)) (s_retL (i := 1) rfl ⟨_, rfl⟩)
end
end DL
-- A21
namespace DL
open PySem PySem.Spec PyProof.Rows L2
section
variable {P : Program} {w : World} {K : PySem.W.Frag} {mg : Str → Option Value} {base : Heap}
abbrev s_Run___iter__ : Stmt := mem (top 30) 13
theorem sc_Run___iter__ : FnScope ["self"] ["self"] (defScope s_Run___iter__) := ⟨rfl, rfl, rfl, by decide +kernel, rfl, by decide +kernel, by decide +kernel⟩
theorem ok_Run___iter__ (T : GlX mg K) (hS : PySem.W.selfFirst K (He.ga K "Run") = true) (hF : ∃ f fd, PySem.W.findIn K (.ref (He.ga K "Run")) "__iter__" = some (some (.ref f)) ∧ PySem.W.isFn K (.ref f) = true ∧ L2.Fun K "__iter__" "Run.__iter__" s_Run___iter__ f fd) :
    SO P w K mg base "Run" "__iter__" 1 ["self"] (spIt K (He.ga K "Run") "marks") := by
  obtain ⟨f, fd, h1, h2, F⟩ := hF
  exact ⟨hS, f, fd, h1, h2, ok_iter F T.cl_Run T.na_marks sc_Run___iter__ rfl rfl (fun X e => by show X.env.kindOf _ = _; unfold Env.kindOf; rw [e]; rfl) T.n_iter, binds_of F (fun _ _ _ _ _ _ us hl => match us, hl with | [_], _ => rfl)⟩
def gPool (p : List Int) : Nat → List Int
  | 0 => p
  | i + 1 => drop1 (drop1 (gPool p i))
def facI (k : Nat) : Int := if k = 0 then 1 else if k = 1 then -1 else 10 ^ 10
def gAt (p : List Int) (i : Nat) : Int := (pickV (gPool p i) 30 : Nat) * facI (pickV (drop1 (gPool p i)) 3)
def gL (p : List Int) (n : Nat) : List Int := (List.range n).map (gAt p)
theorem gL_len {p : List Int} {n : Nat} : (gL p n).length = n := by simp [gL]
abbrev ten10 : Int := 10 ^ 10
abbrev facs : List D := [.int 1, .int (-1), .int ten10]
theorem fac_at {k : Nat} (h : k < 3) : facs[k]? = some (.int (facI k)) := by
  match k, h with
  | 0, _ => rfl
  | 1, _ => rfl
  | 2, _ => rfl
theorem size_at {k : Nat} (h : k < 6) : ∃ n : Nat, [PyData.int 3, PyData.int 4, PyData.int 2, PyData.int 3, PyData.int 5, PyData.int 4][k]? = some (.int (n : Nat)) ∧ 2 ≤ n ∧ n ≤ 6 := by
  match k, h with
  | 0, _ => exact ⟨3, rfl, by decide, by decide⟩
  | 1, _ => exact ⟨4, rfl, by decide, by decide⟩
  | 2, _ => exact ⟨2, rfl, by decide, by decide⟩
  | 3, _ => exact ⟨3, rfl, by decide, by decide⟩
  | 4, _ => exact ⟨5, rfl, by decide, by decide⟩
  | 5, _ => exact ⟨4, rfl, by decide, by decide⟩
theorem many_at {k : Nat} (h : k < 7) : ∃ n : Nat, [PyData.int 5, PyData.int 1, PyData.int 3, PyData.int 8, PyData.int 0, PyData.int 12, PyData.int 20][k]? = some (.int (n : Nat)) ∧ n ≤ 20 := by
  match k, h with
  | 0, _ => exact ⟨5, rfl, by decide⟩
  | 1, _ => exact ⟨1, rfl, by decide⟩
  | 2, _ => exact ⟨3, rfl, by decide⟩
  | 3, _ => exact ⟨8, rfl, by decide⟩
  | 4, _ => exact ⟨0, rfl, by decide⟩
  | 5, _ => exact ⟨12, rfl, by decide⟩
  | 6, _ => exact ⟨20, rfl, by decide⟩
theorem eqv_dM {m : Mk3} : PyData.eqv (dM m) (dM m) = true := by simp [dM, dMi, PyData.eqv, PyData.eqvAll]
theorem eqv_Ms : ∀ ms : List Mk3, PyData.eqvAll (ms.map dM) (ms.map dM) = true
  | [] => rfl
  | m :: ms => by rw [List.map_cons, PyData.eqvAll, eqv_Ms ms, eqv_dM]; rfl
theorem eqv_dMs {ms : List Mk3} : PyData.eqv (dMs ms) (dMs ms) = true := by rw [PyData.eqv]; exact eqv_Ms ms
theorem eqv_dMt {ms : List Mk3} : PyData.eqv (.tuple (ms.map dM)) (.tuple (ms.map dM)) = true := by rw [PyData.eqv]; exact eqv_Ms ms
theorem sh_Ms {ms : List Mk3} : Sh 2 (dMs ms) := sh_lst fun x hx => by
  obtain ⟨m, _, rfl⟩ := List.mem_map.mp hx
  exact sh_M
theorem sh_Mt {ms : List Mk3} : Sh 2 (.tuple (ms.map dM)) := sh_tup fun x hx => by
  obtain ⟨m, _, rfl⟩ := List.mem_map.mp hx
  exact sh_M
theorem pl_rows {ms : List Mk3} : pl (.list (ms.map fun m => .list (dMi m))) = true := plAll_of fun x hx => by
  obtain ⟨m, _, rfl⟩ := List.mem_map.mp hx
  rfl
theorem jl_len {E : L2.St → XK} {m : Bool} {te : TE} {S : List SD} {χ : XO} {T : Nat → List SD} {A : Nat → List D} {n k : Nat} (e : k = n) (h : JL K E m te S (T k) (A k) χ) : JL K E m te S (T n) (A n) χ := e ▸ h
theorem pl_dL {ps : List Nat} : pl (dL ps) = true := by
  show plAll _ = true
  refine plAll_of fun x hx => ?_
  obtain ⟨i, _, rfl⟩ := List.mem_map.mp hx
  rfl
def R_law (iz : List Int) (r : Res) : Prop := r = .ok (.bool true)
end
end DL
-- A22
namespace DL
open PySem PySem.Spec PyProof.Rows L2
section
variable {P : Program} {w : World} {K : PySem.W.Frag} {mg : Str → Option Value} {base : Heap}
abbrev s_law : Stmt := top 45
theorem sc_law : FnScope ["_law_script", "_law_pool_here", "_law_size", "_law_marks", "_law_others", "_law_run", "_law_second_here", "_law_place", "_law_grades", "_law_alike", "_law_whole", "_law_mark"] ["_law_script"] (defScope s_law) := ⟨rfl, rfl, rfl, by decide +kernel, rfl, by decide +kernel, by decide +kernel⟩
theorem ok_law (T : GlX mg K) (fd : FuncData) (F : L2.Fun K "law" "law" s_law (He.ga K "law") fd) (S_eq : SO P w K mg base "Run" "__eq__" 1 ["self", "other"] (spD K R_eq)) (S_len : SO P w K mg base "Run" "__len__" 1 ["self"] (spD K R_len)) (S_iter : SO P w K mg base "Run" "__iter__" 1 ["self"] (spIt K (He.ga K "Run") "marks")) (F__law_doors : FO P w K mg base "_law_doors" 9 ["_law_pool_here", "_law_run", "_law_size", "_law_grades"] (spM K R_doors)) (P_table : PO P w K mg base "Run" "table" 2 (spD K R_table)) (F__law_table_of : FO P w K mg base "_law_table_of" 2 ["_law_size", "_law_marks"] (spD K R_tabL)) (M_sources : MO P w K mg base "Run" "sources" 4 ["self", "place"] (spD K R_sources)) (S_BitAnd : SO P w K mg base "Run" "__and__" 5 ["self", "other"] (spD K R_back)) (S_Add : SO P w K mg base "Run" "__add__" 7 ["self", "other"] (spD K R_add)) (C_Run : CO P w K mg base "Run" 5 ["self", "size", "marks"] (spM K R_Run)) (F__law_starts_alike : FO P w K mg base "_law_starts_alike" 2 ["_law_size", "_law_marks", "_law_others"] (spD K R_alike)) (F__law_effects_right : FO P w K mg base "_law_effects_right" 10 ["_law_marks", "_law_grades"] (spD K R_effR)) (F__law_ends_right : FO P w K mg base "_law_ends_right" 6 ["_law_size", "_law_marks", "_law_run", "_law_grades"] (spD K R_endsR)) (F__law_pick : FO P w K mg base "_law_pick" 1 ["_law_pool_here", "_law_many"] (spM K R_pick)) (F__law_second : FO P w K mg base "_law_second" 3 ["_law_pool_here", "_law_size", "_law_marks"] (spM K R_second)) (F__law_any_marks : FO P w K mg base "_law_any_marks" 2 ["_law_pool_here", "_law_size", "_law_many"] (spM K R_any)) (F__law_pool : FO P w K mg base "_law_pool" 1 ["_law_script"] (spNLP K R_pool)) : FnOk P w K mg base (L2.CX P w) 12 (He.ga K "law") fd ["_law_script"] (spP K R_law) := by
  have n_list := T.n_list
  have n_range := T.n_range
  have t_BitAnd := T.t_BitAnd
  have r_BitAnd := T.r_BitAnd
  have n_len := T.n_len
  have n_tuple := T.n_tuple
  have n_int := T.n_int
  have n_isinstance := T.n_isinstance
  have n_bool := T.n_bool
  refine fn_dataP F sc_law rfl fun cdv A outer s H E0 hr tk => ⟨_, (pss_cons (ps_set (i := 1) sc_law.nd rfl (Or.inr rfl) (pe_fo F__law_pool (hr.mono (by decide)) (by rfl) tk (pa_cons (pv 0) pa_nil))) (pss_cons (ps_set (i := 2) sc_law.nd rfl (Or.inl rfl) (pe_ix ix_list (pe_lst (pa_cons pe_int (pa_cons pe_int (pa_cons pe_int (pa_cons pe_int (pa_cons pe_int (pa_cons pe_int pa_nil))))))) (pe_fo F__law_pick (hr.mono (by decide)) (by rfl) tk (pa_cons (pv 1) (pa_cons pe_int pa_nil))) (fun _ _ => rfl))) (pss_cons (ps_set (i := 3) sc_law.nd rfl (Or.inl rfl) (pe_fo F__law_any_marks (hr.mono (by decide)) (by rfl) tk (pa_cons (pv 1) (pa_cons (pv 2) (pa_cons (pe_ix ix_list (pe_lst (pa_cons pe_int (pa_cons pe_int (pa_cons pe_int (pa_cons pe_int (pa_cons pe_int (pa_cons pe_int (pa_cons pe_int pa_nil)))))))) (pe_fo F__law_pick (hr.mono (by decide)) (by rfl) tk (pa_cons (pv 1) (pa_cons pe_int pa_nil))) (fun _ _ => rfl)) pa_nil))))) (pss_cons (ps_set (i := 4) sc_law.nd rfl (Or.inl rfl) (pe_fo F__law_second (hr.mono (by decide)) (by rfl) tk (pa_cons (pv 1) (pa_cons (pv 2) (pa_cons (pv 3) pa_nil))))) (pss_cons (ps_set (i := 5) sc_law.nd rfl (Or.inl rfl) (pe_co C_Run (hr.mono (by decide)) (by rfl) tk (pa_cons (pv 2) (pa_cons (pv 3) pa_nil)))) (pss_cons (ps_set (i := 6) sc_law.nd rfl (Or.inl rfl) (pe_co C_Run (hr.mono (by decide)) (by rfl) tk (pa_cons (pv 2) (pa_cons (pe_lc (own := [("_law_mark", 11)]) (g := gName 11) (tt := tYes) rfl sc_law.nd (pi_list (pv 4)) (blkOk_by (N := ["_law_script", "_law_pool_here", "_law_size", "_law_marks", "_law_others", "_law_run", "_law_second_here", "_law_place", "_law_grades", "_law_alike", "_law_whole", "_law_mark"]) (sc := defScope s_law) (by decide +kernel)) (fun _ _ _ _ _ => (pg_name (i := 11) sc_law.nd rfl (Or.inl rfl))) (fun _ _ _ _ _ => pts_nil) (fun _ _ _ _ _ => (pe_callTy (call_list_of : CallR _ (.type "list") (rListQ K)) (by rfl) n_list (by decide +kernel) (pa_cons (pv 11) pa_nil)))) pa_nil)))) (pss_cons (ps_setLc (i := 8) (own := [("_law_place", 7)]) (g := gName 7) (tt := tYes) rfl sc_law.nd rfl rfl (sw_true rfl rfl rfl (by decide +kernel)) (pi_range1 (by rfl) n_range (pa_cons (pv 2) pa_nil)) (blkOk_by (N := ["_law_script", "_law_pool_here", "_law_size", "_law_marks", "_law_others", "_law_run", "_law_second_here", "_law_place", "_law_grades", "_law_alike", "_law_whole", "_law_mark"]) (sc := defScope s_law) (by decide +kernel)) (fun _ _ _ _ _ => (pg_name (i := 7) sc_law.nd rfl (Or.inl rfl))) (fun _ _ _ _ _ => pts_nil) (fun _ _ _ _ _ => (pe_op op_mul (pe_fo F__law_pick (hr.mono (by decide)) (by rfl) tkN (pa_cons (pv 1) (pa_cons pe_int pa_nil))) (pe_ix (ix_list : IxR _ (rIxL K)) (pe_lst (pa_cons pe_int (pa_cons (pe_un un_neg pe_int) (pa_cons (pe_op op_pow pe_int pe_int) pa_nil)))) (pe_fo F__law_pick (hr.mono (by decide)) (by rfl) tkN (pa_cons (pv 1) (pa_cons pe_int pa_nil))) (fun _ _ => rfl))))) (pss_cons (ps_if (PW.pt (pw_or (pt_not (pt_val (pe_fo F__law_ends_right (hr.mono (by decide)) (by rfl) tk (pa_cons (pv 2) (pa_cons (pv 3) (pa_cons (pv 5) (pa_cons (pv 8) pa_nil))))))) (pw_or1 (pt_not (pt_val (pe_fo F__law_ends_right (hr.mono (by decide)) (by rfl) tk (pa_cons (pv 2) (pa_cons (pv 4) (pa_cons (pv 6) (pa_cons (pv 8) pa_nil)))))))))) (pss_one (ps_ret pe_bl)) pss_nil) (pss_cons (ps_if (PW.pt (pw_or (pt_cmpR (op_neD hr.units) (pe_po (pv 5) P_table (hr.mono (by decide))) (pe_fo F__law_table_of (hr.mono (by decide)) (by rfl) tk (pa_cons (pv 2) (pa_cons (pv 3) pa_nil))) (nomark _)) (pw_or1 (pt_not (pt_val (pe_fo F__law_effects_right (hr.mono (by decide)) (by rfl) tk (pa_cons (pv 3) (pa_cons (pv 8) pa_nil)))))))) (pss_one (ps_ret pe_bl)) pss_nil) (pss_cons (ps_set (i := 9) sc_law.nd rfl (Or.inl rfl) (pe_cmpR (op_soEq S_eq (hr.mono (by decide))) (pv 5) (pv 6) (nomark _))) (pss_cons (ps_if (PW.pt (pw_or (pt_not (pt_val (pe_callB call_isi (by rfl) n_isinstance (by decide +kernel) (pa_cons (pv 9) (pa_cons (pe_bltn (v := .ty "bool") (u := .type "bool") (by rfl) n_bool (by decide +kernel) rfl) pa_nil))))) (pw_or1 (pt_cmpR (op_neD hr.units) (pv 9) (pe_cmpR (op_eqD hr.units) (pe_fo F__law_table_of (hr.mono (by decide)) (by rfl) tk (pa_cons (pv 2) (pa_cons (pv 3) pa_nil))) (pe_fo F__law_table_of (hr.mono (by decide)) (by rfl) tk (pa_cons (pv 2) (pa_cons (pv 4) pa_nil))) (nomark _)) (nomark _))))) (pss_one (ps_ret pe_bl)) pss_nil) (pss_cons (ps_if (PW.pt (pw_or (pt_cmpR (op_neD hr.units) (pv 9) (pe_fo F__law_starts_alike (hr.mono (by decide)) (by rfl) tk (pa_cons (pv 2) (pa_cons (pv 3) (pa_cons (pv 4) pa_nil)))) (nomark _)) (pw_or (pt_cmpR (op_soEq S_eq (hr.mono (by decide))) (pv 5) (pv 3) (nomark _)) (pw_or1 (pt_cmpR (op_soEq S_eq (hr.mono (by decide))) (pv 5) (pe_co C_Run (hr.mono (by decide)) (by rfl) tk (pa_cons (pe_op op_add (pe_op op_mod (pe_callTy call_int1 (by rfl) n_int (by decide +kernel) (pa_cons (pe_op op_sub (pv 2) pe_int) pa_nil)) pe_int) pe_int) (pa_cons (pe_lst pa_nil) pa_nil))) (nomark _)))))) (pss_one (ps_ret pe_bl)) pss_nil) (pss_cons (ps_set (i := 10) sc_law.nd rfl (Or.inl rfl) (pe_so S_Add (hr.mono (by decide)) tk (pv 5) (pv 6))) (pss_cons (ps_if (PW.pt (pw_or (pt_cmpR (op_neD hr.units) (pe_callTy (call_soList S_iter S_len (hr.mono (by decide)) (hr.mono (by decide))) (by rfl) n_list (by decide +kernel) (pa_cons (pv 10) pa_nil)) (pe_op op_cat (pv 3) (pv 4)) (nomark _)) (pw_or (pt_cmpR (op_neD hr.units) (pe_fld (pv 10) rfl) (pe_callTy call_tuple_of (by rfl) n_tuple (by decide +kernel) (pa_cons (pe_op op_cat (pv 3) (pv 4)) pa_nil)) (nomark _)) (pw_or1 (pt_cmpR (op_neD hr.units) (pe_callB (call_soLen S_len (hr.mono (by decide))) (by rfl) n_len (by decide +kernel) (pa_cons (pv 10) pa_nil)) (pe_callB call_len_seq (by rfl) n_len (by decide +kernel) (pa_cons (pe_op op_cat (pv 3) (pv 4)) pa_nil)) (nomark _)))))) (pss_one (ps_ret pe_bl)) pss_nil) (pss_cons (ps_for (passes_of rfl) rfl (pi_range1 (by rfl) n_range (pa_cons (pv 2) pa_nil)) (pg_name (i := 7) sc_law.nd rfl (Or.inl rfl)) (pss_one (ps_if (pt_cmpR (op_neD hr.units) (pe_mo (pv 10) M_sources (hr.mono (by decide)) tk (pa_cons (pv 7) pa_nil)) (pe_soT S_BitAnd t_BitAnd r_BitAnd (hr.mono (by decide)) tk (pv 5) (pe_mo (pv 6) M_sources (hr.mono (by decide)) tk (pa_cons (pv 7) pa_nil))) (nomark _)) (pss_one (ps_ret pe_bl)) pss_nil))) (pss_cons (ps_if (PW.pt (pw_or (pt_cmpR (op_neD hr.units) (pe_po (pv 10) P_table (hr.mono (by decide))) (pe_fo F__law_table_of (hr.mono (by decide)) (by rfl) tk (pa_cons (pv 2) (pa_cons (pe_op op_cat (pv 3) (pv 4)) pa_nil))) (nomark _)) (pw_or1 (pt_cmpR (op_neD hr.units) (pe_callTy (call_soList S_iter S_len (hr.mono (by decide)) (hr.mono (by decide))) (by rfl) n_list (by decide +kernel) (pa_cons (pv 5) pa_nil)) (pv 3) (nomark _))))) (pss_one (ps_ret pe_bl)) pss_nil) (pss_one (ps_ret (pe_fo F__law_doors (hr.mono (by decide)) (by rfl) tk (pa_cons (pv 1) (pa_cons (pv 5) (pa_cons (pv 2) (pa_cons (pv 8) pa_nil))))))))))))))))))))))), ?_⟩
  intro iz r e2
  subst e2
  refine s_newLP (j := 0) rfl rfl fun xs a ⟨p0, hp0⟩ => ?_
  subst hp0
  obtain ⟨n, hn, h2, h6⟩ := size_at (pickV_lt (ns := p0) (m := 6) (by omega))
  generalize hp1 : drop1 p0 = p1
  obtain ⟨k, hk, hk20⟩ := many_at (pickV_lt (ns := p1) (m := 7) (by omega))
  generalize hp2 : drop1 p1 = p2
  obtain ⟨ms, p3, hA, hms, hml⟩ : ∃ ms p3, anyF n p2 k = (ms, p3) ∧ (∀ m ∈ ms, okM n m) ∧ ms.length = k := ⟨_, _, rfl, anyF_ok h2 k, anyF_len k⟩
  obtain ⟨os, p4, hB, hos, hol⟩ : ∃ os p4, secondF n ms p3 = (os, p4) ∧ (∀ m ∈ os, okM n m) ∧ os.length ≤ ms.length + 12 := ⟨_, _, rfl, second_ok h2 hms, second_len⟩
  have ok1 : RunOk n ms := ⟨⟨h2, h6⟩, hms, by omega⟩
  have ok2 : RunOk n os := ⟨⟨h2, h6⟩, hos, by omega⟩
  have oka : ∀ m ∈ ms ++ os, okM n m := fun m hm => (List.mem_append.mp hm).elim (hms m) (hos m)
  have ok3 : RunOk n (ms ++ os) := ⟨⟨h2, h6⟩, oka, by rw [List.length_append]; omega⟩
  refine s_setm [.p (scr K iz), .l a (pool p1), .d (.int (n : Nat)), .un, .un, .un, .un, .un, .un, .un, .un, .un]
    (j_ixL (xs := [PyData.int 3, PyData.int 4, PyData.int 2, PyData.int 3, PyData.int 5, PyData.int 4]) (i := (pickV p0 6 : Nat)) (x := .int (n : Nat)) (jl_lst (ja_cons j_int (ja_cons j_int (ja_cons j_int (ja_cons j_int (ja_cons j_int (ja_cons j_int ja_nil)))))) (by show 6 ≤ _; rw [sizeLine_eq]; decide)).dd
      (j_callM (i := 1) (a := a) (c := pool p0) (c' := pool p1) rfl (ja_cons j_int ja_nil) rfl ⟨p0, 6, by omega, rfl, rfl, rfl, by rw [← hp1]⟩).td (atI_nat hn)) rfl ?_
  refine s_setm [.p (scr K iz), .l a (pool p3), .d (.int (n : Nat)), .d (dMs ms), .un, .un, .un, .un, .un, .un, .un, .un]
    (j_callM (i := 1) (a := a) (c := pool p2) (c' := pool p3) rfl (ja_cons (j_var rfl) (ja_cons
      (j_ixL (xs := [PyData.int 5, PyData.int 1, PyData.int 3, PyData.int 8, PyData.int 0, PyData.int 12, PyData.int 20]) (i := (pickV p1 7 : Nat)) (x := .int (k : Nat)) (jl_lst (ja_cons j_int (ja_cons j_int (ja_cons j_int (ja_cons j_int (ja_cons j_int (ja_cons j_int (ja_cons j_int ja_nil))))))) (by show 7 ≤ _; rw [sizeLine_eq]; decide)).dd
      (j_callM (i := 1) (a := a) (c := pool p1) (c' := pool p2) rfl (ja_cons j_int ja_nil) rfl ⟨p1, 7, by omega, rfl, rfl, rfl, by rw [← hp2]⟩).td (atI_nat hk)) ja_nil)) rfl ⟨p2, n, k, h2, h6, by omega, rfl, rfl, by rw [hA], by rw [hA]⟩) rfl ?_
  refine s_setm [.p (scr K iz), .l a (pool p4), .d (.int (n : Nat)), .d (dMs ms), .d (dMs os), .un, .un, .un, .un, .un, .un, .un]
    (j_callM (i := 1) (a := a) (c := pool p3) (c' := pool p4) rfl (ja_cons (j_var rfl) (ja_cons (j_var rfl) ja_nil)) rfl ⟨p3, n, ms, h2, h6, by omega, rfl, rfl, by rw [hB], by rw [hB]⟩) rfl ?_
  refine s_set [.p (scr K iz), .l a (pool p4), .d (.int (n : Nat)), .d (dMs ms), .d (dMs os), .d (dR n ms), .un, .un, .un, .un, .un, .un]
    (j_make (ns := nsR) (xs := dsR n ms) (ja_cons (j_var rfl) (ja_cons (j_var rfl) ja_nil)) fun dx => ⟨dx, .int (n : Nat), dMs ms, rfl, rfl, pl_M ms, (by intro xs h; cases h; rw [List.length_map, sizeLine_eq]; omega), rfl, .inr (.inr ⟨n, ms, rfl, marksOf_L hms, ok1, rfl, rfl⟩)⟩) rfl ?_
  refine s_set [.p (scr K iz), .l a (pool p4), .d (.int (n : Nat)), .d (dMs ms), .d (dMs os), .d (dR n ms), .d (dR n os), .un, .un, .un, .un, .un]
    (j_make (ns := nsR) (xs := dsR n os) (ja_cons (j_var rfl) (ja_cons (jl_maps (k := 11) os dM (fun m => .list (dMi m)) (ji_list (j_var rfl)) rfl (fun p hp => (jl_listS (b := true) (j_var rfl)).dd) (by rw [sizeLine_eq]; omega)).dd ja_nil))
      fun dx => ⟨dx, .int (n : Nat), .list (os.map fun m => .list (dMi m)), rfl, rfl, pl_rows, (by intro xs h; cases h; rw [List.length_map, sizeLine_eq]; omega), rfl, .inr (.inr ⟨n, os, rfl, marksOf_ok (b := false) (f := fun _ => false) hos, ok2, rfl, rfl⟩)⟩) rfl ?_
  refine s_setLm (i := 8) (ds := iL (gL p4 n)) (S' := [.p (scr K iz), .l a (pool (gPool p4 n)), .d (.int (n : Nat)), .d (dMs ms), .d (dMs os), .d (dR n ms), .d (dR n os), .un, .un, .un, .un, .un]) ?_ fun b => ?_
  · refine jl_len (T := fun i => [.p (scr K iz), .l a (pool (gPool p4 i)), .d (.int (n : Nat)), .d (dMs ms), .d (dMs os), .d (dR n ms), .d (dR n os), .un, .un, .un, .un, .un]) (A := fun i => iL (gL p4 i)) (by rw [rgD_len, Int.toNat_natCast]) (jl_lc (m := true) (ds := rgD 0 ((n : Nat) : Int).toNat) (ji_rng1 (ja_one (j_var rfl).td) (by omega) (by omega))
      (fun i => [.p (scr K iz), .l a (pool (gPool p4 i)), .d (.int (n : Nat)), .d (dMs ms), .d (dMs os), .d (dR n ms), .d (dR n os), .un, .un, .un, .un, .un]) (fun i => iL (gL p4 i)) rfl rfl (fun i _ => un1 rfl) (fun i d hd => ?_) (by rw [rgD_len, sizeLine_eq]; omega))
    obtain ⟨hi, rfl⟩ := range_of hd
    have q30 := pickV_lt (ns := gPool p4 i) (m := 30) (by omega)
    refine ⟨[.p (scr K iz), .l a (pool (gPool p4 i)), .d (.int (n : Nat)), .d (dMs ms), .d (dMs os), .d (dR n ms), .d (dR n os), .d (.int (i : Nat)), .un, .un, .un, .un], jg_name (by simp), .inr ⟨[.p (scr K iz), .l a (pool (gPool p4 i)), .d (.int (n : Nat)), .d (dMs ms), .d (dMs os), .d (dR n ms), .d (dR n os), .d (.int (i : Nat)), .un, .un, .un, .un],
      [.p (scr K iz), .l a (pool (drop1 (drop1 (gPool p4 i)))), .d (.int (n : Nat)), .d (dMs ms), .d (dMs os), .d (dR n ms), .d (dR n os), .d (.int (i : Nat)), .un, .un, .un, .un], .int (gAt p4 i), jt_yes, ?_, rfl, by simp [gL, List.range_succ, iL]⟩⟩
    exact j_op (j_callM (i := 1) (a := a) (c := pool (gPool p4 i)) (c' := pool (drop1 (gPool p4 i))) rfl (ja_cons j_int ja_nil) rfl ⟨gPool p4 i, 30, by omega, rfl, rfl, rfl, rfl⟩)
      (j_ixL (xs := facs) (i := (pickV (drop1 (gPool p4 i)) 3 : Nat)) (x := .int (facI (pickV (drop1 (gPool p4 i)) 3))) (jl_lst (ja_cons j_int (ja_cons (j_neg j_int.td) (ja_cons (j_is (y := .int ten10) (j_op j_int j_int.td (opv_i (C := CPow) ⟨by decide, by decide, by decide⟩)) rfl) ja_nil))) (by show 3 ≤ _; rw [sizeLine_eq]; decide)).dd
        (j_callM (i := 1) (a := a) (c := pool (drop1 (gPool p4 i))) (c' := pool (drop1 (drop1 (gPool p4 i)))) rfl (ja_cons j_int ja_nil) rfl ⟨drop1 (gPool p4 i), 3, by omega, rfl, rfl, rfl, rfl⟩).td (atI_nat (fac_at (pickV_lt (by omega))))).td (opv_i (.inl (by omega)))
  refine st_frz (i := 8) rfl ?_
  generalize hg : gL p4 n = gs
  have hgl : gs.length = n := by rw [← hg, gL_len]
  generalize gPool p4 n = p5
  generalize hal : decide (srcM n ms = srcM n os) = al
  obtain ⟨t, e3, t4, t5, t6⟩ := third_at h2 h6
  have l3 : (ms.map dM).length + (os.map dM).length ≤ sizeLine := by rw [List.length_map, List.length_map, sizeLine_eq]; omega
  have ecat : ms.map dM ++ os.map dM = (ms ++ os).map dM := by rw [List.map_append]
  refine s_guard (b := false) (jt_orF (jt_is (jt_not (jt_test (j_call (x := .bool true) (ja_cons (j_var rfl) (ja_cons (j_var rfl) (ja_cons (j_var rfl) (ja_cons (j_var rfl) ja_nil)))) ⟨n, ms, gs, ok1, hgl, rfl, rfl⟩).td)) rfl)
    (jt_is (jt_not (jt_test (j_call (x := .bool true) (ja_cons (j_var rfl) (ja_cons (j_var rfl) (ja_cons (j_var rfl) (ja_cons (j_var rfl) ja_nil)))) ⟨n, os, gs, ok2, hgl, rfl, rfl⟩).td)) rfl)) (fun h => nomatch h) (fun _ => ?_)
  refine s_guard (b := false) (jt_orF (jt_is (jt_B (j_op (j_prop (j_var rfl) ⟨n, ms, ok1, rfl, rfl⟩) (j_is (j_call (x := dTL n ms) (ja_cons (j_var rfl) (ja_cons (j_var rfl) ja_nil)) ⟨n, ms, h2, h6, hms, by omega, rfl, rfl⟩) (dTL_eq hms)).td (opv_neD (sh_dT.ok (by decide)) (sh_dT.ok (by decide)))).td) (by rw [eqv_dT]; simp))
    (jt_is (jt_not (jt_test (j_call (x := .bool true) (ja_cons (j_var rfl) (ja_cons (j_var rfl) ja_nil)) ⟨n, ms, gs, h2, h6, hms, by omega, hgl, rfl, rfl⟩).td)) rfl)) (fun h => nomatch h) (fun _ => ?_)
  refine s_set [.p (scr K iz), .l a (pool p5), .d (.int (n : Nat)), .d (dMs ms), .d (dMs os), .d (dR n ms), .d (dR n os), .un, .d (.list (iL gs)), .d (.bool al), .un, .un]
    (j_is (j_ownEq (j_var rfl) (j_var rfl) (.inl ⟨n, ms, n, os, ok1, ok2, rfl, rfl⟩)) (by rw [← hal]; simp)) rfl ?_
  refine s_guard (b := false) (jt_orF (jt_is (jt_not (jt_test (j_isi (j_var rfl).td (.ty "bool") ty_bl kit_bb).td)) rfl)
    (jt_is (jt_B (j_op (j_var rfl) (j_op (j_is (j_call (x := dTL n ms) (ja_cons (j_var rfl) (ja_cons (j_var rfl) ja_nil)) ⟨n, ms, h2, h6, hms, by omega, rfl, rfl⟩) (dTL_eq hms)) (j_is (j_call (x := dTL n os) (ja_cons (j_var rfl) (ja_cons (j_var rfl) ja_nil)) ⟨n, os, h2, h6, hos, by omega, rfl, rfl⟩) (dTL_eq hos)).td (opv_eqD (sh_dT.ok (by decide)) (sh_dT.ok (by decide)))).td (opv_neD ((sh_bool (n := 0)).ok (by decide)) ((sh_bool (n := 0)).ok (by decide)))).td) (by rw [eqv_dT, hal]; simp [PyData.eqv]))) (fun h => nomatch h) (fun _ => ?_)
  refine s_guard (b := false) (jt_orF (jt_is (jt_B (j_op (j_var rfl) (j_is (j_call (x := .bool (alikeF n ms os)) (ja_cons (j_var rfl) (ja_cons (j_var rfl) (ja_cons (j_var rfl) ja_nil))) ⟨n, ms, os, h2, h6, hms, hos, rfl, rfl⟩) (congrArg PyData.bool ((alike_eq hms hos).trans hal))).td (opv_neD ((sh_bool (n := 0)).ok (by decide)) ((sh_bool (n := 0)).ok (by decide)))).td) (by simp [PyData.eqv]))
    (jt_orF (jt_B (j_ownEqL (j_var rfl) (j_var rfl) T.nf_list (.inr ⟨n, ms, _, ok1, rfl, rfl⟩)).td)
      (jt_is (jt_B (j_ownEq (j_var rfl) (j_make (ns := nsR) (xs := dsR t []) (ja_cons (j_is (j_op (j_op (j_cb (ja_one (j_op (j_var rfl) j_int.td opv_i0).td) cb_int) j_int.td (opv_i (by omega))) j_int.td opv_i0) (congrArg PyData.int e3)) (ja_cons (jl_lst ja_nil (by show 0 ≤ _; omega)).dd ja_nil))
        fun dx => ⟨dx, .int (t : Nat), .list [], rfl, rfl, rfl, (by intro xs h; cases h; show 0 < sizeLine; rw [sizeLine_eq]; decide), rfl, .inr (.inr ⟨t, [], rfl, rfl, run_nil t4 t5, rfl, rfl⟩)⟩) (.inl ⟨n, ms, t, [], ok1, run_nil t4 t5, rfl, rfl⟩)).td) (by rw [decide_eq_false (fun e => t6 e.symm)]; rfl)))) (fun h => nomatch h) (fun _ => ?_)
  refine s_set [.p (scr K iz), .l a (pool p5), .d (.int (n : Nat)), .d (dMs ms), .d (dMs os), .d (dR n ms), .d (dR n os), .un, .d (.list (iL gs)), .d (.bool al), .d (dR n (ms ++ os)), .un]
    (j_ownCC (j_var rfl) (j_var rfl) ⟨n, ms, n, os, ok1, ok2, rfl, .inr ⟨rfl, by omega, rfl⟩⟩) rfl ?_
  refine s_guard (b := false) (jt_orF (jt_is (jt_B (j_op (y := dMs (ms ++ os)) (jl_ownList (j_var rfl) rfl ⟨n, ms ++ os, ok3, rfl, rfl⟩ (by omega) (by rw [List.length_append, sizeLine_eq]; omega) (by rw [List.length_map, List.length_append, sizeLine_eq]; omega)).dd
      (j_is (jl_cat (J.sdL (j_var rfl)) (J.sdL (j_var rfl)) l3).dd (congrArg PyData.list ecat)).td (opv_neD (sh_Ms.ok (by decide)) (sh_Ms.ok (by decide)))).td) (by rw [eqv_dMs]; rfl))
    (jt_orF (jt_is (jt_B (j_op (y := .tuple ((ms ++ os).map dM)) (j_fld (j_var rfl) T.cl_Run T.na_marks rfl) (j_is (j_tupL (JL.sdL (jl_cat (J.sdL (j_var rfl)) (J.sdL (j_var rfl)) l3))) (congrArg PyData.tuple ecat)).td (opv_neD (sh_Mt.ok (by decide)) (sh_Mt.ok (by decide)))).td) (by rw [eqv_dMt]; rfl))
      (jt_is (jt_B (j_op (j_ownLen (n := ((ms ++ os).length : Nat)) (j_var rfl) ⟨n, ms ++ os, ok3, rfl, rfl⟩ (by omega) (by rw [List.length_append]; omega)) (j_cb (ja_one (jl_cat (J.sdL (j_var rfl)) (J.sdL (j_var rfl)) l3).dd.td) cb_lenL).td (opv_neD (by rfl) (by rfl))).td) (by rw [eqv_int]; simp)))) (fun h => nomatch h) (fun _ => ?_)
  refine s_for (ds := rgD 0 ((n : Nat) : Int).toNat) (ji_rng1 (ja_one (j_var rfl).td) (by omega) (by omega)) [7]
    (fun _ S => ∃ x7, S = [.p (scr K iz), .l a (pool p5), .d (.int (n : Nat)), .d (dMs ms), .d (dMs os), .d (dR n ms), .d (dR n os), x7, .d (.list (iL gs)), .d (.bool al), .d (dR n (ms ++ os)), .un]) ⟨.un, rfl⟩ (fun p d S2 hd hI => ?_) (fun S2 hI => ?_)
  · obtain ⟨x7, rfl⟩ := hI
    obtain ⟨hp, rfl⟩ := range_of hd
    refine ⟨_, jg_name (by simp), ?_⟩
    have hlt : (srcM n os).getD p 0 < 2 ^ n := by
      have g := goodM hos
      have hl : p < (srcM n os).length := by rw [g.1]; exact hp
      have e : (srcM n os).getD p 0 = (srcM n os)[p] := by simp [List.getD, List.getElem?_eq_getElem hl]
      rw [e]
      exact (g.2 _ (List.getElem_mem hl)).2
    refine s_if (b := false) (jt_is (jt_B (j_op (j_meth (x := dL (lotN ((srcM n (ms ++ os)).getD p 0))) (j_var rfl) (ja_cons (j_var rfl) ja_nil) (by decide) ⟨n, ms ++ os, .int (p : Nat), ok3, rfl, rfl, .inr ⟨p, hp, rfl, rfl⟩⟩)
      (j_ownCT (z := dL (lotN (backN (srcM n ms) ((srcM n os).getD p 0)))) (j_var rfl) (j_meth (x := dL (lotN ((srcM n os).getD p 0))) (j_var rfl) (ja_cons (j_var rfl) ja_nil) (by decide) ⟨n, os, .int (p : Nat), ok2, rfl, rfl, .inr ⟨p, hp, rfl, rfl⟩⟩)
        ⟨n, ms, dL (lotN ((srcM n os).getD p 0)), ok1, pl_dL, rfl, .inr ⟨_, maskOf_lot hlt, rfl⟩⟩).td (opv_neD (sh_dL.ok (by decide)) (sh_dL.ok (by decide)))).td) (by rw [app_src hms hos hp, eqv_dL]; simp)) (fun h => nomatch h) (fun _ => st_next ⟨_, rfl⟩)
  · obtain ⟨x7, rfl⟩ := hI
    refine s_guard (b := false) (jt_orF (jt_is (jt_B (j_op (j_prop (j_var rfl) ⟨n, ms ++ os, ok3, rfl, rfl⟩) (j_is (j_call (x := dTL n (ms ++ os)) (ja_cons (j_var rfl) (ja_cons (j_is (jl_cat (J.sdL (j_var rfl)) (J.sdL (j_var rfl)) l3).dd (congrArg PyData.list ecat)) ja_nil)) ⟨n, ms ++ os, h2, h6, oka, ok3.l, rfl, rfl⟩) (dTL_eq oka)).td (opv_neD (sh_dT.ok (by decide)) (sh_dT.ok (by decide)))).td) (by rw [eqv_dT]; simp))
      (jt_is (jt_B (j_op (x := dMs ms) (jl_ownList (j_var rfl) rfl ⟨n, ms, ok1, rfl, rfl⟩ (by omega) (by rw [sizeLine_eq]; omega) (by rw [List.length_map, sizeLine_eq]; omega)).dd (j_var rfl).td (opv_neD (sh_Ms.ok (by decide)) (sh_Ms.ok (by decide)))).td) (by rw [eqv_dMs]; rfl))) (fun h => nomatch h) (fun _ => ?_)
    exact s_retm (x := .bool true) (S' := [.p (scr K iz), .l a (pool (drop5 p5)), .d (.int (n : Nat)), .d (dMs ms), .d (dMs os), .d (dR n ms), .d (dR n os), x7, .d (.list (iL gs)), .d (.bool al), .d (dR n (ms ++ os)), .un]) (j_callM (i := 1) (a := a) (c := pool p5) (c' := pool (drop5 p5)) rfl (ja_cons (j_var rfl) (ja_cons (j_var rfl) (ja_cons (j_var rfl) ja_nil))) rfl ⟨p5, n, ms, gs, ok1, hgl, rfl, rfl, rfl, rfl⟩) (fun v G' H' d => ⟨_, rfl, d⟩)
end
end DL
-- A23
namespace DL
open PySem PySem.Spec PyProof.Rows L2
section
variable {P : Program} {w : World} {K : PySem.W.Frag} {mg : Str → Option Value} {base : Heap}
theorem ok_xinit2 {qual pn f : Str} {st : Stmt} {fa C : Addr} {fd : FuncData} {p1 p2 p3 p4 : Pos} (F : Fun K "__init__" qual st fa fd) (T : OexC K C) (nf : PySem.W.findIn K (.ref C) f = some none)
    (Sc : FnScope ["self", pn] ["self", pn] (defScope st)) (hb : defBody st = [.Assign [.Attribute (.Name "self" p1) f p2] (.Name pn p3) p4]) (h0 : (defScope st).names.lookup ("self" : Str) = some .local) (h1 : (defScope st).names.lookup pn = some .local)
    (hd1 : (pn == ("__debug__" : Str)) = false) (hd2 : (pn == ("__classdict__" : Str)) = false)
    (hs : ∀ (X : Cx) (h : Addr) (cdv : Value) (n : Nat), X.env = envOfC qual (defScope st) n h cdv → swapsWith (.Name pn p3) (some (.Attribute (.Name "self" p1) f p2)) p4.line X.env = pure false) : FnOk P w K mg base CX0 1 fa fd ["self", pn] (spXI C f) := by
  refine F.ok Sc (fun vs H Q E h => ?_) (fun cdv A outer s H vs Q E hr h => ?_)
  · obtain ⟨a, v, rfl, _⟩ := h
    rfl
  · obtain ⟨a, v, rfl, ha, k⟩ := h
    rw [hb]
    refine ⟨_, pss_one (ps_ost (pe_var (i := 0) rfl (.inl h0)) (pe_var (i := 1) rfl (.inl h1) hd1 hd2) (hs _ _ _ _ rfl)), ?_⟩
    exact ⟨v, rfl, .ref a, rfl, a, C, rfl, T, nf, .inl ⟨ha, fun dx hdx hne => k dx hdx hne⟩⟩
abbrev s_BadNumber___init__ : Stmt := mem (top 3) 0
theorem sc_BadNumber___init__ : FnScope ["self", "name"] ["self", "name"] (defScope s_BadNumber___init__) := ⟨rfl, rfl, rfl, by decide +kernel, rfl, by decide +kernel, by decide +kernel⟩
theorem ok_BadNumber (hG : mg "BadNumber" = some (.ref (He.ga K "BadNumber"))) (ho : OexC K (He.ga K "BadNumber")) (nf : PySem.W.findIn K (.ref (He.ga K "BadNumber")) "name" = some none) (hF : ∃ f fd, PySem.W.findIn K (.ref (He.ga K "BadNumber")) "__init__" = some (some (.ref f)) ∧ PySem.W.typeIn K (.ref f) = some (.type "function") ∧ L2.Fun K "__init__" "BadNumber.__init__" s_BadNumber___init__ f fd) :
    EO P w K mg base "BadNumber" "name" "name" := by
  obtain ⟨f, fd, h1, h2, F⟩ := hF
  exact ⟨hG, ho, f, fd, h1, h2, ok_xinit2 F ho nf sc_BadNumber___init__ rfl rfl rfl (by decide) (by decide) (fun X h cdv n e => by rw [e]; rfl), binds_of F (fun _ _ _ _ _ _ us hl => match us, hl with | [_, _], _ => rfl)⟩
abbrev s_BadPlace___init__ : Stmt := mem (top 4) 0
theorem sc_BadPlace___init__ : FnScope ["self", "place"] ["self", "place"] (defScope s_BadPlace___init__) := ⟨rfl, rfl, rfl, by decide +kernel, rfl, by decide +kernel, by decide +kernel⟩
theorem ok_BadPlace (hG : mg "BadPlace" = some (.ref (He.ga K "BadPlace"))) (ho : OexC K (He.ga K "BadPlace")) (nf : PySem.W.findIn K (.ref (He.ga K "BadPlace")) "place" = some none) (hF : ∃ f fd, PySem.W.findIn K (.ref (He.ga K "BadPlace")) "__init__" = some (some (.ref f)) ∧ PySem.W.typeIn K (.ref f) = some (.type "function") ∧ L2.Fun K "__init__" "BadPlace.__init__" s_BadPlace___init__ f fd) :
    EO P w K mg base "BadPlace" "place" "place" := by
  obtain ⟨f, fd, h1, h2, F⟩ := hF
  exact ⟨hG, ho, f, fd, h1, h2, ok_xinit2 F ho nf sc_BadPlace___init__ rfl rfl rfl (by decide) (by decide) (fun X h cdv n e => by rw [e]; rfl), binds_of F (fun _ _ _ _ _ _ us hl => match us, hl with | [_, _], _ => rfl)⟩
abbrev s_BadLot___init__ : Stmt := mem (top 5) 0
theorem sc_BadLot___init__ : FnScope ["self", "place"] ["self", "place"] (defScope s_BadLot___init__) := ⟨rfl, rfl, rfl, by decide +kernel, rfl, by decide +kernel, by decide +kernel⟩
theorem ok_BadLot (hG : mg "BadLot" = some (.ref (He.ga K "BadLot"))) (ho : OexC K (He.ga K "BadLot")) (nf : PySem.W.findIn K (.ref (He.ga K "BadLot")) "place" = some none) (hF : ∃ f fd, PySem.W.findIn K (.ref (He.ga K "BadLot")) "__init__" = some (some (.ref f)) ∧ PySem.W.typeIn K (.ref f) = some (.type "function") ∧ L2.Fun K "__init__" "BadLot.__init__" s_BadLot___init__ f fd) :
    EO P w K mg base "BadLot" "place" "place" := by
  obtain ⟨f, fd, h1, h2, F⟩ := hF
  exact ⟨hG, ho, f, fd, h1, h2, ok_xinit2 F ho nf sc_BadLot___init__ rfl rfl rfl (by decide) (by decide) (fun X h cdv n e => by rw [e]; rfl), binds_of F (fun _ _ _ _ _ _ us hl => match us, hl with | [_, _], _ => rfl)⟩
abbrev s_BadGrades___init__ : Stmt := mem (top 6) 0
theorem sc_BadGrades___init__ : FnScope ["self", "at"] ["self", "at"] (defScope s_BadGrades___init__) := ⟨rfl, rfl, rfl, by decide +kernel, rfl, by decide +kernel, by decide +kernel⟩
theorem ok_BadGrades (hG : mg "BadGrades" = some (.ref (He.ga K "BadGrades"))) (ho : OexC K (He.ga K "BadGrades")) (nf : PySem.W.findIn K (.ref (He.ga K "BadGrades")) "at" = some none) (hF : ∃ f fd, PySem.W.findIn K (.ref (He.ga K "BadGrades")) "__init__" = some (some (.ref f)) ∧ PySem.W.typeIn K (.ref f) = some (.type "function") ∧ L2.Fun K "__init__" "BadGrades.__init__" s_BadGrades___init__ f fd) :
    EO P w K mg base "BadGrades" "at" "at" := by
  obtain ⟨f, fd, h1, h2, F⟩ := hF
  exact ⟨hG, ho, f, fd, h1, h2, ok_xinit2 F ho nf sc_BadGrades___init__ rfl rfl rfl (by decide) (by decide) (fun X h cdv n e => by rw [e]; rfl), binds_of F (fun _ _ _ _ _ _ us hl => match us, hl with | [_, _], _ => rfl)⟩
abbrev s_BadMark___init__ : Stmt := mem (top 7) 0
theorem sc_BadMark___init__ : FnScope ["self", "at"] ["self", "at"] (defScope s_BadMark___init__) := ⟨rfl, rfl, rfl, by decide +kernel, rfl, by decide +kernel, by decide +kernel⟩
theorem ok_BadMark (hG : mg "BadMark" = some (.ref (He.ga K "BadMark"))) (ho : OexC K (He.ga K "BadMark")) (nf : PySem.W.findIn K (.ref (He.ga K "BadMark")) "at" = some none) (hF : ∃ f fd, PySem.W.findIn K (.ref (He.ga K "BadMark")) "__init__" = some (some (.ref f)) ∧ PySem.W.typeIn K (.ref f) = some (.type "function") ∧ L2.Fun K "__init__" "BadMark.__init__" s_BadMark___init__ f fd) :
    EO P w K mg base "BadMark" "at" "at" := by
  obtain ⟨f, fd, h1, h2, F⟩ := hF
  exact ⟨hG, ho, f, fd, h1, h2, ok_xinit2 F ho nf sc_BadMark___init__ rfl rfl rfl (by decide) (by decide) (fun X h cdv n e => by rw [e]; rfl), binds_of F (fun _ _ _ _ _ _ us hl => match us, hl with | [_, _], _ => rfl)⟩
abbrev s_OtherSize___init__ : Stmt := mem (top 8) 0
theorem sc_OtherSize___init__ : FnScope ["self", "size"] ["self", "size"] (defScope s_OtherSize___init__) := ⟨rfl, rfl, rfl, by decide +kernel, rfl, by decide +kernel, by decide +kernel⟩
theorem ok_OtherSize (hG : mg "OtherSize" = some (.ref (He.ga K "OtherSize"))) (ho : OexC K (He.ga K "OtherSize")) (nf : PySem.W.findIn K (.ref (He.ga K "OtherSize")) "size" = some none) (hF : ∃ f fd, PySem.W.findIn K (.ref (He.ga K "OtherSize")) "__init__" = some (some (.ref f)) ∧ PySem.W.typeIn K (.ref f) = some (.type "function") ∧ L2.Fun K "__init__" "OtherSize.__init__" s_OtherSize___init__ f fd) :
    EO P w K mg base "OtherSize" "size" "size" := by
  obtain ⟨f, fd, h1, h2, F⟩ := hF
  exact ⟨hG, ho, f, fd, h1, h2, ok_xinit2 F ho nf sc_OtherSize___init__ rfl rfl rfl (by decide) (by decide) (fun X h cdv n e => by rw [e]; rfl), binds_of F (fun _ _ _ _ _ _ us hl => match us, hl with | [_, _], _ => rfl)⟩
end
end DL
-- A24
namespace DL
open PySem PySem.Spec PyProof.Rows L2
structure Fx (mg : Str → Option Value) (K : PySem.W.Frag) : Prop where
  gl : GlX mg K
  hF_is_whole : ∃ fd, L2.Fun K "is_whole" "is_whole" s_is_whole (He.ga K "is_whole") fd
  hG_is_whole : mg "is_whole" = some (.ref (He.ga K "is_whole"))
  hF_is_between : ∃ fd, L2.Fun K "is_between" "is_between" s_is_between (He.ga K "is_between") fd
  hG_is_between : mg "is_between" = some (.ref (He.ga K "is_between"))
  hF_is_row : ∃ fd, L2.Fun K "is_row" "is_row" s_is_row (He.ga K "is_row") fd
  hG_is_row : mg "is_row" = some (.ref (He.ga K "is_row"))
  hF_mark_of : ∃ fd, L2.Fun K "mark_of" "mark_of" s_mark_of (He.ga K "mark_of") fd
  hG_mark_of : mg "mark_of" = some (.ref (He.ga K "mark_of"))
  hF_after_mark : ∃ fd, L2.Fun K "after_mark" "after_mark" s_after_mark (He.ga K "after_mark") fd
  hG_after_mark : mg "after_mark" = some (.ref (He.ga K "after_mark"))
  hF_lot_in : ∃ fd, L2.Fun K "lot_in" "lot_in" s_lot_in (He.ga K "lot_in") fd
  hG_lot_in : mg "lot_in" = some (.ref (He.ga K "lot_in"))
  hF_source_masks : ∃ fd, L2.Fun K "source_masks" "source_masks" s_source_masks (He.ga K "source_masks") fd
  hG_source_masks : mg "source_masks" = some (.ref (He.ga K "source_masks"))
  hC_Run_table : Cls K (He.ga K "Run")
  hF_Run_table : ∃ p f fd, PropOf K (He.ga K "Run") "table" p f ∧ L2.Fun K "table" "Run.table" s_Run_table f fd
  hS_Run___eq__ : PySem.W.selfFirst K (He.ga K "Run") = true
  hF_Run___eq__ : ∃ f fd, PySem.W.findIn K (.ref (He.ga K "Run")) "__eq__" = some (some (.ref f)) ∧ PySem.W.isFn K (.ref f) = true ∧ L2.Fun K "__eq__" "Run.__eq__" s_Run___eq__ f fd
  hF_Run___len__ : ∃ f fd, PySem.W.findIn K (.ref (He.ga K "Run")) "__len__" = some (some (.ref f)) ∧ PySem.W.isFn K (.ref f) = true ∧ L2.Fun K "__len__" "Run.__len__" s_Run___len__ f fd
  hF__law_pick : ∃ fd, L2.Fun K "_law_pick" "_law_pick" s__law_pick (He.ga K "_law_pick") fd
  hG__law_pick : mg "_law_pick" = some (.ref (He.ga K "_law_pick"))
  hF__law_lots : ∃ fd, L2.Fun K "_law_lots" "_law_lots" s__law_lots (He.ga K "_law_lots") fd
  hG__law_lots : mg "_law_lots" = some (.ref (He.ga K "_law_lots"))
  hF__law_do : ∃ fd, L2.Fun K "_law_do" "_law_do" s__law_do (He.ga K "_law_do") fd
  hG__law_do : mg "_law_do" = some (.ref (He.ga K "_law_do"))
  hF__law_back : ∃ fd, L2.Fun K "_law_back" "_law_back" s__law_back (He.ga K "_law_back") fd
  hG__law_back : mg "_law_back" = some (.ref (He.ga K "_law_back"))
  hF__law_any_marks : ∃ fd, L2.Fun K "_law_any_marks" "_law_any_marks" s__law_any_marks (He.ga K "_law_any_marks") fd
  hG__law_any_marks : mg "_law_any_marks" = some (.ref (He.ga K "_law_any_marks"))
  hF__law_table_of : ∃ fd, L2.Fun K "_law_table_of" "_law_table_of" s__law_table_of (He.ga K "_law_table_of") fd
  hG__law_table_of : mg "_law_table_of" = some (.ref (He.ga K "_law_table_of"))
  hF__law_starts_alike : ∃ fd, L2.Fun K "_law_starts_alike" "_law_starts_alike" s__law_starts_alike (He.ga K "_law_starts_alike") fd
  hG__law_starts_alike : mg "_law_starts_alike" = some (.ref (He.ga K "_law_starts_alike"))
  hF__law_second : ∃ fd, L2.Fun K "_law_second" "_law_second" s__law_second (He.ga K "_law_second") fd
  hG__law_second : mg "_law_second" = some (.ref (He.ga K "_law_second"))
  hF__law_pool : ∃ fd, L2.Fun K "_law_pool" "_law_pool" s__law_pool (He.ga K "_law_pool") fd
  hG__law_pool : mg "_law_pool" = some (.ref (He.ga K "_law_pool"))
  hF_Run___iter__ : ∃ f fd, PySem.W.findIn K (.ref (He.ga K "Run")) "__iter__" = some (some (.ref f)) ∧ PySem.W.isFn K (.ref f) = true ∧ L2.Fun K "__iter__" "Run.__iter__" s_Run___iter__ f fd
  hG_BadNumber : mg "BadNumber" = some (.ref (He.ga K "BadNumber"))
  ho_BadNumber : OexC K (He.ga K "BadNumber")
  nf_BadNumber : PySem.W.findIn K (.ref (He.ga K "BadNumber")) "name" = some none
  hF_BadNumber : ∃ f fd, PySem.W.findIn K (.ref (He.ga K "BadNumber")) "__init__" = some (some (.ref f)) ∧ PySem.W.typeIn K (.ref f) = some (.type "function") ∧ L2.Fun K "__init__" "BadNumber.__init__" s_BadNumber___init__ f fd
  hG_BadPlace : mg "BadPlace" = some (.ref (He.ga K "BadPlace"))
  ho_BadPlace : OexC K (He.ga K "BadPlace")
  nf_BadPlace : PySem.W.findIn K (.ref (He.ga K "BadPlace")) "place" = some none
  hF_BadPlace : ∃ f fd, PySem.W.findIn K (.ref (He.ga K "BadPlace")) "__init__" = some (some (.ref f)) ∧ PySem.W.typeIn K (.ref f) = some (.type "function") ∧ L2.Fun K "__init__" "BadPlace.__init__" s_BadPlace___init__ f fd
  hG_BadLot : mg "BadLot" = some (.ref (He.ga K "BadLot"))
  ho_BadLot : OexC K (He.ga K "BadLot")
  nf_BadLot : PySem.W.findIn K (.ref (He.ga K "BadLot")) "place" = some none
  hF_BadLot : ∃ f fd, PySem.W.findIn K (.ref (He.ga K "BadLot")) "__init__" = some (some (.ref f)) ∧ PySem.W.typeIn K (.ref f) = some (.type "function") ∧ L2.Fun K "__init__" "BadLot.__init__" s_BadLot___init__ f fd
  hG_BadGrades : mg "BadGrades" = some (.ref (He.ga K "BadGrades"))
  ho_BadGrades : OexC K (He.ga K "BadGrades")
  nf_BadGrades : PySem.W.findIn K (.ref (He.ga K "BadGrades")) "at" = some none
  hF_BadGrades : ∃ f fd, PySem.W.findIn K (.ref (He.ga K "BadGrades")) "__init__" = some (some (.ref f)) ∧ PySem.W.typeIn K (.ref f) = some (.type "function") ∧ L2.Fun K "__init__" "BadGrades.__init__" s_BadGrades___init__ f fd
  hG_BadMark : mg "BadMark" = some (.ref (He.ga K "BadMark"))
  ho_BadMark : OexC K (He.ga K "BadMark")
  nf_BadMark : PySem.W.findIn K (.ref (He.ga K "BadMark")) "at" = some none
  hF_BadMark : ∃ f fd, PySem.W.findIn K (.ref (He.ga K "BadMark")) "__init__" = some (some (.ref f)) ∧ PySem.W.typeIn K (.ref f) = some (.type "function") ∧ L2.Fun K "__init__" "BadMark.__init__" s_BadMark___init__ f fd
  hG_OtherSize : mg "OtherSize" = some (.ref (He.ga K "OtherSize"))
  ho_OtherSize : OexC K (He.ga K "OtherSize")
  nf_OtherSize : PySem.W.findIn K (.ref (He.ga K "OtherSize")) "size" = some none
  hF_OtherSize : ∃ f fd, PySem.W.findIn K (.ref (He.ga K "OtherSize")) "__init__" = some (some (.ref f)) ∧ PySem.W.typeIn K (.ref f) = some (.type "function") ∧ L2.Fun K "__init__" "OtherSize.__init__" s_OtherSize___init__ f fd
  hF_ask_number : ∃ fd, L2.Fun K "ask_number" "ask_number" s_ask_number (He.ga K "ask_number") fd
  hG_ask_number : mg "ask_number" = some (.ref (He.ga K "ask_number"))
  hF_ask_place : ∃ fd, L2.Fun K "ask_place" "ask_place" s_ask_place (He.ga K "ask_place") fd
  hG_ask_place : mg "ask_place" = some (.ref (He.ga K "ask_place"))
  hF_marks_of : ∃ fd, L2.Fun K "marks_of" "marks_of" s_marks_of (He.ga K "marks_of") fd
  hG_marks_of : mg "marks_of" = some (.ref (He.ga K "marks_of"))
  hF_grades_of : ∃ fd, L2.Fun K "grades_of" "grades_of" s_grades_of (He.ga K "grades_of") fd
  hG_grades_of : mg "grades_of" = some (.ref (He.ga K "grades_of"))
  hF_world_grades : ∃ fd, L2.Fun K "world_grades" "world_grades" s_world_grades (He.ga K "world_grades") fd
  hG_world_grades : mg "world_grades" = some (.ref (He.ga K "world_grades"))
  hF_end_grades : ∃ fd, L2.Fun K "end_grades" "end_grades" s_end_grades (He.ga K "end_grades") fd
  hG_end_grades : mg "end_grades" = some (.ref (He.ga K "end_grades"))
  hF_states : ∃ fd, L2.Fun K "states" "states" s_states (He.ga K "states") fd
  hG_states : mg "states" = some (.ref (He.ga K "states"))
  hF_effective : ∃ fd, L2.Fun K "effective" "effective" s_effective (He.ga K "effective") fd
  hG_effective : mg "effective" = some (.ref (He.ga K "effective"))
  hF_mask_of : ∃ fd, L2.Fun K "mask_of" "mask_of" s_mask_of (He.ga K "mask_of") fd
  hG_mask_of : mg "mask_of" = some (.ref (He.ga K "mask_of"))
  hG_Run___init__ : mg "Run" = some (.ref (He.ga K "Run"))
  hF_Run___init__ : ∃ f fd, Mk K (He.ga K "Run") f ∧ L2.Fun K "__init__" "Run.__init__" s_Run___init__ f fd
  hF_Run_back : ∃ f fd, Meth K (He.ga K "Run") "back" f ∧ L2.Fun K "back" "Run.back" s_Run_back f fd
  hF_Run_sources : ∃ f fd, Meth K (He.ga K "Run") "sources" f ∧ L2.Fun K "sources" "Run.sources" s_Run_sources f fd
  hF_Run_ends : ∃ f fd, Meth K (He.ga K "Run") "ends" f ∧ L2.Fun K "ends" "Run.ends" s_Run_ends f fd
  hF_Run___add__ : ∃ f fd, PySem.W.findIn K (.ref (He.ga K "Run")) "__add__" = some (some (.ref f)) ∧ PySem.W.isFn K (.ref f) = true ∧ L2.Fun K "__add__" "Run.__add__" s_Run___add__ f fd
  hF_Run___and__ : ∃ f fd, PySem.W.findIn K (.ref (He.ga K "Run")) "__and__" = some (some (.ref f)) ∧ PySem.W.isFn K (.ref f) = true ∧ L2.Fun K "__and__" "Run.__and__" s_Run___and__ f fd
  hF__law_ends_right : ∃ fd, L2.Fun K "_law_ends_right" "_law_ends_right" s__law_ends_right (He.ga K "_law_ends_right") fd
  hG__law_ends_right : mg "_law_ends_right" = some (.ref (He.ga K "_law_ends_right"))
  hF__law_effects_right : ∃ fd, L2.Fun K "_law_effects_right" "_law_effects_right" s__law_effects_right (He.ga K "_law_effects_right") fd
  hG__law_effects_right : mg "_law_effects_right" = some (.ref (He.ga K "_law_effects_right"))
  hF__law_refused : ∃ fd, L2.Fun K "_law_refused" "_law_refused" s__law_refused (He.ga K "_law_refused") fd
  hG__law_refused : mg "_law_refused" = some (.ref (He.ga K "_law_refused"))
  hF__law_doors : ∃ fd, L2.Fun K "_law_doors" "_law_doors" s__law_doors (He.ga K "_law_doors") fd
  hG__law_doors : mg "_law_doors" = some (.ref (He.ga K "_law_doors"))
theorem all_law {P : Program} {w : World} {K : PySem.W.Frag} {mg : Str → Option Value} {base : Heap} (X : Fx mg K) (fd : FuncData) (F : L2.Fun K "law" "law" s_law (He.ga K "law") fd) : FnOk P w K mg base (L2.CX P w) 12 (He.ga K "law") fd ["_law_script"] (spP K R_law) := by
  have z_is_whole : FO P w K mg base "is_whole" 1 ["value"] (spD K R_is_whole) := ok_is_whole X.gl X.hF_is_whole X.hG_is_whole
  have z_is_between : FO P w K mg base "is_between" 2 ["value", "low", "high"] (spD K R_is_between) := ok_is_between X.gl X.hF_is_between X.hG_is_between z_is_whole
  have z_is_row : FO P w K mg base "is_row" 1 ["value"] (spD K R_is_row) := ok_is_row X.gl X.hF_is_row X.hG_is_row
  have z_mark_of : FO P w K mg base "mark_of" 3 ["value", "size"] (spD K R_mark_of) := ok_mark_of X.gl X.hF_mark_of X.hG_mark_of z_is_between z_is_row
  have z_after_mark : FO P w K mg base "after_mark" 1 ["grades", "mark"] (spD K R_after_mark) := ok_after_mark X.gl X.hF_after_mark X.hG_after_mark
  have z_lot_in : FO P w K mg base "lot_in" 1 ["mask"] (spD K R_lot_in) := ok_lot_in X.gl X.hF_lot_in X.hG_lot_in
  have z_source_masks : FO P w K mg base "source_masks" 1 ["size", "marks"] (spD K R_source_masks) := ok_source_masks X.gl X.hF_source_masks X.hG_source_masks
  have z_Run_table : PO P w K mg base "Run" "table" 2 (spD K R_table) := ok_Run_table X.gl X.hC_Run_table X.hF_Run_table z_lot_in
  have z_Run___eq__ : SO P w K mg base "Run" "__eq__" 1 ["self", "other"] (spD K R_eq) := ok_Run___eq__ X.gl X.hS_Run___eq__ X.hF_Run___eq__
  have z_Run___len__ : SO P w K mg base "Run" "__len__" 1 ["self"] (spD K R_len) := ok_Run___len__ X.gl X.hS_Run___eq__ X.hF_Run___len__
  have z__law_pick : FO P w K mg base "_law_pick" 1 ["_law_pool_here", "_law_many"] (spM K R_pick) := ok__law_pick X.gl X.hF__law_pick X.hG__law_pick
  have z__law_lots : FO P w K mg base "_law_lots" 1 ["_law_size"] (spD K R_lots) := ok__law_lots X.gl X.hF__law_lots X.hG__law_lots
  have z__law_do : FO P w K mg base "_law_do" 1 ["_law_grades", "_law_marks"] (spD K R_do) := ok__law_do X.gl X.hF__law_do X.hG__law_do
  have z__law_back : FO P w K mg base "_law_back" 1 ["_law_lot", "_law_marks"] (spD K R_backL) := ok__law_back X.gl X.hF__law_back X.hG__law_back
  have z__law_any_marks : FO P w K mg base "_law_any_marks" 2 ["_law_pool_here", "_law_size", "_law_many"] (spM K R_any) := ok__law_any_marks X.gl X.hF__law_any_marks X.hG__law_any_marks z__law_pick
  have z__law_table_of : FO P w K mg base "_law_table_of" 2 ["_law_size", "_law_marks"] (spD K R_tabL) := ok__law_table_of X.gl X.hF__law_table_of X.hG__law_table_of z__law_back
  have z__law_starts_alike : FO P w K mg base "_law_starts_alike" 2 ["_law_size", "_law_marks", "_law_others"] (spD K R_alike) := ok__law_starts_alike X.gl X.hF__law_starts_alike X.hG__law_starts_alike z__law_lots z__law_do
  have z__law_second : FO P w K mg base "_law_second" 3 ["_law_pool_here", "_law_size", "_law_marks"] (spM K R_second) := ok__law_second X.gl X.hF__law_second X.hG__law_second z__law_pick z__law_any_marks
  have z__law_pool : FO P w K mg base "_law_pool" 1 ["_law_script"] (spNLP K R_pool) := ok__law_pool X.gl X.hF__law_pool X.hG__law_pool
  have z_Run___iter__ : SO P w K mg base "Run" "__iter__" 1 ["self"] (spIt K (He.ga K "Run") "marks") := ok_Run___iter__ X.gl X.hS_Run___eq__ X.hF_Run___iter__
  have z_BadNumber : EO P w K mg base "BadNumber" "name" "name" := ok_BadNumber X.hG_BadNumber X.ho_BadNumber X.nf_BadNumber X.hF_BadNumber
  have z_BadPlace : EO P w K mg base "BadPlace" "place" "place" := ok_BadPlace X.hG_BadPlace X.ho_BadPlace X.nf_BadPlace X.hF_BadPlace
  have z_BadLot : EO P w K mg base "BadLot" "place" "place" := ok_BadLot X.hG_BadLot X.ho_BadLot X.nf_BadLot X.hF_BadLot
  have z_BadGrades : EO P w K mg base "BadGrades" "at" "at" := ok_BadGrades X.hG_BadGrades X.ho_BadGrades X.nf_BadGrades X.hF_BadGrades
  have z_BadMark : EO P w K mg base "BadMark" "at" "at" := ok_BadMark X.hG_BadMark X.ho_BadMark X.nf_BadMark X.hF_BadMark
  have z_OtherSize : EO P w K mg base "OtherSize" "size" "size" := ok_OtherSize X.hG_OtherSize X.ho_OtherSize X.nf_OtherSize X.hF_OtherSize
  have z_ask_number : FO P w K mg base "ask_number" 3 ["value", "name", "low", "high"] (spD K R_ask_number) := ok_ask_number X.gl X.hF_ask_number X.hG_ask_number z_is_between z_BadNumber
  have z_ask_place : FO P w K mg base "ask_place" 3 ["value", "size"] (spD K R_ask_place) := ok_ask_place X.gl X.hF_ask_place X.hG_ask_place z_is_between z_BadPlace
  have z_marks_of : FO P w K mg base "marks_of" 4 ["marks", "size"] (spD K R_marks_of) := ok_marks_of X.gl X.hF_marks_of X.hG_marks_of z_BadMark z_mark_of z_is_row
  have z_grades_of : FO P w K mg base "grades_of" 3 ["value", "size"] (spD K R_grades_of) := ok_grades_of X.gl X.hF_grades_of X.hG_grades_of z_is_whole z_BadGrades z_is_row
  have z_world_grades : FO P w K mg base "world_grades" 4 ["value"] (spD K R_world_grades) := ok_world_grades X.gl X.hF_world_grades X.hG_world_grades z_grades_of z_is_row z_BadGrades
  have z_end_grades : FO P w K mg base "end_grades" 5 ["grades", "marks"] (spD K R_end_grades) := ok_end_grades X.gl X.hF_end_grades X.hG_end_grades z_marks_of z_after_mark z_world_grades
  have z_states : GO P w K mg base "states" 5 ["grades", "marks"] (spGD K R_states) := ok_states X.gl X.hF_states X.hG_states z_after_mark z_marks_of z_world_grades
  have z_effective : FO P w K mg base "effective" 9 ["grades", "marks"] (spD K R_effective) := ok_effective X.gl X.hF_effective X.hG_effective z_states
  have z_mask_of : FO P w K mg base "mask_of" 3 ["value", "size"] (spD K R_mask_of) := ok_mask_of X.gl X.hF_mask_of X.hG_mask_of z_is_between z_BadLot z_is_row
  have z_Run___init__ : CO P w K mg base "Run" 5 ["self", "size", "marks"] (spM K R_Run) := ok_Run___init__ X.gl X.hG_Run___init__ X.hF_Run___init__ z_source_masks z_marks_of z_ask_number
  have z_Run_back : MO P w K mg base "Run" "back" 4 ["self", "lot"] (spD K R_back) := ok_Run_back X.gl X.hC_Run_table X.hF_Run_back z_lot_in z_mask_of
  have z_Run_sources : MO P w K mg base "Run" "sources" 4 ["self", "place"] (spD K R_sources) := ok_Run_sources X.gl X.hC_Run_table X.hF_Run_sources z_lot_in z_ask_place
  have z_Run_ends : MO P w K mg base "Run" "ends" 4 ["self", "grades"] (spD K R_ends) := ok_Run_ends X.gl X.hC_Run_table X.hF_Run_ends z_lot_in z_grades_of
  have z_Run___add__ : SO P w K mg base "Run" "__add__" 7 ["self", "other"] (spD K R_add) := ok_Run___add__ X.gl X.hS_Run___eq__ X.hF_Run___add__ z_Run___init__ z_OtherSize
  have z_Run___and__ : SO P w K mg base "Run" "__and__" 5 ["self", "other"] (spD K R_back) := ok_Run___and__ X.gl X.hS_Run___eq__ X.hF_Run___and__ z_Run_back
  have z__law_ends_right : FO P w K mg base "_law_ends_right" 6 ["_law_size", "_law_marks", "_law_run", "_law_grades"] (spD K R_endsR) := ok__law_ends_right X.gl X.hF__law_ends_right X.hG__law_ends_right z__law_do z_end_grades z__law_back z_Run_sources z_Run_ends
  have z__law_effects_right : FO P w K mg base "_law_effects_right" 10 ["_law_marks", "_law_grades"] (spD K R_effR) := ok__law_effects_right X.gl X.hF__law_effects_right X.hG__law_effects_right z_effective z__law_do
  have z__law_refused : FO P w K mg base "_law_refused" 8 ["_law_run", "_law_door", "_law_value"] (spD K R_refused) := ok__law_refused X.gl X.hF__law_refused X.hG__law_refused z_Run___len__ z_Run_sources z_Run_ends z_Run___add__ z_Run___init__
  have z__law_doors : FO P w K mg base "_law_doors" 9 ["_law_pool_here", "_law_run", "_law_size", "_law_grades"] (spM K R_doors) := ok__law_doors X.gl X.hF__law_doors X.hG__law_doors z__law_refused z__law_pick z_Run___init__
  have z_law : FnOk P w K mg base (L2.CX P w) 12 (He.ga K "law") fd ["_law_script"] (spP K R_law) := ok_law X.gl fd F z_Run___eq__ z_Run___len__ z_Run___iter__ z__law_doors z_Run_table z__law_table_of z_Run_sources z_Run___and__ z_Run___add__ z_Run___init__ z__law_starts_alike z__law_effects_right z__law_ends_right z__law_pick z__law_second z__law_any_marks z__law_pool
  exact z_law
end DL
-- DK
namespace DL
open PySem PySem.Spec PyProof.Rows L2
theorem b2 {a b : Bool} (h : (a && b) = true) : a = true ∧ b = true := by
  cases a <;> cases b <;> first | exact ⟨rfl, rfl⟩ | cases h
def oexB (K : PySem.W.Frag) (C : Addr) : Bool := (match K.lookup C with
  | some ⟨.type t, _, .cls cd, sl⟩ => (match cd.mro, sl.toList with
    | .ref c :: bm, [_, _, _, _, some (.builtin n), _] => decide (t = "type") && (decide (c = C) && (PySem.HandSPX.refsVE bm && (cd.hasDict && (!cd.hasDel && decide (n = "ValueError.__new__")))))
    | _, _ => false)
  | _ => false) && (decide (PySem.W.findIn K (.ref C) "__setattr__" = some (some (.builtin "object.__setattr__"))) && (decide (PySem.W.subIn K (.ref C) (.type "BaseException") = some true) && (decide (PySem.W.typeIn K (.ref C) = some (.type "type")) && PySem.W.keepIn K (.ref C))))
theorem oexB_ok {K : PySem.W.Frag} {C : Addr} (h : oexB K C = true) : OexC K C := by
  obtain ⟨h0, h⟩ := b2 h
  obtain ⟨h1, h⟩ := b2 h
  obtain ⟨h2, h⟩ := b2 h
  obtain ⟨h3, h4⟩ := b2 h
  refine ⟨?_, of_decide_eq_true h1, of_decide_eq_true h2, of_decide_eq_true h3, h4⟩
  split at h0
  · rename_i t dd cd sl hl
    split at h0
    · rename_i c bm k0 k1 k2 k3 n k5 hm hs
      obtain ⟨a1, h0⟩ := b2 h0
      obtain ⟨a2, h0⟩ := b2 h0
      obtain ⟨a3, h0⟩ := b2 h0
      obtain ⟨a4, h0⟩ := b2 h0
      obtain ⟨a5, a6⟩ := b2 h0
      have e1 := of_decide_eq_true a1
      have e2 := of_decide_eq_true a2
      have e6 := of_decide_eq_true a6
      obtain ⟨f1, f2, f3, f4, f5, f6, f7, f8, f9, f10, f11⟩ := cd
      obtain ⟨sl⟩ := sl
      dsimp only at hm hs a4 a5
      subst hm hs e1 e2 e6
      cases f11 with
      | true => cases a5
      | false =>
        subst a4
        exact ⟨f1, f5, f4, f2, bm, f7, f8, f9, f10, dd, k0, k1, k2, k3, k5, hl, a3⟩
    · cases h0
  · cases h0
def excB (K : PySem.W.Frag) (D : Addr) : Bool := decide (PySem.W.findIn K (.ref D) "__getattribute__" = some (some (.builtin "BaseException.__getattribute__"))) && (decide (PySem.W.findIn K (.ref D) "__getattr__" = some none) && (decide (PySem.W.subIn K (.ref D) (.type "BaseException") = some true) &&
  (PySem.W.hasDictIn K D && (decide (PySem.W.findIn K (.ref D) "__class__" = some (some (.builtin "object.__class__"))) && (decide (PySem.W.specialIn K (.builtin "object.__class__") "__get__" = some (some (.builtin "getset_descriptor.__get__"))) &&
  (decide (PySem.W.takesIn K (.builtin "object.__class__") = some true) && decide (PySem.W.mroIn K D (.type "object") = some true)))))))
theorem excB_ok {K : PySem.W.Frag} {D : Addr} (h : excB K D = true) : L2.ExcC K D := by
  obtain ⟨h1, h⟩ := b2 h
  obtain ⟨h2, h⟩ := b2 h
  obtain ⟨h3, h⟩ := b2 h
  obtain ⟨h4, h⟩ := b2 h
  obtain ⟨h5, h⟩ := b2 h
  obtain ⟨h6, h⟩ := b2 h
  obtain ⟨h7, h8⟩ := b2 h
  exact ⟨of_decide_eq_true h1, of_decide_eq_true h2, of_decide_eq_true h3, h4, of_decide_eq_true h5, of_decide_eq_true h6, of_decide_eq_true h7, of_decide_eq_true h8⟩
def clsTB (K : PySem.W.Frag) (C : Str) : Bool := (He.Fa.cls C).ok K && (decide (W.findIn K (.ref (He.ga K C)) (Str.ofString "__class__") = some (some (.builtin "object.__class__"))) && (decide (W.specialIn K (.builtin "object.__class__") (Str.ofString "__get__") = some (some (.builtin "getset_descriptor.__get__"))) &&
  (decide (W.takesIn K (.builtin "object.__class__") = some true) && decide (W.mroIn K (He.ga K C) (.type "object") = some true))))
theorem clsTB_ok {K : PySem.W.Frag} {C : Str} (h : clsTB K C = true) : ClsT K C := by
  obtain ⟨h0, h⟩ := b2 h
  obtain ⟨h1, h⟩ := b2 h
  obtain ⟨h2, h⟩ := b2 h
  obtain ⟨h3, h4⟩ := b2 h
  exact ⟨He.cls_ok h0, of_decide_eq_true h1, of_decide_eq_true h2, of_decide_eq_true h3, of_decide_eq_true h4⟩
structure PrD where
  cls : Str
  nm : Str
  d : He.DefD
def PrD.pa (K : PySem.W.Frag) (p : PrD) : Addr := He.ma K (He.ga K p.cls) p.nm
def PrD.ga (K : PySem.W.Frag) (p : PrD) : Addr := match PySem.W.recIn K (p.pa K) "property" with
  | some (.ref g :: _) => g
  | _ => 0
def codeAt (K : PySem.W.Frag) (a : Addr) : He.FnW := match K.lookup a with
  | some ob => (match ob.data with
    | .func u => some (u.name, u.qualname, u.params, u.body, u.scope, u.globals, u.closure, u.builtins)
    | _ => none)
  | none => none
def restAt (K : PySem.W.Frag) (a : Addr) (d : He.DefD) : Bool := PySem.W.keepIn K (.ref a) && (match K.lookup a with
  | some ob => (match ob.data with
    | .func u => PySem.W.codeIn K u.code d.qual && (He.dflB K u.defaults (d.dvs K) && He.kwdB K u.kwdefaults (d.kws K))
    | _ => false)
  | none => false)
theorem funAt {K : PySem.W.Frag} {a : Addr} {d : He.DefD} (e : codeAt K a = d.val) (c : restAt K a d = true) : ∃ fd, FunD K d.name d.qual d.params d.body d.scope (d.dvs K) (d.kws K) a fd := by
  obtain ⟨kp, c2⟩ := b2 c
  unfold codeAt at e
  cases q : K.lookup a with
  | none => rw [q] at c2; cases c2
  | some ob =>
    obtain ⟨oc, od, dt, osl⟩ := ob
    rw [q] at c2 e
    cases dt with
    | func u =>
      obtain ⟨n1, n2, n3, n4, n5, n6, n7, n8, n9, n10, n11, n12, n13, n14, n15⟩ := u
      have w : (some (n1, n2, n3, n4, n5, n6, n7, n15) : He.FnW) = some (d.name, d.qual, d.params, .stmts d.body, d.scope, mainGlobals, [], builtinsNs) := e
      injection w with w
      injection w with i1 w
      injection w with i2 w
      injection w with i3 w
      injection w with i4 w
      injection w with i5 w
      injection w with i6 w
      injection w with i7 i8
      subst i1 i2 i3 i4 i5 i6 i7 i8
      obtain ⟨k1, k2⟩ := b2 (show (PySem.W.codeIn K n13 d.qual && (He.dflB K n8 (d.dvs K) && He.kwdB K n9 (d.kws K))) = true from c2)
      obtain ⟨k3, k4⟩ := b2 k2
      exact ⟨_, ⟨oc, od, n8, n9, n10, n11, n12, n13, n14, osl, rfl, q, k1, He.dflB_ok k3, He.kwdB_ok k4⟩, kp⟩
    | _ => cases c2
def PrD.ok (K : PySem.W.Frag) (p : PrD) : Bool := decide (PySem.W.findIn K (.ref (He.ga K p.cls)) p.nm = some (some (.ref (p.pa K)))) && (decide (PySem.W.specialIn K (.ref (p.pa K)) "__get__" = some (some (.builtin "property.__get__"))) && (decide (PySem.W.takesIn K (.ref (p.pa K)) = some true) &&
  ((match PySem.W.recIn K (p.pa K) "property" with
    | some (.ref _ :: _) => true
    | _ => false) && restAt K (p.ga K) p.d)))
theorem PrD.of {K : PySem.W.Frag} {p : PrD} (h : p.ok K = true) (e : codeAt K (p.ga K) = p.d.val) : PropOf K (He.ga K p.cls) p.nm (p.pa K) (p.ga K) ∧ ∃ fd, FunD K p.d.name p.d.qual p.d.params p.d.body p.d.scope (p.d.dvs K) (p.d.kws K) (p.ga K) fd := by
  obtain ⟨h1, h⟩ := b2 h
  obtain ⟨h2, h⟩ := b2 h
  obtain ⟨h3, h⟩ := b2 h
  obtain ⟨h4, h5⟩ := b2 h
  refine ⟨⟨of_decide_eq_true h1, of_decide_eq_true h2, of_decide_eq_true h3, ?_⟩, funAt e h5⟩
  unfold PrD.ga
  split at h4
  · rename_i g r q
    rw [q]
    exact ⟨r, rfl⟩
  · cases h4
abbrev AlX : Type := (Bool × List He.FnW) × He.AlD
def obsX (fa : List He.Fa) (fn : List He.DefD) (pr : List PrD) (ex : List (PySem.W.Frag → Bool)) (K : PySem.W.Frag) : AlX := (((ex.all fun q => q K) && pr.all fun p => p.ok K, pr.map fun p => codeAt K (p.ga K)), He.obsD fa fn K)
def valX (fn : List He.DefD) (pr : List PrD) : AlX := ((true, pr.map fun p => p.d.val), He.valD fn)
def obsXG (n : Nat) (fa : List He.Fa) (fn : List He.DefD) (pr : List PrD) (ex : List (PySem.W.Frag → Bool)) (g : Addr → Option Obj) : AlX := obsX fa fn pr ex (He.frG g (He.asD g n))
structure SaysX (fa : List He.Fa) (fn : List He.DefD) (pr : List PrD) (ex : List (PySem.W.Frag → Bool)) (K : PySem.W.Frag) : Prop where
  o : obsX fa fn pr ex K = valX fn pr
def hookX (n : Nat) (fa : List He.Fa) (fn : List He.DefD) (pr : List PrD) (ex : List (PySem.W.Frag → Bool)) : PySem.W.Hook where
  α := AlX
  obs := fun s => obsXG n fa fn pr ex s.heap.get?
  val := fun _ => valX fn pr
  says := fun _ h => ∃ K : PySem.W.Frag, K.In h ∧ SaysX fa fn pr ex K
  of := fun _ _ e => ⟨_, He.frG_in, ⟨e⟩⟩
  keeps := fun _ _ _ ⟨K, hK, c⟩ k => ⟨K, PySem.W.Frag.In.keeps hK k, c⟩
theorem obsXG_eq {n : Nat} {fa : List He.Fa} {fn : List He.DefD} {pr : List PrD} {ex : List (PySem.W.Frag → Bool)} {g : Addr → Option Obj} {s : Shared} (h : ∀ a, g a = s.heap.get? a) : obsXG n fa fn pr ex g = (hookX n fa fn pr ex).obs s := by
  have e : g = s.heap.get? := funext h
  rw [e] <;> rfl
section
variable {fa : List He.Fa} {fn : List He.DefD} {pr : List PrD} {ex : List (PySem.W.Frag → Bool)} {K : PySem.W.Frag}
theorem SaysX.d (c : SaysX fa fn pr ex K) : He.SaysD fa fn K := congrArg (fun z : AlX => z.2) c.o
theorem SaysX.b (c : SaysX fa fn pr ex K) : (ex.all fun q => q K) = true ∧ (pr.all fun p => p.ok K) = true := b2 (congrArg (fun z : AlX => z.1.1) c.o)
theorem SaysX.x (c : SaysX fa fn pr ex K) (i : Nat) {q : PySem.W.Frag → Bool} (h : ex[i]? = some q := by rfl) : q K = true := List.all_eq_true.mp c.b.1 q (List.mem_of_getElem? h)
theorem SaysX.p (c : SaysX fa fn pr ex K) (i : Nat) {p : PrD} (h : pr[i]? = some p := by rfl) : PropOf K (He.ga K p.cls) p.nm (p.pa K) (p.ga K) ∧ ∃ fd, FunD K p.d.name p.d.qual p.d.params p.d.body p.d.scope (p.d.dvs K) (p.d.kws K) (p.ga K) fd := by
  have e : pr.map (fun p => codeAt K (p.ga K)) = pr.map fun p => p.d.val := congrArg (fun z : AlX => z.1.2) c.o
  have e2 : (pr.map fun p => codeAt K (p.ga K))[i]? = (pr.map fun p => p.d.val)[i]? := by rw [e]
  rw [List.getElem?_map, List.getElem?_map, h] at e2
  exact PrD.of (List.all_eq_true.mp c.b.2 p (List.mem_of_getElem? h)) (Option.some.inj e2)
end
theorem walkX {l : PySem.W.OpenLaw} {n k : Nat} {q : Program} {loose : List Str} {XP : (Str → Option Value) → Heap → Prop} {YP : World → Heap → Prop} {d : DefRec} {x : Str}
    (h1 : l.most = some n) (h2 : n ≤ sizeLine) (h3 : d.params.defaults = []) (h4 : Room k callerA)
    (F : ∀ (w : World) (mg : Str → Option Value) (f : Addr) (h : Heap), YP w h → h.Ns mainGlobals mg → mg d.name = some (.ref f) →
      ∃ (K : PySem.W.Frag) (fd : FuncData) (sp : Sp), K.In h ∧ (∀ (s : Shared) (u : Value), BindsTo s fd ⟨[u], []⟩ [(x, u)]) ∧
        (∀ (H : Hp) (a : Addr) (ns : List Int), ns.length ≤ n → (∀ z ∈ ns, Builtin.Int.intBits z ≤ 1048576) → SqL K H a (ns.map V.int) → sp [.ref a] H (fun v _ => v = .bl true) fun _ _ _ => False) ∧
        ∀ base : Heap, K.In base → base.Ns mainGlobals mg → FnOk l.prog w K mg base (L2.CX l.prog w) k f fd [x] sp) :
    PySem.W.WalkO q loose XP YP l.row.toRowW d [] (fun f vs => PySem.call f vs) := by
  refine Att.attach_callB h1 h3 fun w t0 t1 mg mb f ob pm cd doc a us ns G Y k1 k2 k3 k4 k5 k6 k7 k8 k9 => ?_
  obtain ⟨K, fd, sp, KX, b1, b2, b3⟩ := F w mg f _ Y G.T.g k4
  refine law_call KX G.T.g G.T.b G.T.builtins G.T.nolimit k9 k5 k6 (Nat.le_trans k7 h2) h4 b3 b1 (fun H _ e => b2 H a ns k7 k8 e) fun H e t2 z => ?_
  obtain ⟨_, _, _, _, _, _, _, _, _, _, _, _, z⟩ := z
  exact z.elim
end DL
-- A25
namespace DL
open PySem PySem.Spec PySem.W PySem.Calls PyProof.Rows L2
def d_BadNumber___init__ : He.DefD := ⟨("BadNumber", some "__init__"), "__init__", "BadNumber.__init__", defArgs s_BadNumber___init__, defBody s_BadNumber___init__, defScope s_BadNumber___init__, [], []⟩
def d_BadPlace___init__ : He.DefD := ⟨("BadPlace", some "__init__"), "__init__", "BadPlace.__init__", defArgs s_BadPlace___init__, defBody s_BadPlace___init__, defScope s_BadPlace___init__, [], []⟩
def d_BadLot___init__ : He.DefD := ⟨("BadLot", some "__init__"), "__init__", "BadLot.__init__", defArgs s_BadLot___init__, defBody s_BadLot___init__, defScope s_BadLot___init__, [], []⟩
def d_BadGrades___init__ : He.DefD := ⟨("BadGrades", some "__init__"), "__init__", "BadGrades.__init__", defArgs s_BadGrades___init__, defBody s_BadGrades___init__, defScope s_BadGrades___init__, [], []⟩
def d_BadMark___init__ : He.DefD := ⟨("BadMark", some "__init__"), "__init__", "BadMark.__init__", defArgs s_BadMark___init__, defBody s_BadMark___init__, defScope s_BadMark___init__, [], []⟩
def d_OtherSize___init__ : He.DefD := ⟨("OtherSize", some "__init__"), "__init__", "OtherSize.__init__", defArgs s_OtherSize___init__, defBody s_OtherSize___init__, defScope s_OtherSize___init__, [], []⟩
def d_is_whole : He.DefD := ⟨("is_whole", none), "is_whole", "is_whole", defArgs s_is_whole, defBody s_is_whole, defScope s_is_whole, [], []⟩
def d_is_between : He.DefD := ⟨("is_between", none), "is_between", "is_between", defArgs s_is_between, defBody s_is_between, defScope s_is_between, [], []⟩
def d_is_row : He.DefD := ⟨("is_row", none), "is_row", "is_row", defArgs s_is_row, defBody s_is_row, defScope s_is_row, [], []⟩
def d_ask_number : He.DefD := ⟨("ask_number", none), "ask_number", "ask_number", defArgs s_ask_number, defBody s_ask_number, defScope s_ask_number, [], []⟩
def d_ask_place : He.DefD := ⟨("ask_place", none), "ask_place", "ask_place", defArgs s_ask_place, defBody s_ask_place, defScope s_ask_place, [], []⟩
def d_mark_of : He.DefD := ⟨("mark_of", none), "mark_of", "mark_of", defArgs s_mark_of, defBody s_mark_of, defScope s_mark_of, [], []⟩
def d_marks_of : He.DefD := ⟨("marks_of", none), "marks_of", "marks_of", defArgs s_marks_of, defBody s_marks_of, defScope s_marks_of, [], []⟩
def d_grades_of : He.DefD := ⟨("grades_of", none), "grades_of", "grades_of", defArgs s_grades_of, defBody s_grades_of, defScope s_grades_of, [], []⟩
def d_world_grades : He.DefD := ⟨("world_grades", none), "world_grades", "world_grades", defArgs s_world_grades, defBody s_world_grades, defScope s_world_grades, [], []⟩
def d_after_mark : He.DefD := ⟨("after_mark", none), "after_mark", "after_mark", defArgs s_after_mark, defBody s_after_mark, defScope s_after_mark, [], []⟩
def d_states : He.DefD := ⟨("states", none), "states", "states", defArgs s_states, defBody s_states, defScope s_states, [], []⟩
def d_end_grades : He.DefD := ⟨("end_grades", none), "end_grades", "end_grades", defArgs s_end_grades, defBody s_end_grades, defScope s_end_grades, [], []⟩
def d_effective : He.DefD := ⟨("effective", none), "effective", "effective", defArgs s_effective, defBody s_effective, defScope s_effective, [], []⟩
def d_mask_of : He.DefD := ⟨("mask_of", none), "mask_of", "mask_of", defArgs s_mask_of, defBody s_mask_of, defScope s_mask_of, [], []⟩
def d_lot_in : He.DefD := ⟨("lot_in", none), "lot_in", "lot_in", defArgs s_lot_in, defBody s_lot_in, defScope s_lot_in, [], []⟩
def d_source_masks : He.DefD := ⟨("source_masks", none), "source_masks", "source_masks", defArgs s_source_masks, defBody s_source_masks, defScope s_source_masks, [], []⟩
def d_Run___init__ : He.DefD := ⟨("Run", some "__init__"), "__init__", "Run.__init__", defArgs s_Run___init__, defBody s_Run___init__, defScope s_Run___init__, [], []⟩
def d_Run_back : He.DefD := ⟨("Run", some "back"), "back", "Run.back", defArgs s_Run_back, defBody s_Run_back, defScope s_Run_back, [], []⟩
def d_Run_sources : He.DefD := ⟨("Run", some "sources"), "sources", "Run.sources", defArgs s_Run_sources, defBody s_Run_sources, defScope s_Run_sources, [], []⟩
def d_Run_ends : He.DefD := ⟨("Run", some "ends"), "ends", "Run.ends", defArgs s_Run_ends, defBody s_Run_ends, defScope s_Run_ends, [], []⟩
def p_Run_table : PrD := ⟨"Run", "table", ⟨("", none), "table", "Run.table", defArgs s_Run_table, defBody s_Run_table, defScope s_Run_table, [], []⟩⟩
def d_Run___add__ : He.DefD := ⟨("Run", some "__add__"), "__add__", "Run.__add__", defArgs s_Run___add__, defBody s_Run___add__, defScope s_Run___add__, [], []⟩
def d_Run___and__ : He.DefD := ⟨("Run", some "__and__"), "__and__", "Run.__and__", defArgs s_Run___and__, defBody s_Run___and__, defScope s_Run___and__, [], []⟩
def d_Run___eq__ : He.DefD := ⟨("Run", some "__eq__"), "__eq__", "Run.__eq__", defArgs s_Run___eq__, defBody s_Run___eq__, defScope s_Run___eq__, [], []⟩
def d_Run___iter__ : He.DefD := ⟨("Run", some "__iter__"), "__iter__", "Run.__iter__", defArgs s_Run___iter__, defBody s_Run___iter__, defScope s_Run___iter__, [], []⟩
def d_Run___len__ : He.DefD := ⟨("Run", some "__len__"), "__len__", "Run.__len__", defArgs s_Run___len__, defBody s_Run___len__, defScope s_Run___len__, [], []⟩
def d__law_pool : He.DefD := ⟨("_law_pool", none), "_law_pool", "_law_pool", defArgs s__law_pool, defBody s__law_pool, defScope s__law_pool, [], []⟩
def d__law_pick : He.DefD := ⟨("_law_pick", none), "_law_pick", "_law_pick", defArgs s__law_pick, defBody s__law_pick, defScope s__law_pick, [], []⟩
def d__law_lots : He.DefD := ⟨("_law_lots", none), "_law_lots", "_law_lots", defArgs s__law_lots, defBody s__law_lots, defScope s__law_lots, [], []⟩
def d__law_do : He.DefD := ⟨("_law_do", none), "_law_do", "_law_do", defArgs s__law_do, defBody s__law_do, defScope s__law_do, [], []⟩
def d__law_back : He.DefD := ⟨("_law_back", none), "_law_back", "_law_back", defArgs s__law_back, defBody s__law_back, defScope s__law_back, [], []⟩
def d__law_any_marks : He.DefD := ⟨("_law_any_marks", none), "_law_any_marks", "_law_any_marks", defArgs s__law_any_marks, defBody s__law_any_marks, defScope s__law_any_marks, [], []⟩
def d__law_table_of : He.DefD := ⟨("_law_table_of", none), "_law_table_of", "_law_table_of", defArgs s__law_table_of, defBody s__law_table_of, defScope s__law_table_of, [], []⟩
def d__law_starts_alike : He.DefD := ⟨("_law_starts_alike", none), "_law_starts_alike", "_law_starts_alike", defArgs s__law_starts_alike, defBody s__law_starts_alike, defScope s__law_starts_alike, [], []⟩
def d__law_second : He.DefD := ⟨("_law_second", none), "_law_second", "_law_second", defArgs s__law_second, defBody s__law_second, defScope s__law_second, [], []⟩
def d__law_ends_right : He.DefD := ⟨("_law_ends_right", none), "_law_ends_right", "_law_ends_right", defArgs s__law_ends_right, defBody s__law_ends_right, defScope s__law_ends_right, [], []⟩
def d__law_effects_right : He.DefD := ⟨("_law_effects_right", none), "_law_effects_right", "_law_effects_right", defArgs s__law_effects_right, defBody s__law_effects_right, defScope s__law_effects_right, [], []⟩
def d__law_refused : He.DefD := ⟨("_law_refused", none), "_law_refused", "_law_refused", defArgs s__law_refused, defBody s__law_refused, defScope s__law_refused, [], []⟩
def d__law_doors : He.DefD := ⟨("_law_doors", none), "_law_doors", "_law_doors", defArgs s__law_doors, defBody s__law_doors, defScope s__law_doors, [], []⟩
def d_law : He.DefD := ⟨("law", none), "law", "law", defArgs s_law, defBody s_law, defScope s_law, [], []⟩
def fnR0 : List He.DefD := [d_BadNumber___init__,
  d_BadPlace___init__,
  d_BadLot___init__,
  d_BadGrades___init__,
  d_BadMark___init__,
  d_OtherSize___init__,
  d_is_whole,
  d_is_between,
  d_is_row,
  d_ask_number,
  d_ask_place,
  d_mark_of,
  d_marks_of,
  d_grades_of,
  d_world_grades,
  d_after_mark,
  d_states,
  d_end_grades,
  d_effective,
  d_mask_of,
  d_lot_in,
  d_source_masks,
  d_Run___init__,
  d_Run_back,
  d_Run_sources,
  d_Run_ends,
  d_Run___add__,
  d_Run___and__,
  d_Run___eq__,
  d_Run___iter__]
def fnR1 : List He.DefD := [d_Run___len__,
  d__law_pool,
  d__law_pick,
  d__law_lots,
  d__law_do,
  d__law_back,
  d__law_any_marks,
  d__law_table_of,
  d__law_starts_alike,
  d__law_second,
  d__law_ends_right,
  d__law_effects_right,
  d__law_refused,
  d__law_doors,
  d_law]
def fnR : List He.DefD := fnR0 ++ fnR1
def faR0 : List He.Fa := [.glo "law",
  .free "isinstance",
  .free "int",
  .free "bool",
  .free "str",
  .free "list",
  .free "tuple",
  .free "len",
  .free "max",
  .free "min",
  .free "range",
  .free "enumerate",
  .free "sorted",
  .free "iter",
  .glo "Run",
  .cls "Run",
  .noat "Run" "size",
  .noat "Run" "marks",
  .noat "Run" "_masks",
  .glo "RatesError",
  .glo "BadPlace",
  .noat "BadPlace" "place",
  .glo "BadGrades",
  .noat "BadGrades" "at",
  .glo "OtherSize",
  .noat "OtherSize" "size",
  .glo "BadNumber",
  .noat "BadNumber" "name",
  .glo "is_whole",
  .glo "is_between"]
def faR1 : List He.Fa := [.glo "is_row",
  .glo "mark_of",
  .glo "after_mark",
  .glo "lot_in",
  .glo "source_masks",
  .meth "Run" "__eq__",
  .meth "Run" "__len__",
  .glo "_law_pick",
  .glo "_law_lots",
  .glo "_law_do",
  .glo "_law_back",
  .glo "_law_any_marks",
  .glo "_law_table_of",
  .glo "_law_starts_alike",
  .glo "_law_second",
  .glo "_law_pool",
  .meth "Run" "__iter__",
  .meth "BadNumber" "__init__",
  .meth "BadPlace" "__init__",
  .glo "BadLot",
  .noat "BadLot" "place",
  .meth "BadLot" "__init__",
  .meth "BadGrades" "__init__",
  .glo "BadMark",
  .noat "BadMark" "at",
  .meth "BadMark" "__init__",
  .meth "OtherSize" "__init__",
  .glo "ask_number",
  .glo "ask_place",
  .glo "marks_of"]
def faR2 : List He.Fa := [.glo "grades_of",
  .glo "world_grades",
  .glo "end_grades",
  .glo "states",
  .glo "effective",
  .glo "mask_of",
  .mkr "Run",
  .meth "Run" "back",
  .meth "Run" "sources",
  .meth "Run" "ends",
  .meth "Run" "__add__",
  .meth "Run" "__and__",
  .glo "_law_ends_right",
  .glo "_law_effects_right",
  .glo "_law_refused",
  .glo "_law_doors"]
def faR : List He.Fa := faR0 ++ faR1 ++ faR2
def exR0 : List (PySem.W.Frag → Bool) := [fun K => clsTB K "Run",
  fun K => decide (PySem.W.kitOne K (.ref (He.ga K "Run")) (.ref (He.ga K "Run")) = some true),
  fun K => decide (PySem.W.kitOne K (.type "list") (.ref (He.ga K "Run")) = some false),
  fun K => PySem.W.notFirst K (He.ga K "Run") (.type "list"),
  fun K => decide (PySem.W.findIn K (.type "tuple") (PySem.dunder Operator.BitAnd.info.2) = some none),
  fun K => xfB K (He.ga K "BadPlace"),
  fun K => excB K (He.ga K "BadPlace"),
  fun K => xfB K (He.ga K "BadGrades"),
  fun K => excB K (He.ga K "BadGrades"),
  fun K => xfB K (He.ga K "OtherSize"),
  fun K => excB K (He.ga K "OtherSize"),
  fun K => xfB K (He.ga K "BadNumber"),
  fun K => excB K (He.ga K "BadNumber"),
  fun K => errs4.all fun C => errs4.all fun D => decide (PySem.W.exmOne K (.ref (He.ga K C)) (.ref (He.ga K D)) = some (C == D)),
  fun K => errs4.all fun C => decide (PySem.W.kitOne K (.ref (He.ga K C)) (.ref (He.ga K "RatesError")) = some true),
  fun K => errs4.all fun C => errs4.all fun D => decide (PySem.W.kitOne K (.ref (He.ga K C)) (.ref (He.ga K D)) = some (C == D)),
  fun K => decide (PySem.W.findIn K (.type "tuple") (dunderR Operator.BitAnd.info.2) = some none),
  fun K => PySem.W.selfFirst K (He.ga K "Run"),
  fun K => oexB K (He.ga K "BadNumber"),
  fun K => oexB K (He.ga K "BadPlace"),
  fun K => oexB K (He.ga K "BadLot"),
  fun K => oexB K (He.ga K "BadGrades"),
  fun K => oexB K (He.ga K "BadMark"),
  fun K => oexB K (He.ga K "OtherSize")]
def exR : List (PySem.W.Frag → Bool) := exR0
def prR : List PrD := [p_Run_table]
abbrev Rw : OpenRow := OpenLaw.row PySem.Challenge.rw_copyrates_k06_whole_grades_by_sources
abbrev qw : Program := view Rw.prog [45]
def namesR0 : List PySem.Str := ["_wall",
  "__name__",
  "RatesError",
  "BadNumber",
  "BadPlace",
  "BadLot",
  "BadGrades",
  "BadMark",
  "OtherSize",
  "is_whole",
  "is_between",
  "is_row",
  "ask_number",
  "ask_place",
  "mark_of",
  "marks_of",
  "grades_of",
  "world_grades",
  "after_mark",
  "states",
  "end_grades",
  "effective",
  "mask_of",
  "lot_in",
  "source_masks",
  "Run",
  "_law_pool",
  "_law_pick",
  "_law_lots",
  "_law_do"]
def namesR1 : List PySem.Str := ["_law_back",
  "_law_any_marks",
  "_law_table_of",
  "_law_starts_alike",
  "_law_second",
  "_law_ends_right",
  "_law_effects_right",
  "_law_refused",
  "_law_doors"]
def namesR : List PySem.Str := namesR0 ++ namesR1
abbrev hkR : PySem.W.Hook := hookX 6 faR fnR prR exR
def obR (s : PySem.W.SharedT) : AlX := obsXG 6 faR fnR prR exR (HandSHeadRun.getT s)
theorem obR_eq (s : PySem.W.SharedT) : obR s = hkR.obs s.abs := obsXG_eq (HandSHeadRun.getT_eq s)
theorem runR (w : World) : HandSHeadRun.RunEq Rw qw hkR obR 6000 namesR w := by
  intro os
  kernel_rfl
abbrev SaR (K : PySem.W.Frag) : Prop := SaysX faR fnR prR exR K
theorem glR {h : Heap} {mg : Str → Option Value} {K : PySem.W.Frag} (X : K.In h) (G : h.Ns mainGlobals mg) (c : SaR K) : GlX mg K where
  n_isinstance := He.free_ok X G (c.d.fact 1 (f := .free "isinstance"))
  n_int := He.free_ok X G (c.d.fact 2 (f := .free "int"))
  n_bool := He.free_ok X G (c.d.fact 3 (f := .free "bool"))
  n_str := He.free_ok X G (c.d.fact 4 (f := .free "str"))
  n_list := He.free_ok X G (c.d.fact 5 (f := .free "list"))
  n_tuple := He.free_ok X G (c.d.fact 6 (f := .free "tuple"))
  n_len := He.free_ok X G (c.d.fact 7 (f := .free "len"))
  n_max := He.free_ok X G (c.d.fact 8 (f := .free "max"))
  n_min := He.free_ok X G (c.d.fact 9 (f := .free "min"))
  n_range := He.free_ok X G (c.d.fact 10 (f := .free "range"))
  n_enumerate := He.free_ok X G (c.d.fact 11 (f := .free "enumerate"))
  n_sorted := He.free_ok X G (c.d.fact 12 (f := .free "sorted"))
  n_iter := He.free_ok X G (c.d.fact 13 (f := .free "iter"))
  g_Run := He.glo_ok X G (c.d.fact 14 (f := .glo "Run"))
  cl_Run := He.cls_ok (c.d.fact 15 (f := .cls "Run"))
  ct_Run := clsTB_ok (c.x 0 (q := fun K => clsTB K "Run"))
  na_size := He.noat_ok (c.d.fact 16 (f := .noat "Run" "size"))
  na_marks := He.noat_ok (c.d.fact 17 (f := .noat "Run" "marks"))
  na__masks := He.noat_ok (c.d.fact 18 (f := .noat "Run" "_masks"))
  k_Run := of_decide_eq_true (c.x 1 (q := fun K => decide (PySem.W.kitOne K (.ref (He.ga K "Run")) (.ref (He.ga K "Run")) = some true)))
  k_list := of_decide_eq_true (c.x 2 (q := fun K => decide (PySem.W.kitOne K (.type "list") (.ref (He.ga K "Run")) = some false)))
  nf_list := (c.x 3 (q := fun K => PySem.W.notFirst K (He.ga K "Run") (.type "list")))
  t_BitAnd := of_decide_eq_true (c.x 4 (q := fun K => decide (PySem.W.findIn K (.type "tuple") (PySem.dunder Operator.BitAnd.info.2) = some none)))
  g_RatesError := He.glo_ok X G (c.d.fact 19 (f := .glo "RatesError"))
  g_BadPlace := He.glo_ok X G (c.d.fact 20 (f := .glo "BadPlace"))
  x_BadPlace := xfB_ok (c.x 5 (q := fun K => xfB K (He.ga K "BadPlace")))
  f_BadPlace := He.noat_ok (c.d.fact 21 (f := .noat "BadPlace" "place"))
  e_BadPlace := excB_ok (c.x 6 (q := fun K => excB K (He.ga K "BadPlace")))
  g_BadGrades := He.glo_ok X G (c.d.fact 22 (f := .glo "BadGrades"))
  x_BadGrades := xfB_ok (c.x 7 (q := fun K => xfB K (He.ga K "BadGrades")))
  f_BadGrades := He.noat_ok (c.d.fact 23 (f := .noat "BadGrades" "at"))
  e_BadGrades := excB_ok (c.x 8 (q := fun K => excB K (He.ga K "BadGrades")))
  g_OtherSize := He.glo_ok X G (c.d.fact 24 (f := .glo "OtherSize"))
  x_OtherSize := xfB_ok (c.x 9 (q := fun K => xfB K (He.ga K "OtherSize")))
  f_OtherSize := He.noat_ok (c.d.fact 25 (f := .noat "OtherSize" "size"))
  e_OtherSize := excB_ok (c.x 10 (q := fun K => excB K (He.ga K "OtherSize")))
  g_BadNumber := He.glo_ok X G (c.d.fact 26 (f := .glo "BadNumber"))
  x_BadNumber := xfB_ok (c.x 11 (q := fun K => xfB K (He.ga K "BadNumber")))
  f_BadNumber := He.noat_ok (c.d.fact 27 (f := .noat "BadNumber" "name"))
  e_BadNumber := excB_ok (c.x 12 (q := fun K => excB K (He.ga K "BadNumber")))
  exm := fun C h1 D h2 => of_decide_eq_true (List.all_eq_true.mp (List.all_eq_true.mp (c.x 13 (q := fun K => errs4.all fun C => errs4.all fun D => decide (PySem.W.exmOne K (.ref (He.ga K C)) (.ref (He.ga K D)) = some (C == D)))) C h1) D h2)
  kitR := fun C h1 => of_decide_eq_true (List.all_eq_true.mp (c.x 14 (q := fun K => errs4.all fun C => decide (PySem.W.kitOne K (.ref (He.ga K C)) (.ref (He.ga K "RatesError")) = some true))) C h1)
  kitN := fun C h1 D h2 => of_decide_eq_true (List.all_eq_true.mp (List.all_eq_true.mp (c.x 15 (q := fun K => errs4.all fun C => errs4.all fun D => decide (PySem.W.kitOne K (.ref (He.ga K C)) (.ref (He.ga K D)) = some (C == D)))) C h1) D h2)
  r_BitAnd := of_decide_eq_true (c.x 16 (q := fun K => decide (PySem.W.findIn K (.type "tuple") (dunderR Operator.BitAnd.info.2) = some none)))
theorem fxR {h : Heap} {mg : Str → Option Value} {K : PySem.W.Frag} (X : K.In h) (G : h.Ns mainGlobals mg) (c : SaR K) : Fx mg K where
  gl := glR X G c
  hF_is_whole := (c.d.def_ 6 (d := d_is_whole)).elim fun fd F => ⟨fd, He5.fun_of F⟩
  hG_is_whole := He.glo_ok X G (c.d.fact 28 (f := .glo "is_whole"))
  hF_is_between := (c.d.def_ 7 (d := d_is_between)).elim fun fd F => ⟨fd, He5.fun_of F⟩
  hG_is_between := He.glo_ok X G (c.d.fact 29 (f := .glo "is_between"))
  hF_is_row := (c.d.def_ 8 (d := d_is_row)).elim fun fd F => ⟨fd, He5.fun_of F⟩
  hG_is_row := He.glo_ok X G (c.d.fact 30 (f := .glo "is_row"))
  hF_mark_of := (c.d.def_ 11 (d := d_mark_of)).elim fun fd F => ⟨fd, He5.fun_of F⟩
  hG_mark_of := He.glo_ok X G (c.d.fact 31 (f := .glo "mark_of"))
  hF_after_mark := (c.d.def_ 15 (d := d_after_mark)).elim fun fd F => ⟨fd, He5.fun_of F⟩
  hG_after_mark := He.glo_ok X G (c.d.fact 32 (f := .glo "after_mark"))
  hF_lot_in := (c.d.def_ 20 (d := d_lot_in)).elim fun fd F => ⟨fd, He5.fun_of F⟩
  hG_lot_in := He.glo_ok X G (c.d.fact 33 (f := .glo "lot_in"))
  hF_source_masks := (c.d.def_ 21 (d := d_source_masks)).elim fun fd F => ⟨fd, He5.fun_of F⟩
  hG_source_masks := He.glo_ok X G (c.d.fact 34 (f := .glo "source_masks"))
  hC_Run_table := He.cls_ok (c.d.fact 15 (f := .cls "Run"))
  hF_Run_table := ⟨_, _, (c.p 0 (p := p_Run_table)).2.elim fun fd F => ⟨fd, (c.p 0 (p := p_Run_table)).1, He5.fun_of F⟩⟩
  hS_Run___eq__ := (c.x 17 (q := fun K => PySem.W.selfFirst K (He.ga K "Run")))
  hF_Run___eq__ := (c.d.def_ 28 (d := d_Run___eq__)).elim fun fd F => ⟨_, fd, (He.meth_ok (c.d.fact 35 (f := .meth "Run" "__eq__"))).1, (He.meth_ok (c.d.fact 35 (f := .meth "Run" "__eq__"))).2, He5.fun_of F⟩
  hF_Run___len__ := (c.d.def_ 30 (d := d_Run___len__)).elim fun fd F => ⟨_, fd, (He.meth_ok (c.d.fact 36 (f := .meth "Run" "__len__"))).1, (He.meth_ok (c.d.fact 36 (f := .meth "Run" "__len__"))).2, He5.fun_of F⟩
  hF__law_pick := (c.d.def_ 32 (d := d__law_pick)).elim fun fd F => ⟨fd, He5.fun_of F⟩
  hG__law_pick := He.glo_ok X G (c.d.fact 37 (f := .glo "_law_pick"))
  hF__law_lots := (c.d.def_ 33 (d := d__law_lots)).elim fun fd F => ⟨fd, He5.fun_of F⟩
  hG__law_lots := He.glo_ok X G (c.d.fact 38 (f := .glo "_law_lots"))
  hF__law_do := (c.d.def_ 34 (d := d__law_do)).elim fun fd F => ⟨fd, He5.fun_of F⟩
  hG__law_do := He.glo_ok X G (c.d.fact 39 (f := .glo "_law_do"))
  hF__law_back := (c.d.def_ 35 (d := d__law_back)).elim fun fd F => ⟨fd, He5.fun_of F⟩
  hG__law_back := He.glo_ok X G (c.d.fact 40 (f := .glo "_law_back"))
  hF__law_any_marks := (c.d.def_ 36 (d := d__law_any_marks)).elim fun fd F => ⟨fd, He5.fun_of F⟩
  hG__law_any_marks := He.glo_ok X G (c.d.fact 41 (f := .glo "_law_any_marks"))
  hF__law_table_of := (c.d.def_ 37 (d := d__law_table_of)).elim fun fd F => ⟨fd, He5.fun_of F⟩
  hG__law_table_of := He.glo_ok X G (c.d.fact 42 (f := .glo "_law_table_of"))
  hF__law_starts_alike := (c.d.def_ 38 (d := d__law_starts_alike)).elim fun fd F => ⟨fd, He5.fun_of F⟩
  hG__law_starts_alike := He.glo_ok X G (c.d.fact 43 (f := .glo "_law_starts_alike"))
  hF__law_second := (c.d.def_ 39 (d := d__law_second)).elim fun fd F => ⟨fd, He5.fun_of F⟩
  hG__law_second := He.glo_ok X G (c.d.fact 44 (f := .glo "_law_second"))
  hF__law_pool := (c.d.def_ 31 (d := d__law_pool)).elim fun fd F => ⟨fd, He5.fun_of F⟩
  hG__law_pool := He.glo_ok X G (c.d.fact 45 (f := .glo "_law_pool"))
  hF_Run___iter__ := (c.d.def_ 29 (d := d_Run___iter__)).elim fun fd F => ⟨_, fd, (He.meth_ok (c.d.fact 46 (f := .meth "Run" "__iter__"))).1, (He.meth_ok (c.d.fact 46 (f := .meth "Run" "__iter__"))).2, He5.fun_of F⟩
  hG_BadNumber := He.glo_ok X G (c.d.fact 26 (f := .glo "BadNumber"))
  ho_BadNumber := oexB_ok (c.x 18 (q := fun K => oexB K (He.ga K "BadNumber")))
  nf_BadNumber := He.noat_ok (c.d.fact 27 (f := .noat "BadNumber" "name"))
  hF_BadNumber := (c.d.def_ 0 (d := d_BadNumber___init__)).elim fun fd F => ⟨_, fd, (He.meth_ok (c.d.fact 47 (f := .meth "BadNumber" "__init__"))).1, beq_iff_eq.mp (He.meth_ok (c.d.fact 47 (f := .meth "BadNumber" "__init__"))).2, He5.fun_of F⟩
  hG_BadPlace := He.glo_ok X G (c.d.fact 20 (f := .glo "BadPlace"))
  ho_BadPlace := oexB_ok (c.x 19 (q := fun K => oexB K (He.ga K "BadPlace")))
  nf_BadPlace := He.noat_ok (c.d.fact 21 (f := .noat "BadPlace" "place"))
  hF_BadPlace := (c.d.def_ 1 (d := d_BadPlace___init__)).elim fun fd F => ⟨_, fd, (He.meth_ok (c.d.fact 48 (f := .meth "BadPlace" "__init__"))).1, beq_iff_eq.mp (He.meth_ok (c.d.fact 48 (f := .meth "BadPlace" "__init__"))).2, He5.fun_of F⟩
  hG_BadLot := He.glo_ok X G (c.d.fact 49 (f := .glo "BadLot"))
  ho_BadLot := oexB_ok (c.x 20 (q := fun K => oexB K (He.ga K "BadLot")))
  nf_BadLot := He.noat_ok (c.d.fact 50 (f := .noat "BadLot" "place"))
  hF_BadLot := (c.d.def_ 2 (d := d_BadLot___init__)).elim fun fd F => ⟨_, fd, (He.meth_ok (c.d.fact 51 (f := .meth "BadLot" "__init__"))).1, beq_iff_eq.mp (He.meth_ok (c.d.fact 51 (f := .meth "BadLot" "__init__"))).2, He5.fun_of F⟩
  hG_BadGrades := He.glo_ok X G (c.d.fact 22 (f := .glo "BadGrades"))
  ho_BadGrades := oexB_ok (c.x 21 (q := fun K => oexB K (He.ga K "BadGrades")))
  nf_BadGrades := He.noat_ok (c.d.fact 23 (f := .noat "BadGrades" "at"))
  hF_BadGrades := (c.d.def_ 3 (d := d_BadGrades___init__)).elim fun fd F => ⟨_, fd, (He.meth_ok (c.d.fact 52 (f := .meth "BadGrades" "__init__"))).1, beq_iff_eq.mp (He.meth_ok (c.d.fact 52 (f := .meth "BadGrades" "__init__"))).2, He5.fun_of F⟩
  hG_BadMark := He.glo_ok X G (c.d.fact 53 (f := .glo "BadMark"))
  ho_BadMark := oexB_ok (c.x 22 (q := fun K => oexB K (He.ga K "BadMark")))
  nf_BadMark := He.noat_ok (c.d.fact 54 (f := .noat "BadMark" "at"))
  hF_BadMark := (c.d.def_ 4 (d := d_BadMark___init__)).elim fun fd F => ⟨_, fd, (He.meth_ok (c.d.fact 55 (f := .meth "BadMark" "__init__"))).1, beq_iff_eq.mp (He.meth_ok (c.d.fact 55 (f := .meth "BadMark" "__init__"))).2, He5.fun_of F⟩
  hG_OtherSize := He.glo_ok X G (c.d.fact 24 (f := .glo "OtherSize"))
  ho_OtherSize := oexB_ok (c.x 23 (q := fun K => oexB K (He.ga K "OtherSize")))
  nf_OtherSize := He.noat_ok (c.d.fact 25 (f := .noat "OtherSize" "size"))
  hF_OtherSize := (c.d.def_ 5 (d := d_OtherSize___init__)).elim fun fd F => ⟨_, fd, (He.meth_ok (c.d.fact 56 (f := .meth "OtherSize" "__init__"))).1, beq_iff_eq.mp (He.meth_ok (c.d.fact 56 (f := .meth "OtherSize" "__init__"))).2, He5.fun_of F⟩
  hF_ask_number := (c.d.def_ 9 (d := d_ask_number)).elim fun fd F => ⟨fd, He5.fun_of F⟩
  hG_ask_number := He.glo_ok X G (c.d.fact 57 (f := .glo "ask_number"))
  hF_ask_place := (c.d.def_ 10 (d := d_ask_place)).elim fun fd F => ⟨fd, He5.fun_of F⟩
  hG_ask_place := He.glo_ok X G (c.d.fact 58 (f := .glo "ask_place"))
  hF_marks_of := (c.d.def_ 12 (d := d_marks_of)).elim fun fd F => ⟨fd, He5.fun_of F⟩
  hG_marks_of := He.glo_ok X G (c.d.fact 59 (f := .glo "marks_of"))
  hF_grades_of := (c.d.def_ 13 (d := d_grades_of)).elim fun fd F => ⟨fd, He5.fun_of F⟩
  hG_grades_of := He.glo_ok X G (c.d.fact 60 (f := .glo "grades_of"))
  hF_world_grades := (c.d.def_ 14 (d := d_world_grades)).elim fun fd F => ⟨fd, He5.fun_of F⟩
  hG_world_grades := He.glo_ok X G (c.d.fact 61 (f := .glo "world_grades"))
  hF_end_grades := (c.d.def_ 17 (d := d_end_grades)).elim fun fd F => ⟨fd, He5.fun_of F⟩
  hG_end_grades := He.glo_ok X G (c.d.fact 62 (f := .glo "end_grades"))
  hF_states := (c.d.def_ 16 (d := d_states)).elim fun fd F => ⟨fd, He5.fun_of F⟩
  hG_states := He.glo_ok X G (c.d.fact 63 (f := .glo "states"))
  hF_effective := (c.d.def_ 18 (d := d_effective)).elim fun fd F => ⟨fd, He5.fun_of F⟩
  hG_effective := He.glo_ok X G (c.d.fact 64 (f := .glo "effective"))
  hF_mask_of := (c.d.def_ 19 (d := d_mask_of)).elim fun fd F => ⟨fd, He5.fun_of F⟩
  hG_mask_of := He.glo_ok X G (c.d.fact 65 (f := .glo "mask_of"))
  hG_Run___init__ := He.glo_ok X G (c.d.fact 14 (f := .glo "Run"))
  hF_Run___init__ := (c.d.def_ 22 (d := d_Run___init__)).elim fun fd F => ⟨_, fd, He.mkr_ok (c.d.fact 66 (f := .mkr "Run")), He5.fun_of F⟩
  hF_Run_back := (c.d.def_ 23 (d := d_Run_back)).elim fun fd F => ⟨_, fd, He.meth_ok (c.d.fact 67 (f := .meth "Run" "back")), He5.fun_of F⟩
  hF_Run_sources := (c.d.def_ 24 (d := d_Run_sources)).elim fun fd F => ⟨_, fd, He.meth_ok (c.d.fact 68 (f := .meth "Run" "sources")), He5.fun_of F⟩
  hF_Run_ends := (c.d.def_ 25 (d := d_Run_ends)).elim fun fd F => ⟨_, fd, He.meth_ok (c.d.fact 69 (f := .meth "Run" "ends")), He5.fun_of F⟩
  hF_Run___add__ := (c.d.def_ 26 (d := d_Run___add__)).elim fun fd F => ⟨_, fd, (He.meth_ok (c.d.fact 70 (f := .meth "Run" "__add__"))).1, (He.meth_ok (c.d.fact 70 (f := .meth "Run" "__add__"))).2, He5.fun_of F⟩
  hF_Run___and__ := (c.d.def_ 27 (d := d_Run___and__)).elim fun fd F => ⟨_, fd, (He.meth_ok (c.d.fact 71 (f := .meth "Run" "__and__"))).1, (He.meth_ok (c.d.fact 71 (f := .meth "Run" "__and__"))).2, He5.fun_of F⟩
  hF__law_ends_right := (c.d.def_ 40 (d := d__law_ends_right)).elim fun fd F => ⟨fd, He5.fun_of F⟩
  hG__law_ends_right := He.glo_ok X G (c.d.fact 72 (f := .glo "_law_ends_right"))
  hF__law_effects_right := (c.d.def_ 41 (d := d__law_effects_right)).elim fun fd F => ⟨fd, He5.fun_of F⟩
  hG__law_effects_right := He.glo_ok X G (c.d.fact 73 (f := .glo "_law_effects_right"))
  hF__law_refused := (c.d.def_ 42 (d := d__law_refused)).elim fun fd F => ⟨fd, He5.fun_of F⟩
  hG__law_refused := He.glo_ok X G (c.d.fact 74 (f := .glo "_law_refused"))
  hF__law_doors := (c.d.def_ 43 (d := d__law_doors)).elim fun fd F => ⟨fd, He5.fun_of F⟩
  hG__law_doors := He.glo_ok X G (c.d.fact 75 (f := .glo "_law_doors"))
theorem factsR {P : Program} {w : World} {K : PySem.W.Frag} {h : Heap} {mg : Str → Option Value} {f : Addr} (X : K.In h) (G : h.Ns mainGlobals mg) (hfa : mg ("law" : Str) = some (.ref f)) (c : SaR K) :
    ∃ fd : FuncData, (∀ (s : Shared) (v : Value), BindsTo s fd ⟨[v], []⟩ [("_law_script", v)]) ∧ ∀ base : Heap, K.In base → base.Ns mainGlobals mg → FnOk P w K mg base (L2.CX P w) 12 f fd ["_law_script"] (spP K R_law) := by
  obtain ⟨fd, F⟩ := c.d.def_ 44 (d := d_law)
  have e := hfa.symm.trans (He.glo_ok X G (c.d.fact 0 (f := .glo "law")))
  cases e
  have b := FunD.bindsA (ps := ["_law_script"]) F fun _ _ _ _ _ _ us hl => match us, hl with | [_], _ => rfl
  exact ⟨fd, fun s v => b s [v] rfl, fun base _ _ => all_law (fxR X G c) fd (He5.fun_of F)⟩
end DL
-- A26
open PySem PySem.W PySem.Calls PyProof.Rows
theorem PySem.Challenge.cw_copyrates_k06_whole_grades_by_sources_holds : PySem.Challenge.rw_copyrates_k06_whole_grades_by_sources.Holds := by
  w_on; o_law
  refine HandSHeadRun.head_any (r := OpenLaw.row PySem.Challenge.rw_copyrates_k06_whole_grades_by_sources) (q := view (OpenLaw.row PySem.Challenge.rw_copyrates_k06_whole_grades_by_sources).prog [45]) (H := DL.hkR) (ob := DL.obR) (M := 6000) (loose := DL.namesR) (d := HandSHeadRun.topDef (OpenLaw.row PySem.Challenge.rw_copyrates_k06_whole_grades_by_sources).prog 45) (kwd := []) DL.obR_eq
    (by kernel_rfl) (fun s => by kernel_rfl) DL.runR (by kernel_rfl) (by kernel_rfl) (by kernel_rfl) (by rfl) (by first | assumption | decide +kernel) (by decide +kernel) ⟨rfl, rfl, rfl, rfl, rfl, by decide +kernel⟩ ?hw ?hc
  case hw => w_witness2
  case hc =>
    refine DL.walkX (l := PySem.Challenge.rw_copyrates_k06_whole_grades_by_sources) (n := 63) (k := 12) (x := "_law_script") rfl (by decide) (by kernel_rfl) ⟨rfl, by decide, by decide⟩ ?F
    intro w mg fa h Y G hmg0
    obtain ⟨K, KX, c⟩ := Y
    have hmg : mg ("law" : PySem.Str) = some (.ref fa) := by
      have e : (HandSHeadRun.topDef (OpenLaw.row PySem.Challenge.rw_copyrates_k06_whole_grades_by_sources).prog 45).name = ("law" : PySem.Str) := by kernel_rfl
      rw [← e]
      exact hmg0
    obtain ⟨fd, hb, hF⟩ := DL.factsR (P := (PySem.Challenge.rw_copyrates_k06_whole_grades_by_sources).prog) (w := w) KX G hmg c
    exact ⟨K, fd, DL.spP K DL.R_law, KX, hb, fun H a ns hl _ hS => DL.spP_true hS rfl, hF⟩
