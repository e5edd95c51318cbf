import PyProof.Rows.All
import Wide.All
import OpenK.AllK
import Wide.FinOn
import HandS.ForMost
import HandS.Evl
import HandS.Conv
import HandS.Style
import HandS.IsInst
import HandS.SortRule
import PySem.Challenge.RW_heldloops_k19_weaving
set_option Elab.async false
set_option linter.all false

set_option maxRecDepth 100000
set_option maxHeartbeats 2000000
/-! The shallow layer: a def of the text as a function over plain data and a store of cells. -/
namespace Sh
open PySem L2 Evl

/-- plain data, and the number of a cell -/
inductive W where
  | non | bl (b : Bool) | int (i : Int) | str (x : Str) | tup (xs : List W) | lst (xs : List W) | fz (xs : List W) | ftp (xs : List W) | cell (n : Nat)
/-- what a cell holds -/
inductive C where
  | dead | lst (xs : List W) | dK (kvs : List (Key × W)) | dT (kvs : List (List Key × W)) | ins (cls : Str) (fs : List (Str × W))
abbrev Store := List C
abbrev Env := List (Option W)
structure Exn where
  cls : Str
  fs : List (Str × W)
inductive Out (α : Type) where
  | stuck | ok (a : α) (st : Store) | exc (x : Exn) (st : Store)
abbrev M (α : Type) := Store → Out α
def Out.bind {α β : Type} (o : Out α) (f : α → M β) : Out β := match o with
  | .stuck => .stuck
  | .ok a st => f a st
  | .exc x st => .exc x st
@[simp] theorem Out.bind_ok {α β : Type} (a : α) (st : Store) (f : α → M β) : (Out.ok a st).bind f = f a st := rfl
@[simp] theorem Out.bind_stuck {α β : Type} (f : α → M β) : (Out.stuck : Out α).bind f = .stuck := rfl
@[simp] theorem Out.bind_exc {α β : Type} (x : Exn) (st : Store) (f : α → M β) : (Out.exc x st : Out α).bind f = .exc x st := rfl
def Out.nox {α : Type} (o : Out α) : Out α := match o with
  | .exc _ _ => .stuck
  | o => o
@[simp] theorem Out.nox_ok {α : Type} (a : α) (st : Store) : (Out.ok a st).nox = .ok a st := rfl

mutual
inductive RW (K : PySem.W.Frag) (G : Hp) (m : List Addr) : W → V → Prop
  | non : RW K G m .non .non
  | bl (b : Bool) : RW K G m (.bl b) (.bl b)
  | int (i : Int) : RW K G m (.int i) (.int i)
  | str (x : Str) : RW K G m (.str x) (.str x)
  | tup {p : Addr} {vs : List V} {xs : List W} : G p = some (.tup vs) → RWs K G m xs vs → RW K G m (.tup xs) (.ref p)
  | ftp {p : Addr} {vs : List V} {xs : List W} : SqT K G p vs → RWs K G m xs vs → RW K G m (.ftp xs) (.ref p)
  | lst {p : Addr} {vs : List V} {xs : List W} : G p = some (.lst vs) → RWs K G m xs vs → RW K G m (.lst xs) (.ref p)
  | fz {p : Addr} {vs : List V} {xs : List W} : SqL K G p vs → RWs K G m xs vs → RW K G m (.fz xs) (.ref p)
  | cell {n : Nat} {a : Addr} : m[n]? = some a → RW K G m (.cell n) (.ref a)
inductive RWs (K : PySem.W.Frag) (G : Hp) (m : List Addr) : List W → List V → Prop
  | nil : RWs K G m [] []
  | cons {x : W} {v : V} {xs : List W} {vs : List V} : RW K G m x v → RWs K G m xs vs → RWs K G m (x :: xs) (v :: vs)
end

structure Ext (G : Hp) (m : List Addr) (G' : Hp) (m' : List Addr) : Prop where
  ex : Ex G G'
  mm : ∀ (n : Nat) (a : Addr), m[n]? = some a → m'[n]? = some a
theorem Ext.refl (G : Hp) (m : List Addr) : Ext G m G m := ⟨Ex.refl G, fun _ _ h => h⟩
theorem Ext.trans {G G1 G2 : Hp} {m m1 m2 : List Addr} (a : Ext G m G1 m1) (b : Ext G1 m1 G2 m2) : Ext G m G2 m2 :=
  ⟨a.ex.trans b.ex, fun n c h => b.mm n c (a.mm n c h)⟩

section
variable {K : PySem.W.Frag} {G G' : Hp} {m m' : List Addr}
mutual
theorem RW.mono (e : Ext G m G' m') : ∀ {x : W} {v : V}, RW K G m x v → RW K G' m' x v
  | _, _, .non => .non
  | _, _, .bl b => .bl b
  | _, _, .int i => .int i
  | _, _, .str x => .str x
  | _, _, .tup h r => .tup (e.ex _ _ h) (RWs.mono e r)
  | _, _, .ftp h r => .ftp (ex_t e.ex h) (RWs.mono e r)
  | _, _, .lst h r => .lst (e.ex _ _ h) (RWs.mono e r)
  | _, _, .fz h r => .fz (ex_l e.ex h) (RWs.mono e r)
  | _, _, .cell h => .cell (e.mm _ _ h)
theorem RWs.mono (e : Ext G m G' m') : ∀ {x : List W} {v : List V}, RWs K G m x v → RWs K G' m' x v
  | _, _, .nil => .nil
  | _, _, .cons h r => .cons (RW.mono e h) (RWs.mono e r)
end
theorem RWs.length : ∀ {xs : List W} {vs : List V}, RWs K G m xs vs → xs.length = vs.length
  | _, _, .nil => rfl
  | _, _, .cons _ r => by rw [List.length_cons, List.length_cons, RWs.length r]
theorem RWs.append : ∀ {xs ys : List W} {vs us : List V}, RWs K G m xs vs → RWs K G m ys us → RWs K G m (xs ++ ys) (vs ++ us)
  | _, _, _, _, .nil, s => s
  | _, _, _, _, .cons h r, s => .cons h (RWs.append r s)
theorem RWs.get : ∀ {xs : List W} {vs : List V} {i : Nat} {x : W}, RWs K G m xs vs → xs[i]? = some x → ∃ v, vs[i]? = some v ∧ RW K G m x v
  | _, _, _, _, .nil, e => by simp at e
  | _, _, 0, _, .cons h _, e => by simp at e; subst e; exact ⟨_, rfl, h⟩
  | _, _, i + 1, _, .cons _ r, e => by
    obtain ⟨v, h1, h2⟩ := RWs.get (i := i) r (by simpa using e)
    exact ⟨v, by simpa using h1, h2⟩
theorem RWs.get' {xs : List W} {vs : List V} {i : Nat} {v : V} (r : RWs K G m xs vs) (e : vs[i]? = some v) : ∃ x, xs[i]? = some x ∧ RW K G m x v := by
  have hl := r.length
  have hi : i < xs.length := by
    rw [hl]
    exact (List.getElem?_eq_some_iff.mp e).1
  obtain ⟨u, h1, h2⟩ := r.get (List.getElem?_eq_getElem hi)
  rw [e] at h1
  cases h1
  exact ⟨_, List.getElem?_eq_getElem hi, h2⟩
theorem RWs.set {x : W} {v : V} (h : RW K G m x v) : ∀ {xs : List W} {vs : List V} (i : Nat), RWs K G m xs vs → RWs K G m (xs.set i x) (vs.set i v)
  | _, _, _, .nil => .nil
  | _, _, 0, .cons _ r => .cons h r
  | _, _, i + 1, .cons a r => .cons a (RWs.set h i r)
theorem RWs.take : ∀ {xs : List W} {vs : List V} (n : Nat), RWs K G m xs vs → RWs K G m (xs.take n) (vs.take n)
  | _, _, 0, _ => .nil
  | _, _, _ + 1, .nil => .nil
  | _, _, n + 1, .cons a r => .cons a (RWs.take n r)
theorem RWs.drop : ∀ {xs : List W} {vs : List V} (n : Nat), RWs K G m xs vs → RWs K G m (xs.drop n) (vs.drop n)
  | _, _, 0, r => r
  | _, _, _ + 1, .nil => .nil
  | _, _, n + 1, .cons _ r => RWs.drop n r
theorem RWs.reverse {xs : List W} {vs : List V} (r : RWs K G m xs vs) : RWs K G m xs.reverse vs.reverse := by
  induction xs generalizing vs with
  | nil => cases r; exact .nil
  | cons x xs ih =>
    cases r with
    | cons h r =>
      rw [List.reverse_cons, List.reverse_cons]
      exact (ih r).append (.cons h .nil)
theorem RWs.eraseIdx : ∀ {xs : List W} {vs : List V} (i : Nat), RWs K G m xs vs → RWs K G m (xs.eraseIdx i) (vs.eraseIdx i)
  | _, _, _, .nil => .nil
  | _, _, 0, .cons _ r => r
  | _, _, i + 1, .cons a r => .cons a (RWs.eraseIdx i r)
theorem RWs.dropLast {xs : List W} {vs : List V} (r : RWs K G m xs vs) : RWs K G m xs.dropLast vs.dropLast := by
  rw [List.dropLast_eq_take, List.dropLast_eq_take, r.length]
  exact r.take _
theorem RWs.rep {xs : List W} {vs : List V} (r : RWs K G m xs vs) : ∀ k : Nat, RWs K G m (List.replicate k xs).flatten (List.replicate k vs).flatten
  | 0 => .nil
  | k + 1 => by
    rw [List.replicate_succ, List.replicate_succ, List.flatten_cons, List.flatten_cons]
    exact r.append (RWs.rep r k)
end

/-- keyed entries -/
inductive RKs {κ : Type} (K : PySem.W.Frag) (G : Hp) (m : List Addr) : List (κ × W) → List (κ × V) → Prop
  | nil : RKs K G m [] []
  | cons {k : κ} {x : W} {v : V} {xs : List (κ × W)} {vs : List (κ × V)} : RW K G m x v → RKs K G m xs vs → RKs K G m ((k, x) :: xs) ((k, v) :: vs)
theorem RKs.mono {κ : Type} {K : PySem.W.Frag} {G G' : Hp} {m m' : List Addr} (e : Ext G m G' m') : ∀ {xs : List (κ × W)} {vs : List (κ × V)}, RKs K G m xs vs → RKs K G' m' xs vs
  | _, _, .nil => .nil
  | _, _, .cons h r => .cons (h.mono e) (RKs.mono e r)

def C.live : C → Prop
  | .dead => False
  | _ => True

/-- the cell's content stands at a -/
def COk (K : PySem.W.Frag) (mg : Str → Option Value) (G : Hp) (m : List Addr) (H : Hp) (a : Addr) : C → Prop
  | .dead => True
  | .lst xs => G a = none ∧ ∃ vs, H a = some (.lst vs) ∧ RWs K G m xs vs
  | .dK kvs => G a = none ∧ ∃ vs, H a = some (.dK vs) ∧ RKs K G m kvs vs
  | .dT kvs => G a = none ∧ ∃ vs, H a = some (.dT vs) ∧ RKs K G m kvs vs
  | .ins cls fs => G a = none ∧ ∃ Cl dx vs, mg cls = some (.ref Cl) ∧ H a = some (.ins Cl dx vs) ∧ RKs K G m fs vs

structure Sim (K : PySem.W.Frag) (mg : Str → Option Value) (F G : Hp) (m : List Addr) (st : Store) (H : Hp) : Prop where
  ex : Ex G H
  exF : Ex F H
  dj : ∀ (b : Addr) (o : HO), F b = some o → G b = none
  fr : ∀ (n : Nat) (c : C) (a : Addr), st[n]? = some c → c.live → m[n]? = some a → F a = none
  len : m.length = st.length
  ok : ∀ (n : Nat) (c : C) (a : Addr), st[n]? = some c → m[n]? = some a → COk K mg G m H a c
  inj : ∀ (i j : Nat) (a : Addr) (c c' : C), st[i]? = some c → st[j]? = some c' → c.live → c'.live → m[i]? = some a → m[j]? = some a → i = j

section
variable {K : PySem.W.Frag} {mg : Str → Option Value} {F G G' : Hp} {m m' : List Addr} {st : Store} {H H' : Hp} {a p : Addr} {c c' : C} {o : HO} {n : Nat}
theorem COk.mono (e : Ext G m G' m') (hg : c.live → G' a = none) (hh : c.live → H' a = H a) (h : COk K mg G m H a c) : COk K mg G' m' H' a c := by
  cases c with
  | dead => exact True.intro
  | lst xs =>
    obtain ⟨_, vs, h1, h2⟩ := h
    exact ⟨hg True.intro, vs, (hh True.intro).trans h1, h2.mono e⟩
  | dK xs =>
    obtain ⟨_, vs, h1, h2⟩ := h
    exact ⟨hg True.intro, vs, (hh True.intro).trans h1, h2.mono e⟩
  | dT xs =>
    obtain ⟨_, vs, h1, h2⟩ := h
    exact ⟨hg True.intro, vs, (hh True.intro).trans h1, h2.mono e⟩
  | ins cls fs =>
    obtain ⟨_, Cl, dx, vs, h0, h1, h2⟩ := h
    exact ⟨hg True.intro, Cl, dx, vs, h0, (hh True.intro).trans h1, h2.mono e⟩
theorem COk.some (h : COk K mg G m H a c) (l : c.live) : G a = none ∧ ∃ o, H a = some o := by
  cases c with
  | dead => exact l.elim
  | lst xs => obtain ⟨g, vs, h1, _⟩ := h; exact ⟨g, _, h1⟩
  | dK xs => obtain ⟨g, vs, h1, _⟩ := h; exact ⟨g, _, h1⟩
  | dT xs => obtain ⟨g, vs, h1, _⟩ := h; exact ⟨g, _, h1⟩
  | ins cls fs => obtain ⟨g, Cl, dx, vs, _, h1, _⟩ := h; exact ⟨g, _, h1⟩
theorem C.live_or (c : C) : c = .dead ∨ c.live := by
  cases c <;> first | exact .inl rfl | exact .inr True.intro
theorem ex_upd (e : Ex G H) (h : H p = none) : Ex (upd G p o) (upd H p o) := fun b u hb => by
  by_cases q : b = p
  · subst q
    rw [upd_same] at hb ⊢
    exact hb
  · rw [upd_ne q] at hb ⊢
    exact e b u hb
theorem Ext.new (h : G p = none) : Ext G m (upd G p o) m := ⟨Ex.new h, fun _ _ q => q⟩
/-- a new object that never changes -/
theorem Sim.newG (S : Sim K mg F G m st H) (hp : H p = none) : Sim K mg F (upd G p o) m st (upd H p o) := by
  have hg : G p = none := fresh_back S.ex hp
  refine ⟨ex_upd S.ex hp, fun b u e => ?_, fun b u e => ?_, S.fr, S.len, fun n c a h1 h2 => ?_, S.inj⟩
  · rw [upd_ne (ne_of_none (S.exF b u e) hp)]
    exact S.exF b u e
  · rw [upd_ne (ne_of_none (S.exF b u e) hp)]
    exact S.dj b u e
  have q := S.ok n c a h1 h2
  refine q.mono (Ext.new hg) (fun l => ?_) (fun l => ?_)
  · obtain ⟨g, u, hu⟩ := q.some l
    rw [upd_ne (ne_of_none hu hp)]
    exact g
  · obtain ⟨g, u, hu⟩ := q.some l
    rw [upd_ne (ne_of_none hu hp)]
theorem getElem?_snoc {α : Type} {l : List α} {x y : α} {i : Nat} (h : (l ++ [x])[i]? = some y) : (i < l.length ∧ l[i]? = some y) ∨ (i = l.length ∧ y = x) := by
  by_cases q : i < l.length
  · rw [List.getElem?_append_left q] at h
    exact .inl ⟨q, h⟩
  · rw [List.getElem?_append_right (by omega)] at h
    have q2 : i - l.length = 0 := by
      have := (List.getElem?_eq_some_iff.mp h).1
      simp at this
      omega
    rw [q2] at h
    simp at h
    exact .inr ⟨by omega, h.symm⟩
theorem mm_snoc {l : List Addr} (n : Nat) (a : Addr) (h : l[n]? = some a) : (l ++ [p])[n]? = some a := by
  rw [List.getElem?_append_left (List.getElem?_eq_some_iff.mp h).1]
  exact h
theorem Ext.cell : Ext G m G (m ++ [p]) := ⟨Ex.refl G, fun n a h => mm_snoc n a h⟩
/-- a new cell -/
theorem Sim.newC (S : Sim K mg F G m st H) (hp : H p = none) (hc : COk K mg G (m ++ [p]) (upd H p o) p c) : Sim K mg F G (m ++ [p]) (st ++ [c]) (upd H p o) := by
  have hg : G p = none := fresh_back S.ex hp
  refine ⟨fun b u e => ?_, fun b u e => ?_, S.dj, fun n c' a h1 l h2 => ?_, by simp [S.len], fun n c' a h1 h2 => ?_, fun i j a c1 c2 h1 h2 l1 l2 h3 h4 => ?_⟩
  · rw [upd_ne (ne_of_none (S.ex b u e) hp)]
    exact S.ex b u e
  · rw [upd_ne (ne_of_none (S.exF b u e) hp)]
    exact S.exF b u e
  · have hl := S.len
    rcases getElem?_snoc h1 with ⟨i1, h1⟩ | ⟨i1, h1⟩ <;> rcases getElem?_snoc h2 with ⟨i2, h2⟩ | ⟨i2, h2⟩ <;> first | omega | skip
    · exact S.fr n c' a h1 l h2
    · rw [h2]
      exact fresh_back S.exF hp
  · rcases getElem?_snoc h1 with ⟨i1, h1⟩ | ⟨i1, h1⟩
    · rcases getElem?_snoc h2 with ⟨i2, h2⟩ | ⟨i2, h2⟩
      · have q := S.ok n c' a h1 h2
        refine q.mono Ext.cell (fun l => (q.some l).1) (fun l => ?_)
        obtain ⟨g, u, hu⟩ := q.some l
        rw [upd_ne (ne_of_none hu hp)]
      · have := S.len
        omega
    · rcases getElem?_snoc h2 with ⟨i2, h2⟩ | ⟨i2, h2⟩
      · have := S.len
        omega
      · subst h1 h2
        exact hc
  · have old : ∀ {k : Nat} {c : C} {b : Addr}, st[k]? = some c → m[k]? = some b → c.live → b ≠ p := fun {k c b} e1 e2 l => by
      obtain ⟨g, u, hu⟩ := (S.ok _ _ _ e1 e2).some l
      exact ne_of_none hu hp
    have hl := S.len
    rcases getElem?_snoc h1 with ⟨i1, h1⟩ | ⟨i1, h1⟩ <;> rcases getElem?_snoc h2 with ⟨i2, h2⟩ | ⟨i2, h2⟩ <;>
      rcases getElem?_snoc h3 with ⟨i3, h3⟩ | ⟨i3, h3⟩ <;> rcases getElem?_snoc h4 with ⟨i4, h4⟩ | ⟨i4, h4⟩ <;> first | omega | skip
    · exact S.inj i j a c1 c2 h1 h2 l1 l2 h3 h4
    · exact absurd h4 (old h1 h3 l1)
    · exact absurd h3 (old h2 h4 l2)
/-- a cell's content is changed -/
theorem Sim.set {c0 : C} (S : Sim K mg F G m st H) (h0 : st[n]? = some c0) (l0 : c0.live) (ha : m[n]? = some a) (hc : COk K mg G m (upd H a o) a c') : Sim K mg F G m (st.set n c') (upd H a o) := by
  obtain ⟨g0, u0, hu0⟩ := (S.ok _ _ _ h0 ha).some l0
  refine ⟨fun b u e => ?_, fun b u e => ?_, S.dj, fun k c b h1 l h2 => ?_, by simp [S.len], fun k c b h1 h2 => ?_, fun i j b c1 c2 h1 h2 l1 l2 h3 h4 => ?_⟩
  · rw [upd_ne (ne_of_none e g0)]
    exact S.ex b u e
  · rw [upd_ne (ne_of_none e (S.fr _ _ _ h0 l0 ha))]
    exact S.exF b u e
  · by_cases q : n = k
    · subst q
      rw [ha] at h2
      cases h2
      exact S.fr _ _ _ h0 l0 ha
    · rw [List.getElem?_set_ne q] at h1
      exact S.fr _ _ _ h1 l h2
  · by_cases q : n = k
    · subst q
      rw [List.getElem?_set_self (List.getElem?_eq_some_iff.mp h0).1] at h1
      rw [ha] at h2
      cases h1
      cases h2
      exact hc
    · rw [List.getElem?_set_ne q] at h1
      have z := S.ok k c b h1 h2
      refine z.mono (Ext.refl G m) (fun l => (z.some l).1) (fun l => ?_)
      rw [upd_ne]
      intro e
      subst e
      exact q (S.inj n k b c0 c h0 h1 l0 l ha h2)
  · have back : ∀ {k : Nat} {c : C}, (st.set n c')[k]? = some c → c.live → ∃ c2, st[k]? = some c2 ∧ c2.live := fun {k c} e l => by
      by_cases q : n = k
      · subst q
        exact ⟨c0, h0, l0⟩
      · rw [List.getElem?_set_ne q] at e
        exact ⟨c, e, l⟩
    obtain ⟨d1, e1, m1⟩ := back h1 l1
    obtain ⟨d2, e2, m2⟩ := back h2 l2
    exact S.inj i j b d1 d2 e1 e2 m1 m2 h3 h4
/-- a cell's list becomes plain data -/
theorem Sim.freeze {xs : List W} {vs : List V} (S : Sim K mg F G m st H) (h0 : st[n]? = some (.lst xs)) (ha : m[n]? = some a) (hv : H a = some (.lst vs)) (r : RWs K G m xs vs) :
    Sim K mg F (upd G a (.lst vs)) m (st.set n .dead) H ∧ Ext G m (upd G a (.lst vs)) m ∧ RW K (upd G a (.lst vs)) m (.lst xs) (.ref a) := by
  have g0 : G a = none := (S.ok _ _ _ h0 ha).1
  refine ⟨⟨fun b u e => ?_, S.exF, fun b u e => ?_, fun k c b h1 l h2 => ?_, by simp [S.len], fun k c b h1 h2 => ?_, fun i j b c1 c2 h1 h2 l1 l2 h3 h4 => ?_⟩, Ext.new g0, .lst upd_same (r.mono (Ext.new g0))⟩
  · by_cases q : b = a
    · subst q
      rw [upd_same] at e
      cases e
      exact hv
    · rw [upd_ne q] at e
      exact S.ex b u e
  · rw [upd_ne (ne_of_none e (S.fr _ _ _ h0 True.intro ha))]
    exact S.dj b u e
  · by_cases q : n = k
    · subst q
      rw [List.getElem?_set_self (List.getElem?_eq_some_iff.mp h0).1] at h1
      cases h1
      exact l.elim
    · rw [List.getElem?_set_ne q] at h1
      exact S.fr _ _ _ h1 l h2
  · by_cases q : n = k
    · subst q
      rw [List.getElem?_set_self (List.getElem?_eq_some_iff.mp h0).1] at h1
      cases h1
      exact True.intro
    · rw [List.getElem?_set_ne q] at h1
      have z := S.ok k c b h1 h2
      refine z.mono (Ext.new g0) (fun l => ?_) (fun l => rfl)
      rw [upd_ne]
      · exact (z.some l).1
      · intro e
        subst e
        exact q (S.inj n k b _ c h0 h1 True.intro l ha h2)
  · have back : ∀ {k : Nat} {c : C}, (st.set n C.dead)[k]? = some c → c.live → st[k]? = some c := fun {k c} e l => by
      by_cases q : n = k
      · subst q
        rw [List.getElem?_set_self (List.getElem?_eq_some_iff.mp h0).1] at e
        cases e
        exact l.elim
      · rw [List.getElem?_set_ne q] at e
        exact e
    exact S.inj i j b c1 c2 (back h1 l1) (back h2 l2) l1 l2 h3 h4
/-- less is held apart -/
theorem Sim.less {F' : Hp} (S : Sim K mg F' G m st H) (e : Ex F F') : Sim K mg F G m st H := by
  refine ⟨S.ex, e.trans S.exF, fun b o h => S.dj b o (e b o h), fun n c a h1 l h2 => ?_, S.len, S.ok, S.inj⟩
  have h := S.fr n c a h1 l h2
  cases q : F a with
  | none => rfl
  | some o =>
    rw [e a o q] at h
    cases h
/-- more is held apart: a new object -/
theorem Sim.more (S : Sim K mg F G m st H) (hp : H p = none) : Sim K mg (upd F p o) G m st (upd H p o) := by
  refine ⟨fun b u e => ?_, ex_upd S.exF hp, fun b u e => ?_, fun n c a h1 l h2 => ?_, S.len, fun n c a h1 h2 => ?_, S.inj⟩
  · rw [upd_ne (ne_of_none (S.ex b u e) hp)]
    exact S.ex b u e
  · by_cases q : b = p
    · rw [q]
      exact fresh_back S.ex hp
    · rw [upd_ne q] at e
      exact S.dj b u e
  · obtain ⟨g, u, hu⟩ := (S.ok n c a h1 h2).some l
    rw [upd_ne (ne_of_none hu hp)]
    exact S.fr n c a h1 l h2
  · have q := S.ok n c a h1 h2
    refine q.mono (Ext.refl G m) (fun l => (q.some l).1) (fun l => ?_)
    obtain ⟨g, u, hu⟩ := q.some l
    rw [upd_ne (ne_of_none hu hp)]
/-- .. changes -/
theorem Sim.turn {o' : HO} (S : Sim K mg (upd F p o) G m st H) : Sim K mg (upd F p o') G m st (upd H p o') := by
  have gp : G p = none := S.dj p o upd_same
  refine ⟨fun b u e => ?_, fun b u e => ?_, fun b u e => ?_, fun n c a h1 l h2 => ?_, S.len, fun n c a h1 h2 => ?_, S.inj⟩
  · rw [upd_ne (ne_of_none e gp)]
    exact S.ex b u e
  · by_cases q : b = p
    · subst q
      rw [upd_same] at e ⊢
      exact e
    · rw [upd_ne q] at e ⊢
      exact S.exF b u (by rw [upd_ne q]; exact e)
  · by_cases q : b = p
    · rw [q]
      exact gp
    · rw [upd_ne q] at e
      exact S.dj b u (by rw [upd_ne q]; exact e)
  · have h := S.fr n c a h1 l h2
    by_cases q : a = p
    · subst q
      rw [upd_same] at h
      cases h
    · rw [upd_ne q] at h ⊢
      exact h
  · have q := S.ok n c a h1 h2
    refine q.mono (Ext.refl G m) (fun l => (q.some l).1) (fun l => ?_)
    rw [upd_ne]
    intro z
    subst z
    have h := S.fr n c a h1 l h2
    rw [upd_same] at h
    cases h
/-- .. becomes plain data -/
theorem Sim.give {vs : List V} {xs : List W} (S : Sim K mg (upd F p (.lst vs)) G m st H) (fp : F p = none) (r : RWs K G m xs vs) :
    Sim K mg F (upd G p (.lst vs)) m st H ∧ Ext G m (upd G p (.lst vs)) m ∧ RW K (upd G p (.lst vs)) m (.lst xs) (.ref p) := by
  have gp : G p = none := S.dj p _ upd_same
  have hp : H p = some (.lst vs) := S.exF p _ upd_same
  have nf : ∀ {b : Addr} {o : HO}, F b = some o → (upd F p (.lst vs)) b = some o := fun {b o} e => by
    rw [upd_ne (ne_of_none e fp)]
    exact e
  refine ⟨⟨fun b u e => ?_, fun b u e => S.exF b u (nf e), fun b u e => ?_, fun n c a h1 l h2 => ?_, S.len, fun n c a h1 h2 => ?_, S.inj⟩, Ext.new gp, .lst upd_same (r.mono (Ext.new gp))⟩
  · by_cases q : b = p
    · subst q
      rw [upd_same] at e
      cases e
      exact hp
    · rw [upd_ne q] at e
      exact S.ex b u e
  · rw [upd_ne (ne_of_none e fp)]
    exact S.dj b u (nf e)
  · have h := S.fr n c a h1 l h2
    by_cases q : a = p
    · rw [q]
      exact fp
    · rw [upd_ne q] at h
      exact h
  · have q := S.ok n c a h1 h2
    refine q.mono (Ext.new gp) (fun l => ?_) (fun l => rfl)
    rw [upd_ne]
    · exact (q.some l).1
    · intro z
      subst z
      have h := S.fr n c a h1 l h2
      rw [upd_same] at h
      cases h
theorem Sim.addr (S : Sim K mg F G m st H) (h : st[n]? = some c) : ∃ a, m[n]? = some a := by
  have h1 := (List.getElem?_eq_some_iff.mp h).1
  rw [← S.len] at h1
  exact ⟨_, List.getElem?_eq_getElem h1⟩
end
end Sh


set_option maxRecDepth 100000
set_option maxHeartbeats 2000000
namespace Sh
open PySem L2 Evl

abbrev MG := Str → Option Value
/-- an error's class and its own dict -/
def XOk (K : PySem.W.Frag) (mg : MG) (G : Hp) (m : List Addr) (H : Hp) (x : Exn) (cls : Value) (d : Option Addr) : Prop :=
  ∃ Cl, mg x.cls = some (.ref Cl) ∧ cls = .ref Cl ∧ (x.fs = [] ∨ ∃ da vs, d = some da ∧ H da = some (.xd vs) ∧ RKs K G m x.fs vs)

abbrev Rel (α β : Type) := PySem.W.Frag → Hp → List Addr → α → β → Prop
def Post {α β : Type} (R : Rel α β) (K : PySem.W.Frag) (mg : MG) (E : XK) (F G : Hp) (m : List Addr) (o : Out α) (Q : β → Hp → Prop) : Prop := match o with
  | .stuck => False
  | .ok a st => ∀ G' m' b H', Ext G m G' m' → Sim K mg F G' m' st H' → R K G' m' a b → Q b H'
  | .exc x st => ∀ G' m' H' cls d, Ext G m G' m' → Sim K mg F G' m' st H' → XOk K mg G' m' H' x cls d → E cls d H'

section
variable {K : PySem.W.Frag} {mg : MG} {E : XK} {F G G' H : Hp} {m m' : List Addr} {st : Store} {α β γ δ : Type} {R : Rel α β} {R' : Rel γ δ}
theorem Post.mono {o : Out α} {Q : β → Hp → Prop} (e : Ext G m G' m') (h : Post R K mg E F G m o Q) : Post R K mg E F G' m' o Q := by
  cases o with
  | stuck => exact h
  | ok a st => exact fun G2 m2 b H2 e2 => h G2 m2 b H2 (e.trans e2)
  | exc x st => exact fun G2 m2 H2 c d e2 => h G2 m2 H2 c d (e.trans e2)
theorem Post.imp {o : Out α} {Q Q' : β → Hp → Prop} (h : Post R K mg E F G m o Q) (f : ∀ b H, Q b H → Q' b H) : Post R K mg E F G m o Q' := by
  cases o with
  | stuck => exact h
  | ok a st => exact fun G2 m2 b H2 e s r => f b H2 (h G2 m2 b H2 e s r)
  | exc x st => exact h
theorem Post.bind {o : Out α} {f : α → M γ} {Q : δ → Hp → Prop} (h : Post R' K mg E F G m (o.bind f) Q) :
    Post R K mg E F G m o fun b H => ∃ G' m' a st, Ext G m G' m' ∧ Sim K mg F G' m' st H ∧ R K G' m' a b ∧ Post R' K mg E F G' m' (f a st) Q := by
  cases o with
  | stuck => exact h
  | ok a st => exact fun G2 m2 b H2 e s r => ⟨G2, m2, a, st, e, s, r, Post.mono e h⟩
  | exc x st => exact h
theorem Post.ret {a : α} {b : β} {Q : β → Hp → Prop} (h : Post R K mg E F G m (.ok a st) Q) (S : Sim K mg F G m st H) (r : R K G m a b) : Q b H := h G m b H (Ext.refl G m) S r
theorem Post.nox {o : Out α} {Q : β → Hp → Prop} {E' : XK} (h : Post R K mg E F G m o.nox Q) : Post R K mg E' F G m o.nox Q := by
  cases o with
  | stuck => exact h
  | ok a st => exact h
  | exc x st => exact h.elim
end

def REnv (K : PySem.W.Frag) (G : Hp) (m : List Addr) (env : Env) (σ : L2.St) : Prop :=
  env.length = σ.length ∧ ∀ (i : Nat) (w : W), env[i]? = some (some w) → ∃ v, σ[i]? = some (some v) ∧ RW K G m w v
section
variable {K : PySem.W.Frag} {G G' : Hp} {m m' : List Addr} {env : Env} {σ : L2.St}
theorem REnv.mono (e : Ext G m G' m') (h : REnv K G m env σ) : REnv K G' m' env σ := ⟨h.1, fun i w q => let ⟨v, a, b⟩ := h.2 i w q; ⟨v, a, b.mono e⟩⟩
theorem REnv.set {w : W} {v : V} (h : REnv K G m env σ) (r : RW K G m w v) (i : Nat) : REnv K G m (env.set i (some w)) (σ.set i (some v)) := by
  refine ⟨by rw [List.length_set, List.length_set, h.1], fun j u q => ?_⟩
  by_cases e : i = j
  · subst e
    by_cases hi : i < env.length
    · rw [List.getElem?_set_self hi] at q
      cases q
      exact ⟨v, List.getElem?_set_self (by rw [← h.1]; exact hi), r⟩
    · rw [List.getElem?_eq_none (by rw [List.length_set]; omega)] at q
      cases q
  · rw [List.getElem?_set_ne e] at q ⊢
    exact h.2 j u q
theorem REnv.clr (h : REnv K G m env σ) (i : Nat) : REnv K G m (env.set i none) (σ.set i none) := by
  refine ⟨by rw [List.length_set, List.length_set, h.1], fun j u q => ?_⟩
  by_cases e : i = j
  · subst e
    by_cases hi : i < env.length
    · rw [List.getElem?_set_self hi] at q
      cases q
    · rw [List.getElem?_eq_none (by rw [List.length_set]; omega)] at q
      cases q
  · rw [List.getElem?_set_ne e] at q ⊢
    exact h.2 j u q
end
def wipeW (env : Env) : List Nat → Env
  | [] => env
  | v :: vs => (wipeW env vs).set v none
theorem REnv.wipe {K : PySem.W.Frag} {G : Hp} {m : List Addr} {env : Env} {σ : L2.St} (h : REnv K G m env σ) : ∀ vs : List Nat, REnv K G m (wipeW env vs) (L2.wipe σ vs)
  | [] => h
  | v :: vs => (REnv.wipe h vs).clr v

abbrev RA : Rel (List W) (List V) := RWs
def RB : Rel Bool Bool := fun _ _ _ a b => b = a
def RU : Rel Unit Unit := fun _ _ _ _ _ => True
/-- a new list, as yet nobody's -/
def RF : Rel (List W) V := fun _ _ _ _ _ => True

/-! ### the readings -/
def tE (K : PySem.W.Frag) (mg : MG) (E : XK) (d : Env → M W) : TE := fun σ H Q => ∃ F G m env st, Sim K mg F G m st H ∧ REnv K G m env σ ∧ Post RW K mg E F G m (d env st) Q
def tT (K : PySem.W.Frag) (mg : MG) (E : XK) (d : Env → M Bool) : TT := fun σ H Q => ∃ F G m env st, Sim K mg F G m st H ∧ REnv K G m env σ ∧ Post RB K mg E F G m (d env st) Q
def tA (K : PySem.W.Frag) (mg : MG) (E : XK) (d : Env → M (List W)) : TA := fun σ H Q => ∃ F G m env st, Sim K mg F G m st H ∧ REnv K G m env σ ∧ Post RA K mg E F G m (d env st) Q
/-- a new list that nothing tells of yet -/
def PostF (K : PySem.W.Frag) (mg : MG) (E : XK) (F G : Hp) (m : List Addr) (o : Out (List W)) (Q : VK) : Prop := match o with
  | .stuck => False
  | .ok xs st' => ∀ G' m' p vs H', Ext G m G' m' → Sim K mg F G' m' st' H' → H' p = none → RWs K G' m' xs vs → Q (.ref p) (upd H' p (.lst vs))
  | .exc x st' => ∀ G' m' H' cls d, Ext G m G' m' → Sim K mg F G' m' st' H' → XOk K mg G' m' H' x cls d → E cls d H'
def tF (K : PySem.W.Frag) (mg : MG) (E : XK) (d : Env → M (List W)) : TE := fun σ H Q => ∃ F G m env st, Sim K mg F G m st H ∧ REnv K G m env σ ∧ PostF K mg E F G m (d env st) Q
section
variable {K : PySem.W.Frag} {mg : MG} {E : XK} {F G G' H : Hp} {m m' : List Addr} {st : Store} {α β : Type} {R : Rel α β}
theorem PostF.mono {o : Out (List W)} {Q : VK} (e : Ext G m G' m') (h : PostF K mg E F G m o Q) : PostF K mg E F G' m' o Q := by
  cases o with
  | stuck => exact h
  | ok a st => exact fun G2 m2 p b H2 e2 => h G2 m2 p b H2 (e.trans e2)
  | exc x st => exact fun G2 m2 H2 c d e2 => h G2 m2 H2 c d (e.trans e2)
theorem PostF.bind {o : Out α} {f : α → M (List W)} {Q : VK} (h : PostF K mg E F G m (o.bind f) Q) :
    Post R K mg E F G m o fun b H => ∃ G' m' a st, Ext G m G' m' ∧ Sim K mg F G' m' st H ∧ R K G' m' a b ∧ PostF K mg E F G' m' (f a st) Q := by
  cases o with
  | stuck => exact h
  | ok a st => exact fun G2 m2 b H2 e s r => ⟨G2, m2, a, st, e, s, r, PostF.mono e h⟩
  | exc x st => exact h
theorem PostF.ret {xs : List W} {vs : List V} {p : Addr} {Q : VK} (h : PostF K mg E F G m (.ok xs st) Q) (S : Sim K mg F G m st H) (hp : H p = none) (r : RWs K G m xs vs) : Q (.ref p) (upd H p (.lst vs)) :=
  h G m p vs H (Ext.refl G m) S hp r
end

inductive SOut where
  | stuck | nx (env : Env) (st : Store) | rt (w : W) (st : Store) | bk (env : Env) (st : Store) | ct (env : Env) (st : Store) | exc (x : Exn) (st : Store)
abbrev S := Env → Store → SOut
def Out.bindS {α : Type} (o : Out α) (f : α → Store → SOut) : SOut := match o with
  | .stuck => .stuck
  | .ok a st => f a st
  | .exc x st => .exc x st
@[simp] theorem Out.bindS_ok {α : Type} (a : α) (st : Store) (f : α → Store → SOut) : (Out.ok a st).bindS f = f a st := rfl
@[simp] theorem Out.bindS_stuck {α : Type} (f : α → Store → SOut) : (Out.stuck : Out α).bindS f = .stuck := rfl
@[simp] theorem Out.bindS_exc {α : Type} (x : Exn) (st : Store) (f : α → Store → SOut) : (Out.exc x st : Out α).bindS f = .exc x st := rfl

def PostS (K : PySem.W.Frag) (mg : MG) (E : XK) (F G : Hp) (m : List Addr) (o : SOut) (D : Ends) : Prop := match o with
  | .stuck => False
  | .nx env st => ∀ G' m' σ' H', Ext G m G' m' → Sim K mg F G' m' st H' → REnv K G' m' env σ' → D.nx σ' H'
  | .bk env st => ∀ G' m' σ' H', Ext G m G' m' → Sim K mg F G' m' st H' → REnv K G' m' env σ' → D.bk σ' H'
  | .ct env st => ∀ G' m' σ' H', Ext G m G' m' → Sim K mg F G' m' st H' → REnv K G' m' env σ' → D.ct σ' H'
  | .rt w st => ∀ G' m' v H', Ext G m G' m' → Sim K mg F G' m' st H' → RW K G' m' w v → D.rt v H'
  | .exc x st => ∀ G' m' H' cls d, Ext G m G' m' → Sim K mg F G' m' st H' → XOk K mg G' m' H' x cls d → E cls d H'
def tS (K : PySem.W.Frag) (mg : MG) (E : XK) (s : S) : TS := fun D σ H => ∃ F G m env st, Sim K mg F G m st H ∧ REnv K G m env σ ∧ PostS K mg E F G m (s env st) D

section
variable {K : PySem.W.Frag} {mg : MG} {E : XK} {F G G' H : Hp} {m m' : List Addr} {st : Store} {α β : Type} {R : Rel α β}
theorem PostS.mono {o : SOut} {D : Ends} (e : Ext G m G' m') (h : PostS K mg E F G m o D) : PostS K mg E F G' m' o D := by
  cases o with
  | stuck => exact h
  | nx env st => exact fun G2 m2 b H2 e2 => h G2 m2 b H2 (e.trans e2)
  | bk env st => exact fun G2 m2 b H2 e2 => h G2 m2 b H2 (e.trans e2)
  | ct env st => exact fun G2 m2 b H2 e2 => h G2 m2 b H2 (e.trans e2)
  | rt w st => exact fun G2 m2 b H2 e2 => h G2 m2 b H2 (e.trans e2)
  | exc x st => exact fun G2 m2 H2 c d e2 => h G2 m2 H2 c d (e.trans e2)
theorem PostS.bindS {o : Out α} {f : α → Store → SOut} {D : Ends} (h : PostS K mg E F G m (o.bindS f) D) :
    Post R K mg E F G m o fun b H => ∃ G' m' a st, Ext G m G' m' ∧ Sim K mg F G' m' st H ∧ R K G' m' a b ∧ PostS K mg E F G' m' (f a st) D := by
  cases o with
  | stuck => exact h
  | ok a st => exact fun G2 m2 b H2 e s r => ⟨G2, m2, a, st, e, s, r, PostS.mono e h⟩
  | exc x st => exact h
end

/-! ### the judgements -/
section
variable {X : Cx}
theorem weakE {e : Expr} {t t' : TE} (h : PE X e t) (w : ∀ σ H Q, t' σ H Q → t σ H Q) : PE X e t' := ⟨fun pins s σ H Q I q => h.run pins s σ H Q I (w σ H Q q)⟩
theorem weakT {e : Expr} {t t' : TT} (h : PT X e t) (w : ∀ σ H Q, t' σ H Q → t σ H Q) : PT X e t' := ⟨fun pins s σ H Q I q => h.run pins s σ H Q I (w σ H Q q)⟩
theorem weakA {e : List Expr} {t t' : TA} (h : PA X e t) (w : ∀ σ H Q, t' σ H Q → t σ H Q) : PA X e t' := ⟨fun po pins s σ H Q I q => h.run po pins s σ H Q I (w σ H Q q)⟩
theorem weakS {e : Stmt} {t t' : TS} (h : PS X e t) (w : ∀ D σ H, t' D σ H → t D σ H) : PS X e t' := ⟨fun pins s σ H D I q => h.run pins s σ H D I (w D σ H q)⟩
theorem weakSs {e : List Stmt} {t t' : TS} (h : PSs X e t) (w : ∀ D σ H, t' D σ H → t D σ H) : PSs X e t' := ⟨fun pins s σ H D I q => h.run pins s σ H D I (w D σ H q)⟩
end
abbrev JE (X : Cx) (E : XK) (e : Expr) (d : Env → M W) : Prop := PE X e (tE X.K X.mg E d)
abbrev JT (X : Cx) (E : XK) (e : Expr) (d : Env → M Bool) : Prop := PT X e (tT X.K X.mg E d)
abbrev JA (X : Cx) (E : XK) (e : List Expr) (d : Env → M (List W)) : Prop := PA X e (tA X.K X.mg E d)
abbrev JF (X : Cx) (E : XK) (e : Expr) (d : Env → M (List W)) : Prop := PE X e (tF X.K X.mg E d)
abbrev JS (X : Cx) (E : XK) (e : Stmt) (d : S) : Prop := PS X e (tS X.K X.mg E d)
abbrev JSs (X : Cx) (E : XK) (e : List Stmt) (d : S) : Prop := PSs X e (tS X.K X.mg E d)

/-! ### names, constants, operators -/
def dVar (i : Nat) : Env → M W := fun env st => match env[i]? with
  | some (some w) => .ok w st
  | _ => .stuck
def dC (w : W) : Env → M W := fun _ st => .ok w st
def dOp (f : W → W → M W) (a b : Env → M W) : Env → M W := fun env st => (a env st).bind fun x st => (b env st).bind fun y st => f x y st
def dUn (f : W → M W) (a : Env → M W) : Env → M W := fun env st => (a env st).bind f
def dNil : Env → M (List W) := fun _ st => .ok [] st
def dCons (a : Env → M W) (r : Env → M (List W)) : Env → M (List W) := fun env st => (a env st).bind fun x st => (r env st).bind fun xs st => .ok (x :: xs) st
/-- an operation of values keeps its word -/
def OpOk (K : PySem.W.Frag) (mg : MG) (E : XK) (r : R2) (f : W → W → M W) : Prop :=
  ∀ F G m st H x y v u Q, Sim K mg F G m st H → RW K G m x v → RW K G m y u → Post RW K mg E F G m (f x y st) Q → r v u H Q
def UnOk (K : PySem.W.Frag) (mg : MG) (E : XK) (r : V → Hp → VK → Prop) (f : W → M W) : Prop :=
  ∀ F G m st H x v Q, Sim K mg F G m st H → RW K G m x v → Post RW K mg E F G m (f x st) Q → r v H Q
def CallOk (K : PySem.W.Frag) (mg : MG) (E : XK) (r : List V → Hp → VK → Prop) (f : List W → M W) : Prop :=
  ∀ F G m st H xs vs Q, Sim K mg F G m st H → RWs K G m xs vs → Post RW K mg E F G m (f xs st) Q → r vs H Q
def TruOk (K : PySem.W.Frag) (mg : MG) (E : XK) (r : V → Hp → (Bool → Hp → Prop) → Prop) (f : W → M Bool) : Prop :=
  ∀ F G m st H x v Q, Sim K mg F G m st H → RW K G m x v → Post RB K mg E F G m (f x st) Q → r v H Q

section
variable {X : Cx} {E : XK} {a b e : Expr} {es : List Expr} {da db d : Env → M W} {ds : Env → M (List W)} {pos : Pos} {r : R2} {f : W → W → M W}
theorem je_var (i : Nat) {x : Str} {pos : Pos} (hN : X.N[i]? = some x := by rfl) (hv : Vis X.env.scope x := by first | exact Or.inl rfl | exact Or.inr (Or.inl rfl) | exact Or.inr (Or.inr rfl))
    (hd : (x == ("__debug__" : Str)) = false := by decide) (hcd : (x == ("__classdict__" : Str)) = false := by decide) : JE X E (.Name x pos) (dVar i) := by
  refine weakE (pe_var hN hv hd hcd) ?_
  rintro σ H Q ⟨F, G, m, env, st, S, R, P⟩
  unfold dVar at P
  split at P
  · rename_i w q
    obtain ⟨v, h1, h2⟩ := R.2 i w q
    exact ⟨v, h1, P.ret S h2⟩
  · exact P.elim
theorem je_const {v : V} {w : W} (h : PE X e (tC v)) (r : ∀ G m, RW X.K G m w v) : JE X E e (dC w) := by
  refine weakE h ?_
  rintro σ H Q ⟨F, G, m, env, st, S, R, P⟩
  exact P.ret S (r G m)
theorem je_int {i j pos} : JE X E (.Constant (.int i) j pos) (dC (.int i)) := je_const pe_int fun _ _ => .int i
theorem je_bl {i j pos} : JE X E (.Constant (.bool i) j pos) (dC (.bl i)) := je_const pe_bl fun _ _ => .bl i
theorem je_str {i j pos} : JE X E (.Constant (.str i) j pos) (dC (.str i)) := je_const pe_str fun _ _ => .str i
theorem je_non {j pos} : JE X E (.Constant .none j pos) (dC .non) := je_const pe_non fun _ _ => .non

theorem two {Q : V → V → Hp → Prop} {σ : L2.St} {H : Hp} {da db : Env → M W} {γ δ : Type} {R' : Rel γ δ} {k : W → W → M γ} {QQ : δ → Hp → Prop} {G : Hp} {m : List Addr} {env : Env} {st : Store}
    (S : Sim X.K X.mg F G m st H) (R : REnv X.K G m env σ) (P : Post R' X.K X.mg E F G m ((da env st).bind fun x st => (db env st).bind fun y st => k x y st) QQ)
    (h : ∀ F G m st H x y v u, Sim X.K X.mg F G m st H → RW X.K G m x v → RW X.K G m y u → Post R' X.K X.mg E F G m (k x y st) QQ → Q v u H) :
    tE X.K X.mg E da σ H fun v H1 => tE X.K X.mg E db σ H1 fun u H2 => Q v u H2 :=
  ⟨F, G, m, env, st, S, R, P.bind.imp fun v1 H1 ⟨G1, m1, x, st1, e1, S1, r1, P1⟩ => ⟨F, G1, m1, env, st1, S1, R.mono e1, P1.bind.imp fun v2 H2 ⟨G2, m2, y, st2, e2, S2, r2, P2⟩ => h F G2 m2 st2 H2 x y v1 v2 S2 (r1.mono e2) r2 P2⟩⟩
theorem je_op {op : Operator} (ho : OpR X (binaryOp op) r) (hf : OpOk X.K X.mg E r f) (ha : JE X E a da) (hb : JE X E b db) : JE X E (.BinOp a op b pos) (dOp f da db) := by
  refine weakE (pe_op ho ha hb) ?_
  rintro σ H Q ⟨F, G, m, env, st, S, R, P⟩
  exact two S R P fun F G m st H x y v u S1 r1 r2 P1 => hf F G m st H x y v u Q S1 r1 r2 P1
theorem je_cmp {op : CmpOp} (ho : OpR X (compareOp op) r) (hf : OpOk X.K X.mg E r f) (ha : JE X E a da) (hb : JE X E b db) (hm : behindInMarks op b = false) : JE X E (.Compare a [op] [b] pos) (dOp f da db) := by
  refine weakE (pe_cmpR ho ha hb hm) ?_
  rintro σ H Q ⟨F, G, m, env, st, S, R, P⟩
  exact two S R P fun F G m st H x y v u S1 r1 r2 P1 => hf F G m st H x y v u Q S1 r1 r2 P1
theorem je_un {op : UnaryOp} {r : V → Hp → VK → Prop} {f : W → M W} (ho : UnR X (unaryOp op) r) (hf : UnOk X.K X.mg E r f) (ha : JE X E a da) : JE X E (.UnaryOp op a pos) (dUn f da) := by
  refine weakE (pe_un ho ha) ?_
  rintro σ H Q ⟨F, G, m, env, st, S, R, P⟩
  exact ⟨F, G, m, env, st, S, R, P.bind.imp fun v1 H1 ⟨G1, m1, x, st1, e1, S1, r1, P1⟩ => hf F G1 m1 st1 H1 x v1 Q S1 r1 P1⟩
theorem je_ix {r : R2} {f : W → W → M W} (ho : IxR X r) (hf : OpOk X.K X.mg E r f) (ha : JE X E a da) (hb : JE X E b db) (hs : PlainIx b := by exact fun _ _ => rfl) : JE X E (.Subscript a b pos) (dOp f da db) := by
  refine weakE (pe_ix ho ha hb hs) ?_
  rintro σ H Q ⟨F, G, m, env, st, S, R, P⟩
  exact two S R P fun F G m st H x y v u S1 r1 r2 P1 => hf F G m st H x y v u Q S1 r1 r2 P1
theorem ja_nil : JA X E [] dNil := by
  refine weakA pa_nil ?_
  rintro σ H Q ⟨F, G, m, env, st, S, R, P⟩
  exact P.ret S .nil
theorem ja_cons (ha : JE X E e d) (hr : JA X E es ds) (hs : starEach (e :: es) X.env = (false, eval e X.env) :: starEach es X.env := by rfl) : JA X E (e :: es) (dCons d ds) := by
  refine weakA (pa_cons ha hr hs) ?_
  rintro σ H Q ⟨F, G, m, env, st, S, R, P⟩
  refine ⟨F, G, m, env, st, S, R, P.bind.imp fun v1 H1 ⟨G1, m1, x, st1, e1, S1, r1, P1⟩ => ?_⟩
  refine ⟨F, G1, m1, env, st1, S1, R.mono e1, (P1.bind (R := RA)).imp fun v2 H2 ⟨G2, m2, y, st2, e2, S2, r2, P2⟩ => ?_⟩
  exact P2.ret S2 (RWs.cons (r1.mono e2) r2)
/-- a display that is a tuple -/
def dTup (ds : Env → M (List W)) : Env → M W := fun env st => (ds env st).bind fun xs st => if xs.length ≤ sizeLine then .ok (.tup xs) st else .stuck
theorem je_tup {x1} (h : JA X E es ds) : JE X E (.Tuple es x1 pos) (dTup ds) := by
  refine weakE (pe_tup h) ?_
  rintro σ H Q ⟨F, G, m, env, st, S, R, P⟩
  refine ⟨F, G, m, env, st, S, R, (P.bind (R := RA)).imp fun vs H1 ⟨G1, m1, xs, st1, e1, S1, r1, P1⟩ => ?_⟩
  split at P1
  · rename_i z
    have hl := RWs.length r1
    refine ⟨by rw [← hl]; exact z, fun p hp => ?_⟩
    have hg := fresh_back S1.ex hp
    exact P1.mono (Ext.new hg) |>.ret (S1.newG hp) (.tup upd_same (RWs.mono (Ext.new hg) r1))
  · exact P1.elim
/-- a display that is a list, nobody's yet -/
def dLst (ds : Env → M (List W)) : Env → M (List W) := fun env st => (ds env st).bind fun xs st => if xs.length ≤ sizeLine then .ok xs st else .stuck
theorem jf_lst (h : JA X E es ds) : JF X E (.List es pos) (dLst ds) := by
  refine weakE (pe_lst h) ?_
  rintro σ H Q ⟨F, G, m, env, st, S, R, P⟩
  refine ⟨F, G, m, env, st, S, R, (P.bind (R := RA)).imp fun vs H1 ⟨G1, m1, xs, st1, e1, S1, r1, P1⟩ => ?_⟩
  split at P1
  · rename_i z
    have hl := RWs.length r1
    exact ⟨by rw [← hl]; exact z, fun p hp => P1.ret S1 hp r1⟩
  · exact P1.elim
/-- .. is plain data -/
def dPure (d : Env → M (List W)) : Env → M W := fun env st => (d env st).bind fun xs st => .ok (.lst xs) st
theorem je_pure {d : Env → M (List W)} (h : JF X E e d) : JE X E e (dPure d) := by
  refine weakE h ?_
  rintro σ H Q ⟨F, G, m, env, st, S, R, P⟩
  refine ⟨F, G, m, env, st, S, R, ?_⟩
  unfold dPure at P
  cases q : d env st with
  | stuck => rw [q] at P; exact P.elim
  | exc x st1 => rw [q] at P; exact P
  | ok xs st1 =>
    rw [q] at P
    intro G1 m1 p vs H1 e1 S1 hp r1
    have P : Post RW X.K X.mg E F G m (.ok (.lst xs) st1) Q := P
    have hg := fresh_back S1.ex hp
    exact (P.mono e1).mono (Ext.new hg) |>.ret (S1.newG hp) (.lst upd_same (r1.mono (Ext.new hg)))
/-- .. is a cell -/
def dCell (d : Env → M (List W)) : Env → M W := fun env st => (d env st).bind fun xs st => .ok (.cell st.length) (st ++ [.lst xs])
theorem je_cell {d : Env → M (List W)} (h : JF X E e d) : JE X E e (dCell d) := by
  refine weakE h ?_
  rintro σ H Q ⟨F, G, m, env, st, S, R, P⟩
  refine ⟨F, G, m, env, st, S, R, ?_⟩
  unfold dCell at P
  cases q : d env st with
  | stuck => rw [q] at P; exact P.elim
  | exc x st1 => rw [q] at P; exact P
  | ok xs st1 =>
    rw [q] at P
    intro G1 m1 p vs H1 e1 S1 hp r1
    have P : Post RW X.K X.mg E F G m (.ok (.cell st1.length) (st1 ++ [.lst xs])) Q := P
    have hg := fresh_back S1.ex hp
    refine (P.mono e1).mono (Ext.cell (p := p)) |>.ret (S1.newC hp ⟨hg, vs, upd_same, r1.mono Ext.cell⟩) (.cell ?_)
    rw [← S1.len]
    simp
end
end Sh


set_option maxRecDepth 100000
set_option maxHeartbeats 2000000
namespace Sh
open PySem L2 Evl

/-! ### what is read of a value -/
def lcell (st : Store) (n : Nat) : Option (List W) := match st[n]? with
  | some (.lst xs) => some xs
  | _ => none
theorem lcell_some {st : Store} {n : Nat} {xs : List W} (h : lcell st n = some xs) : st[n]? = some (.lst xs) := by
  unfold lcell at h
  split at h
  · rename_i q
    cases h
    exact q
  · cases h
def lviewT (w : W) (st : Store) : Option (List W) := match w with
  | .lst xs => some xs
  | .cell n => lcell st n
  | _ => none
def lview (w : W) (st : Store) : Option (List W) := match w with
  | .fz xs => some xs
  | w => lviewT w st
def tview (w : W) : Option (List W) := match w with
  | .tup xs => some xs
  | .ftp xs => some xs
  | _ => none
def sview (w : W) (st : Store) : Option (List W) := match w with
  | .tup xs => some xs
  | .ftp xs => some xs
  | w => lview w st
section
variable {K : PySem.W.Frag} {mg : MG} {G H : Hp} {m : List Addr} {st : Store} {w : W} {v : V} {xs : List W}
theorem lviewT_at (S : Sim K mg F G m st H) (r : RW K G m w v) (h : lviewT w st = some xs) : ∃ a vs, v = .ref a ∧ H a = some (.lst vs) ∧ RWs K G m xs vs := by
  cases r with
  | lst h1 h2 =>
    cases h
    exact ⟨_, _, rfl, S.ex _ _ h1, h2⟩
  | @cell n a h1 =>
    obtain ⟨_, vs, h2, h3⟩ := S.ok n _ a (lcell_some h) h1
    exact ⟨a, vs, rfl, h2, h3⟩
  | _ => cases h
theorem lview_at (S : Sim K mg F G m st H) (r : RW K G m w v) (h : lview w st = some xs) : ∃ a vs, v = .ref a ∧ SqL K H a vs ∧ RWs K G m xs vs := by
  cases w with
  | fz ys =>
    cases r with
    | fz h1 h2 =>
      cases h
      exact ⟨_, _, rfl, ex_l S.ex h1, h2⟩
  | lst ys =>
    obtain ⟨a, vs, e, h1, h2⟩ := lviewT_at S r (show lviewT (.lst ys) st = some xs from h)
    exact ⟨a, vs, e, .inl (.inl h1), h2⟩
  | cell n =>
    obtain ⟨a, vs, e, h1, h2⟩ := lviewT_at S r (show lviewT (.cell n) st = some xs from h)
    exact ⟨a, vs, e, .inl (.inl h1), h2⟩
  | _ => cases h
theorem tview_at (S : Sim K mg F G m st H) (r : RW K G m w v) (h : tview w = some xs) : ∃ a vs, v = .ref a ∧ SqT K H a vs ∧ RWs K G m xs vs := by
  cases r with
  | tup h1 h2 =>
    cases h
    exact ⟨_, _, rfl, .inl (.inl (S.ex _ _ h1)), h2⟩
  | ftp h1 h2 =>
    cases h
    exact ⟨_, _, rfl, ex_t S.ex h1, h2⟩
  | _ => cases h
theorem sview_at (S : Sim K mg F G m st H) (r : RW K G m w v) (h : sview w st = some xs) : ∃ a vs, v = .ref a ∧ (SqL K H a vs ∨ SqT K H a vs) ∧ RWs K G m xs vs := by
  cases w with
  | tup ys =>
    obtain ⟨a, vs, e, h1, h2⟩ := tview_at S r (show tview (.tup ys) = some xs from h)
    exact ⟨a, vs, e, .inr h1, h2⟩
  | ftp ys =>
    obtain ⟨a, vs, e, h1, h2⟩ := tview_at S r (show tview (.ftp ys) = some xs from h)
    exact ⟨a, vs, e, .inr h1, h2⟩
  | _ =>
    obtain ⟨a, vs, e, h1, h2⟩ := lview_at S r h
    exact ⟨a, vs, e, .inl h1, h2⟩
end

/-! ### data at any depth -/
mutual
def dat : W → Option PyData
  | .non => some .none
  | .bl b => some (.bool b)
  | .int i => some (.int i)
  | .str x => some (.str x)
  | .tup xs => (dats xs).map .tuple
  | .ftp xs => (dats xs).map .tuple
  | .lst xs => (dats xs).map .list
  | .fz xs => (dats xs).map .list
  | .cell _ => none
def dats : List W → Option (List PyData)
  | [] => some []
  | x :: xs => (dat x).bind fun d => (dats xs).map fun ds => d :: ds
end
/-- a cell's list too, at the top -/
def datC (w : W) (st : Store) : Option PyData := match w with
  | .cell n => (lviewT (.cell n) st).bind fun xs => (dats xs).map .list
  | w => dat w
section
variable {K : PySem.W.Frag} {mg : MG} {G H : Hp} {m : List Addr} {st : Store}
mutual
theorem dat_at (S : Sim K mg F G m st H) : ∀ {w : W} {v : V} {d : PyData}, RW K G m w v → dat w = some d → Dp K H v d
  | _, _, d, .non, h => by cases h; exact .non
  | _, _, d, .bl b, h => by cases h; exact .bl b
  | _, _, d, .int i, h => by cases h; exact .int i
  | _, _, d, .str x, h => by cases h; exact .str x
  | .tup xs, _, d, .tup h1 h2, h => by
    cases q : dats xs with
    | none => rw [dat, q] at h; cases h
    | some ds =>
      rw [dat, q] at h
      cases h
      exact .tup (.inl (.inl (S.ex _ _ h1))) (dats_at S h2 q)
  | .ftp xs, _, d, .ftp h1 h2, h => by
    cases q : dats xs with
    | none => rw [dat, q] at h; cases h
    | some ds =>
      rw [dat, q] at h
      cases h
      exact .tup (ex_t S.ex h1) (dats_at S h2 q)
  | .lst xs, _, d, .lst h1 h2, h => by
    cases q : dats xs with
    | none => rw [dat, q] at h; cases h
    | some ds =>
      rw [dat, q] at h
      cases h
      exact .lst (.inl (.inl (S.ex _ _ h1))) (dats_at S h2 q)
  | .fz xs, _, d, .fz h1 h2, h => by
    cases q : dats xs with
    | none => rw [dat, q] at h; cases h
    | some ds =>
      rw [dat, q] at h
      cases h
      exact .lst (ex_l S.ex h1) (dats_at S h2 q)
  | .cell n, _, d, .cell h1, h => by cases h
theorem dats_at (S : Sim K mg F G m st H) : ∀ {ws : List W} {vs : List V} {ds : List PyData}, RWs K G m ws vs → dats ws = some ds → DpAll K H vs ds
  | _, _, _, .nil, h => by cases h; exact .nil
  | x :: xs, _, _, .cons h1 h2, h => by
    cases q : dat x with
    | none => rw [dats, q] at h; cases h
    | some d =>
      cases q2 : dats xs with
      | none => rw [dats, q, q2] at h; cases h
      | some ds =>
        rw [dats, q, q2] at h
        cases h
        exact .cons (dat_at S h1 q) (dats_at S h2 q2)
end
theorem datC_at (S : Sim K mg F G m st H) {w : W} {v : V} {d : PyData} (r : RW K G m w v) (h : datC w st = some d) : Dp K H v d := by
  cases w with
  | cell n =>
    cases q : lviewT (.cell n) st with
    | none => rw [datC, q] at h; cases h
    | some xs =>
      cases q2 : dats xs with
      | none => simp only [datC, q, q2, Option.bind, Option.map] at h; cases h
      | some ds =>
        simp only [datC, q, q2, Option.bind, Option.map] at h
        cases h
        obtain ⟨a, vs, rfl, h1, h2⟩ := lviewT_at S r q
        exact .lst (.inl (.inl h1)) (dats_at S h2 q2)
  | _ => exact dat_at S r h
end

/-! ### operators by value -/
def oI (g : Int → Int → W) : W → W → M W := fun x y st => match x, y with
  | .int i, .int j => .ok (g i j) st
  | _, _ => .stuck
def oIC (c : Int → Int → Prop) [∀ i j, Decidable (c i j)] (g : Int → Int → W) : W → W → M W := fun x y st => match x, y with
  | .int i, .int j => if c i j then .ok (g i j) st else .stuck
  | _, _ => .stuck
instance (i j : Int) : Decidable (CMul i j) := by unfold CMul; exact inferInstance
instance (i j : Int) : Decidable (CDiv i j) := by unfold CDiv; exact inferInstance
def oCat : W → W → M (List W) := fun x y st => match lviewT x st, lviewT y st with
  | some xs, some ys => if xs.length + ys.length ≤ sizeLine then .ok (xs ++ ys) st else .stuck
  | _, _ => .stuck
def oRep : W → W → M (List W) := fun x y st => match lviewT x st, y with
  | some xs, .int k => if -(2 ^ 63) ≤ k ∧ k < 2 ^ 63 ∧ xs.length * k.toNat ≤ sizeLine then .ok (List.replicate k.toNat xs).flatten st else .stuck
  | _, _ => .stuck
def scalW : W → W → Option Bool
  | .non, .non => some true
  | .int i, .int j => some (decide (i = j))
  | .bl i, .bl j => some (decide (i = j))
  | .str i, .str j => some (decide (i = j))
  | .non, .int _ => some false
  | .int _, .non => some false
  | .non, .bl _ => some false
  | .bl _, .non => some false
  | .non, .str _ => some false
  | .str _, .non => some false
  | .int _, .str _ => some false
  | .str _, .int _ => some false
  | .bl _, .str _ => some false
  | .str _, .bl _ => some false
  | _, _ => none
def eqDeep (x y : W) (st : Store) : Option Bool := match datC x st, datC y st with
  | some d, some e => if SeqAt.shaped d = true ∧ SeqAt.shaped e = true then some (PyData.eqv d e) else none
  | _, _ => none
def eqAny (x y : W) (st : Store) : Option Bool := match scalW x y with
  | some b => some b
  | none => eqDeep x y st
def oEq : W → W → M W := fun x y st => match eqAny x y st with
  | some b => .ok (.bl b) st
  | none => .stuck
def oNe : W → W → M W := fun x y st => match eqAny x y st with
  | some b => .ok (.bl (!b)) st
  | none => .stuck
def oStr : W → W → M W := fun x y st => match x, y with
  | .str a, .str b => if a.length + b.length ≤ sizeLine then .ok (.str (a ++ b)) st else .stuck
  | _, _ => .stuck
def oIx : W → W → M W := fun x y st => match sview x st, y with
  | some xs, .int i => match atI xs i with
    | some w => .ok w st
    | none => .stuck
  | _, _ => .stuck
def oIsN : W → W → M W := fun x y st => match y with
  | .non => match x with
    | .non => .ok (.bl true) st
    | _ => .ok (.bl false) st
  | _ => .stuck
def oNotN : W → W → M W := fun x y st => match y with
  | .non => match x with
    | .non => .ok (.bl false) st
    | _ => .ok (.bl true) st
  | _ => .stuck
/-- a new list by an operation -/
def OpOkF (K : PySem.W.Frag) (mg : MG) (E : XK) (r : R2) (f : W → W → M (List W)) : Prop :=
  ∀ F G m st H x y v u Q, Sim K mg F G m st H → RW K G m x v → RW K G m y u → PostF K mg E F G m (f x y st) Q → r v u H Q
def CallOkF (K : PySem.W.Frag) (mg : MG) (E : XK) (r : List V → Hp → VK → Prop) (f : List W → M (List W)) : Prop :=
  ∀ F G m st H xs vs Q, Sim K mg F G m st H → RWs K G m xs vs → PostF K mg E F G m (f xs st) Q → r vs H Q
section
variable {K : PySem.W.Frag} {mg : MG} {E : XK}
theorem ok_I {g' : Int → Int → V} {g : Int → Int → W} (hg : ∀ i j G m, RW K G m (g i j) (g' i j)) : OpOk K mg E (rI0 g') (oI g) := by
  intro F G m st H x y v u Q S r1 r2 P
  unfold oI at P
  split at P
  · cases r1
    cases r2
    exact ⟨_, _, rfl, rfl, P.ret S (hg _ _ G m)⟩
  · exact P.elim
theorem ok_IC {c : Int → Int → Prop} [∀ i j, Decidable (c i j)] {g' : Int → Int → V} {g : Int → Int → W} (hg : ∀ i j G m, RW K G m (g i j) (g' i j)) : OpOk K mg E (rI c g') (oIC c g) := by
  intro F G m st H x y v u Q S r1 r2 P
  unfold oIC at P
  split at P
  · cases r1
    cases r2
    split at P
    · exact ⟨_, _, rfl, rfl, by assumption, P.ret S (hg _ _ G m)⟩
    · exact P.elim
  · exact P.elim
theorem ok_str : OpOk K mg E (fun x y H Q => ∃ i j, x = .str i ∧ y = .str j ∧ i.length + j.length ≤ sizeLine ∧ Q (.str (i ++ j)) H) oStr := by
  intro F G m st H x y v u Q S r1 r2 P
  unfold oStr at P
  split at P
  · cases r1
    cases r2
    split at P
    · exact ⟨_, _, rfl, rfl, by assumption, P.ret S (.str _)⟩
    · exact P.elim
  · exact P.elim
theorem ok_cat : OpOkF K mg E rCat oCat := by
  intro F G m st H x y v u Q S r1 r2 P
  unfold oCat at P
  split at P
  · rename_i xs ys q1 q2
    split at P
    · rename_i z
      obtain ⟨a, vs, rfl, h1, h2⟩ := lviewT_at S r1 q1
      obtain ⟨b, us, rfl, h3, h4⟩ := lviewT_at S r2 q2
      exact ⟨a, b, vs, us, rfl, rfl, h1, h3, by rw [← h2.length, ← h4.length]; exact z, fun p hp => P.ret S hp (h2.append h4)⟩
    · exact P.elim
  · exact P.elim
theorem ok_rep : OpOkF K mg E rRep oRep := by
  intro F G m st H x y v u Q S r1 r2 P
  unfold oRep at P
  split at P
  · rename_i xs k q1
    split at P
    · rename_i z
      obtain ⟨a, vs, rfl, h1, h2⟩ := lviewT_at S r1 q1
      cases r2
      exact ⟨a, k, vs, rfl, rfl, h1, z.1, z.2.1, by rw [← h2.length]; exact z.2.2, fun p hp => P.ret S hp (h2.rep _)⟩
    · exact P.elim
  · exact P.elim
theorem scal_at {G : Hp} {m : List Addr} {x y : W} {v u : V} {b : Bool} (r1 : RW K G m x v) (r2 : RW K G m y u) (h : scalW x y = some b) : scal v u = true ∧ decide (v = u) = b := by
  cases r1 <;> cases r2 <;> first
    | (cases h; done)
    | (cases h; exact ⟨rfl, rfl⟩)
    | (cases h; exact ⟨rfl, by simp⟩)
theorem deep_at {F G : Hp} {m : List Addr} {st : Store} {H : Hp} {x y : W} {v u : V} {b : Bool} (S : Sim K mg F G m st H) (r1 : RW K G m x v) (r2 : RW K G m y u) (h : eqDeep x y st = some b) :
    ∃ d e, Dp K H v d ∧ Dp K H u e ∧ SeqAt.shaped d = true ∧ SeqAt.shaped e = true ∧ PyData.eqv d e = b := by
  unfold eqDeep at h
  split at h
  · rename_i d e q1 q2
    split at h
    · rename_i z
      cases h
      exact ⟨d, e, datC_at S r1 q1, datC_at S r2 q2, z.1, z.2, rfl⟩
    · cases h
  · cases h
theorem ok_eq : OpOk K mg E (fun x y H Q => rEq x y H Q ∨ rEqD K x y H Q) oEq := by
  intro F G m st H x y v u Q S r1 r2 P
  unfold oEq at P
  split at P
  · rename_i b q
    unfold eqAny at q
    split at q
    · rename_i b' q2
      cases q
      obtain ⟨h1, h2⟩ := scal_at r1 r2 q2
      refine .inl ⟨h1, ?_⟩
      rw [h2]
      exact P.ret S (.bl _)
    · obtain ⟨d, e, h1, h2, h3, h4, h5⟩ := deep_at S r1 r2 q
      refine .inr ⟨d, e, h1, h2, h3, h4, ?_⟩
      rw [h5]
      exact P.ret S (.bl _)
  · exact P.elim
theorem ok_ne : OpOk K mg E (fun x y H Q => rNe x y H Q ∨ rNeD K x y H Q) oNe := by
  intro F G m st H x y v u Q S r1 r2 P
  unfold oNe at P
  split at P
  · rename_i b q
    unfold eqAny at q
    split at q
    · rename_i b' q2
      cases q
      obtain ⟨h1, h2⟩ := scal_at r1 r2 q2
      refine .inl ⟨h1, ?_⟩
      rw [h2]
      exact P.ret S (.bl _)
    · obtain ⟨d, e, h1, h2, h3, h4, h5⟩ := deep_at S r1 r2 q
      refine .inr ⟨d, e, h1, h2, h3, h4, ?_⟩
      rw [h5]
      exact P.ret S (.bl _)
  · exact P.elim
theorem RWs.atI {G : Hp} {m : List Addr} {xs : List W} {vs : List V} {i : Int} {w : W} (r : RWs K G m xs vs) (h : L2.atI xs i = some w) : ∃ v, L2.atI vs i = some v ∧ RW K G m w v := by
  unfold L2.atI at h ⊢
  rw [← r.length]
  cases q : ixN xs.length i with
  | none => rw [q] at h; cases h
  | some j =>
    rw [q] at h
    exact r.get h
theorem ok_ix : OpOk K mg E (rIx K) oIx := by
  intro F G m st H x y v u Q S r1 r2 P
  unfold oIx at P
  split at P
  · rename_i xs i q1
    cases r2
    split at P
    · rename_i w q2
      obtain ⟨a, vs, rfl, h1, h2⟩ := sview_at S r1 q1
      obtain ⟨z, h3, h4⟩ := h2.atI q2
      rcases h1 with h1 | h1
      · exact .inl ⟨a, vs, i, z, rfl, rfl, h1, h3, P.ret S h4⟩
      · exact .inr (.inl ⟨a, vs, i, z, rfl, rfl, h1, h3, P.ret S h4⟩)
    · exact P.elim
  · exact P.elim
theorem ok_isN : OpOk K mg E (fun x y H Q => y = .non ∧ Q (.bl (decide (x = .non))) H) oIsN := by
  intro F G m st H x y v u Q S r1 r2 P
  unfold oIsN at P
  split at P
  · cases r2
    refine ⟨rfl, ?_⟩
    split at P
    · cases r1
      exact P.ret S (.bl true)
    · rename_i hn
      have : decide (v = V.non) = false := by
        cases r1 <;> first | (exact absurd rfl hn) | (exact decide_eq_false (by intro q; cases q))
      rw [this]
      exact P.ret S (.bl false)
  · exact P.elim
theorem ok_notN : OpOk K mg E (fun x y H Q => y = .non ∧ Q (.bl (!decide (x = .non))) H) oNotN := by
  intro F G m st H x y v u Q S r1 r2 P
  unfold oNotN at P
  split at P
  · cases r2
    refine ⟨rfl, ?_⟩
    split at P
    · cases r1
      exact P.ret S (.bl false)
    · rename_i hn
      have : decide (v = V.non) = false := by
        cases r1 <;> first | (exact absurd rfl hn) | (exact decide_eq_false (by intro q; cases q))
      rw [this]
      exact P.ret S (.bl true)
  · exact P.elim
end

section
variable {X : Cx} {E : XK} {a b e c : Expr} {es : List Expr} {da db d : Env → M W} {ds : Env → M (List W)} {pos : Pos} {dt du : Env → M Bool}
def dOpF (f : W → W → M (List W)) (a b : Env → M W) : Env → M (List W) := fun env st => (a env st).bind fun x st => (b env st).bind fun y st => f x y st
theorem jf_op {r : R2} {f : W → W → M (List W)} {op : Operator} (ho : OpR X (binaryOp op) r) (hf : OpOkF X.K X.mg E r f) (ha : JE X E a da) (hb : JE X E b db) : JF X E (.BinOp a op b pos) (dOpF f da db) := by
  refine weakE (pe_op ho ha hb) ?_
  rintro σ H Q ⟨F, G, m, env, st, S, R, P⟩
  refine ⟨F, G, m, env, st, S, R, (PostF.bind (R := RW) P).imp fun v1 H1 ⟨G1, m1, x, st1, e1, S1, r1, P1⟩ => ⟨F, G1, m1, env, st1, S1, R.mono e1, (PostF.bind (R := RW) P1).imp fun v2 H2 ⟨G2, m2, y, st2, e2, S2, r2, P2⟩ => hf F G2 m2 st2 H2 x y v1 v2 Q S2 (RW.mono e2 r1) r2 P2⟩⟩
theorem je_add (ha : JE X E a da) (hb : JE X E b db) : JE X E (.BinOp a .Add b pos) (dOp (oI fun i j => .int (i + j)) da db) := je_op op_add (ok_I fun i j _ _ => .int _) ha hb
theorem je_sub (ha : JE X E a da) (hb : JE X E b db) : JE X E (.BinOp a .Sub b pos) (dOp (oI fun i j => .int (i - j)) da db) := je_op op_sub (ok_I fun i j _ _ => .int _) ha hb
theorem je_mul (ha : JE X E a da) (hb : JE X E b db) : JE X E (.BinOp a .Mult b pos) (dOp (oIC CMul fun i j => .int (i * j)) da db) := je_op op_mul (ok_IC fun i j _ _ => .int _) ha hb
theorem je_mod (ha : JE X E a da) (hb : JE X E b db) : JE X E (.BinOp a .Mod b pos) (dOp (oIC (fun _ j => 0 < j) fun i j => .int (i % j)) da db) := je_op op_mod (ok_IC fun i j _ _ => .int _) ha hb
theorem je_fdiv (ha : JE X E a da) (hb : JE X E b db) : JE X E (.BinOp a .FloorDiv b pos) (dOp (oIC CDiv fun i j => .int (i / j)) da db) := je_op op_fdiv (ok_IC fun i j _ _ => .int _) ha hb
theorem je_addS (ha : JE X E a da) (hb : JE X E b db) : JE X E (.BinOp a .Add b pos) (dOp oStr da db) := je_op op_add_str ok_str ha hb
theorem jf_cat (ha : JE X E a da) (hb : JE X E b db) : JF X E (.BinOp a .Add b pos) (dOpF oCat da db) := jf_op op_cat ok_cat ha hb
theorem jf_rep (ha : JE X E a da) (hb : JE X E b db) : JF X E (.BinOp a .Mult b pos) (dOpF oRep da db) := jf_op op_rep ok_rep ha hb
theorem je_lt (ha : JE X E a da) (hb : JE X E b db) : JE X E (.Compare a [.Lt] [b] pos) (dOp (oI fun i j => .bl (decide (i < j))) da db) := je_cmp op_lt (ok_I fun i j _ _ => .bl _) ha hb (nomark _)
theorem je_le (ha : JE X E a da) (hb : JE X E b db) : JE X E (.Compare a [.LtE] [b] pos) (dOp (oI fun i j => .bl (decide (i ≤ j))) da db) := je_cmp op_le (ok_I fun i j _ _ => .bl _) ha hb (nomark _)
theorem je_gt (ha : JE X E a da) (hb : JE X E b db) : JE X E (.Compare a [.Gt] [b] pos) (dOp (oI fun i j => .bl (decide (j < i))) da db) := je_cmp op_gt (ok_I fun i j _ _ => .bl _) ha hb (nomark _)
theorem je_ge (ha : JE X E a da) (hb : JE X E b db) : JE X E (.Compare a [.GtE] [b] pos) (dOp (oI fun i j => .bl (decide (j ≤ i))) da db) := je_cmp op_ge (ok_I fun i j _ _ => .bl _) ha hb (nomark _)
theorem je_eq (hu : X.A.units + 64 < cLine) (ha : JE X E a da) (hb : JE X E b db) : JE X E (.Compare a [.Eq] [b] pos) (dOp oEq da db) := je_cmp (op_eq.or (op_eqD hu)) ok_eq ha hb (nomark _)
theorem je_ne (hu : X.A.units + 64 < cLine) (ha : JE X E a da) (hb : JE X E b db) : JE X E (.Compare a [.NotEq] [b] pos) (dOp oNe da db) := je_cmp (op_ne.or (op_neD hu)) ok_ne ha hb (nomark _)
theorem je_isN (ha : JE X E a da) (hb : JE X E b db) : JE X E (.Compare a [.Is] [b] pos) (dOp oIsN da db) := je_cmp op_isN ok_isN ha hb (nomark _)
theorem je_notN (ha : JE X E a da) (hb : JE X E b db) : JE X E (.Compare a [.IsNot] [b] pos) (dOp oNotN da db) := je_cmp op_notN ok_notN ha hb (nomark _)
theorem je_at (ha : JE X E a da) (hb : JE X E b db) (hs : PlainIx b := by exact fun _ _ => rfl) : JE X E (.Subscript a b pos) (dOp oIx da db) := je_ix ix_seq ok_ix ha hb hs
def oNeg : W → M W := fun x st => match x with
  | .int i => .ok (.int (-i)) st
  | _ => .stuck
theorem je_neg (ha : JE X E a da) : JE X E (.UnaryOp .USub a pos) (dUn oNeg da) := je_un un_neg (by
  intro F G m st H x v Q S r P
  unfold oNeg at P
  split at P
  · cases r
    exact ⟨_, rfl, P.ret S (.int _)⟩
  · exact P.elim) ha

/-! ### tests -/
/-- a value that is a bool, as a test -/
def asB : W → M Bool := fun w st => match w with
  | .bl b => .ok b st
  | _ => .stuck
def dB (d : Env → M W) : Env → M Bool := fun env st => (d env st).bind asB
theorem jt_of {t : TT} {r : V → Hp → (Bool → Hp → Prop) → Prop} {f : W → M Bool} (h : PT X e fun σ H Q => tE X.K X.mg E d σ H fun x H1 => r x H1 Q) (hf : TruOk X.K X.mg E r f) : JT X E e fun env st => (d env st).bind f := by
  refine weakT h ?_
  rintro σ H Q ⟨F, G, m, env, st, S, R, P⟩
  exact ⟨F, G, m, env, st, S, R, P.bind.imp fun v1 H1 ⟨G1, m1, x, st1, e1, S1, r1, P1⟩ => hf F G1 m1 st1 H1 x v1 Q S1 r1 P1⟩
theorem tru_B {K : PySem.W.Frag} {mg : MG} : TruOk K mg E (fun x H Q => ∃ k, x = .bl k ∧ Q k H) asB := by
  intro F G m st H x v Q S r P
  unfold asB at P
  split at P
  · cases r
    exact ⟨_, rfl, P.ret S rfl⟩
  · exact P.elim
theorem jt_val (h : JE X E e d) (he : ∀ whole, isTrue e X.env whole = (do let v ← whole; standAt e.pos; holding [v] (truthy v)) := by intro _; rfl) : JT X E e (dB d) :=
  jt_of (t := tB (tE X.K X.mg E d)) (pt_val h he) tru_B
/-- a comparison as a test -/
theorem jt_cmp {op : CmpOp} {r : R2} {f : W → W → M W} (ho : OpR X (compareOp op) r) (hf : OpOk X.K X.mg E r f) (ha : JE X E a da) (hb : JE X E b db) (hm : behindInMarks op b = false) : JT X E (.Compare a [op] [b] pos) (dB (dOp f da db)) := by
  refine weakT (pt_cmpR ho ha hb hm) ?_
  rintro σ H Q ⟨F, G, m, env, st, S, R, P⟩
  have P2 : Post RB X.K X.mg E F G m ((da env st).bind fun x st => (db env st).bind fun y st => (f x y st).bind asB) Q := by
    unfold dB dOp at P
    cases q : da env st with
    | stuck => rw [q] at P; exact P
    | exc x st => rw [q] at P; exact P
    | ok x st =>
      rw [q] at P
      simp only [Out.bind_ok] at P ⊢
      cases q2 : db env st with
      | stuck => rw [q2] at P; exact P
      | exc x st => rw [q2] at P; exact P
      | ok y st => rw [q2] at P; exact P
  exact two S R P2 fun F G m st H x y v u S1 r1 r2 P1 => hf F G m st H x y v u _ S1 r1 r2 (P1.bind.imp fun w H2 ⟨G2, m2, z, st2, e2, S2, r3, P3⟩ => tru_B F G2 m2 st2 H2 z w Q S2 r3 P3)
theorem jt_lt (ha : JE X E a da) (hb : JE X E b db) : JT X E (.Compare a [.Lt] [b] pos) (dB (dOp (oI fun i j => .bl (decide (i < j))) da db)) := jt_cmp op_lt (ok_I fun i j _ _ => .bl _) ha hb (nomark _)
theorem jt_le (ha : JE X E a da) (hb : JE X E b db) : JT X E (.Compare a [.LtE] [b] pos) (dB (dOp (oI fun i j => .bl (decide (i ≤ j))) da db)) := jt_cmp op_le (ok_I fun i j _ _ => .bl _) ha hb (nomark _)
theorem jt_gt (ha : JE X E a da) (hb : JE X E b db) : JT X E (.Compare a [.Gt] [b] pos) (dB (dOp (oI fun i j => .bl (decide (j < i))) da db)) := jt_cmp op_gt (ok_I fun i j _ _ => .bl _) ha hb (nomark _)
theorem jt_ge (ha : JE X E a da) (hb : JE X E b db) : JT X E (.Compare a [.GtE] [b] pos) (dB (dOp (oI fun i j => .bl (decide (j ≤ i))) da db)) := jt_cmp op_ge (ok_I fun i j _ _ => .bl _) ha hb (nomark _)
theorem jt_eq (hu : X.A.units + 64 < cLine) (ha : JE X E a da) (hb : JE X E b db) : JT X E (.Compare a [.Eq] [b] pos) (dB (dOp oEq da db)) := jt_cmp (op_eq.or (op_eqD hu)) ok_eq ha hb (nomark _)
theorem jt_ne (hu : X.A.units + 64 < cLine) (ha : JE X E a da) (hb : JE X E b db) : JT X E (.Compare a [.NotEq] [b] pos) (dB (dOp oNe da db)) := jt_cmp (op_ne.or (op_neD hu)) ok_ne ha hb (nomark _)
theorem jt_isN (ha : JE X E a da) (hb : JE X E b db) : JT X E (.Compare a [.Is] [b] pos) (dB (dOp oIsN da db)) := jt_cmp op_isN ok_isN ha hb (nomark _)
theorem jt_notN (ha : JE X E a da) (hb : JE X E b db) : JT X E (.Compare a [.IsNot] [b] pos) (dB (dOp oNotN da db)) := jt_cmp op_notN ok_notN ha hb (nomark _)
def dAnd (a b : Env → M Bool) : Env → M Bool := fun env st => (a env st).bind fun c st => if c = true then b env st else .ok false st
def dOr (a b : Env → M Bool) : Env → M Bool := fun env st => (a env st).bind fun c st => if c = true then .ok true st else b env st
def dNot (a : Env → M Bool) : Env → M Bool := fun env st => (a env st).bind fun c st => .ok (!c) st
abbrev JW (X : Cx) (E : XK) (e : Expr) (d : Env → M Bool) : Prop := PW X e (tT X.K X.mg E d)
theorem weakW {t t' : TT} (h : PW X e t) (w : ∀ σ H Q, t' σ H Q → t σ H Q) : PW X e t' := ⟨fun wh pins s σ H Q I q => h.run wh pins s σ H Q I (w σ H Q q)⟩
theorem jw_and1 (h : JT X E a dt) : JW X E (.BoolOp .And [a] pos) dt := pw_and1 h
theorem jw_or1 (h : JT X E a dt) : JW X E (.BoolOp .Or [a] pos) dt := pw_or1 h
theorem jw_and {rest : List Expr} (ha : JT X E a dt) (hb : JW X E (.BoolOp .And (b :: rest) pos) du) : JW X E (.BoolOp .And (a :: b :: rest) pos) (dAnd dt du) := by
  refine weakW (pw_and ha hb) ?_
  rintro σ H Q ⟨F, G, m, env, st, S, R, P⟩
  refine ⟨F, G, m, env, st, S, R, (P.bind (R := RB)).imp fun c' H1 ⟨G1, m1, c, st1, e1, S1, r1, P1⟩ => ?_⟩
  cases r1
  cases c' with
  | true => exact ⟨F, G1, m1, env, st1, S1, R.mono e1, P1⟩
  | false => exact P1.ret S1 rfl
theorem jw_or {rest : List Expr} (ha : JT X E a dt) (hb : JW X E (.BoolOp .Or (b :: rest) pos) du) : JW X E (.BoolOp .Or (a :: b :: rest) pos) (dOr dt du) := by
  refine weakW (pw_or ha hb) ?_
  rintro σ H Q ⟨F, G, m, env, st, S, R, P⟩
  refine ⟨F, G, m, env, st, S, R, (P.bind (R := RB)).imp fun c' H1 ⟨G1, m1, c, st1, e1, S1, r1, P1⟩ => ?_⟩
  cases r1
  cases c' with
  | false => exact ⟨F, G1, m1, env, st1, S1, R.mono e1, P1⟩
  | true => exact P1.ret S1 rfl
theorem jt_w (h : JW X E e dt) : JT X E e dt := h.pt
theorem jt_not (h : JT X E a dt) : JT X E (.UnaryOp .Not a pos) (dNot dt) := by
  refine weakT (pt_not h) ?_
  rintro σ H Q ⟨F, G, m, env, st, S, R, P⟩
  refine ⟨F, G, m, env, st, S, R, (P.bind (R := RB)).imp fun c' H1 ⟨G1, m1, c, st1, e1, S1, r1, P1⟩ => ?_⟩
  cases r1
  exact P1.ret S1 rfl
/-- and, or, not as values of bools -/
def dAndV (a b : Env → M W) : Env → M W := fun env st => (a env st).bind fun w st => match w with
  | .bl true => b env st
  | .bl false => .ok (.bl false) st
  | _ => .stuck
def dOrV (a b : Env → M W) : Env → M W := fun env st => (a env st).bind fun w st => match w with
  | .bl true => .ok (.bl true) st
  | .bl false => b env st
  | _ => .stuck
theorem je_one {op} (h : JE X E a d) : JE X E (.BoolOp op [a] pos) d := pe_one h
theorem je_and {rest : List Expr} (ha : JE X E a da) (hb : JE X E (.BoolOp .And (b :: rest) pos) db) : JE X E (.BoolOp .And (a :: b :: rest) pos) (dAndV da db) := by
  refine weakE (pe_and ha hb) ?_
  rintro σ H Q ⟨F, G, m, env, st, S, R, P⟩
  refine ⟨F, G, m, env, st, S, R, P.bind.imp fun v H1 ⟨G1, m1, w, st1, e1, S1, r1, P1⟩ => ?_⟩
  split at P1
  · cases r1
    exact ⟨true, rfl, F, G1, m1, env, st1, S1, R.mono e1, P1⟩
  · cases r1
    exact ⟨false, rfl, P1.ret S1 (.bl false)⟩
  · exact P1.elim
theorem je_or {rest : List Expr} (ha : JE X E a da) (hb : JE X E (.BoolOp .Or (b :: rest) pos) db) : JE X E (.BoolOp .Or (a :: b :: rest) pos) (dOrV da db) := by
  refine weakE (pe_or ha hb) ?_
  rintro σ H Q ⟨F, G, m, env, st, S, R, P⟩
  refine ⟨F, G, m, env, st, S, R, P.bind.imp fun v H1 ⟨G1, m1, w, st1, e1, S1, r1, P1⟩ => ?_⟩
  split at P1
  · cases r1
    exact ⟨true, rfl, P1.ret S1 (.bl true)⟩
  · cases r1
    exact ⟨false, rfl, F, G1, m1, env, st1, S1, R.mono e1, P1⟩
  · exact P1.elim
def dIf (t : Env → M Bool) (a b : Env → M W) : Env → M W := fun env st => (t env st).bind fun c st => if c = true then a env st else b env st
theorem je_if (hc : JT X E c dt) (ha : JE X E a da) (hb : JE X E b db) : JE X E (.IfExp c a b pos) (dIf dt da db) := by
  refine weakE (pe_ifExp hc ha hb) ?_
  rintro σ H Q ⟨F, G, m, env, st, S, R, P⟩
  refine ⟨F, G, m, env, st, S, R, (P.bind (R := RB)).imp fun c' H1 ⟨G1, m1, c, st1, e1, S1, r1, P1⟩ => ?_⟩
  cases r1
  cases c' with
  | true => exact ⟨F, G1, m1, env, st1, S1, R.mono e1, P1⟩
  | false => exact ⟨F, G1, m1, env, st1, S1, R.mono e1, P1⟩
end
end Sh


set_option maxRecDepth 100000
set_option maxHeartbeats 2000000
namespace Sh
open PySem L2 Evl
section
variable {X : Cx} {E : XK} {a b e c : Expr} {es : List Expr} {da db d : Env → M W} {ds : Env → M (List W)} {pos : Pos} {dt du : Env → M Bool} {st1 : Stmt} {rest : List Stmt} {s1 s2 : S}
/-! ### blocks -/
def SOut.seq (o : SOut) (t : S) : SOut := match o with
  | .nx env st => t env st
  | o => o
@[simp] theorem SOut.seq_nx (env : Env) (st : Store) (t : S) : (SOut.nx env st).seq t = t env st := rfl
@[simp] theorem SOut.seq_rt (w : W) (st : Store) (t : S) : (SOut.rt w st).seq t = .rt w st := rfl
@[simp] theorem SOut.seq_bk (env : Env) (st : Store) (t : S) : (SOut.bk env st).seq t = .bk env st := rfl
@[simp] theorem SOut.seq_ct (env : Env) (st : Store) (t : S) : (SOut.ct env st).seq t = .ct env st := rfl
@[simp] theorem SOut.seq_exc (x : Exn) (st : Store) (t : S) : (SOut.exc x st).seq t = .exc x st := rfl
@[simp] theorem SOut.seq_stuck (t : S) : SOut.stuck.seq t = .stuck := rfl
def sNil : S := fun env st => .nx env st
def sSeq (s t : S) : S := fun env st => (s env st).seq t
theorem jss_nil : JSs X E [] sNil := by
  refine weakSs pss_nil ?_
  rintro D σ H ⟨F, G, m, env, st, S, R, P⟩
  exact P G m σ H (Ext.refl G m) S R
theorem jss_cons (h1 : JS X E st1 s1) (h2 : JSs X E rest s2) : JSs X E (st1 :: rest) (sSeq s1 s2) := by
  refine weakSs (pss_cons h1 h2) ?_
  rintro D σ H ⟨F, G, m, env, st, S, R, P⟩
  refine ⟨F, G, m, env, st, S, R, ?_⟩
  unfold sSeq at P
  cases q : s1 env st with
  | stuck => rw [q] at P; exact P
  | nx env' st' =>
    rw [q] at P
    exact fun G1 m1 σ1 H1 e1 S1 R1 => ⟨F, G1, m1, env', st', S1, R1, PostS.mono e1 P⟩
  | rt w st' => rw [q] at P; exact P
  | bk env' st' => rw [q] at P; exact P
  | ct env' st' => rw [q] at P; exact P
  | exc x st' => rw [q] at P; exact P
theorem jss_one (h1 : JS X E st1 s1) : JSs X E [st1] s1 := pss_one h1
theorem js_pass : JS X E (.Pass pos) sNil := by
  refine weakS ps_pass ?_
  rintro D σ H ⟨F, G, m, env, st, S, R, P⟩
  exact P G m σ H (Ext.refl G m) S R
theorem js_doc {x j pos pos'} : JS X E (.Expr (.Constant (.str x) j pos) pos') sNil := by
  refine weakS ps_doc ?_
  rintro D σ H ⟨F, G, m, env, st, S, R, P⟩
  exact P G m σ H (Ext.refl G m) S R
def sBreak : S := fun env st => .bk env st
def sCont : S := fun env st => .ct env st
theorem js_break : JS X E (.Break pos) sBreak := by
  refine weakS ps_break ?_
  rintro D σ H ⟨F, G, m, env, st, S, R, P⟩
  exact P G m σ H (Ext.refl G m) S R
theorem js_continue : JS X E (.Continue pos) sCont := by
  refine weakS ps_continue ?_
  rintro D σ H ⟨F, G, m, env, st, S, R, P⟩
  exact P G m σ H (Ext.refl G m) S R
def sRet (d : Env → M W) : S := fun env st => (d env st).bindS fun w st => .rt w st
theorem js_ret (h : JE X E e d) : JS X E (.Return (some e) pos) (sRet d) := by
  refine weakS (ps_ret h) ?_
  rintro D σ H ⟨F, G, m, env, st, S, R, P⟩
  exact ⟨F, G, m, env, st, S, R, (P.bindS (R := RW)).imp fun v H1 ⟨G1, m1, w, st1, e1, S1, r1, P1⟩ => P1 G1 m1 v H1 (Ext.refl G1 m1) S1 r1⟩
def sRetN : S := fun _ st => .rt .non st
theorem js_retN : JS X E (.Return none pos) sRetN := by
  refine weakS ps_retN ?_
  rintro D σ H ⟨F, G, m, env, st, S, R, P⟩
  exact P G m .non H (Ext.refl G m) S .non
def sDrop (d : Env → M W) : S := fun env st => (d env st).bindS fun _ st => .nx env st
theorem js_expr (h : JE X E e d) (hs : swapsWith e none pos.line X.env = pure false := by rfl) : JS X E (.Expr e pos) (sDrop d) := by
  refine weakS (ps_expr h hs) ?_
  rintro D σ H ⟨F, G, m, env, st, S, R, P⟩
  exact ⟨F, G, m, env, st, S, R, (P.bindS (R := RW)).imp fun v H1 ⟨G1, m1, w, st1, e1, S1, r1, P1⟩ => P1 G1 m1 σ H1 (Ext.refl G1 m1) S1 (R.mono e1)⟩
def sIf (t : Env → M Bool) (s u : S) : S := fun env st => (t env st).bindS fun c st => if c = true then s env st else u env st
theorem js_if {xs ys : List Stmt} (hc : JT X E c dt) (ha : JSs X E xs s1) (hb : JSs X E ys s2) : JS X E (.If c xs ys pos) (sIf dt s1 s2) := by
  refine weakS (ps_if hc ha hb) ?_
  rintro D σ H ⟨F, G, m, env, st, S, R, P⟩
  refine ⟨F, G, m, env, st, S, R, (P.bindS (R := RB)).imp fun c' H1 ⟨G1, m1, c, st1, e1, S1, r1, P1⟩ => ?_⟩
  cases r1
  cases c' with
  | true => exact ⟨F, G1, m1, env, st1, S1, R.mono e1, P1⟩
  | false => exact ⟨F, G1, m1, env, st1, S1, R.mono e1, P1⟩
/-- x = e -/
def sSet (i : Nat) (d : Env → M W) : S := fun env st => (d env st).bindS fun w st => .nx (env.set i (some w)) st
theorem js_set {i : Nat} {x : Str} {pos' : Pos} (hN : X.N.Nodup) (hi : X.N[i]? = some x) (h : JE X E e d) (hx : Loc X.env.scope x := by first | exact .inl rfl | exact .inr rfl) (hs : swapsWith e (some (.Name x pos')) pos.line X.env = pure false := by rfl)
    (hf : X.fn x = true ∨ X.env.scope.names.lookup x = some .local := by first | exact .inl rfl | exact .inr rfl | assumption) : JS X E (.Assign [.Name x pos'] e pos) (sSet i d) := by
  refine weakS (ps_set hN hi hx h hs hf) ?_
  rintro D σ H ⟨F, G, m, env, st, S, R, P⟩
  exact ⟨F, G, m, env, st, S, R, (P.bindS (R := RW)).imp fun v H1 ⟨G1, m1, w, st1, e1, S1, r1, P1⟩ => P1 G1 m1 _ H1 (Ext.refl G1 m1) S1 ((R.mono e1).set r1 i)⟩
/-- x += e, rngW -/
def sAug (i : Nat) (f : Int → Int → Int) (d : Env → M W) : S := fun env st => match env[i]? with
  | some (some (.int a)) => (d env st).bindS fun w st => match w with
    | .int b => .nx (env.set i (some (.int (f a b)))) st
    | _ => .stuck
  | _ => .stuck
theorem js_aug {i : Nat} {x : Str} {op : Operator} {f : Int → Int → Int} {pos' : Pos} (hN : X.N.Nodup) (hi : X.N[i]? = some x) (h : JE X E e d) (ho : PIp X op (ipI f)) (hx : Loc X.env.scope x := by first | exact .inl rfl | exact .inr rfl)
    (hf : X.fn x = true ∨ X.env.scope.names.lookup x = some .local := by first | exact .inl rfl | exact .inr rfl | assumption) : JS X E (.AugAssign (.Name x pos') op e pos) (sAug i f d) := by
  refine weakS (ps_aug hN hi hx h ho hf) ?_
  rintro D σ H ⟨F, G, m, env, st, S, R, P⟩
  unfold sAug at P
  split at P
  · rename_i z q
    obtain ⟨v, h1, h2⟩ := R.2 i _ q
    cases h2
    refine ⟨.int z, h1, F, G, m, env, st, S, R, (P.bindS (R := RW)).imp fun v H1 ⟨G1, m1, w, st1, e1, S1, r1, P1⟩ => ?_⟩
    split at P1
    · cases r1
      exact ⟨_, _, rfl, rfl, P1 G1 m1 _ H1 (Ext.refl G1 m1) S1 ((R.mono e1).set (.int _) i)⟩
    · exact P1.elim
  · exact P.elim

/-! ### targets -/
abbrev T := W → Env → M Env
abbrev Ts := List W → Env → M Env
/-- the slots at sl alone may differ -/
def Off (sl : List Nat) (σ σ' : L2.St) : Prop := ∀ vs : List Nat, (∀ i ∈ sl, i ∈ vs) → wipe σ' vs = wipe σ vs
def PostT (K : PySem.W.Frag) (mg : MG) (F G : Hp) (m : List Addr) (sl : List Nat) (σ : L2.St) (o : Out Env) (Q : L2.St → Hp → Prop) : Prop := match o with
  | .ok env st => ∀ G' m' σ' H', Ext G m G' m' → Sim K mg F G' m' st H' → REnv K G' m' env σ' → Off sl σ σ' → Q σ' H'
  | _ => False
theorem PostT.mono {K : PySem.W.Frag} {mg : MG} {F G G' : Hp} {m m' : List Addr} {sl : List Nat} {σ : L2.St} {o : Out Env} {Q : L2.St → Hp → Prop} (e : Ext G m G' m') (h : PostT K mg F G m sl σ o Q) : PostT K mg F G' m' sl σ o Q := by
  cases o with
  | ok env st => exact fun G2 m2 s2 H2 e2 => h G2 m2 s2 H2 (e.trans e2)
  | stuck => exact h
  | exc x st => exact h
def tG (K : PySem.W.Frag) (mg : MG) (sl : List Nat) (g : T) : TG := fun v σ H Q => ∃ F G m env st w, Sim K mg F G m st H ∧ REnv K G m env σ ∧ RW K G m w v ∧ PostT K mg F G m sl σ (g w env st) Q
def tGs (K : PySem.W.Frag) (mg : MG) (sl : List Nat) (g : Ts) : TGs := fun vs σ H Q => ∃ F G m env st ws, Sim K mg F G m st H ∧ REnv K G m env σ ∧ RWs K G m ws vs ∧ PostT K mg F G m sl σ (g ws env st) Q
abbrev JG (X : Cx) (e : Expr) (sl : List Nat) (g : T) : Prop := PG X e (tG X.K X.mg sl g)
abbrev JGs (X : Cx) (e : List Expr) (sl : List Nat) (g : Ts) : Prop := PGs X e (tGs X.K X.mg sl g)
theorem wipe_at {σ : L2.St} {x : Option V} : ∀ {vs : List Nat} {i : Nat}, i ∈ vs → wipe (σ.set i x) vs = wipe σ vs
  | v :: vs, i, h => by
    unfold wipe
    by_cases e : i = v
    · subst e
      by_cases h2 : i ∈ vs
      · rw [wipe_at h2]
      · have : ∀ vs : List Nat, wipe (σ.set i x) vs = (wipe σ vs).set i (if i ∈ vs then none else x) := by
          intro vs
          induction vs with
          | nil => rfl
          | cons u us ih =>
            unfold wipe
            rw [ih]
            by_cases q : i = u
            · subst q
              simp
            · rw [List.set_comm _ _ q]
              simp [q]
        rw [this]
        simp
    · rcases List.mem_cons.mp h with h | h
      · exact absurd h e
      · rw [wipe_at h]
theorem weakG {t t' : TG} (h : PG X e t) (w : ∀ v σ H Q, t' v σ H Q → t v σ H Q) : PG X e t' := ⟨fun pins s σ H v u Q I r q => h.run pins s σ H v u Q I r (w v σ H Q q)⟩
theorem weakGs {t t' : TGs} (h : PGs X es t) (w : ∀ v σ H Q, t' v σ H Q → t v σ H Q) : PGs X es t' := ⟨fun pins s σ H v u Q I r q => h.run pins s σ H v u Q I r (w v σ H Q q)⟩
def gN (i : Nat) : T := fun w env st => .ok (env.set i (some w)) st
def gsNil : Ts := fun ws env st => match ws with
  | [] => .ok env st
  | _ => .stuck
def gsCons (g : T) (gs : Ts) : Ts := fun ws env st => match ws with
  | w :: ws => (g w env st).bind fun env st => gs ws env st
  | [] => .stuck
theorem jg_name {i : Nat} {x : Str} (hN : X.N.Nodup) (hi : X.N[i]? = some x) (hx : Loc X.env.scope x := by first | exact .inl rfl | exact .inr rfl) (hf : X.fn x = true ∨ X.env.scope.names.lookup x = some .local := by first | exact .inl rfl | exact .inr rfl | assumption) : JG X (.Name x pos) [i] (gN i) := by
  refine weakG (pg_name hN hi hx hf) ?_
  rintro v σ H Q ⟨F, G, m, env, st, w, S, R, r, q⟩
  exact q G m _ H (Ext.refl G m) S (R.set r i) fun vs hv => wipe_at (hv i (List.mem_singleton.mpr rfl))
theorem jgs_nil : JGs X [] [] gsNil := by
  refine weakGs pgs_nil ?_
  rintro v σ H Q ⟨F, G, m, env, st, w, S, R, r, q⟩
  cases r with
  | nil => exact ⟨rfl, q G m σ H (Ext.refl G m) S R fun _ _ => rfl⟩
  | cons a b => exact q.elim
theorem jgs_cons {g : T} {gs : Ts} {s1 s2 : List Nat} (h1 : JG X e s1 g) (h2 : JGs X es s2 gs) (hs : (assignEach (e :: es) X.env).map (·.2) = assign e X.env :: (assignEach es X.env).map (·.2) := by rfl) : JGs X (e :: es) (s1 ++ s2) (gsCons g gs) := by
  refine weakGs (pgs_cons h1 h2 hs) ?_
  rintro v σ H Q ⟨F, G, m, env, st, w, S, R, r, q⟩
  cases r with
  | nil => exact q.elim
  | @cons x v xs vs r1 r2 =>
    refine ⟨v, vs, rfl, F, G, m, env, st, x, S, R, r1, ?_⟩
    unfold gsCons at q
    cases h3 : g x env st with
    | stuck => simp only [h3] at q; exact q
    | exc x st => simp only [h3] at q; exact q
    | ok env1 st1 =>
      simp only [h3, Out.bind_ok] at q
      intro G1 m1 σ1 H1 e1 S1 R1 o1
      refine ⟨F, G1, m1, env1, st1, xs, S1, R1, r2.mono e1, ?_⟩
      have q := PostT.mono e1 q
      cases h4 : gs xs env1 st1 with
      | stuck => rw [h4] at q; exact q
      | exc x st => rw [h4] at q; exact q
      | ok env2 st2 =>
        rw [h4] at q
        exact fun G2 m2 σ2 H2 e2 S2 R2 o2 => q G2 m2 σ2 H2 e2 S2 R2 fun us hu => (o2 us fun i hi => hu i (List.mem_append_right _ hi)).trans (o1 us fun i hi => hu i (List.mem_append_left _ hi))
/-- as many targets as values, or nothing -/
def GsLen (gs : Ts) (n : Nat) : Prop := ∀ ws env st env' st', gs ws env st = .ok env' st' → ws.length = n
theorem gs_len0 : GsLen gsNil 0 := by
  intro ws env st env' st' q
  cases ws with
  | nil => rfl
  | cons => cases q
theorem gs_len {gs : Ts} {n : Nat} {g : T} (h : GsLen gs n) : GsLen (gsCons g gs) (n + 1) := by
  intro ws env st env' st' q
  cases ws with
  | nil => cases q
  | cons w ws =>
    unfold gsCons at q
    cases h3 : g w env st with
    | stuck => simp only [h3] at q; cases q
    | exc x st => simp only [h3] at q; cases q
    | ok env1 st1 =>
      simp only [h3] at q
      rw [List.length_cons, h ws env1 st1 env' st' q]
/-- (a, b, ..) = a tuple -/
def gTu (gs : Ts) : T := fun w env st => match tview w with
  | some ws => gs ws env st
  | none => .stuck
theorem jg_tup {k : Nat} {gs : Ts} {n : Nat} {sl : List Nat} (hc : X.calm = true) (h : JGs X es sl gs) (hl : GsLen gs n) (hn : (assignEach es X.env).length = n := by rfl)
    (hst : (assignEach es X.env).findIdx? (·.1) = none := by rfl) : JG X (.Tuple es k pos) sl (gTu gs) := by
  refine weakG (pg_tup hc h hn hst) ?_
  rintro v σ H Q ⟨F, G, m, env, st, w, S, R, r, q⟩
  unfold gTu at q
  split at q
  · rename_i ws h3
    obtain ⟨a, vs, rfl, h4, h5⟩ := tview_at S r h3
    refine ⟨a, vs, rfl, h4, ?_, F, G, m, env, st, ws, S, R, h5, q⟩
    rw [← h5.length]
    cases h6 : gs ws env st with
    | stuck => rw [h6] at q; exact q.elim
    | exc x st => rw [h6] at q; exact q.elim
    | ok env' st' => exact hl _ _ _ _ _ h6
  · exact q.elim
/-- o[i] as a target: a list in a cell -/
def gAt (o ix : Env → M W) : T := fun w env st => (o env st).bind fun ow st => (ix env st).bind fun iw st => match ow, iw with
  | .cell n, .int k => match lcell st n with
    | some xs => match ixN xs.length k with
      | some j => .ok env (st.set n (.lst (xs.set j w)))
      | none => .stuck
    | none => .stuck
  | _, _ => .stuck
theorem post_of {K : PySem.W.Frag} {mg : MG} {F G : Hp} {m : List Addr} {sl : List Nat} {σ : L2.St} {α β : Type} {R : Rel α β} {o : Out α} {f : α → M Env} {Q : L2.St → Hp → Prop} (h : PostT K mg F G m sl σ (o.bind f) Q) :
    Post R K mg E F G m o fun b H => ∃ G' m' a st, Ext G m G' m' ∧ Sim K mg F G' m' st H ∧ R K G' m' a b ∧ PostT K mg F G' m' sl σ (f a st) Q := by
  cases o with
  | stuck => exact h
  | exc x st => exact h.elim
  | ok a st => exact fun G2 m2 b H2 e s r => ⟨G2, m2, a, st, e, s, r, PostT.mono e h⟩
theorem jg_at {o i : Expr} {dO dI : Env → M W} (ho : JE X E0 o dO) (hi : JE X E0 i dI) (ha : ∀ v, assign (.Subscript o i pos) X.env v = (do
      let ov ← holding [v] (eval o X.env)
      let iv ← holding [v, ov] (eval i X.env)
      standAt pos
      holding [v, ov, iv] (setItem ov iv v)
      release [v, ov, iv] []) := by intro _; rfl) : JG X (.Subscript o i pos) [] (gAt dO dI) := by
  refine weakG (pg_sub ho hi set_list ha) ?_
  rintro v σ H Q ⟨F, G, m, env, st, w, S, R, r, P⟩
  refine ⟨F, G, m, env, st, S, R, (post_of (R := RW) P).imp fun ov H1 ⟨G1, m1, ow, st1, e1, S1, r1, P1⟩ => ?_⟩
  refine ⟨F, G1, m1, env, st1, S1, R.mono e1, (post_of (R := RW) P1).imp fun iv H2 ⟨G2, m2, iw, st2, e2, S2, r2, P2⟩ => ?_⟩
  split at P2
  · rename_i n k _
    split at P2
    · rename_i xs q
      split at P2
      · rename_i j q2
        have q := lcell_some q
        have r1 := RW.mono e2 r1
        have r := RW.mono e2 (RW.mono e1 r)
        cases r2
        cases r1 with
        | @cell _ adr hm =>
          obtain ⟨g0, vs, h2, h3⟩ := S2.ok n _ adr q hm
          refine ⟨adr, vs, k, j, rfl, rfl, h2, by rw [← h3.length]; exact q2, ?_⟩
          exact P2 G2 m2 σ _ (Ext.refl G2 m2) (S2.set q True.intro hm ⟨g0, _, upd_same, h3.set r j⟩) ((R.mono e1).mono e2) fun _ _ => rfl
      · exact P2.elim
    · exact P2.elim
  · exact P2.elim
/-- target = e -/
def sAsg (g : T) (d : Env → M W) : S := fun env st => (d env st).bindS fun w st => (g w env st).nox.bindS fun env st => .nx env st
theorem js_asg {tg : Expr} {g : T} {sl : List Nat} (h : JE X E e d) (hg : JG X tg sl g) (hs : swapsWithSole [tg] e pos.line X.env = pure false := by rfl) (hw : swappedStores [tg] e X.env = pure none := by rfl)
    (h1 : (assignEach [tg] X.env).map (·.2) = [assign tg X.env] := by rfl) : JS X E (.Assign [tg] e pos) (sAsg g d) := by
  refine weakS (ps_asg h hg hs hw h1) ?_
  rintro D σ H ⟨F, G, m, env, st, S, R, P⟩
  refine ⟨F, G, m, env, st, S, R, (P.bindS (R := RW)).imp fun v H1 ⟨G1, m1, w, st1, e1, S1, r1, P1⟩ => ?_⟩
  refine ⟨F, G1, m1, env, st1, w, S1, R.mono e1, r1, ?_⟩
  cases q : g w env st1 with
  | stuck => rw [q] at P1; exact P1.elim
  | exc x st => rw [q] at P1; exact P1.elim
  | ok env2 st2 =>
    rw [q] at P1
    exact fun G2 m2 σ2 H2 e2 S2 R2 _ => P1 G2 m2 σ2 H2 e2 S2 R2
/-- a, b = x, y (plain local names) -/
def sPar (i j : Nat) (ds : Env → M (List W)) : S := fun env st => (ds env st).bindS fun ws st => match ws with
  | [v, w] => .nx ((env.set i (some v)).set j (some w)) st
  | _ => .stuck
theorem js_par {i j : Nat} {x y : Str} {px py pt : Pos} {kt k2 pt2} (hc : X.calm = true) (hN : X.N.Nodup) (hi : X.N[i]? = some x) (hj : X.N[j]? = some y) (hij : i ≠ j)
    (hx : X.env.scope.names.lookup x = some .local) (hy : X.env.scope.names.lookup y = some .local) (ha : JA X E [a, b] ds)
    (hw : swappedStores [.Tuple [.Name x px, .Name y py] kt pt] (.Tuple [a, b] k2 pt2) X.env = pure (some [x, y]))
    (hs : swapsWithSole [.Tuple [.Name x px, .Name y py] kt pt] (.Tuple [a, b] k2 pt2) pos.line X.env = pure false := by rfl) :
    JS X E (.Assign [.Tuple [.Name x px, .Name y py] kt pt] (.Tuple [a, b] k2 pt2) pos) (sPar i j ds) := by
  refine weakS (ps_par hc hN hi hj hij hx hy ha hw hs) ?_
  rintro D σ H ⟨F, G, m, env, st, S, R, P⟩
  refine ⟨F, G, m, env, st, S, R, (P.bindS (R := RA)).imp fun vs H1 ⟨G1, m1, ws, st1, e1, S1, r1, P1⟩ => ?_⟩
  split at P1
  · cases r1 with
    | cons a r =>
      cases r with
      | cons b r =>
        cases r
        exact ⟨_, _, rfl, P1 G1 m1 _ H1 (Ext.refl G1 m1) S1 (((R.mono e1).set a i).set b j)⟩
  · exact P1.elim
end

/-! ### loops -/
/-- the iterator goes through these -/
structure Walks (K : PySem.W.Frag) (mg : MG) (G : Hp) (m : List Addr) (xs : List W) (ok : Store → Prop) (J : It) : Prop where
  go : ∀ i H F G1 m1 st, Ext G m G1 m1 → Sim K mg F G1 m1 st H → ok st → i < xs.length → J.go i H
  stop : ∀ i H F G1 m1 st, Ext G m G1 m1 → Sim K mg F G1 m1 st H → ok st → xs.length ≤ i → J.stop i H
  yld : ∀ i H x H' F G1 m1 st, Ext G m G1 m1 → Sim K mg F G1 m1 st H → ok st → i < xs.length → J.yld i H x H' → ∃ w G2, xs[i]? = some w ∧ Ex G1 G2 ∧ Sim K mg F G2 m1 st H' ∧ RW K G2 m1 w x
theorem Walks.mono {K : PySem.W.Frag} {mg : MG} {G G' : Hp} {m m' : List Addr} {xs : List W} {ok : Store → Prop} {J : It} (e : Ext G m G' m') (w : Walks K mg G m xs ok J) : Walks K mg G' m' xs ok J :=
  ⟨fun i H F G1 m1 st x => w.go i H F G1 m1 st (e.trans x), fun i H F G1 m1 st x => w.stop i H F G1 m1 st (e.trans x), fun i H x H' F G1 m1 st z => w.yld i H x H' F G1 m1 st (e.trans z)⟩
/-- what is walked: the items, and the store's word that they still stand -/
structure It' where
  xs : List W
  ok : Store → Prop
def RI (mg : MG) : Rel It' It := fun K G m a J => Walks K mg G m a.xs a.ok J
def tIt (K : PySem.W.Frag) (mg : MG) (E : XK) (d : Env → M It') : TI := fun σ H R => ∃ F G m env st, Sim K mg F G m st H ∧ REnv K G m env σ ∧ Post (RI mg) K mg E F G m (d env st) R
abbrev JI (X : Cx) (E : XK) (tg e : Expr) (d : Env → M It') : Prop := PI X tg e (tIt X.K X.mg E d)
theorem weakI {X : Cx} {tg e : Expr} {t t' : TI} (h : PI X tg e t) (w : ∀ σ H Q, t' σ H Q → t σ H Q) : PI X tg e t' := ⟨fun pins s σ H R I q => h.run pins s σ H R I (w σ H R q)⟩

open Classical in
/-- a for's turns -/
noncomputable def forGo (ok : Store → Prop) (g : T) (body : S) : List W → Env → Store → SOut
  | [], env, st => if ok st then .nx env st else .stuck
  | w :: ws, env, st => if ok st then (match g w env st with
    | .ok env st => (match body env st with
      | .nx env st => forGo ok g body ws env st
      | .ct env st => forGo ok g body ws env st
      | .bk env st => .nx env st
      | o => o)
    | _ => .stuck) else .stuck
noncomputable def sFor (it : Env → M It') (g : T) (body : S) : S := fun env st => (it env st).bindS fun i st => forGo i.ok g body i.xs env st
section
variable {X : Cx} {E : XK} {a b e c : Expr} {es : List Expr} {da db d : Env → M W} {ds : Env → M (List W)} {pos : Pos} {dt du : Env → M Bool} {st1 : Stmt} {rest : List Stmt} {s1 s2 : S}
theorem js_for {tg iter : Expr} {body : List Stmt} {di : Env → M It'} {g : T} {sl : List Nat} {s : S} (hp : PassesOwn (model X.prog X.w) X.A X.env X.xe) (hc : X.calm = true) (hi : JI X E tg iter di) (hg : JG X tg sl g) (hb : JSs X E body s)
    (hs : ∀ x, foldedSetIterable iter X.env x = pure x := by intro _; rfl) : JS X E (.For tg iter body [] pos) (sFor di g s) := by
  refine weakS (ps_for hp hc hi hg hb hs) ?_
  rintro D σ H ⟨F, G, m, env, st, S, R, P⟩
  refine ⟨F, G, m, env, st, S, R, (P.bindS (R := RI X.mg)).imp fun J H1 ⟨G1, m1, i1, st1, e1, S1, w1, P1⟩ => ?_⟩
  refine ⟨fun i k σ' H' => k = i1.xs.length - i ∧ i ≤ i1.xs.length ∧ ∃ G' m' env' st', Ext G1 m1 G' m' ∧ Sim X.K X.mg F G' m' st' H' ∧ REnv X.K G' m' env' σ' ∧ PostS X.K X.mg E F G' m' (forGo i1.ok g s (i1.xs.drop i) env' st') D,
    ⟨_, rfl, Nat.zero_le _, G1, m1, env, st1, Ext.refl G1 m1, S1, R.mono e1, P1⟩, ?_⟩
  rintro i k σ' H' ⟨rfl, hi, G', m', env', st', e', S', R', P'⟩
  by_cases hlt : i < i1.xs.length
  · rw [List.drop_eq_getElem_cons hlt, forGo] at P'
    split at P'
    · rename_i hok
      refine .inr ⟨w1.go i H' F G' m' st' e' S' hok hlt, fun σ2 H2 => ∃ G2 m2 env2 st2, Ext G1 m1 G2 m2 ∧ Sim X.K X.mg F G2 m2 st2 H2 ∧ REnv X.K G2 m2 env2 σ2 ∧ PostS X.K X.mg E F G2 m2 (forGo i1.ok g s (i1.xs.drop (i + 1)) env2 st2) D,
        fun σ2 H2 h2 => ⟨_, Nat.sub_lt_sub_left hlt (Nat.lt_succ_self i), rfl, hlt, h2⟩, fun x H2 hy => ?_⟩
      obtain ⟨w, G2, hw, eG, S2, r2⟩ := w1.yld i H' x H2 F G' m' st' e' S' hok hlt hy
      rw [List.getElem?_eq_getElem hlt] at hw
      cases hw
      have x2 : Ext G' m' G2 m' := ⟨eG, fun _ _ h => h⟩
      refine ⟨F, G2, m', env', st', _, S2, R'.mono x2, r2, ?_⟩
      cases hg2 : g i1.xs[i] env' st' with
      | stuck => simp only [hg2] at P'; exact P'.elim
      | exc x st => simp only [hg2] at P'; exact P'.elim
      | ok env2 st2 =>
        simp only [hg2] at P'
        intro G3 m3 σ3 H3 e3 S3 R3 _
        refine ⟨F, G3, m3, env2, st2, S3, R3, ?_⟩
        have P2 := PostS.mono e3 (PostS.mono x2 P')
        have ee := (e'.trans x2).trans e3
        cases q : s env2 st2 with
        | stuck => rw [q] at P2; exact P2
        | rt w st4 => rw [q] at P2; exact P2
        | exc x st4 => rw [q] at P2; exact P2
        | bk env4 st4 => rw [q] at P2; exact P2
        | nx env4 st4 =>
          rw [q] at P2
          exact fun G4 m4 σ4 H4 e4 S4 R4 => ⟨G4, m4, env4, st4, ee.trans e4, S4, R4, PostS.mono e4 P2⟩
        | ct env4 st4 =>
          rw [q] at P2
          exact fun G4 m4 σ4 H4 e4 S4 R4 => ⟨G4, m4, env4, st4, ee.trans e4, S4, R4, PostS.mono e4 P2⟩
    · exact P'.elim
  · have hd : i1.xs.drop i = [] := List.drop_eq_nil_of_le (by omega)
    rw [hd, forGo] at P'
    split at P'
    · rename_i hok
      exact .inl ⟨w1.stop i H' F G' m' st' e' S' hok (by omega), P' G' m' σ' H' (Ext.refl G' m') S' R'⟩
    · exact P'.elim
/-- a while's turns, at most n -/
def whileGo (t : Env → M Bool) (body : S) : Nat → Env → Store → SOut
  | 0, _, _ => .stuck
  | n + 1, env, st => (t env st).bindS fun c st => if c = true then (match body env st with
      | .nx env st => whileGo t body n env st
      | .ct env st => whileGo t body n env st
      | .bk env st => .nx env st
      | o => o) else .nx env st
def sWhile (n : Env → Store → Nat) (t : Env → M Bool) (body : S) : S := fun env st => whileGo t body (n env st) env st
theorem js_while {body : List Stmt} {n : Env → Store → Nat} {s : S} (hp : PassesOwn (model X.prog X.w) X.A X.env X.xe) (hc : JT X E c dt) (hb : JSs X E body s) : JS X E (.While c body [] pos) (sWhile n dt s) := by
  refine weakS (ps_while hp hc hb) ?_
  rintro D σ H ⟨F, G, m, env, st, S, R, P⟩
  refine ⟨fun k σ' H' => ∃ G' m' env' st', Sim X.K X.mg F G' m' st' H' ∧ REnv X.K G' m' env' σ' ∧ PostS X.K X.mg E F G' m' (whileGo dt s k env' st') D, ⟨_, G, m, env, st, S, R, P⟩, ?_⟩
  rintro k σ' H' ⟨G', m', env', st', S', R', P'⟩
  cases k with
  | zero => exact P'.elim
  | succ k =>
    rw [whileGo] at P'
    refine ⟨F, G', m', env', st', S', R', (P'.bindS (R := RB)).imp fun c' H1 ⟨G1, m1, c, st1, e1, S1, r1, P1⟩ => ?_⟩
    cases r1
    cases c' with
    | false => exact P1 G1 m1 σ' H1 (Ext.refl G1 m1) S1 (R'.mono e1)
    | true =>
      refine ⟨fun σ2 H2 => ∃ G2 m2 env2 st2, Sim X.K X.mg F G2 m2 st2 H2 ∧ REnv X.K G2 m2 env2 σ2 ∧ PostS X.K X.mg E F G2 m2 (whileGo dt s k env2 st2) D, fun σ2 H2 h2 => ⟨k, Nat.lt_succ_self k, h2⟩, F, G1, m1, env', st1, S1, R'.mono e1, ?_⟩
      have P2 : PostS X.K X.mg E F G1 m1 (match s env' st1 with
        | .nx env st => whileGo dt s k env st
        | .ct env st => whileGo dt s k env st
        | .bk env st => .nx env st
        | o => o) D := P1
      cases q : s env' st1 with
      | stuck => rw [q] at P2; exact P2
      | rt w st4 => rw [q] at P2; exact P2
      | exc x st4 => rw [q] at P2; exact P2
      | bk env4 st4 => rw [q] at P2; exact P2
      | nx env4 st4 =>
        rw [q] at P2
        exact fun G4 m4 σ4 H4 e4 S4 R4 => ⟨G4, m4, env4, st4, S4, R4, PostS.mono e4 P2⟩
      | ct env4 st4 =>
        rw [q] at P2
        exact fun G4 m4 σ4 H4 e4 S4 R4 => ⟨G4, m4, env4, st4, S4, R4, PostS.mono e4 P2⟩

/-- over a list -/
def iL (d : Env → M W) : Env → M It' := fun env st => (d env st).bind fun w st => match w with
  | .lst xs => .ok ⟨xs, fun _ => True⟩ st
  | .fz xs => .ok ⟨xs, fun _ => True⟩ st
  | .cell n => match lcell st n with
    | some xs => .ok ⟨xs, fun st => lcell st n = some xs⟩ st
    | none => .stuck
  | _ => .stuck
theorem walks_list {K : PySem.W.Frag} {mg : MG} {G : Hp} {m : List Addr} {xs : List W} {adr : Addr} {ok : Store → Prop}
    (h : ∀ H F G1 m1 st, Ext G m G1 m1 → Sim K mg F G1 m1 st H → ok st → ∃ vs, SqL K H adr vs ∧ RWs K G1 m1 xs vs)
    : Walks K mg G m xs ok (Itl K adr) where
  go := fun i H F G1 m1 st e S k hi => by
    obtain ⟨vs, h1, h2⟩ := h H F G1 m1 st e S k
    exact ⟨vs, vs[i]'(by rw [← h2.length]; exact hi), h1, List.getElem?_eq_getElem _⟩
  stop := fun i H F G1 m1 st e S k hi => by
    obtain ⟨vs, h1, h2⟩ := h H F G1 m1 st e S k
    exact ⟨vs, h1, by rw [← h2.length]; exact hi⟩
  yld := fun i H x H' F G1 m1 st e S k hi hy => by
    obtain ⟨vs, h1, h2⟩ := h H F G1 m1 st e S k
    obtain ⟨rfl, h3⟩ := hy
    obtain ⟨w, h4, h5⟩ := h2.get' (h3 vs h1)
    exact ⟨w, G1, h4, Ex.refl G1, S, h5⟩
theorem ji_list {tg : Expr} (h : JE X E e d) : JI X E tg e (iL d) := by
  refine weakI (pi_list h) ?_
  rintro σ H Q ⟨F, G, m, env, st, S, R, P⟩
  refine ⟨F, G, m, env, st, S, R, (P.bind (R := RW)).imp fun v H1 ⟨G1, m1, w, st1, e1, S1, r1, P1⟩ => ?_⟩
  split at P1
  · rename_i xs
    cases r1 with
    | @lst p vs _ h1 h2 =>
      refine ⟨p, rfl, ⟨vs, .inl (.inl (S1.ex _ _ h1))⟩, P1.ret S1 (walks_list fun H F G1 m1 st e S k => ⟨vs, .inl (.inl (S.ex _ _ (e.ex _ _ h1))), h2.mono e⟩)⟩
  · rename_i xs
    cases r1 with
    | @fz p vs _ h1 h2 =>
      refine ⟨p, rfl, ⟨vs, ex_l S1.ex h1⟩, P1.ret S1 (walks_list fun H F G1 m1 st e S k => ⟨vs, ex_l S.ex (ex_l e.ex h1), h2.mono e⟩)⟩
  · rename_i n
    split at P1
    · rename_i xs q
      cases r1 with
      | @cell _ adr hm =>
        obtain ⟨g0, vs, h2, h3⟩ := S1.ok n _ adr (lcell_some q) hm
        refine ⟨adr, rfl, ⟨vs, .inl (.inl h2)⟩, P1.ret S1 (walks_list fun H F G1 m1 st e S k => ?_)⟩
        obtain ⟨_, vs', h4, h5⟩ := S.ok n _ adr (lcell_some k) (e.mm _ _ hm)
        exact ⟨vs', .inl (.inl h4), h5⟩
    · exact P1.elim
  · exact P1.elim
/-- lo, lo + 1, .. n of them -/
def rngW (lo : Int) (n : Nat) : List W := (List.range n).map fun (i : Nat) => W.int (lo + (i : Int))
theorem rngW_get {lo : Int} {n i : Nat} (h : i < n) : (rngW lo n)[i]? = some (.int (lo + (i : Int))) := by
  unfold rngW
  rw [List.getElem?_map, List.getElem?_range h]
  rfl
theorem rngW_len {lo : Int} {n : Nat} : (rngW lo n).length = n := by
  unfold rngW
  rw [List.length_map, List.length_range]
def small (i : Int) : Prop := -(2 ^ 62) ≤ i ∧ i < 2 ^ 62
instance (i : Int) : Decidable (small i) := by unfold small; exact inferInstance
theorem walks_range {K : PySem.W.Frag} {mg : MG} {G : Hp} {m : List Addr} {lo : Int} {n : Nat} : Walks K mg G m (rngW lo n) (fun _ => True) (Itr lo n) where
  go := fun i H F G1 m1 st e S k hi => by
    rw [rngW_len] at hi
    exact hi
  stop := fun i H F G1 m1 st e S k hi => by
    rw [rngW_len] at hi
    exact hi
  yld := fun i H x H' F G1 m1 st e S k hi hy => by
    obtain ⟨rfl, rfl⟩ := hy
    rw [rngW_len] at hi
    exact ⟨.int (lo + (i : Int)), G1, rngW_get hi, Ex.refl G1, S, .int _⟩
end
end Sh


set_option maxRecDepth 100000
set_option maxHeartbeats 2000000
namespace Sh
open PySem L2 Evl

/-! ### defs -/
/-- a def's promise: it does as the function says -/
def spM (K : PySem.W.Frag) (mg : MG) (f : List W → M W) : Sp := fun vs H Q _ => ∃ F G m ws st, Sim K mg F G m st H ∧ RWs K G m ws vs ∧ Post RW K mg E0 F G m (f ws st).nox Q
def dBody (n tot : Nat) (s : S) : List W → M W := fun ws st => if ws.length = n then (match s (ws.map some ++ List.replicate (tot - n) none) st with
  | .nx _ st => .ok .non st
  | .rt w st => .ok w st
  | .exc x st => .exc x st
  | _ => .stuck) else .stuck
theorem start_env {K : PySem.W.Frag} {G : Hp} {m : List Addr} {N : List Str} {ws : List W} {vs : List V} (r : RWs K G m ws vs) : REnv K G m (ws.map some ++ List.replicate (N.length - ws.length) none) (L2.start N vs) := by
  have hl := r.length
  refine ⟨by simp [L2.start, hl], fun i w q => ?_⟩
  by_cases hi : i < ws.length
  · rw [List.getElem?_append_left (by simpa using hi), List.getElem?_map, List.getElem?_eq_getElem hi] at q
    simp at q
    subst q
    obtain ⟨v, h1, h2⟩ := r.get (List.getElem?_eq_getElem hi)
    refine ⟨v, ?_, h2⟩
    unfold L2.start
    rw [List.getElem?_append_left (by simp; omega), List.getElem?_map, h1]
    rfl
  · rw [List.getElem?_append_right (by simp; omega), List.getElem?_replicate] at q
    split at q <;> cases q
section
variable {P : Program} {w : World} {K : PySem.W.Frag} {mg : MG} {base : Heap} {x qual : Str} {st : Stmt} {f : Addr} {fd : FuncData} {N ps : List Str} {k : Nat}
/-- the body's word as the def's -/
theorem body_ok {X : Cx} {s : S} {ss : List Stmt} {vs : List V} {H : Hp} {Q : VK} (hK : X.K = K) (hm : X.mg = mg) (hb : JSs X E0 ss s) (hN : ps.length ≤ N.length)
    (h : spM K mg (dBody ps.length N.length s) vs H Q E) : ∃ t, PSs X ss t ∧ t { nx := fun _ H' => Q .non H', rt := Q } (L2.start N vs) H := by
  subst hK hm
  refine ⟨_, hb, ?_⟩
  obtain ⟨F, G, m, ws, st, S, r, P⟩ := h
  unfold dBody at P
  split at P
  · rename_i hl
    refine ⟨F, G, m, ws.map some ++ List.replicate (N.length - ws.length) none, st, S, start_env r, ?_⟩
    rw [hl]
    cases q : s (ws.map some ++ List.replicate (N.length - ps.length) none) st with
    | stuck => rw [q] at P; exact P
    | bk env st => rw [q] at P; exact P.elim
    | ct env st => rw [q] at P; exact P.elim
    | exc x st => rw [q] at P; exact P.elim
    | rt w st => rw [q] at P; exact P
    | nx env st =>
      rw [q] at P
      exact fun G1 m1 σ1 H1 e1 S1 R1 => P G1 m1 .non H1 e1 S1 .non
  · exact P.elim
theorem spM_len {s : S} {n tot : Nat} {vs : List V} {H : Hp} {Q : VK} {E : XK} (h : spM K mg (dBody n tot s) vs H Q E) : vs.length = n := by
  obtain ⟨F, G, m, ws, st, S, r, P⟩ := h
  unfold dBody at P
  split at P
  · rename_i hl
    rw [← r.length]
    exact hl
  · exact P.elim
theorem fn_ok {s : S} (F : Fun K x qual st f fd) (hS : FnScope N ps (defScope st)) (hN : ps.length ≤ N.length)
    (hb : ∀ (cdv : Value) (A : Around) (outer : List PySem.Env) (sh : Shared) (H : Hp) (E : XK), Room k (A.deeper (PyProof.Rows.envOfC qual (defScope st) sh.heap.objs.size f cdv)) → JSs (cxOf CX0 P w K mg base N qual (defScope st) f cdv A outer sh H E).nox E0 (defBody st) s) :
    FnOk P w K mg base CX0 (k + 1) f fd ps (spM K mg (dBody ps.length N.length s)) :=
  F.ok hS (fun vs H Q E h => spM_len h) fun cdv A outer sh H vs Q E hr h => body_ok rfl rfl (hb cdv A outer sh H E hr) hN h
theorem fn_eq {f' g : List W → M W} (F : FnOk P w K mg base CX0 k f fd ps (spM K mg f')) (h : ∀ ws st, (f' ws st).nox = (g ws st).nox) : FnOk P w K mg base CX0 k f fd ps (spM K mg g) :=
  F.imp fun vs H Q E ⟨F, G, m, ws, st, S, r, P⟩ => ⟨F, G, m, ws, st, S, r, by rw [h]; exact P⟩
end

/-! ### calls -/
def dCall (f : List W → M W) (ds : Env → M (List W)) : Env → M W := fun env st => (ds env st).bind fun ws st => (f ws st).nox
def dCallB (f : List W → M W) (ds : Env → M (List W)) : Env → M W := fun env st => (ds env st).bind f
def dCallF (f : List W → M (List W)) (ds : Env → M (List W)) : Env → M (List W) := fun env st => (ds env st).bind f
section
variable {X : Cx} {E : XK} {a b e c o : Expr} {es : List Expr} {da db d dO : Env → M W} {ds : Env → M (List W)} {p pos apos cpos : Pos} {k : Nat} {f : Addr} {fd : FuncData} {ps : List Str} {x : Str} {df : List W → M W}
theorem je_call (F : FnOk X.prog X.w X.K X.mg X.base CX0 k f fd ps (spM X.K X.mg df)) (hr : Room k X.A) (hg : Gl X x) (hm : X.mg x = some (.ref f)) (hk : PySem.W.keepIn X.K (.ref f) = true) (hb : Binds X.K fd ps [])
    (ha : JA X E (e :: es) ds) (hdb : (x == ("__debug__" : Str)) = false := by decide) (he : starEach (e :: es) X.env = (false, eval e X.env) :: starEach es X.env := by rfl) (hpl : (backTo pos (starEach es X.env)).any (·.1) = false := by rfl) :
    JE X E (.Call (.Name x p) (e :: es) [] pos) (dCall df ds) := by
  refine weakE (pe_call F hr hg hm hk hb .nil (E := E0) pass0 ha hdb he hpl) ?_
  rintro σ H Q ⟨F, G, m, env, st, S, R, P⟩
  refine ⟨F, G, m, env, st, S, R, (P.bind (R := RA)).imp fun vs H1 ⟨G1, m1, ws, st1, e1, S1, r1, P1⟩ => ?_⟩
  rw [List.append_nil]
  exact ⟨F, G1, m1, ws, st1, S1, r1, P1.nox⟩
theorem je_call0 (F : FnOk X.prog X.w X.K X.mg X.base CX0 k f fd ps (spM X.K X.mg df)) (hr : Room k X.A) (hg : Gl X x) (hm : X.mg x = some (.ref f)) (hk : PySem.W.keepIn X.K (.ref f) = true) (hb : Binds X.K fd ps [])
    (hdb : (x == ("__debug__" : Str)) = false := by decide) : JE X E (.Call (.Name x p) [] [] pos) (dCall df dNil) := by
  refine weakE (pe_call0 F hr hg hm hk hb .nil (E := E0) pass0 hdb) ?_
  rintro σ H Q ⟨F, G, m, env, st, S, R, P⟩
  exact ⟨F, G, m, [], st, S, .nil, Post.nox P⟩
theorem je_callB {id : String} {r : List V → Hp → VK → Prop} {g : List W → M W} (hc : CallR X (.builtin id) r) (hf : CallOk X.K X.mg E r g) (hg : Gl X x) (hm : X.mg x = none) (hv : bootBuiltins x = some (.builtin id)) (ha : JA X E (e :: es) ds)
    (hn : x ≠ "__name__" := by decide) (hdb : (x == ("__debug__" : Str)) = false := by decide) (he : starEach (e :: es) X.env = (false, eval e X.env) :: starEach es X.env := by rfl) (hpl : (backTo pos (starEach es X.env)).any (·.1) = false := by rfl) :
    JE X E (.Call (.Name x p) (e :: es) [] pos) (dCallB g ds) := by
  refine weakE (pe_callB hc hg hm hv ha hn hdb he hpl) ?_
  rintro σ H Q ⟨F, G, m, env, st, S, R, P⟩
  exact ⟨F, G, m, env, st, S, R, (P.bind (R := RA)).imp fun vs H1 ⟨G1, m1, ws, st1, e1, S1, r1, P1⟩ => hf F G1 m1 st1 H1 ws vs Q S1 r1 P1⟩
theorem je_callT {id : String} {r : List V → Hp → VK → Prop} {g : List W → M W} (hc : CallR X (.type id) r) (hf : CallOk X.K X.mg E r g) (hg : Gl X x) (hm : X.mg x = none) (hv : bootBuiltins x = some (.type id)) (ha : JA X E (e :: es) ds)
    (hn : x ≠ "__name__" := by decide) (hdb : (x == ("__debug__" : Str)) = false := by decide) (he : starEach (e :: es) X.env = (false, eval e X.env) :: starEach es X.env := by rfl) (hpl : (backTo pos (starEach es X.env)).any (·.1) = false := by rfl) :
    JE X E (.Call (.Name x p) (e :: es) [] pos) (dCallB g ds) := by
  refine weakE (pe_callTy hc hg hm hv ha hn hdb he hpl) ?_
  rintro σ H Q ⟨F, G, m, env, st, S, R, P⟩
  exact ⟨F, G, m, env, st, S, R, (P.bind (R := RA)).imp fun vs H1 ⟨G1, m1, ws, st1, e1, S1, r1, P1⟩ => hf F G1 m1 st1 H1 ws vs Q S1 r1 P1⟩
theorem jf_callB {id : String} {r : List V → Hp → VK → Prop} {g : List W → M (List W)} (hc : CallR X (.builtin id) r) (hf : CallOkF X.K X.mg E r g) (hg : Gl X x) (hm : X.mg x = none) (hv : bootBuiltins x = some (.builtin id)) (ha : JA X E (e :: es) ds)
    (hn : x ≠ "__name__" := by decide) (hdb : (x == ("__debug__" : Str)) = false := by decide) (he : starEach (e :: es) X.env = (false, eval e X.env) :: starEach es X.env := by rfl) (hpl : (backTo pos (starEach es X.env)).any (·.1) = false := by rfl) :
    JF X E (.Call (.Name x p) (e :: es) [] pos) (dCallF g ds) := by
  refine weakE (pe_callB hc hg hm hv ha hn hdb he hpl) ?_
  rintro σ H Q ⟨F, G, m, env, st, S, R, P⟩
  exact ⟨F, G, m, env, st, S, R, (PostF.bind (R := RA) P).imp fun vs H1 ⟨G1, m1, ws, st1, e1, S1, r1, P1⟩ => hf F G1 m1 st1 H1 ws vs Q S1 r1 P1⟩
theorem jf_callT {id : String} {r : List V → Hp → VK → Prop} {g : List W → M (List W)} (hc : CallR X (.type id) r) (hf : CallOkF X.K X.mg E r g) (hg : Gl X x) (hm : X.mg x = none) (hv : bootBuiltins x = some (.type id)) (ha : JA X E (e :: es) ds)
    (hn : x ≠ "__name__" := by decide) (hdb : (x == ("__debug__" : Str)) = false := by decide) (he : starEach (e :: es) X.env = (false, eval e X.env) :: starEach es X.env := by rfl) (hpl : (backTo pos (starEach es X.env)).any (·.1) = false := by rfl) :
    JF X E (.Call (.Name x p) (e :: es) [] pos) (dCallF g ds) := by
  refine weakE (pe_callTy hc hg hm hv ha hn hdb he hpl) ?_
  rintro σ H Q ⟨F, G, m, env, st, S, R, P⟩
  exact ⟨F, G, m, env, st, S, R, (PostF.bind (R := RA) P).imp fun vs H1 ⟨G1, m1, ws, st1, e1, S1, r1, P1⟩ => hf F G1 m1 st1 H1 ws vs Q S1 r1 P1⟩

/-! ### built-in functions by value -/
def cLen : List W → M W := fun ws st => match ws with
  | [.str x] => if x.length ≤ sizeLine then .ok (.int x.length) st else .stuck
  | [w] => match sview w st with
    | some xs => .ok (.int xs.length) st
    | none => .stuck
  | _ => .stuck
def cAbs : List W → M W := fun ws st => match ws with
  | [.int i] => .ok (.int (if i < 0 then -i else i)) st
  | _ => .stuck
def cInt : List W → M W := fun ws st => match ws with
  | [.int i] => .ok (.int i) st
  | [.bl b] => .ok (.int (if b then 1 else 0)) st
  | _ => .stuck
def cMin2 : List W → M W := fun ws st => match ws with
  | [.int i, .int j] => .ok (.int (if j < i then j else i)) st
  | _ => .stuck
def cMax2 : List W → M W := fun ws st => match ws with
  | [.int i, .int j] => .ok (.int (if j > i then j else i)) st
  | _ => .stuck
def cList : List W → M (List W) := fun ws st => match ws with
  | [w] => match sview w st with
    | some xs => .ok xs st
    | none => .stuck
  | _ => .stuck
section
variable {K : PySem.W.Frag} {mg : MG}
theorem ok_len : CallOk K mg E (fun xs H Q => (∃ p ys, xs = [.ref p] ∧ (SqL K H p ys ∨ SqT K H p ys) ∧ Q (.int ys.length) H) ∨ (∃ z, xs = [.str z] ∧ z.length ≤ sizeLine ∧ Q (.int z.length) H)) cLen := by
  intro F G m st H ws vs Q S r P
  unfold cLen at P
  split at P
  · cases r with
    | cons h r =>
      cases r
      cases h
      split at P
      · exact .inr ⟨_, rfl, by assumption, P.ret S (.int _)⟩
      · exact P.elim
  · cases r with
    | cons h r =>
      cases r
      split at P
      · rename_i xs q
        obtain ⟨a, vs, rfl, h1, h2⟩ := sview_at S h q
        rw [h2.length] at P
        exact .inl ⟨a, vs, rfl, h1, P.ret S (.int _)⟩
      · exact P.elim
  · exact P.elim
theorem ok_abs : CallOk K mg E (fun xs H Q => ∃ i, xs = [.int i] ∧ Q (.int (if i < 0 then -i else i)) H) cAbs := by
  intro F G m st H ws vs Q S r P
  unfold cAbs at P
  split at P
  · cases r with
    | cons h r =>
      cases r
      cases h
      exact ⟨_, rfl, P.ret S (.int _)⟩
  · exact P.elim
theorem ok_int : CallOk K mg E (fun xs H Q => (∃ i, xs = [.int i] ∧ Q (.int i) H) ∨ ∃ k, xs = [.bl k] ∧ Q (.int (if k then 1 else 0)) H) cInt := by
  intro F G m st H ws vs Q S r P
  unfold cInt at P
  split at P
  · cases r with
    | cons h r =>
      cases r
      cases h
      exact .inl ⟨_, rfl, P.ret S (.int _)⟩
  · cases r with
    | cons h r =>
      cases r
      cases h
      exact .inr ⟨_, rfl, P.ret S (.int _)⟩
  · exact P.elim
theorem ok_min2 : CallOk K mg E (fun xs H Q => ∃ i j, xs = [.int i, .int j] ∧ Q (.int (if j < i then j else i)) H) cMin2 := by
  intro F G m st H ws vs Q S r P
  unfold cMin2 at P
  split at P
  · cases r with
    | cons h r =>
      cases r with
      | cons h2 r =>
        cases r
        cases h
        cases h2
        exact ⟨_, _, rfl, P.ret S (.int _)⟩
  · exact P.elim
theorem ok_max2 : CallOk K mg E (fun xs H Q => ∃ i j, xs = [.int i, .int j] ∧ Q (.int (if j > i then j else i)) H) cMax2 := by
  intro F G m st H ws vs Q S r P
  unfold cMax2 at P
  split at P
  · cases r with
    | cons h r =>
      cases r with
      | cons h2 r =>
        cases r
        cases h
        cases h2
        exact ⟨_, _, rfl, P.ret S (.int _)⟩
  · exact P.elim
theorem ok_list : CallOkF K mg E (fun xs H Q => ∃ p ys, xs = [.ref p] ∧ (SqL K H p ys ∨ SqT K H p ys) ∧ ∀ l, H l = none → Q (.ref l) (upd H l (.lst ys))) cList := by
  intro F G m st H ws vs Q S r P
  unfold cList at P
  split at P
  · cases r with
    | cons h r =>
      cases r
      split at P
      · rename_i xs q
        obtain ⟨a, vs, rfl, h1, h2⟩ := sview_at S h q
        exact ⟨a, vs, rfl, h1, fun l hl => P.ret S hl h2⟩
      · exact P.elim
  · exact P.elim
end
theorem je_len (hg : Gl X "len") (hm : X.mg "len" = none) (ha : JA X E (e :: es) ds) (he : starEach (e :: es) X.env = (false, eval e X.env) :: starEach es X.env := by rfl) (hpl : (backTo pos (starEach es X.env)).any (·.1) = false := by rfl) :
    JE X E (.Call (.Name "len" p) (e :: es) [] pos) (dCallB cLen ds) := je_callB (call_len_seq.or call_len_str) ok_len hg hm PySem.boot_len ha (by decide) (by decide) he hpl
theorem je_abs (hg : Gl X "abs") (hm : X.mg "abs" = none) (ha : JA X E (e :: es) ds) (he : starEach (e :: es) X.env = (false, eval e X.env) :: starEach es X.env := by rfl) (hpl : (backTo pos (starEach es X.env)).any (·.1) = false := by rfl) :
    JE X E (.Call (.Name "abs" p) (e :: es) [] pos) (dCallB cAbs ds) := je_callB call_abs ok_abs hg hm (by decide +kernel) ha (by decide) (by decide) he hpl
theorem je_int1 (hg : Gl X "int") (hm : X.mg "int" = none) (ha : JA X E (e :: es) ds) (he : starEach (e :: es) X.env = (false, eval e X.env) :: starEach es X.env := by rfl) (hpl : (backTo pos (starEach es X.env)).any (·.1) = false := by rfl) :
    JE X E (.Call (.Name "int" p) (e :: es) [] pos) (dCallB cInt ds) := je_callT call_int1 ok_int hg hm (by decide +kernel) ha (by decide) (by decide) he hpl
theorem je_min2 (hc : X.calm = true) (hg : Gl X "min") (hm : X.mg "min" = none) (ha : JA X E (e :: es) ds) (he : starEach (e :: es) X.env = (false, eval e X.env) :: starEach es X.env := by rfl) (hpl : (backTo pos (starEach es X.env)).any (·.1) = false := by rfl) :
    JE X E (.Call (.Name "min" p) (e :: es) [] pos) (dCallB cMin2 ds) := je_callB (call_min2 hc) ok_min2 hg hm (by decide +kernel) ha (by decide) (by decide) he hpl
theorem je_max2 (hc : X.calm = true) (hg : Gl X "max") (hm : X.mg "max" = none) (ha : JA X E (e :: es) ds) (he : starEach (e :: es) X.env = (false, eval e X.env) :: starEach es X.env := by rfl) (hpl : (backTo pos (starEach es X.env)).any (·.1) = false := by rfl) :
    JE X E (.Call (.Name "max" p) (e :: es) [] pos) (dCallB cMax2 ds) := je_callB (call_max2 hc) ok_max2 hg hm (by decide +kernel) ha (by decide) (by decide) he hpl
theorem jf_list (hg : Gl X "list") (hm : X.mg "list" = none) (ha : JA X E (e :: es) ds) (he : starEach (e :: es) X.env = (false, eval e X.env) :: starEach es X.env := by rfl) (hpl : (backTo pos (starEach es X.env)).any (·.1) = false := by rfl) :
    JF X E (.Call (.Name "list" p) (e :: es) [] pos) (dCallF cList ds) := jf_callT call_list_of ok_list hg hm (by decide +kernel) ha (by decide) (by decide) he hpl

/-! ### ranges -/
def sm (i : Int) : Prop := -(2 ^ 62) ≤ i ∧ i < 2 ^ 62
instance (i : Int) : Decidable (sm i) := by unfold sm; exact inferInstance
def iR1 (ds : Env → M (List W)) : Env → M It' := fun env st => (ds env st).bind fun ws st => match ws with
  | [.int n] => if sm n then .ok ⟨rngW 0 n.toNat, fun _ => True⟩ st else .stuck
  | _ => .stuck
def iR2 (ds : Env → M (List W)) : Env → M It' := fun env st => (ds env st).bind fun ws st => match ws with
  | [.int a, .int b] => if sm a ∧ sm b then .ok ⟨rngW a (b - a).toNat, fun _ => True⟩ st else .stuck
  | _ => .stuck
theorem ji_range1 {tg : Expr} (hg : Gl X "range") (hm : X.mg "range" = none) (ha : JA X E [a] ds) (hs : starEach [a] X.env = [(false, eval a X.env)] := by rfl) : JI X E tg (.Call (.Name "range" p) [a] [] pos) (iR1 ds) := by
  refine weakI (pi_range1 hg hm ha hs) ?_
  rintro σ H Q ⟨F, G, m, env, st, S, R, P⟩
  refine ⟨F, G, m, env, st, S, R, (P.bind (R := RA)).imp fun vs H1 ⟨G1, m1, ws, st1, e1, S1, r1, P1⟩ => ?_⟩
  split at P1
  · split at P1
    · rename_i hs
      cases r1 with
      | cons r1 r2 =>
        cases r2
        cases r1
        exact ⟨_, rfl, hs.1, hs.2, P1.ret S1 walks_range⟩
    · exact P1.elim
  · exact P1.elim
theorem ji_range2 {tg : Expr} (hg : Gl X "range") (hm : X.mg "range" = none) (ha : JA X E [a, b] ds) (hs : starEach [a, b] X.env = [(false, eval a X.env), (false, eval b X.env)] := by rfl) (hs2 : starEach [b] X.env = [(false, eval b X.env)] := by rfl) :
    JI X E tg (.Call (.Name "range" p) [a, b] [] pos) (iR2 ds) := by
  refine weakI (pi_range2 hg hm ha hs hs2) ?_
  rintro σ H Q ⟨F, G, m, env, st, S, R, P⟩
  refine ⟨F, G, m, env, st, S, R, (P.bind (R := RA)).imp fun vs H1 ⟨G1, m1, ws, st1, e1, S1, r1, P1⟩ => ?_⟩
  split at P1
  · split at P1
    · rename_i hs
      cases r1 with
      | cons r1 r2 =>
        cases r2 with
        | cons r2 r3 =>
          cases r3
          cases r1
          cases r2
          exact ⟨_, _, rfl, ⟨hs.1.1, hs.1.2, hs.2.1, hs.2.2⟩, P1.ret S1 walks_range⟩
    · exact P1.elim
  · exact P1.elim
/-- list(range(n)) -/
def dListR (d : Env → M W) : Env → M (List W) := fun env st => (d env st).bind fun w st => match w with
  | .int n => if sm n ∧ n.toNat ≤ 2 ^ 24 then .ok (rngW 0 n.toNat) st else .stuck
  | _ => .stuck
theorem rngW_at {K : PySem.W.Frag} {G : Hp} {m : List Addr} {lo : Int} {n : Nat} : RWs K G m (rngW lo n) ((List.range n).map fun (i : Nat) => V.int (lo + (i : Int))) := by
  unfold rngW
  generalize List.range n = l
  induction l with
  | nil => exact .nil
  | cons x l ih => exact .cons (.int _) ih
theorem jf_listR (hc : X.calm = true) (hg : Gl X "list") (hm : X.mg "list" = none) (hg2 : Gl X "range") (hm2 : X.mg "range" = none) (ha : JE X E a da) (na : starEach [a] X.env = (false, eval a X.env) :: starEach [] X.env := by rfl)
    (n2 : starEach [.Call (.Name "range" p) [a] [] pos] X.env = (false, eval (.Call (.Name "range" p) [a] [] pos) X.env) :: starEach [] X.env := by rfl) : JF X E (.Call (.Name "list" cpos) [.Call (.Name "range" p) [a] [] pos] [] apos) (dListR da) := by
  refine weakE (pe_listRg hc hg hm (prg_1 hg2 hm2 ha na) n2) ?_
  rintro σ H Q ⟨F, G, m, env, st, S, R, P⟩
  refine ⟨F, G, m, env, st, S, R, (PostF.bind (R := RW) P).imp fun v H1 ⟨G1, m1, w, st1, e1, S1, r1, P1⟩ => ?_⟩
  split at P1
  · split at P1
    · rename_i n hn
      cases r1
      refine ⟨n, rfl, ⟨by omega, by omega, hn.1.1, hn.1.2, ?_⟩, fun q hq => ?_⟩
      · rw [Int.sub_zero]
        exact hn.2
      · unfold rgV
        rw [Int.sub_zero]
        exact P1.ret S1 hq rngW_at
    · exact P1.elim
  · exact P1.elim

/-! ### methods of built-in types -/
def MtOk (K : PySem.W.Frag) (mg : MG) (E : XK) (r : V → List V → Hp → VK → Prop) (f : W → List W → M W) : Prop :=
  ∀ F G m st H x v ws vs Q, Sim K mg F G m st H → RW K G m x v → RWs K G m ws vs → Post RW K mg E F G m (f x ws st) Q → r v vs H Q
/-- the receiver is of that type -/
def TyOk (T : String) (ty : W → Store → Bool) : Prop := ∀ (K : PySem.W.Frag) mg F G m st H x v, Sim K mg F G m st H → RW K G m x v → ty x st = true → tyV K T v H
def dBM (ty : W → Store → Bool) (f : W → List W → M W) (o : Env → M W) (ds : Env → M (List W)) : Env → M W := fun env st => (o env st).bind fun x st => if ty x st = true then (ds env st).bind fun ws st => f x ws st else .stuck
def tyL (x : W) (st : Store) : Bool := (lview x st).isSome
theorem tyL_ok : TyOk "list" tyL := by
  intro K mg F G m st H x v S r h
  unfold tyL at h
  cases q : lview x st with
  | none => rw [q] at h; cases h
  | some xs =>
    obtain ⟨a, vs, rfl, h1, h2⟩ := lview_at S r q
    exact .inl ⟨rfl, _, h1⟩
theorem je_bm {name : Str} {T id : String} {r : V → List V → Hp → VK → Prop} {ty : W → Store → Bool} {g : W → List W → M W} (pa : PlainAttrs T) (slot : Slot T name id) (hty : typeOf (.builtin id) = pure (.type "method_descriptor")) (hm : MtR X id r) (ht : TyOk T ty) (hf : MtOk X.K X.mg E r g)
    (ho : JE X E o dO) (ha : JA X E (e :: es) ds) (hbase : attributeBase o name X.env (eval o X.env) = eval o X.env := by rfl)
    (hfew : ((backTo cpos (starEach (e :: es) X.env)).all (fun x => !x.1) && (backToKw cpos (keywordEach [] X.env)).all (fun x => x.1.isSome)
      && decide ((e :: es).length + ([] : List Keyword).length + (if ([] : List Keyword).isEmpty then 0 else 1) < 30)) = true := by rfl)
    (hline : (apos.endLine == cpos.line) = true := by rfl) (hs : starEach (e :: es) X.env = (false, eval e X.env) :: starEach es X.env := by rfl) (hplain : (backTo cpos (starEach es X.env)).any (·.1) = false := by rfl) :
    JE X E (.Call (.Attribute o name apos) (e :: es) [] cpos) (dBM ty g dO ds) := by
  refine weakE (pe_bm pa slot hty hm ho ha hbase hfew hline hs hplain) ?_
  rintro σ H Q ⟨F, G, m, env, st, S, R, P⟩
  refine ⟨F, G, m, env, st, S, R, (P.bind (R := RW)).imp fun v H1 ⟨G1, m1, w, st1, e1, S1, r1, P1⟩ => ?_⟩
  split at P1
  · rename_i hty
    refine ⟨ht X.K X.mg F G1 m1 st1 H1 w v S1 r1 hty, F, G1, m1, env, st1, S1, R.mono e1, (P1.bind (R := RA)).imp fun vs H2 ⟨G2, m2, ws, st2, e2, S2, r2, P2⟩ => ?_⟩
    exact hf F G2 m2 st2 H2 w v ws vs Q S2 (RW.mono e2 r1) r2 P2
  · exact P1.elim
def dBM0 (ty : W → Store → Bool) (f : W → List W → M W) (o : Env → M W) : Env → M W := fun env st => (o env st).bind fun x st => if ty x st = true then f x [] st else .stuck
theorem je_bm0 {name : Str} {T id : String} {r : V → List V → Hp → VK → Prop} {ty : W → Store → Bool} {g : W → List W → M W} (pa : PlainAttrs T) (slot : Slot T name id) (hty : typeOf (.builtin id) = pure (.type "method_descriptor")) (hm : MtR X id r) (ht : TyOk T ty) (hf : MtOk X.K X.mg E r g)
    (ho : JE X E o dO) (hbase : attributeBase o name X.env (eval o X.env) = eval o X.env := by rfl) (hline : (apos.endLine == cpos.line) = true := by rfl) :
    JE X E (.Call (.Attribute o name apos) [] [] cpos) (dBM0 ty g dO) := by
  refine weakE (pe_bm0 pa slot hty hm ho hbase hline) ?_
  rintro σ H Q ⟨F, G, m, env, st, S, R, P⟩
  refine ⟨F, G, m, env, st, S, R, (P.bind (R := RW)).imp fun v H1 ⟨G1, m1, w, st1, e1, S1, r1, P1⟩ => ?_⟩
  split at P1
  · rename_i hty
    exact ⟨ht X.K X.mg F G1 m1 st1 H1 w v S1 r1 hty, hf F G1 m1 st1 H1 w v [] [] Q S1 r1 .nil P1⟩
  · exact P1.elim
def mAppend : W → List W → M W := fun x ws st => match x, ws with
  | .cell n, [w] => match lcell st n with
    | some xs => if xs.length < sizeLine then .ok .non (st.set n (.lst (xs ++ [w]))) else .stuck
    | none => .stuck
  | _, _ => .stuck
def mPopAt : W → List W → M W := fun x ws st => match x, ws with
  | .cell n, [.int i] => match lcell st n with
    | some xs => if -(2 ^ 63) ≤ i ∧ i < 2 ^ 63 then (match seqIndex? i xs.length with
      | some k => match xs[k]? with
        | some w => .ok w (st.set n (.lst (xs.eraseIdx k)))
        | none => .stuck
      | none => .stuck) else .stuck
    | none => .stuck
  | _, _ => .stuck
def mPop : W → List W → M W := fun x ws st => match x, ws with
  | .cell n, [] => match lcell st n with
    | some xs => match xs[xs.length - 1]? with
      | some w => .ok w (st.set n (.lst xs.dropLast))
      | none => .stuck
    | none => .stuck
  | _, _ => .stuck
section
variable {K : PySem.W.Frag} {mg : MG}
theorem cell_at {F G : Hp} {m : List Addr} {st : Store} {H : Hp} {n : Nat} {v : V} {xs : List W} (S : Sim K mg F G m st H) (r : RW K G m (.cell n) v) (q : lcell st n = some xs) : ∃ a vs, v = .ref a ∧ m[n]? = some a ∧ H a = some (.lst vs) ∧ RWs K G m xs vs ∧
    ∀ ys us G' m', Ext G m G' m' → RWs K G m ys us → Sim K mg F G m (st.set n (.lst ys)) (upd H a (.lst us)) := by
  cases r with
  | @cell _ a hm =>
    have q' := lcell_some q
    obtain ⟨g0, vs, h2, h3⟩ := S.ok n _ a q' hm
    exact ⟨a, vs, rfl, hm, h2, h3, fun ys us G' m' _ r => S.set q' True.intro hm ⟨g0, us, upd_same, r⟩⟩
theorem ok_append : MtOk K mg E rAppend mAppend := by
  intro F G m st H x v ws vs Q S r rs P
  unfold mAppend at P
  split at P
  · rename_i n w
    split at P
    · rename_i xs q
      split at P
      · rename_i z
        obtain ⟨a, us, rfl, hm, h1, h2, h3⟩ := cell_at S r q
        cases rs with
        | cons r1 rs =>
          cases rs
          refine ⟨a, us, _, rfl, rfl, h1, by rw [← h2.length]; exact z, ?_⟩
          exact P.ret (h3 _ _ G m (Ext.refl G m) (h2.append (.cons r1 .nil))) .non
      · exact P.elim
    · exact P.elim
  · exact P.elim
theorem ok_popAt : MtOk K mg E rPopAt mPopAt := by
  intro F G m st H x v ws vs Q S r rs P
  unfold mPopAt at P
  split at P
  · rename_i n i
    split at P
    · rename_i xs q
      split at P
      · rename_i z
        split at P
        · rename_i k hk
          split at P
          · rename_i w hw
            obtain ⟨a, us, rfl, hm, h1, h2, h3⟩ := cell_at S r q
            cases rs with
            | cons r1 rs =>
              cases rs
              cases r1
              obtain ⟨y, hy, ry⟩ := h2.get hw
              refine ⟨a, us, i, k, y, rfl, rfl, h1, z.1, z.2, by rw [← h2.length]; exact hk, hy, ?_⟩
              exact P.ret (h3 _ _ G m (Ext.refl G m) (h2.eraseIdx k)) ry
          · exact P.elim
        · exact P.elim
      · exact P.elim
    · exact P.elim
  · exact P.elim
theorem ok_pop : MtOk K mg E rPop mPop := by
  intro F G m st H x v ws vs Q S r rs P
  unfold mPop at P
  split at P
  · rename_i n
    split at P
    · rename_i xs q
      split at P
      · rename_i w hw
        obtain ⟨a, us, rfl, hm, h1, h2, h3⟩ := cell_at S r q
        cases rs
        obtain ⟨y, hy, ry⟩ := h2.get hw
        refine ⟨a, us, y, rfl, rfl, h1, by rw [← h2.length]; exact hy, ?_⟩
        exact P.ret (h3 _ _ G m (Ext.refl G m) h2.dropLast) ry
      · exact P.elim
    · exact P.elim
  · exact P.elim
end

/-! ### slices -/
def RO : Rel (Option Int) (Option Int) := fun _ _ _ a b => b = a
def tO (K : PySem.W.Frag) (mg : MG) (E : XK) (d : Env → M (Option Int)) : TO := fun σ H Q => ∃ F G m env st, Sim K mg F G m st H ∧ REnv K G m env σ ∧ Post RO K mg E F G m (d env st) Q
abbrev JO (X : Cx) (E : XK) (e : Option Expr) (d : Env → M (Option Int)) : Prop := PO X e (tO X.K X.mg E d)
theorem weakO {e : Option Expr} {t t' : TO} (h : PO X e t) (w : ∀ σ H Q, t' σ H Q → t σ H Q) : PO X e t' := ⟨fun pins s σ H Q I q => h.run pins s σ H Q I (w σ H Q q)⟩
def oNone : Env → M (Option Int) := fun _ st => .ok none st
def oSome (d : Env → M W) : Env → M (Option Int) := fun env st => (d env st).bind fun w st => match w with
  | .int i => .ok (some i) st
  | _ => .stuck
theorem jo_none : JO X E none oNone := by
  refine weakO po_none ?_
  rintro σ H Q ⟨F, G, m, env, st, S, R, P⟩
  exact P.ret S rfl
theorem jo_some (h : JE X E e d) : JO X E (some e) (oSome d) := by
  refine weakO (po_some h) ?_
  rintro σ H Q ⟨F, G, m, env, st, S, R, P⟩
  refine ⟨F, G, m, env, st, S, R, (P.bind (R := RW)).imp fun v H1 ⟨G1, m1, w, st1, e1, S1, r1, P1⟩ => ?_⟩
  split at P1
  · cases r1
    exact ⟨_, rfl, P1.ret S1 rfl⟩
  · exact P1.elim
def cutW (xs : List W) (lo hi : Option Int) : List W := (xs.drop (HT.sIx xs.length 0 lo)).take (HT.sIx xs.length xs.length hi - HT.sIx xs.length 0 lo)
def dSl (d : Env → M W) (dl dh : Env → M (Option Int)) : Env → M (List W) := fun env st => (d env st).bind fun w st => (dl env st).bind fun lo st => (dh env st).bind fun hi st => match lview w st with
  | some xs => .ok (cutW xs lo hi) st
  | none => .stuck
theorem jf_slice {lo hi : Option Expr} {dl dh : Env → M (Option Int)} {p2 : Pos} (he : JE X E e d) (hl : JO X E lo dl) (hu : JO X E hi dh) : JF X E (.Subscript e (.Slice lo hi none p2) pos) (dSl d dl dh) := by
  refine weakE (pe_slice sl_list he hl hu) ?_
  rintro σ H Q ⟨F, G, m, env, st, S, R, P⟩
  refine ⟨F, G, m, env, st, S, R, (PostF.bind (R := RW) P).imp fun v H1 ⟨G1, m1, w, st1, e1, S1, r1, P1⟩ => ?_⟩
  refine ⟨F, G1, m1, env, st1, S1, R.mono e1, (PostF.bind (R := RO) P1).imp fun lo' H2 ⟨G2, m2, lo, st2, e2, S2, r2, P2⟩ => ?_⟩
  refine ⟨F, G2, m2, env, st2, S2, (R.mono e1).mono e2, (PostF.bind (R := RO) P2).imp fun hi' H3 ⟨G3, m3, hi, st3, e3, S3, r3, P3⟩ => ?_⟩
  cases r2
  cases r3
  split at P3
  · rename_i xs q
    obtain ⟨a, vs, rfl, h1, h2⟩ := lview_at S3 (RW.mono e3 (RW.mono e2 r1)) q
    refine ⟨a, vs, rfl, h1, fun p hp => P3.ret S3 hp ?_⟩
    unfold cutV cutW
    rw [h2.length]
    exact (h2.drop _).take _
  · exact P3.elim
def dRev (d : Env → M W) : Env → M (List W) := fun env st => (d env st).bind fun w st => match lview w st with
  | some xs => .ok xs.reverse st
  | none => .stuck
theorem jf_rev {k : Nat} {p1 p2 p3 : Pos} (he : JE X E e d) : JF X E (.Subscript e (.Slice none none (some (.UnaryOp .USub (.Constant (.int 1) k p1) p2)) p3) pos) (dRev d) := by
  refine weakE (pe_revL he) ?_
  rintro σ H Q ⟨F, G, m, env, st, S, R, P⟩
  refine ⟨F, G, m, env, st, S, R, (PostF.bind (R := RW) P).imp fun v H1 ⟨G1, m1, w, st1, e1, S1, r1, P1⟩ => ?_⟩
  split at P1
  · rename_i xs q
    obtain ⟨a, vs, rfl, h1, h2⟩ := lview_at S1 r1 q
    exact ⟨a, vs, rfl, h1, fun p hp => P1.ret S1 hp h2.reverse⟩
  · exact P1.elim

/-! ### in -/
def flatW : W → Bool
  | .non => true
  | .bl _ => true
  | .int _ => true
  | .str _ => true
  | _ => false
def eqW : W → W → Bool
  | .non, .non => true
  | .bl a, .bl b => a == b
  | .bl a, .int b => (if a then 1 else 0) == b
  | .int a, .bl b => a == (if b then 1 else 0)
  | .int a, .int b => a == b
  | .str a, .str b => a == b
  | _, _ => false
def inW (x : W) (xs : List W) : Bool := xs.any fun y => eqW y x
section
variable {K : PySem.W.Frag} {mg : MG} {G : Hp} {m : List Addr}
theorem flat_of {x : W} {v : V} (r : RW K G m x v) (h : flatW x = true) : flatV v = true := by
  cases r <;> first | rfl | cases h
theorem eq_of {x y : W} {v u : V} (r : RW K G m x v) (q : RW K G m y u) (h : flatW x = true) (h2 : flatW y = true) : eqV v u = eqW x y := by
  cases r <;> first | (exact absurd h Bool.false_ne_true) | skip
  all_goals (cases q <;> first | rfl | (exact absurd h2 Bool.false_ne_true))
theorem flats_of : ∀ {xs : List W} {vs : List V}, RWs K G m xs vs → xs.all flatW = true → vs.all flatV = true
  | _, _, .nil, _ => rfl
  | _, _, .cons r rs, h => by
    rw [List.all_cons, Bool.and_eq_true] at h ⊢
    exact ⟨flat_of r h.1, flats_of rs h.2⟩
theorem in_of {x : W} {v : V} (r : RW K G m x v) (h : flatW x = true) : ∀ {xs : List W} {vs : List V}, RWs K G m xs vs → xs.all flatW = true → inV v vs = inW x xs
  | _, _, .nil, _ => rfl
  | _, _, .cons q qs, h2 => by
    rw [List.all_cons, Bool.and_eq_true] at h2
    have ih := in_of r h qs h2.2
    unfold inV at ih ⊢
    unfold inW at ih ⊢
    rw [List.any_cons, List.any_cons, ih, eq_of q r h2.1 h]
def oIn (neg : Bool) : W → W → M W := fun x y st => match sview y st with
  | some xs => if flatW x = true ∧ xs.all flatW = true then .ok (.bl (if neg then !inW x xs else inW x xs)) st else .stuck
  | none => .stuck
theorem ok_in {neg : Bool} : OpOk K mg E (rIn K neg) (oIn neg) := by
  intro F G m st H x y v u Q S r1 r2 P
  unfold oIn at P
  split at P
  · rename_i xs q
    split at P
    · rename_i z
      obtain ⟨a, vs, rfl, h1, h2⟩ := sview_at S r2 q
      refine ⟨a, vs, rfl, h1, flat_of r1 z.1, flats_of h2 z.2, ?_⟩
      rw [in_of r1 z.1 h2 z.2]
      exact P.ret S (.bl _)
    · exact P.elim
  · exact P.elim
/-- the first place -/
def findW (x : W) : List W → Option Nat
  | [] => none
  | y :: ys => if eqW y x = true then some 0 else (findW x ys).map (· + 1)
def mIndex : W → List W → M W := fun x ws st => match ws with
  | [w] => match lview x st with
    | some xs => if flatW w = true ∧ xs.all flatW = true then (match findW w xs with
      | some j => .ok (.int j) st
      | none => .stuck) else .stuck
    | none => .stuck
  | _ => .stuck
theorem findW_at {x : W} : ∀ {xs : List W} {j : Nat}, findW x xs = some j → ∃ z, xs[j]? = some z ∧ eqW z x = true ∧ ∀ (k : Nat) (z' : W), k < j → xs[k]? = some z' → eqW z' x = false
  | [], j, h => by cases h
  | y :: ys, j, h => by
    unfold findW at h
    split at h
    · rename_i e
      cases h
      exact ⟨y, rfl, e, fun k z' hk => absurd hk (Nat.not_lt_zero k)⟩
    · rename_i e
      cases q : findW x ys with
      | none => rw [q] at h; cases h
      | some i =>
        rw [q] at h
        cases h
        obtain ⟨z, h1, h2, h3⟩ := findW_at q
        refine ⟨z, by simpa using h1, h2, fun k z' hk hz => ?_⟩
        cases k with
        | zero =>
          cases hz
          exact Bool.eq_false_iff.mpr e
        | succ k => exact h3 k z' (Nat.lt_of_succ_lt_succ hk) (by simpa using hz)
theorem ok_index : MtOk K mg E (rIndex K) mIndex := by
  intro F G m st H x v ws vs Q S r rs P
  unfold mIndex at P
  split at P
  · rename_i w
    split at P
    · rename_i xs q
      split at P
      · rename_i z
        split at P
        · rename_i j hj
          obtain ⟨a, us, rfl, h1, h2⟩ := lview_at S r q
          cases rs with
          | cons r1 rs =>
            cases rs
            obtain ⟨y, hy, e1, e2⟩ := findW_at hj
            obtain ⟨yv, hyv, ry⟩ := h2.get hy
            have hm := List.all_eq_true.mp z.2
            refine ⟨a, us, _, j, yv, rfl, rfl, h1, flat_of r1 z.1, flats_of h2 z.2, hyv, ?_, fun k zv hk hz => ?_, P.ret S (.int _)⟩
            · rw [eq_of ry r1 (hm y (List.mem_of_getElem? hy)) z.1]
              exact e1
            · obtain ⟨zw, hzw, rz⟩ := h2.get' hz
              rw [eq_of rz r1 (hm zw (List.mem_of_getElem? hzw)) z.1]
              exact e2 k zw hk hzw
        · exact P.elim
      · exact P.elim
    · exact P.elim
  · exact P.elim
end
theorem je_in (ha : JE X E a da) (hb : JE X E b db) (hm : behindInMarks .In b = false := by rfl) : JE X E (.Compare a [.In] [b] pos) (dOp (oIn false) da db) := je_cmp op_in_seq ok_in ha hb hm
theorem je_notIn (ha : JE X E a da) (hb : JE X E b db) (hm : behindInMarks .NotIn b = false := by rfl) : JE X E (.Compare a [.NotIn] [b] pos) (dOp (oIn true) da db) := je_cmp op_notIn_seq ok_in ha hb hm
theorem jt_in (ha : JE X E a da) (hb : JE X E b db) (hm : behindInMarks .In b = false := by rfl) : JT X E (.Compare a [.In] [b] pos) (dB (dOp (oIn false) da db)) := jt_cmp op_in_seq ok_in ha hb hm
theorem jt_notIn (ha : JE X E a da) (hb : JE X E b db) (hm : behindInMarks .NotIn b = false := by rfl) : JT X E (.Compare a [.NotIn] [b] pos) (dB (dOp (oIn true) da db)) := jt_cmp op_notIn_seq ok_in ha hb hm
/-! ### isinstance, one built-in class -/
def isW (T : String) (w : W) (st : Store) : Option Bool := match w with
  | .lst _ => some (T == "list")
  | .tup _ => some (T == "tuple")
  | .cell n => match lcell st n with
    | some _ => some (T == "list")
    | none => none
  | _ => none
def cIs (T : String) : W → M W := fun w st => match isW T w st with
  | some b => .ok (.bl b) st
  | none => .stuck
def dIs (T : String) (d : Env → M W) : Env → M W := fun env st => (d env st).bind (cIs T)
theorem je_is {T : String} {x : Str} {p2 : Pos} (hg : Gl X "isinstance") (hm : X.mg "isinstance" = none) (hg2 : Gl X x) (hm2 : X.mg x = none) (hv : bootBuiltins x = some (.type T)) (ha : JE X E a da)
    (kl : PySem.W.kitOne X.K (.type "list") (.type T) = some (T == "list")) (kt : PySem.W.kitOne X.K (.type "tuple") (.type T) = some (T == "tuple"))
    (he : starEach [a, .Name x p2] X.env = (false, eval a X.env) :: starEach [.Name x p2] X.env := by rfl) (he2 : starEach [.Name x p2] X.env = (false, eval (.Name x p2) X.env) :: starEach [] X.env := by rfl)
    (hpl : (backTo pos (starEach [.Name x p2] X.env)).any (·.1) = false := by rfl) (hn : x ≠ "__name__" := by decide) (hdb : (x == ("__debug__" : Str)) = false := by decide) :
    JE X E (.Call (.Name "isinstance" p) [a, .Name x p2] [] pos) (dIs T da) := by
  refine weakE (pe_callB call_isi hg hm (by decide +kernel) (pa_cons ha (pa_cons (pe_bltn (v := .ty T) hg2 hm2 hv rfl hn hdb) pa_nil he2) he) (by decide) (by decide) he hpl) ?_
  rintro σ H Q ⟨F, G, m, env, st, S, R, P⟩
  refine ⟨F, G, m, env, st, S, R, (P.bind (R := RW)).imp fun v H1 ⟨G1, m1, w, st1, e1, S1, r1, P1⟩ => ?_⟩
  unfold cIs at P1
  split at P1
  · rename_i b q
    refine ⟨v, .ty T, ?_⟩
    unfold isW at q
    split at q
    · cases r1 with
      | lst h1 h2 =>
        cases q
        exact ⟨_, _, _, rfl, .ty T, .base (.lst (S1.ex _ _ h1)), kl, P1.ret S1 (.bl _)⟩
    · cases r1 with
      | tup h1 h2 =>
        cases q
        exact ⟨_, _, _, rfl, .ty T, .base (.tup (S1.ex _ _ h1)), kt, P1.ret S1 (.bl _)⟩
    · split at q
      · rename_i xs q2
        cases q
        obtain ⟨adr, vs, rfl, hm, h1, h2, h3⟩ := cell_at S1 r1 q2
        exact ⟨_, _, _, rfl, .ty T, .base (.lst h1), kl, P1.ret S1 (.bl _)⟩
      · cases q
    · cases q
  · exact P1.elim
end
end Sh


set_option maxRecDepth 100000
set_option maxHeartbeats 2000000
namespace Sh
open PySem L2 Evl

/-! ### a cell's list is let go as plain data -/
def fz : W → M W := fun w st => match w with
  | .cell n => match lcell st n with
    | some xs => .ok (.lst xs) (st.set n .dead)
    | none => .stuck
  | w => .ok w st
def dFz (d : Env → M W) : Env → M W := fun env st => (d env st).bind fz
section
variable {X : Cx} {E : XK} {a b e c o : Expr} {es : List Expr} {da db d dO : Env → M W} {ds : Env → M (List W)} {p pos apos cpos : Pos} {x : Str}
theorem fz_read {K : PySem.W.Frag} {mg : MG} {σ : L2.St} {H : Hp} {Q : VK} (h : tE K mg E (dFz d) σ H Q) : tE K mg E d σ H Q := by
  obtain ⟨F, G, m, env, st, S, R, P⟩ := h
  refine ⟨F, G, m, env, st, S, R, (P.bind (R := RW)).imp fun v H1 ⟨G1, m1, w, st1, e1, S1, r1, P1⟩ => ?_⟩
  unfold fz at P1
  split at P1
  · rename_i n
    split at P1
    · rename_i xs q
      obtain ⟨adr, vs, rfl, hm, h1, h2, h3⟩ := cell_at S1 r1 q
      obtain ⟨S2, e2, r2⟩ := S1.freeze (lcell_some q) hm h1 h2
      exact (P1.mono e2).ret S2 r2
    · exact P1.elim
  · exact P1.ret S1 r1
theorem je_fz (h : JE X E e d) : JE X E e (dFz d) := weakE h fun σ H Q => fz_read
theorem pure_read {K : PySem.W.Frag} {mg : MG} {d : Env → M (List W)} {σ : L2.St} {H : Hp} {Q : VK} (h : tE K mg E (dPure d) σ H Q) : tF K mg E d σ H Q := by
  obtain ⟨F, G, m, env, st, S, R, P⟩ := h
  refine ⟨F, G, m, env, st, S, R, ?_⟩
  unfold dPure at P
  cases q : d env st with
  | stuck => rw [q] at P; exact P.elim
  | exc x st1 => rw [q] at P; exact P
  | ok xs st1 =>
    rw [q] at P
    intro G1 m1 p vs H1 e1 S1 hp r1
    have P : Post RW K mg E F G m (.ok (.lst xs) st1) Q := P
    have hg := fresh_back S1.ex hp
    exact (P.mono e1).mono (Ext.new hg) |>.ret (S1.newG hp) (.lst upd_same (r1.mono (Ext.new hg)))
theorem cell_read {K : PySem.W.Frag} {mg : MG} {d : Env → M (List W)} {σ : L2.St} {H : Hp} {Q : VK} (h : tE K mg E (dCell d) σ H Q) : tF K mg E d σ H Q := by
  obtain ⟨F, G, m, env, st, S, R, P⟩ := h
  refine ⟨F, G, m, env, st, S, R, ?_⟩
  unfold dCell at P
  cases q : d env st with
  | stuck => rw [q] at P; exact P.elim
  | exc x st1 => rw [q] at P; exact P
  | ok xs st1 =>
    rw [q] at P
    intro G1 m1 p vs H1 e1 S1 hp r1
    have P : Post RW K mg E F G m (.ok (.cell st1.length) (st1 ++ [.lst xs])) Q := P
    have hg := fresh_back S1.ex hp
    refine (P.mono e1).mono (Ext.cell (p := p)) |>.ret (S1.newC hp ⟨hg, vs, upd_same, r1.mono Ext.cell⟩) (.cell ?_)
    rw [← S1.len]
    simp

/-! ### comprehensions -/
def hid (p : Addr) (H : Hp) : Hp := fun b => if b = p then none else H b
theorem upd_hid {p : Addr} {H : Hp} {o : HO} (h : H p = some o) : upd (hid p H) p o = H := by
  funext b
  unfold upd hid
  by_cases q : b = p
  · rw [if_pos q, q, h]
  · rw [if_neg q, if_neg q]
theorem sim_hid {K : PySem.W.Frag} {mg : MG} {F G : Hp} {m : List Addr} {st : Store} {H : Hp} {p : Addr} {o : HO} (S : Sim K mg (upd F p o) G m st H) (fp : F p = none) : Sim K mg F G m st (hid p H) := by
  have S' := S.less (F := F) fun b u e => by
    rw [upd_ne (ne_of_none e fp)]
    exact e
  have gp : G p = none := S.dj p o upd_same
  have ne : ∀ {b : Addr} {H : Hp}, b ≠ p → hid p H b = H b := fun {b H} q => if_neg q
  refine ⟨fun b u e => ?_, fun b u e => ?_, S'.dj, S'.fr, S.len, fun n c a h1 h2 => ?_, S.inj⟩
  · rw [ne (ne_of_none e gp)]
    exact S.ex b u e
  · rw [ne (ne_of_none e fp)]
    exact S'.exF b u e
  · have q := S.ok n c a h1 h2
    refine q.mono (Ext.refl G m) (fun l => (q.some l).1) (fun l => ne ?_)
    intro z
    subst z
    have h := S.fr n c a h1 l h2
    rw [upd_same] at h
    cases h
theorem wipe_none {σ : L2.St} : ∀ {vs : List Nat} {i : Nat} {v : Option V}, i ∈ vs → (wipe σ vs)[i]? = some v → v = none
  | v :: vs, i, w, h, e => by
    unfold wipe at e
    by_cases q : v = i
    · subst q
      by_cases l : v < (wipe σ vs).length
      · rw [List.getElem?_set_self l] at e
        cases e
        rfl
      · rw [List.getElem?_eq_none (by rw [List.length_set]; omega)] at e
        cases e
    · rw [List.getElem?_set_ne q] at e
      rcases List.mem_cons.mp h with h | h
      · exact absurd h.symm q
      · exact wipe_none h e
theorem wipe_id {σ : L2.St} : ∀ {us : List Nat}, (∀ i ∈ us, ∀ v, σ[i]? = some v → v = none) → wipe σ us = σ
  | [], _ => rfl
  | u :: us, h => by
    unfold wipe
    rw [wipe_id fun i hi => h i (List.mem_cons_of_mem _ hi)]
    apply List.ext_getElem?
    intro j
    by_cases q : u = j
    · subst q
      by_cases l : u < σ.length
      · rw [List.getElem?_set_self l, List.getElem?_eq_getElem l]
        rw [h u List.mem_cons_self _ (List.getElem?_eq_getElem l)]
      · rw [List.getElem?_eq_none (by rw [List.length_set]; omega), List.getElem?_eq_none (by omega)]
    · rw [List.getElem?_set_ne q]
theorem wipe_wipe (σ : L2.St) (vs : List Nat) : wipe (wipe σ vs) vs = wipe σ vs := wipe_id fun i hi v e => wipe_none hi e

open Classical in
noncomputable def lcGo (ok : Store → Prop) (g : T) (tt : Env → M Bool) (te : Env → M W) (env : Env) : List W → List W → Store → Out (List W)
  | [], acc, st => if ok st then .ok acc st else .stuck
  | w :: ws, acc, st => if ok st then (match g w env st with
    | .stuck => .stuck
    | .exc _ _ => .stuck
    | .ok env2 st => (tt env2 st).nox.bind fun b st => if b = true then ((te env2 st).nox.bind fun y st => if acc.length < sizeLine then lcGo ok g tt te env ws (acc ++ [y]) st else .stuck) else lcGo ok g tt te env ws acc st) else .stuck
noncomputable def dLc (it : Env → M It') (g : T) (tt : Env → M Bool) (te : Env → M W) (vs : List Nat) : Env → M (List W) := fun env st => (it env st).bind fun i st => lcGo i.ok g tt te (wipeW env vs) i.xs [] st
theorem lc_read {K : PySem.W.Frag} {mg : MG} {di : Env → M It'} {g : T} {tt : Env → M Bool} {te : Env → M W} {vs sl : List Nat} (hsl : ∀ i ∈ sl, i ∈ vs) {σ : L2.St} {H : Hp} {Q : VK} (h : tF K mg E (dLc di g tt te vs) σ H Q) :
    tLc (tIt K mg E di) (tG K mg sl g) (tT K mg E0 tt) (tE K mg E0 te) vs σ H Q := by
  obtain ⟨F, G, m, env, st, S, R, P⟩ := h
  refine ⟨F, G, m, env, st, S, R, (PostF.bind (R := RI mg) P).imp fun J H1 ⟨G1, m1, i1, st1, e1, S1, w1, P1⟩ => ?_⟩
  intro D hD
  have fD : F D = none := fresh_back S1.exF hD
  refine ⟨fun i k H' => k = i1.xs.length - i ∧ i ≤ i1.xs.length ∧ ∃ G' m' st' acc us, Ext G1 m1 G' m' ∧ Sim K mg (upd F D (.lst us)) G' m' st' H' ∧ RWs K G' m' acc us ∧ PostF K mg E F G' m' (lcGo i1.ok g tt te (wipeW env vs) (i1.xs.drop i) acc st') Q,
    ⟨_, rfl, Nat.zero_le _, G1, m1, st1, [], [], Ext.refl G1 m1, S1.more hD, .nil, P1⟩, ?_⟩
  rintro i k H' ⟨rfl, hi, G', m', st', acc, us, e', S', r', P'⟩
  by_cases hlt : i < i1.xs.length
  · rw [List.drop_eq_getElem_cons hlt, lcGo] at P'
    split at P'
    · rename_i hok
      refine .inr ⟨w1.go i H' _ G' m' st' e' S' hok hlt, fun H2 => ∃ G2 m2 st2 acc us, Ext G1 m1 G2 m2 ∧ Sim K mg (upd F D (.lst us)) G2 m2 st2 H2 ∧ RWs K G2 m2 acc us ∧ PostF K mg E F G2 m2 (lcGo i1.ok g tt te (wipeW env vs) (i1.xs.drop (i + 1)) acc st2) Q,
        fun H2 h2 => ⟨_, Nat.sub_lt_sub_left hlt (Nat.lt_succ_self i), rfl, hlt, h2⟩, fun x H2 hy => ?_⟩
      obtain ⟨w, G2, hw, eG, S2, r2⟩ := w1.yld i H' x H2 _ G' m' st' e' S' hok hlt hy
      rw [List.getElem?_eq_getElem hlt] at hw
      cases hw
      have x2 : Ext G' m' G2 m' := ⟨eG, fun _ _ h => h⟩
      refine ⟨_, G2, m', wipeW env vs, st', _, S2, ((R.mono (e1.trans (e'.trans x2))).wipe vs), r2, ?_⟩
      cases hg2 : g i1.xs[i] (wipeW env vs) st' with
      | stuck => simp only [hg2] at P'; exact P'.elim
      | exc x st => simp only [hg2] at P'; exact P'.elim
      | ok env2 st2 =>
        simp only [hg2] at P'
        intro G3 m3 σ3 H3 e3 S3 R3 o3
        refine ⟨(o3 vs hsl).trans (wipe_wipe σ vs), _, G3, m3, env2, st2, S3, R3, ?_⟩
        have P2 := PostF.mono e3 (PostF.mono x2 P')
        have r' := (r'.mono x2).mono e3
        have ee := (e'.trans x2).trans e3
        cases q : tt env2 st2 with
        | stuck => rw [q] at P2; exact P2.elim
        | exc x st4 => rw [q] at P2; exact P2.elim
        | ok b st4 =>
          rw [q] at P2
          intro G4 m4 b' H4 e4 S4 hb
          cases hb
          have P3 : PostF K mg E F G4 m4 (if b = true then ((te env2 st4).nox.bind fun y st => if acc.length < sizeLine then lcGo i1.ok g tt te (wipeW env vs) (i1.xs.drop (i + 1)) (acc ++ [y]) st else .stuck) else lcGo i1.ok g tt te (wipeW env vs) (i1.xs.drop (i + 1)) acc st4) Q := PostF.mono e4 P2
          have r4 := r'.mono e4
          cases b with
          | false => exact ⟨G4, m4, st4, acc, us, ee.trans e4, S4, r4, P3⟩
          | true =>
            refine ⟨_, G4, m4, env2, st4, S4, R3.mono e4, ?_⟩
            rw [if_pos rfl] at P3
            cases q2 : te env2 st4 with
            | stuck => rw [q2] at P3; exact P3.elim
            | exc x st5 => rw [q2] at P3; exact P3.elim
            | ok y st5 =>
              rw [q2] at P3
              intro G5 m5 v H5 e5 S5 r5
              have P5 : PostF K mg E F G5 m5 (if acc.length < sizeLine then lcGo i1.ok g tt te (wipeW env vs) (i1.xs.drop (i + 1)) (acc ++ [y]) st5 else .stuck) Q := PostF.mono e5 P3
              split at P5
              · rename_i z
                refine ⟨us, S5.exF D _ upd_same, by rw [← r'.length]; exact z, G5, m5, st5, acc ++ [y], us ++ [v], (ee.trans e4).trans e5, S5.turn, (r4.mono e5).append (.cons r5 .nil), P5⟩
              · exact P5.elim
    · exact P'.elim
  · have hd : i1.xs.drop i = [] := List.drop_eq_nil_of_le (by omega)
    rw [hd, lcGo] at P'
    split at P'
    · rename_i hok
      refine .inl ⟨w1.stop i H' _ G' m' st' e' S' hok (by omega), ?_⟩
      have q := P' G' m' D us (hid D H') (Ext.refl G' m') (sim_hid S' fD) (if_pos rfl) r'
      rw [upd_hid (S'.exF D _ upd_same)] at q
      exact q
    · exact P'.elim
abbrev JTs (X : Cx) (E : XK) (e : List Expr) (d : Env → M Bool) : Prop := PTs X e (tT X.K X.mg E d)
def tYesW : Env → M Bool := fun _ st => .ok true st
theorem jts_nil : JTs X E [] tYesW := ⟨fun pins s σ H Q I ⟨F, G, m, env, st, S, R, P⟩ => pts_nil.run pins s σ H Q I (show tYes σ H Q from P.ret S rfl)⟩
theorem jts_one {dt : Env → M Bool} (h : JT X E c dt) : JTs X E [c] dt := pts_one h
theorem jf_lc {elt tg iter : Expr} {ifs : List Expr} {scope : Scope} {own : List (Str × Nat)} {di : Env → M It'} {g : T} {sl : List Nat} {tt : Env → M Bool} {te : Env → M W} (hc : X.calm = true) (hN : X.N.Nodup) (hi : JI X E tg iter di) (ok : BlkOk X.N X.env.scope scope own)
    (hg : ∀ (s : Shared) (H : Hp) (C : Addr) (cl : List (Str × Addr)) (fp : List Addr), JG (X.blk s H scope (compEnvC scope cl C X.env) fp) tg sl g) (ht : ∀ (s : Shared) (H : Hp) (C : Addr) (cl : List (Str × Addr)) (fp : List Addr), JTs (X.blk s H scope (compEnvC scope cl C X.env) fp) E0 ifs tt)
    (he : ∀ (s : Shared) (H : Hp) (C : Addr) (cl : List (Str × Addr)) (fp : List Addr), JE (X.blk s H scope (compEnvC scope cl C X.env) fp) E0 elt te) (hsl : ∀ i ∈ sl, i ∈ own.map (·.2) := by decide) (hs : ∀ x, foldedSetIterable iter X.env x = pure x := by intro _; rfl) :
    JF X E (.ListComp elt [⟨tg, iter, ifs, 0⟩] scope pos) (dLc di g tt te (own.map (·.2))) :=
  weakE (pe_lc hc hN hi ok hg ht he hs) fun σ H Q h => lc_read hsl h
/-- y = [.. for ..] -/
theorem js_setLc {i : Nat} {y : Str} {py : Pos} {elt tg iter : Expr} {ifs : List Expr} {scope : Scope} {own : List (Str × Nat)} {spos : Pos} {di : Env → M It'} {g : T} {sl : List Nat} {tt : Env → M Bool} {te : Env → M W} {f : (Env → M (List W)) → Env → M W}
    (hf : ∀ (d : Env → M (List W)) σ H Q, tE X.K X.mg E (f d) σ H Q → tF X.K X.mg E d σ H Q)
    (hc : X.calm = true) (hN : X.N.Nodup) (hy : X.N[i]? = some y) (hyl : X.env.scope.names.lookup y = some .local)
    (hsw : swapsWith (.ListComp elt [⟨tg, iter, ifs, 0⟩] scope pos) (some (.Name y py)) spos.line X.env = pure true) (hi : JI X E tg iter di) (ok : BlkOk X.N X.env.scope scope own)
    (hg : ∀ (s : Shared) (H : Hp) (C : Addr) (cl : List (Str × Addr)) (fp : List Addr), JG (X.blk s H scope (compEnvC scope cl C X.env) fp) tg sl g) (ht : ∀ (s : Shared) (H : Hp) (C : Addr) (cl : List (Str × Addr)) (fp : List Addr), JTs (X.blk s H scope (compEnvC scope cl C X.env) fp) E0 ifs tt)
    (he : ∀ (s : Shared) (H : Hp) (C : Addr) (cl : List (Str × Addr)) (fp : List Addr), JE (X.blk s H scope (compEnvC scope cl C X.env) fp) E0 elt te) (hsl : ∀ i ∈ sl, i ∈ own.map (·.2) := by decide) (hs : ∀ x, foldedSetIterable iter X.env x = pure x := by intro _; rfl) :
    JS X E (.Assign [.Name y py] (.ListComp elt [⟨tg, iter, ifs, 0⟩] scope pos) spos) (sSet i (f (dLc di g tt te (own.map (·.2))))) := by
  refine weakS (ps_setLc (g := tG X.K X.mg sl g) (tt := tT X.K X.mg E0 tt) (te := tE X.K X.mg E0 te) hc hN hy hyl hsw hi ok hg ht he hs) ?_
  rintro D σ H ⟨F, G, m, env, st, S, R, P⟩
  have q : tE X.K X.mg E (f (dLc di g tt te (own.map (·.2)))) σ H (fun v H1 => D.nx (σ.set i (some v)) H1) :=
    ⟨F, G, m, env, st, S, R, (PostS.bindS (R := RW) P).imp fun v H1 ⟨G1, m1, w, st1, e1, S1, r1, P1⟩ => P1 G1 m1 _ H1 (Ext.refl G1 m1) S1 ((R.mono e1).set r1 i)⟩
  exact lc_read hsl (hf _ σ H _ q)

/-! ### repr of data, where no repr is under way -/
def cRepr : List W → M W := fun ws st => match ws with
  | [.non] => .ok (.str "None") st
  | [w] => match datC w st with
    | some d => if PyProof.Rows.isDisplay d = true ∧ d.showable = true ∧ d.depth ≤ 60 ∧ d.shown.length ≤ sizeLine then .ok (.str d.shown) st else .stuck
    | none => .stuck
  | _ => .stuck
mutual
theorem dat_noDict : ∀ {w : W} {d : PyData}, dat w = some d → d.hasDict = false
  | .non, d, h => by cases h; rfl
  | .bl b, d, h => by cases h; rfl
  | .int i, d, h => by cases h; rfl
  | .str x, d, h => by cases h; rfl
  | .tup xs, d, h => by
    cases q : dats xs with
    | none => rw [dat, q] at h; cases h
    | some ds => rw [dat, q] at h; cases h; exact dats_noDict q
  | .ftp xs, d, h => by
    cases q : dats xs with
    | none => rw [dat, q] at h; cases h
    | some ds => rw [dat, q] at h; cases h; exact dats_noDict q
  | .lst xs, d, h => by
    cases q : dats xs with
    | none => rw [dat, q] at h; cases h
    | some ds => rw [dat, q] at h; cases h; exact dats_noDict q
  | .fz xs, d, h => by
    cases q : dats xs with
    | none => rw [dat, q] at h; cases h
    | some ds => rw [dat, q] at h; cases h; exact dats_noDict q
  | .cell n, d, h => by cases h
theorem dats_noDict : ∀ {ws : List W} {ds : List PyData}, dats ws = some ds → PyData.hasDictAll ds = false
  | [], ds, h => by cases h; rfl
  | x :: xs, ds, h => by
    cases q : dat x with
    | none => rw [dats, q] at h; cases h
    | some d =>
      cases q2 : dats xs with
      | none => rw [dats, q, q2] at h; cases h
      | some es =>
        rw [dats, q, q2] at h
        cases h
        show (d.hasDict || PyData.hasDictAll es) = false
        rw [dat_noDict q, dats_noDict q2]
        rfl
end
theorem datC_noDict {w : W} {st : Store} {d : PyData} (h : datC w st = some d) : d.hasDict = false := by
  cases w with
  | cell n =>
    cases q : lviewT (.cell n) st with
    | none => rw [datC, q] at h; cases h
    | some xs =>
      cases q2 : dats xs with
      | none => simp only [datC, q, q2, Option.bind, Option.map] at h; cases h
      | some ds =>
        simp only [datC, q, q2, Option.bind, Option.map] at h
        cases h
        exact dats_noDict q2
  | _ => exact dat_noDict h
theorem call_reprD (hgd : X.A.guards = some []) (hu : X.A.units + 64 < cLine) : CallR X (.builtin "repr") (fun vs H Q => (vs = [.non] ∧ Q (.str "None") H) ∨ ∃ v d, vs = [v] ∧ Dp X.K H v d ∧ PyProof.Rows.isDisplay d = true ∧ d.showable = true ∧ d.hasDict = false ∧ d.depth ≤ 60 ∧ d.shown.length ≤ sizeLine ∧ Q (.str d.shown) H) := by
  intro pins s σ H vs us Q I r h
  rcases h with ⟨rfl, q⟩ | ⟨v, d, rfl, hd, h1, h2, h3, h4, h5, q⟩
  · obtain ⟨u, rfl, ru⟩ := vals1 r
    cases ru
    exact P.repr_of_none ⟨.str "None", H, I.tok _, ⟨_, rfl⟩, q⟩
  · obtain ⟨u, rfl, ru⟩ := vals1 r
    obtain ⟨as, rd⟩ := Dp.reads I d v u hd ru
    obtain ⟨adr, rfl⟩ := PyProof.Rows.isRef_of_reads rd h1
    refine repr_of_reads' rd h2 (PyData.noDict_hsm h3) hgd (by omega) (fun _ _ e => e) (fun h' u tk hk => ?_) h5
    exact ⟨.str d.shown, H, I.kept hk, ⟨_, rfl⟩, q⟩
theorem ok_repr {K : PySem.W.Frag} {mg : MG} : CallOk K mg E (fun vs H Q => (vs = [.non] ∧ Q (.str "None") H) ∨ ∃ v d, vs = [v] ∧ Dp K H v d ∧ PyProof.Rows.isDisplay d = true ∧ d.showable = true ∧ d.hasDict = false ∧ d.depth ≤ 60 ∧ d.shown.length ≤ sizeLine ∧ Q (.str d.shown) H) cRepr := by
  intro F G m st H ws vs Q S r P
  unfold cRepr at P
  split at P
  · cases r with
    | cons h r =>
      cases r
      cases h
      exact .inl ⟨rfl, P.ret S (.str _)⟩
  · rename_i w _
    cases r with
    | cons h r =>
      cases r
      split at P
      · rename_i d q
        split at P
        · rename_i z
          exact .inr ⟨_, d, rfl, datC_at S h q, z.1, z.2.1, datC_noDict q, z.2.2.1, z.2.2.2, P.ret S (.str _)⟩
        · exact P.elim
      · exact P.elim
  · exact P.elim
theorem je_repr (hgd : X.A.guards = some []) (hu : X.A.units + 64 < cLine) (hg : Gl X "repr") (hm : X.mg "repr" = none) (ha : JA X E (e :: es) ds) (he : starEach (e :: es) X.env = (false, eval e X.env) :: starEach es X.env := by rfl) (hpl : (backTo pos (starEach es X.env)).any (·.1) = false := by rfl) :
    JE X E (.Call (.Name "repr" p) (e :: es) [] pos) (dCallB cRepr ds) := je_callB (call_reprD hgd hu) ok_repr hg hm (by decide +kernel) ha (by decide) (by decide) he hpl
end
end Sh


set_option maxRecDepth 100000
set_option maxHeartbeats 2000000
namespace Sh
open PySem L2 Evl

/-! ### the law's own def, called from the claim's caller -/
def RunAt (A : Around) (P : Program) (w : World) (K : PySem.W.Frag) (mg : MG) (base : Heap) (fa : Addr) (fd : FuncData) (ps : List Str) (sp : Sp) : Prop :=
  ∀ (outer : List PySem.Env) (s : Shared) (H : Hp) (args : Args) (us : List Value) (vs : List V) (Q : VK), Env0 P w K mg base A outer s H → BindsTo s fd args (ps.zip us) → Vals vs us → sp vs H Q E0 →
    codeAny (model P w) A (.call (.ref fa) args) (CR CX0 outer P w H s Q E0) s
section
variable {P : Program} {w : World} {K : PySem.W.Frag} {mg : MG} {base : Heap} {x qual : Str} {st : Stmt} {f : Addr} {fd : FuncData} {N ps : List Str} {k : Nat}
theorem fn_at {s : S} {A : Around} (F : Fun K x qual st f fd) (hS : FnScope N ps (defScope st)) (hN : ps.length ≤ N.length) (hr : Room (k + 1) A)
    (hb : ∀ (cdv : Value) (outer : List PySem.Env) (sh : Shared) (H : Hp), Room k (A.deeper (PyProof.Rows.envOfC qual (defScope st) sh.heap.objs.size f cdv)) →
      JSs (cxOf CX0 P w K mg base N qual (defScope st) f cdv A outer sh H E0).nox E0 (defBody st) s) :
    RunAt A P w K mg base f fd ps (spM K mg (dBody ps.length N.length s)) := by
  obtain ⟨oc, od, kV, doc, pm, an, cdv, ct, osl, rfl, lk, hcd⟩ := F.ex
  intro outer s0 H args us vs Q e0 bind rv hsp
  have kin : K.In s0.heap := by
    refine e0.mod.kin.keeps ?_
    intro b o e
    exact (e0.bs b o e).1
  have nolim : s0.heap.NoLimit := by
    refine e0.mod.nolimit.keeps ?_
    intro b o e
    exact (e0.bs b o e).1
  have ln : vs.length = ps.length := spM_len hsp
  refine codeAny_call_function hr.depth (kin _ _ lk) rfl
    hS.co hS.gen rfl (PySem.W.codeRec_of kin hcd) ?_
  refine bind _ _ _ _ ?_
  refine wpAny_newFunctionEnv_cells hS.kind ?_ ?_
  · intro y hy
    obtain ⟨n, v⟩ := y
    have z := hS.par n (List.of_mem_zip hy).1
    rcases z with z | z
    · exact Or.inl z
    · exact Or.inr ⟨z, PySem.W.cellsFrom_some _ _ _ (Or.inl z)⟩
  · intro env he s1 ic
    subst he
    refine ⟨nolim.keeps ic.toInCall.keep, codeAny_func ?_⟩
    obtain ⟨t, ht, hq⟩ := body_ok (ps := ps) (Q := Q) rfl rfl (hb cdv outer s0 H (hr.deeper _)) hN hsp
    have inv := inv_start (CX := CX0) (E := E0) hS hr.hd e0 ln rv ic
    have go := ht.run [] s1 _ H _ (inv.wish fun _ _ => False) hq
    refine wpAny_mono go ?_ (fun _ _ z => False.elim z)
    intro fl s2 hs
    have give : ∀ {σ' : L2.St} {H' : Hp} {v : V} {u : Value}, Inv (cxOf CX0 P w K mg base N qual (defScope st) f cdv A outer s0 H E0).nox [] σ' H' s2 →
        RelV v u → Q v H' → CE outer P w H s0 Q u s2 := by
      intro σ' H' v u J r q
      exact ⟨v, H', J.os, J.bare, J.base, J.hok, r, q⟩
    cases fl with
    | next =>
      obtain ⟨σ', H', J, q⟩ := hs
      exact give (v := .non) J rfl q
    | ret u =>
      obtain ⟨v, σ', H', J, r, q⟩ := hs
      exact give J r q
    | brk => exact hs.choose_spec.choose_spec.2.elim
    | cont => exact hs.choose_spec.choose_spec.2.elim
end
theorem fz_ints {K : PySem.W.Frag} {G : Hp} {m : List Addr} : ∀ ns : List Int, RWs K G m (ns.map W.int) (ns.map V.int)
  | [] => .nil
  | n :: ns => .cons (.int n) (fz_ints ns)
/-- from the law's def to the goal that the head leaves -/
theorem end_of {l : PySem.W.OpenLaw} {n : Nat} {q : Program} {loose : List Str} {XP : (Str → Option Value) → Heap → Prop} {YP : World → Heap → Prop} {d : DefRec} {K : Params → PySem.W.Frag} {x : Str} {f : List W → M W}
    (hn : l.most = some n) (hn2 : n ≤ sizeLine) (hdf : d.params.defaults = [])
    (hY : ∀ (w : World) (h : Heap), YP w h → (K w.params).In h)
    (run : ∀ (w : World) (mg : MG) (fa : Addr) (h : Heap), (K w.params).In h → h.Ns mainGlobals mg → mg d.name = some (.ref fa) →
      ∃ fd : FuncData, (∀ (s : Shared) (u : Value), BindsTo s fd ⟨[u], []⟩ [(x, u)]) ∧
        ∀ base : Heap, (K w.params).In base → base.Ns mainGlobals mg → RunAt callerA l.prog w (K w.params) mg base fa fd [x] (spM (K w.params) mg f))
    (law : ∀ ns : List Int, ns.length ≤ n → ∃ st, f [.fz (ns.map W.int)] [] = .ok (.bl true) st) :
    PySem.W.WalkO q loose XP YP l.row.toRowW d [] (fun f vs => PySem.call f vs) := by
  refine Att.attach_call hn hdf ?_
  intro w s₀ s₁ mg mb fa o pm cd doc a vs ns Gr Y ho hd hcd hmg hobj hints hlen hg
  have kin := hY w _ Y
  obtain ⟨fd, hbind, hrun⟩ := run w mg fa _ kin Gr.T.g hmg
  obtain ⟨stL, hlaw⟩ := law ns hlen
  have rvs : Vals (ns.map V.int) vs := vals_ints hints
  have lv : vs.length = ns.length := hints.length.symm ▸ rfl
  -- the script is tracked, unless the module has it
  have core : ∀ H : Hp, (∀ b, H b = none ∨ (b = a ∧ (K w.params).lookup a = none ∧ ∃ ob ys, H b = some (.frz ob (.lst ys)))) → SqL (K w.params) H a (ns.map V.int) → HOk l.prog w H s₁.heap →
      codeAny (model l.prog w) callerA (.call (.ref fa) ⟨[.ref a], []⟩) (fun r s' => r = .ok (.ret (.bool true)) ∧ PySem.OldK s₁.heap s'.heap ∧ s'.os = s₁.os ∧ PyProof.Rows.AllBare s'.gens) s₁ := by
    intro H hO hS hok
    have at0 : ∀ {b : Addr} {ob : Obj}, s₁.heap.get? b = some ob → H b = none → (hidT s₁.heap H).get? b = some ob := fun e n => hidT_get e n
    have dict0 : ∀ {b : Addr} {ob : Obj} {es : Array DictEntry} {ep : Nat}, s₁.heap.get? b = some ob → ob.data = .dict es ep → H b = none := by
      intro b ob es ep e dd
      rcases hO b with z | ⟨z, _, _⟩
      · exact z
      · subst z
        rw [hobj] at e
        cases e
        cases dd
    have ns0 : ∀ {b : Addr} {mm : MG}, s₁.heap.Ns b mm → (hidT s₁.heap H).Ns b mm := by
      intro b mm z
      obtain ⟨ob, es, ep, e, dd, r⟩ := z
      exact ⟨ob, es, ep, at0 e (dict0 e dd), dd, r⟩
    have kin0 : (K w.params).In (hidT s₁.heap H) := by
      intro b ob e
      refine at0 (kin b ob e) ?_
      rcases hO b with z | ⟨z, z2, _⟩
      · exact z
      · subst z
        rw [z2] at e
        cases e
    obtain ⟨mc, c1, c2⟩ := Gr.T.nolimit
    have md : Mod (K w.params) mg (hidT s₁.heap H) := ⟨kin0, ns0 Gr.T.g, ⟨mb, ns0 Gr.T.b, Gr.T.builtins⟩, ⟨mc, ns0 c1, c2⟩⟩
    have e0 : Env0 l.prog w (K w.params) mg (hidT s₁.heap H) callerA [] s₁ H := {
      frames := rfl
      mod := md
      bs := fun b ob e => of_hidT e
      bsz := Nat.le_of_eq (hidT_size _ _)
      funs := trivial
      frf := fun b hb => nomatch hb
      hok := hok
      bare := .of_eq hg }
    have sp : spM (K w.params) mg f [.ref a] H (fun v _ => v = .bl true) E0 := by
      refine ⟨fun _ => none, H, [], [.fz (ns.map W.int)], [], ⟨Ex.refl H, (fun b u z => by cases z), (fun b u z => by cases z), (fun i c b z => by cases z), rfl, (fun i c b z => by cases z), (fun i j b c c' z => by cases z)⟩, .cons (.fz hS (fz_ints ns)) .nil, ?_⟩
      rw [hlaw]
      intro G' m' b H' _ _ r
      cases r
      rfl
    refine codeAny_mono (hrun _ kin0 (ns0 Gr.T.g) [] s₁ H ⟨[.ref a], []⟩ [.ref a] [.ref a] _ e0 (hbind s₁ (.ref a)) (.cons rfl .nil) sp) ?_
    intro r s' h
    cases r with
    | error e => exact h.elim
    | ok fl =>
      cases fl with
      | next => exact h.elim
      | brk => exact h.elim
      | cont => exact h.elim
      | ret u =>
        obtain ⟨v, H', os', bare', un, hok', rr, qv⟩ := h
        have qv : v = .bl true := qv
        subst qv
        obtain rfl : u = Value.bool true := rr
        refine ⟨rfl, PySem.OldK.of_keep fun b ob e => ?_, os', bare'⟩
        rcases hO b with z | ⟨_, _, oz, ys, z⟩
        · exact un.keep b ob e z (fun y => nomatch y) (fun y => nomatch y)
        · obtain ⟨e1, _⟩ := hok b _ z
          obtain ⟨e2, _⟩ := hok' b _ (un.frzs b oz _ z)
          rw [e] at e1
          cases e1
          exact e2
  cases lk : (K w.params).lookup a with
  | some ob =>
    have e := kin a ob lk
    rw [hobj] at e
    cases e
    refine core (fun _ => none) (fun _ => .inl rfl) (.inr ⟨_, vs.toArray, _, lk, rfl, rfl, rfl, ?_, by simpa using rvs⟩) (fun b u z => nomatch z)
    rw [List.size_toArray]
    omega
  | none =>
    refine core (fun b => if b = a then some (.frz { cls := .type "list", data := .seq vs.toArray } (.lst (ns.map V.int))) else none) (fun b => ?_) (.inl (.inr ⟨_, if_pos rfl⟩)) (fun b u z => ?_)
    · by_cases hb : b = a
      · exact .inr ⟨hb, lk, _, _, if_pos hb⟩
      · exact .inl (if_neg hb)
    · by_cases hb : b = a
      · have z := (if_pos hb).symm.trans z
        cases z
        subst hb
        refine ⟨hobj, ?_, vs, _, rvs, hobj⟩
        rw [List.length_map]
        omega
      · have z := (if_neg hb).symm.trans z
        cases z

/-- a def of the text, with its word -/
def Has (P : Program) (w : World) (K : PySem.W.Frag) (mg : MG) (base : Heap) (k : Nat) (x : Str) (ps : List Str) (m : List W → M W) : Prop :=
  ∃ f fd, mg x = some (.ref f) ∧ PySem.W.keepIn K (.ref f) = true ∧ Binds K fd ps [] ∧ FnOk P w K mg base CX0 k f fd ps (spM K mg m)
theorem Has.eq {P : Program} {w : World} {K : PySem.W.Frag} {mg : MG} {base : Heap} {k : Nat} {x : Str} {ps : List Str} {m g : List W → M W} (h : Has P w K mg base k x ps m) (e : ∀ ws st, (m ws st).nox = (g ws st).nox) : Has P w K mg base k x ps g :=
  let ⟨f, fd, h1, h2, h3, h4⟩ := h
  ⟨f, fd, h1, h2, h3, fn_eq h4 e⟩
section
variable {X : Cx} {E : XK} {e : Expr} {es : List Expr} {ds : Env → M (List W)} {p pos : Pos} {k j : Nat} {ps : List Str} {x : Str} {m : List W → M W}
theorem je_def (h : Has X.prog X.w X.K X.mg X.base k x ps m) (hr : Room j X.A) (ha : JA X E (e :: es) ds) (hj : k ≤ j := by decide) (hg : Gl X x := by rfl) (hdb : (x == ("__debug__" : Str)) = false := by decide) (he : starEach (e :: es) X.env = (false, eval e X.env) :: starEach es X.env := by rfl)
    (hpl : (backTo pos (starEach es X.env)).any (·.1) = false := by rfl) : JE X E (.Call (.Name x p) (e :: es) [] pos) (dCall m ds) :=
  let ⟨_, _, h1, h2, h3, h4⟩ := h
  je_call h4 (hr.mono hj) hg h1 h2 h3 ha hdb he hpl
theorem je_def0 (h : Has X.prog X.w X.K X.mg X.base k x ps m) (hr : Room j X.A) (hj : k ≤ j := by decide) (hg : Gl X x := by rfl) (hdb : (x == ("__debug__" : Str)) = false := by decide) : JE X E (.Call (.Name x p) [] [] pos) (dCall m dNil) :=
  let ⟨_, _, h1, h2, h3, h4⟩ := h
  je_call0 h4 (hr.mono hj) hg h1 h2 h3 hdb
end
theorem has_mk {P : Program} {w : World} {K : PySem.W.Frag} {mg : MG} {base : Heap} {x : Str} {st : Stmt} {f : Addr} {fd : FuncData} {N ps : List Str} {k : Nat} {s : S} (F : Fun K x x st f fd) (g : mg x = some (.ref f)) (b : Binds K fd ps []) (hS : FnScope N ps (defScope st)) (hN : ps.length ≤ N.length)
    (hb : ∀ (cdv : Value) (A : Around) (outer : List PySem.Env) (sh : Shared) (H : Hp) (E : XK), Room k (A.deeper (PyProof.Rows.envOfC x (defScope st) sh.heap.objs.size f cdv)) → JSs (cxOf CX0 P w K mg base N x (defScope st) f cdv A outer sh H E).nox E0 (defBody st) s) :
    Has P w K mg base (k + 1) x ps (dBody ps.length N.length s) := ⟨f, fd, g, F.kp, b, fn_ok F hS hN hb⟩
end Sh


set_option maxRecDepth 100000
set_option maxHeartbeats 2000000
namespace Sh
open PySem L2 Evl

/-! ### short names -/
abbrev oLt : W → W → M W := oI fun i j => .bl (decide (i < j))
abbrev oLe : W → W → M W := oI fun i j => .bl (decide (i ≤ j))
abbrev oGt : W → W → M W := oI fun i j => .bl (decide (j < i))
abbrev oGe : W → W → M W := oI fun i j => .bl (decide (j ≤ i))
abbrev dAdd (a b : Env → M W) := dOp (oI fun i j => .int (i + j)) a b
abbrev dSub (a b : Env → M W) := dOp (oI fun i j => .int (i - j)) a b
abbrev dMul (a b : Env → M W) := dOp (oIC CMul fun i j => .int (i * j)) a b
abbrev dMod (a b : Env → M W) := dOp (oIC (fun _ j => 0 < j) fun i j => .int (i % j)) a b
abbrev dDiv (a b : Env → M W) := dOp (oIC CDiv fun i j => .int (i / j)) a b
abbrev dLt (a b : Env → M W) := dOp oLt a b
abbrev dLe (a b : Env → M W) := dOp oLe a b
abbrev dGt (a b : Env → M W) := dOp oGt a b
abbrev dGe (a b : Env → M W) := dOp oGe a b
abbrev dEq (a b : Env → M W) := dOp oEq a b
abbrev dNe (a b : Env → M W) := dOp oNe a b
abbrev dIn (a b : Env → M W) := dOp (oIn false) a b
abbrev dNotIn (a b : Env → M W) := dOp (oIn true) a b
abbrev dIsN (a b : Env → M W) := dOp oIsN a b
abbrev dNotN (a b : Env → M W) := dOp oNotN a b
def fuel : Env → Store → Nat := fun _ _ => 1000000
section
variable {K : PySem.W.Frag} {mg : MG} {E : XK}
theorem ok_lt : OpOk K mg E (rI0 fun i j => .bl (decide (i < j))) oLt := ok_I fun i j _ _ => .bl _
theorem ok_le : OpOk K mg E (rI0 fun i j => .bl (decide (i ≤ j))) oLe := ok_I fun i j _ _ => .bl _
theorem ok_gt : OpOk K mg E (rI0 fun i j => .bl (decide (j < i))) oGt := ok_I fun i j _ _ => .bl _
theorem ok_ge : OpOk K mg E (rI0 fun i j => .bl (decide (j ≤ i))) oGe := ok_I fun i j _ _ => .bl _
end
section
variable {X : Cx} {E : XK} {a b c e o : Expr} {es : List Expr} {da db dc d dO : Env → M W} {ds : Env → M (List W)} {p pos apos cpos : Pos}
theorem je_append (ho : JE X E o dO) (ha : JA X E (e :: es) ds) (hbase : attributeBase o "append" X.env (eval o X.env) = eval o X.env := by rfl)
    (hfew : ((backTo cpos (starEach (e :: es) X.env)).all (fun x => !x.1) && (backToKw cpos (keywordEach [] X.env)).all (fun x => x.1.isSome)
      && decide ((e :: es).length + ([] : List Keyword).length + (if ([] : List Keyword).isEmpty then 0 else 1) < 30)) = true := by rfl)
    (hline : (apos.endLine == cpos.line) = true := by rfl) (hs : starEach (e :: es) X.env = (false, eval e X.env) :: starEach es X.env := by rfl) (hplain : (backTo cpos (starEach es X.env)).any (·.1) = false := by rfl) :
    JE X E (.Call (.Attribute o "append" apos) (e :: es) [] cpos) (dBM tyL mAppend dO ds) := je_bm PySem.F.plainAttrs_list PySem.F.slot_list_append PySem.F.type_list_append mt_append tyL_ok ok_append ho ha hbase hfew hline hs hplain
theorem je_popAt (ho : JE X E o dO) (ha : JA X E (e :: es) ds) (hbase : attributeBase o "pop" X.env (eval o X.env) = eval o X.env := by rfl)
    (hfew : ((backTo cpos (starEach (e :: es) X.env)).all (fun x => !x.1) && (backToKw cpos (keywordEach [] X.env)).all (fun x => x.1.isSome)
      && decide ((e :: es).length + ([] : List Keyword).length + (if ([] : List Keyword).isEmpty then 0 else 1) < 30)) = true := by rfl)
    (hline : (apos.endLine == cpos.line) = true := by rfl) (hs : starEach (e :: es) X.env = (false, eval e X.env) :: starEach es X.env := by rfl) (hplain : (backTo cpos (starEach es X.env)).any (·.1) = false := by rfl) :
    JE X E (.Call (.Attribute o "pop" apos) (e :: es) [] cpos) (dBM tyL mPopAt dO ds) := je_bm PySem.F.plainAttrs_list PySem.F.slot_list_pop PySem.F.type_list_pop mt_popAt tyL_ok ok_popAt ho ha hbase hfew hline hs hplain
theorem je_pop (ho : JE X E o dO) (hbase : attributeBase o "pop" X.env (eval o X.env) = eval o X.env := by rfl) (hline : (apos.endLine == cpos.line) = true := by rfl) :
    JE X E (.Call (.Attribute o "pop" apos) [] [] cpos) (dBM0 tyL mPop dO) := je_bm0 PySem.F.plainAttrs_list PySem.F.slot_list_pop PySem.F.type_list_pop mt_pop tyL_ok ok_pop ho hbase hline
theorem je_index (ho : JE X E o dO) (ha : JA X E (e :: es) ds) (hbase : attributeBase o "index" X.env (eval o X.env) = eval o X.env := by rfl)
    (hfew : ((backTo cpos (starEach (e :: es) X.env)).all (fun x => !x.1) && (backToKw cpos (keywordEach [] X.env)).all (fun x => x.1.isSome)
      && decide ((e :: es).length + ([] : List Keyword).length + (if ([] : List Keyword).isEmpty then 0 else 1) < 30)) = true := by rfl)
    (hline : (apos.endLine == cpos.line) = true := by rfl) (hs : starEach (e :: es) X.env = (false, eval e X.env) :: starEach es X.env := by rfl) (hplain : (backTo cpos (starEach es X.env)).any (·.1) = false := by rfl) :
    JE X E (.Call (.Attribute o "index" apos) (e :: es) [] cpos) (dBM tyL mIndex dO ds) := je_bm PySem.F.plainAttrs_list PySem.F.slot_list_index PySem.F.type_list_index mt_index tyL_ok ok_index ho ha hbase hfew hline hs hplain

/-! ### not, chains, truth -/
def oNot : W → M W := fun w st => match w with
  | .bl b => .ok (.bl (!b)) st
  | _ => .stuck
theorem je_not (h : JE X E a da) : JE X E (.UnaryOp .Not a pos) (dUn oNot da) := by
  refine weakE (pe_not h) ?_
  rintro σ H Q ⟨F, G, m, env, st, S, R, P⟩
  refine ⟨F, G, m, env, st, S, R, P.bind.imp fun v H1 ⟨G1, m1, w, st1, e1, S1, r1, P1⟩ => ?_⟩
  unfold oNot at P1
  split at P1
  · cases r1
    exact ⟨_, rfl, P1.ret S1 (.bl _)⟩
  · exact P1.elim
/-- a < b < c -/
def dChain (f g : W → W → M W) (a b c : Env → M W) : Env → M W := fun env st => (a env st).bind fun x st => (b env st).bind fun y st => (f x y st).bind fun z st => match z with
  | .bl true => (c env st).bind fun w st => g y w st
  | .bl false => .ok (.bl false) st
  | _ => .stuck
theorem chain_read {K : PySem.W.Frag} {mg : MG} {r r' : R2} {f g : W → W → M W} (hf : OpOk K mg E r f) (hg : OpOk K mg E r' g) {σ : L2.St} {H : Hp} {Q : VK} (h : tE K mg E (dChain f g da db dc) σ H Q) :
    tE K mg E da σ H fun x H1 => tE K mg E db σ H1 fun y H2 => r x y H2 fun z H3 => ∃ k, z = .bl k ∧ if k = true then tE K mg E dc σ H3 fun w H4 => r' y w H4 Q else Q (.bl false) H3 := by
  obtain ⟨F, G, m, env, st, S, R, P⟩ := h
  refine ⟨F, G, m, env, st, S, R, (P.bind (R := RW)).imp fun v1 H1 ⟨G1, m1, x, st1, e1, S1, r1, P1⟩ => ?_⟩
  refine ⟨F, G1, m1, env, st1, S1, R.mono e1, (P1.bind (R := RW)).imp fun v2 H2 ⟨G2, m2, y, st2, e2, S2, r2, P2⟩ => ?_⟩
  refine hf F G2 m2 st2 H2 x y v1 v2 _ S2 (RW.mono e2 r1) r2 ((P2.bind (R := RW)).imp fun v3 H3 ⟨G3, m3, z, st3, e3, S3, r3, P3⟩ => ?_)
  split at P3
  · cases r3
    refine ⟨true, rfl, ?_⟩
    rw [if_pos rfl]
    exact ⟨F, G3, m3, env, st3, S3, ((R.mono e1).mono e2).mono e3, (P3.bind (R := RW)).imp fun v4 H4 ⟨G4, m4, w, st4, e4, S4, r4, P4⟩ => hg F G4 m4 st4 H4 y w v2 v4 Q S4 (RW.mono e4 (RW.mono e3 r2)) r4 P4⟩
  · cases r3
    exact ⟨false, rfl, P3.ret S3 (.bl false)⟩
  · exact P3.elim
theorem je_chain {op op' : CmpOp} {r r' : R2} {f g : W → W → M W} (ho : OpR X (compareOp op) r) (hf : OpOk X.K X.mg E r f) (ho' : OpR X (compareOp op') r') (hg : OpOk X.K X.mg E r' g) (ha : JE X E a da) (hb : JE X E b db) (hc : JE X E c dc) (hmk : lastMarks [op, op'] [b, c] = false := by rfl) :
    JE X E (.Compare a [op, op'] [b, c] pos) (dChain f g da db dc) := weakE (pe_chain ho ho' ha hb hc hmk) fun σ H Q h => chain_read hf hg h
theorem jt_chain {op op' : CmpOp} {r r' : R2} {f g : W → W → M W} (ho : OpR X (compareOp op) r) (hf : OpOk X.K X.mg E r f) (ho' : OpR X (compareOp op') r') (hg : OpOk X.K X.mg E r' g) (ha : JE X E a da) (hb : JE X E b db) (hc : JE X E c dc) (hmk : lastMarks [op, op'] [b, c] = false := by rfl) :
    JT X E (.Compare a [op, op'] [b, c] pos) (dB (dChain f g da db dc)) := by
  refine weakT (pt_chain ho ho' ha hb hc hmk) ?_
  rintro σ H Q ⟨F, G, m, env, st, S, R, P⟩
  have q : tE X.K X.mg E (dChain f g da db dc) σ H fun x H1 => ∃ k, x = .bl k ∧ Q k H1 := ⟨F, G, m, env, st, S, R, (P.bind (R := RW)).imp fun v H1 ⟨G1, m1, w, st1, e1, S1, r1, P1⟩ => tru_B F G1 m1 st1 H1 w v Q S1 r1 P1⟩
  exact chain_read hf hg q
/-- by truth -/
def asTru : W → M Bool := fun w st => match w with
  | .non => .ok false st
  | .bl b => .ok b st
  | .int i => .ok (i != 0) st
  | w => match sview w st with
    | some xs => .ok (!xs.isEmpty) st
    | none => .stuck
def dTru (d : Env → M W) : Env → M Bool := fun env st => (d env st).bind asTru
theorem empty_of {K : PySem.W.Frag} {G : Hp} {m : List Addr} {xs : List W} {vs : List V} (r : RWs K G m xs vs) : (!xs.isEmpty) = !vs.isEmpty := by
  cases r <;> rfl
theorem tru_W {K : PySem.W.Frag} {mg : MG} : TruOk K mg E (fun x H Q => ∃ k, TruV K x H k ∧ Q k H) asTru := by
  intro F G m st H x v Q S r P
  unfold asTru at P
  split at P
  · cases r
    exact ⟨_, rfl, P.ret S rfl⟩
  · cases r
    exact ⟨_, rfl, P.ret S rfl⟩
  · cases r
    exact ⟨_, rfl, P.ret S rfl⟩
  · split at P
    · rename_i xs q
      obtain ⟨a, vs, rfl, h1, h2⟩ := sview_at S r q
      rw [empty_of h2] at P
      refine ⟨_, ?_, P.ret S rfl⟩
      rcases h1 with h1 | h1
      · exact .inl ⟨_, h1, rfl⟩
      · exact .inr (.inl ⟨_, h1, rfl⟩)
    · exact P.elim
theorem jt_tru (h : JE X E e d) (he : ∀ whole, isTrue e X.env whole = (do let v ← whole; standAt e.pos; holding [v] (truthy v)) := by intro _; rfl) : JT X E e (dTru d) := jt_of (t := fun σ H Q => tE X.K X.mg E d σ H fun x H' => ∃ k, TruV X.K x H' k ∧ Q k H') (r := fun x H' Q => ∃ k, TruV X.K x H' k ∧ Q k H') (pt_truth h he) tru_W

/-! ### enumerate, zip -/
def enW : Nat → List W → List W
  | _, [] => []
  | i, x :: xs => .tup [.int (i : Int), x] :: enW (i + 1) xs
theorem enW_len : ∀ {xs : List W} {i : Nat}, (enW i xs).length = xs.length
  | [], _ => rfl
  | _ :: xs, i => by unfold enW; rw [List.length_cons, List.length_cons, enW_len]
theorem enW_get : ∀ {xs : List W} {i j : Nat} {x : W}, xs[j]? = some x → (enW i xs)[j]? = some (.tup [.int ((i + j : Nat) : Int), x])
  | y :: xs, i, 0, x, h => by
    cases h
    rfl
  | y :: xs, i, j + 1, x, h => by
    unfold enW
    have e : i + 1 + j = i + (j + 1) := by omega
    rw [List.getElem?_cons_succ, enW_get (i := i + 1) (j := j) (by simpa using h), e]
def iEn (ds : Env → M (List W)) : Env → M It' := fun env st => (ds env st).bind fun ws st => match ws with
  | [.lst xs] => .ok ⟨enW 0 xs, fun _ => True⟩ st
  | [.fz xs] => .ok ⟨enW 0 xs, fun _ => True⟩ st
  | [.cell n] => match lcell st n with
    | some xs => .ok ⟨enW 0 xs, fun st => lcell st n = some xs⟩ st
    | none => .stuck
  | _ => .stuck
theorem walks_enum {K : PySem.W.Frag} {mg : MG} {G : Hp} {m : List Addr} {xs : List W} {adr : Addr} {ok : Store → Prop}
    (h : ∀ H F G1 m1 st, Ext G m G1 m1 → Sim K mg F G1 m1 st H → ok st → ∃ vs, SqL K H adr vs ∧ RWs K G1 m1 xs vs) : Walks K mg G m (enW 0 xs) ok (Ite K adr) where
  go := fun i H F G1 m1 st e S k hi => by
    obtain ⟨vs, h1, h2⟩ := h H F G1 m1 st e S k
    rw [enW_len] at hi
    exact ⟨vs, vs[i]'(by rw [← h2.length]; exact hi), h1, List.getElem?_eq_getElem _⟩
  stop := fun i H F G1 m1 st e S k hi => by
    obtain ⟨vs, h1, h2⟩ := h H F G1 m1 st e S k
    rw [enW_len] at hi
    exact ⟨vs, h1, by rw [← h2.length]; exact hi⟩
  yld := fun i H x H' F G1 m1 st e S k hi hy => by
    obtain ⟨vs, h1, h2⟩ := h H F G1 m1 st e S k
    obtain ⟨T, v, rfl, hT, rfl, h3⟩ := hy
    obtain ⟨w, h4, h5⟩ := h2.get' (h3 vs h1)
    have hg := fresh_back S.ex hT
    refine ⟨.tup [.int ((0 + i : Nat) : Int), w], _, enW_get h4, Ex.new hg, S.newG hT, .tup upd_same (.cons ?_ (.cons (h5.mono (Ext.new hg)) .nil))⟩
    rw [Nat.zero_add]
    exact .int _
theorem ji_enum {elts : List Expr} {kk : Nat} {tpos : Pos} (hg : Gl X "enumerate") (hm : X.mg "enumerate" = none) (ha : JA X E [e] ds) (hs : starEach [e] X.env = [(false, eval e X.env)] := by rfl) :
    JI X E (.Tuple elts kk tpos) (.Call (.Name "enumerate" p) [e] [] pos) (iEn ds) := by
  refine weakI (pi_enum hg hm ha hs) ?_
  rintro σ H Q ⟨F, G, m, env, st, S, R, P⟩
  refine ⟨F, G, m, env, st, S, R, (P.bind (R := RA)).imp fun vs H1 ⟨G1, m1, ws, st1, e1, S1, r1, P1⟩ => ?_⟩
  split at P1
  · cases r1 with
    | cons h r =>
      cases r
      cases h with
      | @lst p us _ h1 h2 => exact ⟨p, us, rfl, .inl (.inl (S1.ex _ _ h1)), P1.ret S1 (walks_enum fun H F G1 m1 st e S k => ⟨us, .inl (.inl (S.ex _ _ (e.ex _ _ h1))), h2.mono e⟩)⟩
  · cases r1 with
    | cons h r =>
      cases r
      cases h with
      | @fz p us _ h1 h2 => exact ⟨p, us, rfl, ex_l S1.ex h1, P1.ret S1 (walks_enum fun H F G1 m1 st e S k => ⟨us, ex_l S.ex (ex_l e.ex h1), h2.mono e⟩)⟩
  · rename_i n
    split at P1
    · rename_i xs q
      cases r1 with
      | cons h r =>
        cases r
        cases h with
        | @cell _ adr hm =>
          obtain ⟨g0, us, h2, h3⟩ := S1.ok n _ adr (lcell_some q) hm
          refine ⟨adr, us, rfl, .inl (.inl h2), P1.ret S1 (walks_enum fun H F G1 m1 st e S k => ?_)⟩
          obtain ⟨_, us', h4, h5⟩ := S.ok n _ adr (lcell_some k) (e.mm _ _ hm)
          exact ⟨us', .inl (.inl h4), h5⟩
    · exact P1.elim
  · exact P1.elim

/-! ### sorted, pairs of ints -/
def leP (x y : Int × Int) : Bool := decide (x.1 < y.1 ∨ (x.1 = y.1 ∧ x.2 ≤ y.2))
def pairs? : List W → Option (List (Int × Int))
  | [] => some []
  | .tup [.int i, .int j] :: xs => (pairs? xs).map fun r => (i, j) :: r
  | _ => none
def tupP (x : Int × Int) : W := .tup [.int x.1, .int x.2]
def cSortedP : List W → M (List W) := fun ws st => match ws with
  | [w] => match lview w st with
    | some xs => match pairs? xs with
      | some ps => .ok ((ps.mergeSort leP).map tupP) st
      | none => .stuck
    | none => .stuck
  | _ => .stuck
theorem pairs_map : ∀ {xs : List W} {ps : List (Int × Int)}, pairs? xs = some ps → xs = ps.map tupP
  | [], ps, h => by cases h; rfl
  | x :: xs, ps, h => by
    unfold pairs? at h
    split at h
    · rename_i q
      cases q
    · rename_i i j ys q
      cases q
      cases h2 : pairs? xs with
      | none => rw [h2] at h; cases h
      | some r =>
        rw [h2] at h
        cases h
        rw [pairs_map h2]
        rfl
    · cases h
theorem leP_trans (a b c : Int × Int) (h1 : leP a b = true) (h2 : leP b c = true) : leP a c = true := by
  simp only [leP, decide_eq_true_eq] at *
  omega
theorem leP_total (a b : Int × Int) : (leP a b || leP b a) = true := by
  simp only [leP, Bool.or_eq_true, decide_eq_true_eq]
  omega
theorem leP_anti (a b : Int × Int) (h1 : leP a b = true) (h2 : leP b a = true) : a = b := by
  simp only [leP, decide_eq_true_eq] at *
  exact Prod.ext (by omega) (by omega)
theorem sortP_uniq {xs ys : List (Int × Int)} (hp : ys.Perm xs) (hs : ys.Pairwise fun a b => leP a b = true) : ys = xs.mergeSort leP :=
  List.Perm.eq_of_pairwise (fun a b _ _ h1 h2 => leP_anti a b h1 h2) hs (List.pairwise_mergeSort leP_trans leP_total xs) (hp.trans (List.mergeSort_perm xs leP).symm)
def keyO : Option HO → Int × Int
  | some (.tup [.int i, .int j]) => (i, j)
  | _ => (0, 0)
def keyP (H : Hp) : V → Int × Int
  | .ref t => keyO (H t)
  | _ => (0, 0)
theorem ok_sortedP {K : PySem.W.Frag} {mg : MG} : CallOkF K mg E (rSortedPO K) cSortedP := by
  intro F G m st H ws vs Q S r P
  unfold cSortedP at P
  split at P
  · cases r with
    | cons h r =>
      cases r
      split at P
      · rename_i xs q
        split at P
        · rename_i ps q2
          obtain ⟨a, us, rfl, h1, h2⟩ := lview_at S h q
          have hx := pairs_map q2
          subst hx
          -- what the key says
          have key : ∀ {ps : List (Int × Int)} {us : List V}, RWs K G m (ps.map tupP) us → us.map (keyP H) = ps ∧ ∀ u ∈ us, (∃ t, u = V.ref t ∧ H t = some (.tup [.int (keyP H u).1, .int (keyP H u).2])) ∧ RW K G m (tupP (keyP H u)) u := by
            intro ps
            induction ps with
            | nil =>
              intro us r
              cases r
              exact ⟨rfl, fun u hu => nomatch hu⟩
            | cons p ps ih =>
              intro us r
              rw [List.map_cons] at r
              generalize hx : tupP p = x at r
              cases r with
              | @cons _ u _ us r1 r2 =>
                obtain ⟨ih1, ih2⟩ := ih r2
                subst hx
                have h0 := r1
                unfold tupP at r1
                cases r1 with
                | @tup t ws _ g1 g2 =>
                  cases g2 with
                  | cons a1 g3 =>
                    cases g3 with
                    | cons a2 g4 =>
                      cases g4
                      cases a1
                      cases a2
                      have hk : keyP H (.ref t) = p := by
                        show keyO (H t) = p
                        rw [S.ex _ _ g1]
                        rfl
                      refine ⟨by rw [List.map_cons, hk, ih1], fun u hu => ?_⟩
                      rcases List.mem_cons.mp hu with rfl | hu
                      · rw [hk]
                        exact ⟨⟨t, rfl, S.ex _ _ g1⟩, h0⟩
                      · exact ih2 u hu
          obtain ⟨k1, k2⟩ := key h2
          refine ⟨a, us, keyP H, rfl, h1, fun u hu => (k2 u hu).1, fun ys p hsr hst hp => ?_⟩
          have perm : ys.Perm us := hst.perm
          have e : ys.map (keyP H) = ps.mergeSort leP := by
            refine sortP_uniq ?_ ?_
            · have := perm.map (keyP H)
              rw [k1] at this
              exact this
            · refine List.pairwise_map.mpr (hsr.imp fun {x y} hxy => ?_)
              have z := SrtO.lexB_no.mp hxy
              simp only [leP, decide_eq_true_eq]
              omega
          refine P.ret S hp ?_
          rw [← e]
          have rel : ∀ {ys : List V}, (∀ u ∈ ys, u ∈ us) → RWs K G m ((ys.map (keyP H)).map tupP) ys := by
            intro ys
            induction ys with
            | nil => intro _; exact .nil
            | cons y ys ih => intro hy; exact .cons (k2 y (hy y List.mem_cons_self)).2 (ih fun u hu => hy u (List.mem_cons_of_mem _ hu))
          exact rel fun u hu => perm.mem_iff.mp hu
        · exact P.elim
      · exact P.elim
  · exact P.elim
theorem jf_sortedP (hg : Gl X "sorted") (hm : X.mg "sorted" = none) (ha : JA X E (e :: es) ds) (he : starEach (e :: es) X.env = (false, eval e X.env) :: starEach es X.env := by rfl) (hpl : (backTo pos (starEach es X.env)).any (·.1) = false := by rfl) :
    JF X E (.Call (.Name "sorted" p) (e :: es) [] pos) (dCallF cSortedP ds) := jf_callB cr_sortedPO ok_sortedP hg hm (by decide +kernel) ha (by decide) (by decide) he hpl
end
end Sh


set_option maxRecDepth 100000
set_option maxHeartbeats 4000000
namespace Sh
open PySem L2 Evl

/-! ### to reckon with -/
theorem shaped_int (i : Int) : SeqAt.shaped (.int i) = true := by simp [SeqAt.shaped, PyData.canLay0, PyData.depth]
@[simp] theorem oEq_int (a b : Int) (st : Store) : oEq (.int a) (.int b) st = .ok (.bl (decide (a = b))) st := rfl
@[simp] theorem oNe_int (a b : Int) (st : Store) : oNe (.int a) (.int b) st = .ok (.bl (!decide (a = b))) st := rfl
@[simp] theorem oEq_str (a b : Str) (st : Store) : oEq (.str a) (.str b) st = .ok (.bl (decide (a = b))) st := rfl
@[simp] theorem oNe_str (a b : Str) (st : Store) : oNe (.str a) (.str b) st = .ok (.bl (!decide (a = b))) st := rfl
@[simp] theorem dVar_zero (w : W) (env : Env) (st : Store) : dVar 0 (some w :: env) st = .ok w st := rfl
@[simp] theorem dVar_succ (i : Nat) (o : Option W) (env : Env) (st : Store) : dVar (i + 1) (o :: env) st = dVar i env st := rfl
@[simp] theorem dC_at (w : W) (env : Env) (st : Store) : dC w env st = .ok w st := rfl
@[simp] theorem dNil_at (env : Env) (st : Store) : dNil env st = .ok [] st := rfl
@[simp] theorem oI_at (g : Int → Int → W) (i j : Int) (st : Store) : oI g (.int i) (.int j) st = .ok (g i j) st := rfl
theorem oIC_at {c : Int → Int → Prop} [∀ i j, Decidable (c i j)] {g : Int → Int → W} {i j : Int} {st : Store} (h : c i j) : oIC c g (.int i) (.int j) st = .ok (g i j) st := if_pos h
theorem cmul {i j : Int} (h : -(2 ^ 64) < j ∧ j < 2 ^ 64) : CMul i j := .inr h
@[simp] theorem asB_at (b : Bool) (st : Store) : asB (.bl b) st = .ok b st := rfl
@[simp] theorem cInt_int (i : Int) (st : Store) : cInt [.int i] st = .ok (.int i) st := rfl
@[simp] theorem cInt_bl (b : Bool) (st : Store) : cInt [.bl b] st = .ok (.int (if b then 1 else 0)) st := rfl
@[simp] theorem cAbs_int (i : Int) (st : Store) : cAbs [.int i] st = .ok (.int (if i < 0 then -i else i)) st := rfl
theorem ix_at {w x : W} {xs : List W} {i : Int} {st : Store} (h : sview w st = some xs) (hi : 0 ≤ i) (hx : xs[i.toNat]? = some x) : oIx w (.int i) st = .ok x st := by
  have hl := (List.getElem?_eq_some_iff.mp hx).1
  have e : L2.atI xs i = some x := by
    unfold L2.atI ixN
    rw [if_pos hi, if_pos (by omega)]
    exact hx
  unfold oIx
  rw [h]
  simp only [e]
theorem cLen_at {w : W} {xs : List W} {st : Store} (h : sview w st = some xs) : cLen [w] st = .ok (.int xs.length) st := by
  unfold cLen
  cases w with
  | str x => cases h
  | _ => simp only [h]
@[simp] theorem sview_cell (n : Nat) (st : Store) : sview (.cell n) st = lcell st n := rfl
@[simp] theorem sview_fz (xs : List W) (st : Store) : sview (.fz xs) st = some xs := rfl
@[simp] theorem sview_lst (xs : List W) (st : Store) : sview (.lst xs) st = some xs := rfl
@[simp] theorem sview_tup (xs : List W) (st : Store) : sview (.tup xs) st = some xs := rfl
@[simp] theorem lview_cell (n : Nat) (st : Store) : lview (.cell n) st = lcell st n := rfl
@[simp] theorem lview_fz (xs : List W) (st : Store) : lview (.fz xs) st = some xs := rfl
@[simp] theorem lview_lst (xs : List W) (st : Store) : lview (.lst xs) st = some xs := rfl
@[simp] theorem lviewT_cell (n : Nat) (st : Store) : lviewT (.cell n) st = lcell st n := rfl
@[simp] theorem lviewT_lst (xs : List W) (st : Store) : lviewT (.lst xs) st = some xs := rfl
theorem lcell_lt {st : Store} {n : Nat} {xs : List W} (h : lcell st n = some xs) : n < st.length := (List.getElem?_eq_some_iff.mp (lcell_some h)).1
theorem lcell_set {st : Store} {n : Nat} {xs : List W} (h : n < st.length) : lcell (st.set n (.lst xs)) n = some xs := by
  unfold lcell
  rw [List.getElem?_set_self h]
theorem lcell_set_ne {st : Store} {n k : Nat} {c : C} (h : n ≠ k) : lcell (st.set n c) k = lcell st k := by
  unfold lcell
  rw [List.getElem?_set_ne h]
theorem lcell_app {st r : Store} {n : Nat} (h : n < st.length) : lcell (st ++ r) n = lcell st n := by
  unfold lcell
  rw [List.getElem?_append_left h]
theorem lcell_new {st r : Store} {xs : List W} : lcell (st ++ .lst xs :: r) st.length = some xs := by
  unfold lcell
  rw [List.getElem?_append_right (Nat.le_refl _), Nat.sub_self]
  rfl

theorem cm1 (i : Int) : CMul i 48271 := .inr (by decide)
theorem cm2 (i : Int) : CMul i 69621 := .inr (by decide)
theorem cm3 (i : Int) : CMul i 7919 := .inr (by decide)
theorem cm4 (i : Int) : CMul i 16807 := .inr (by decide)
/-! ### the law's state and its draws -/
noncomputable def b_state : S :=
  (sSeq (sSet 1 (dC (.int 0)))
  (sSeq (sSet 2 (dC (.int 0)))
  (sSeq (sIf (dB (dGt (dCallB cLen (dCons (dVar 0) dNil)) (dC (.int 0))))
  (sSeq (sSet 1 (dMod (dCallB cInt (dCons (dOp oIx (dVar 0) (dC (.int 0))) dNil)) (dC (.int 2))))
  (sSet 2 (dOp oIx (dPure (dLst (dCons (dDiv (dCallB cAbs (dCons (dOp oIx (dVar 0) (dC (.int 0))) dNil)) (dC (.int 2))) (dCons (dC (.int 1)) dNil)))) (dVar 1))))
  sNil)
  (sRet (dCell (dLst (dCons (dVar 0) (dCons (dVar 2) (dCons (dC (.int 1)) (dCons (dVar 1) (dCons (dPure (dLst dNil)) (dCons (dC (.int 0)) (dCons (dC (.int 0)) (dCons (dC (.int 0)) dNil))))))))))))))
noncomputable def m_state : List W → M W := dBody 1 3 b_state
noncomputable def b_take : S :=
  (sSeq (sIf (dB (dEq (dOp oIx (dVar 0) (dC (.int 3))) (dC (.int 1))))
  (sSeq (sSet 2 (dOp oIx (dOp oIx (dVar 0) (dC (.int 0))) (dMod (dCallB cInt (dCons (dOp oIx (dVar 0) (dC (.int 2))) dNil)) (dCallB cLen (dCons (dOp oIx (dVar 0) (dC (.int 0))) dNil)))))
  (sSeq (sAsg (gAt (dVar 0) (dC (.int 1))) (dMod (dCallB cInt (dCons (dAdd (dAdd (dAdd (dMul (dOp oIx (dVar 0) (dC (.int 1))) (dC (.int 48271))) (dMul (dVar 2) (dC (.int 69621)))) (dMul (dOp oIx (dVar 0) (dC (.int 2))) (dC (.int 7919)))) (dC (.int 11))) dNil)) (dC (.int 2147483647))))
  (sSeq (sAsg (gAt (dVar 0) (dC (.int 2))) (dAdd (dOp oIx (dVar 0) (dC (.int 2))) (dC (.int 1))))
  (sRet (dMod (dMod (dCallB cInt (dCons (dAdd (dMul (dOp oIx (dVar 0) (dC (.int 1))) (dC (.int 16807))) (dC (.int 5))) dNil)) (dC (.int 2147483629))) (dVar 1))))))
  sNil)
  (sSeq (sIf (dB (dEq (dOp oIx (dVar 0) (dC (.int 1))) (dC (.int 0))))
  (sSeq (sIf (dB (dGe (dOp oIx (dVar 0) (dC (.int 2))) (dCallB cLen (dCons (dOp oIx (dVar 0) (dC (.int 0))) dNil))))
  (sRet (dC (.int 0)))
  sNil)
  (sSeq (sAsg (gAt (dVar 0) (dC (.int 1))) (dCallB cAbs (dCons (dOp oIx (dOp oIx (dVar 0) (dC (.int 0))) (dOp oIx (dVar 0) (dC (.int 2)))) dNil)))
  (sAsg (gAt (dVar 0) (dC (.int 2))) (dAdd (dOp oIx (dVar 0) (dC (.int 2))) (dC (.int 1))))))
  sNil)
  (sSeq (sSet 3 (dMod (dCallB cInt (dCons (dOp oIx (dVar 0) (dC (.int 1))) dNil)) (dVar 1)))
  (sSeq (sAsg (gAt (dVar 0) (dC (.int 1))) (dDiv (dOp oIx (dVar 0) (dC (.int 1))) (dVar 1)))
  (sRet (dVar 3))))))
noncomputable def m_take : List W → M W := dBody 2 4 b_take

def stL (ns : List Int) (rest pos mixed : Int) : List W := [.fz (ns.map W.int), .int rest, .int pos, .int mixed, .lst [], .int 0, .int 0, .int 0]
/-- the cell holds a state of the script -/
def StOk (ns : List Int) (st : Store) (n : Nat) : Prop := ∃ rest pos mixed, lcell st n = some (stL ns rest pos mixed) ∧ 0 ≤ rest ∧ 1 ≤ pos ∧ ((mixed = 1 ∧ ns ≠ []) ∨ mixed = 0)
theorem StOk.lt {ns : List Int} {st : Store} {n : Nat} (h : StOk ns st n) : n < st.length := let ⟨_, _, _, h, _⟩ := h; lcell_lt h
section
variable {ns : List Int} {rest pos mixed : Int} {st : Store} {n : Nat}
theorem st_0 (h : lcell st n = some (stL ns rest pos mixed)) : oIx (.cell n) (.int 0) st = .ok (.fz (ns.map W.int)) st := ix_at h (by decide) rfl
theorem st_1 (h : lcell st n = some (stL ns rest pos mixed)) : oIx (.cell n) (.int 1) st = .ok (.int rest) st := ix_at h (by decide) rfl
theorem st_2 (h : lcell st n = some (stL ns rest pos mixed)) : oIx (.cell n) (.int 2) st = .ok (.int pos) st := ix_at h (by decide) rfl
theorem st_3 (h : lcell st n = some (stL ns rest pos mixed)) : oIx (.cell n) (.int 3) st = .ok (.int mixed) st := ix_at h (by decide) rfl
theorem gAt_at {o ix : Env → M W} {w : W} {env : Env} {st st1 st2 : Store} {n j : Nat} {xs : List W} {k : Int} (ho : o env st = .ok (.cell n) st1) (hi : ix env st1 = .ok (.int k) st2) (hl : lcell st2 n = some xs) (hk : ixN xs.length k = some j) :
    gAt o ix w env st = .ok env (st2.set n (.lst (xs.set j w))) := by
  unfold gAt
  rw [ho]
  simp only [Out.bind_ok, hi, hl, hk]
theorem put_1 {env : Env} {r : Int} (h : lcell st n = some (stL ns rest pos mixed)) : gAt (dVar 0) (dC (.int 1)) (.int r) (some (.cell n) :: env) st = .ok (some (.cell n) :: env) (st.set n (.lst (stL ns r pos mixed))) := gAt_at (j := 1) rfl rfl h rfl
theorem put_2 {env : Env} {r : Int} (h : lcell st n = some (stL ns rest pos mixed)) : gAt (dVar 0) (dC (.int 2)) (.int r) (some (.cell n) :: env) st = .ok (some (.cell n) :: env) (st.set n (.lst (stL ns rest r mixed))) := gAt_at (j := 2) rfl rfl h rfl
theorem take_mixed {k : Int} (h : lcell st n = some (stL ns rest pos 1)) (hn : ns ≠ []) (hp : 1 ≤ pos) (hk : 0 < k) :
    ∃ v st', m_take [.cell n, .int k] st = .ok (.int v) st' ∧ 0 ≤ v ∧ v < k ∧ StOk ns st' n ∧ ∃ c, st' = st.set n c := by
  have hl : 0 < ns.length := List.length_pos_iff.mpr hn
  have hj : (pos % (ns.length : Int)).toNat < ns.length := by
    have h1 := Int.emod_nonneg pos (show (ns.length : Int) ≠ 0 by omega)
    have h2 := Int.emod_lt_of_pos pos (show (0 : Int) < ns.length by omega)
    omega
  have hl2 : cLen [.fz (ns.map W.int)] st = .ok (.int ns.length) st := by
    rw [cLen_at (w := .fz (ns.map W.int)) rfl, List.length_map]
  have hc : oIx (.fz (ns.map W.int)) (.int (pos % (ns.length : Int))) st = .ok (.int (ns[(pos % (ns.length : Int)).toNat]'hj)) st := by
    refine ix_at (xs := ns.map W.int) rfl (Int.emod_nonneg _ (by omega)) ?_
    rw [List.getElem?_map, List.getElem?_eq_getElem hj]
    rfl
  have lt := lcell_lt h
  have lt2 : ∀ c, n < (st.set n c).length := fun c => by rw [List.length_set]; exact lt
  have h4 : ∀ r p m, lcell (st.set n (.lst (stL ns r p m))) n = some (stL ns r p m) := fun r p m => lcell_set lt
  have hl' : (0 : Int) < ns.length := by omega
  generalize hcell : ns[(pos % (ns.length : Int)).toNat]'hj = cell at hc
  have e : m_take [.cell n, .int k] st = .ok (.int (((rest * 48271 + cell * 69621 + pos * 7919 + 11) % 2147483647 * 16807 + 5) % 2147483629 % k))
      ((st.set n (.lst (stL ns ((rest * 48271 + cell * 69621 + pos * 7919 + 11) % 2147483647) pos 1))).set n (.lst (stL ns ((rest * 48271 + cell * 69621 + pos * 7919 + 11) % 2147483647) (pos + 1) 1))) := by
    simp [m_take, dBody, b_take, sSeq, sIf, dB, dOp, st_3 h, sSet, dCallB, dCons, st_0 h, st_2 h, hl2, oIC_at, hl', hc, Out.bindS, sAsg, st_1 h, put_1 h, Out.nox, st_2 (h4 _ _ _), put_2 (h4 _ _ _), sRet, st_1 (h4 _ _ _), hk, hl, hn, cm1, cm2, cm3, cm4, dCallB]
  exact ⟨_, _, e, Int.emod_nonneg _ (by omega), Int.emod_lt_of_pos _ hk, ⟨_, _, _, lcell_set (lt2 _), Int.emod_nonneg _ (by decide), by omega, .inl ⟨rfl, hn⟩⟩, _, List.set_set ..⟩
theorem take_plain {k : Int} (h : lcell st n = some (stL ns rest pos 0)) (hr : 0 ≤ rest) (hp : 1 ≤ pos) (hk : 0 < k) (hk2 : k < 1073741824) :
    ∃ v st', m_take [.cell n, .int k] st = .ok (.int v) st' ∧ 0 ≤ v ∧ v < k ∧ StOk ns st' n ∧ ∃ c, st' = st.set n c := by
  have lt := lcell_lt h
  have lt2 : ∀ c, n < (st.set n c).length := fun c => by rw [List.length_set]; exact lt
  have hl2 : cLen [.fz (ns.map W.int)] st = .ok (.int ns.length) st := by
    rw [cLen_at (w := .fz (ns.map W.int)) rfl, List.length_map]
  have hcd : CDiv rest k := ⟨hk, hk2⟩
  by_cases hz : rest = 0
  · subst hz
    by_cases hpl : (ns.length : Int) ≤ pos
    · have e : m_take [.cell n, .int k] st = .ok (.int 0) st := by
        simp [m_take, dBody, b_take, sSeq, sIf, dB, dOp, st_3 h, dCallB, dCons, st_0 h, st_1 h, st_2 h, hl2, Out.bindS, sRet, hpl, sNil]
      refine ⟨0, st, e, by omega, hk, ⟨_, _, _, h, by omega, hp, .inr rfl⟩, st[n]'lt, ?_⟩
      rw [List.set_getElem_self]
    · have hj : pos.toNat < ns.length := by omega
      have hc : oIx (.fz (ns.map W.int)) (.int pos) st = .ok (.int (ns[pos.toNat]'hj)) st := by
        refine ix_at (xs := ns.map W.int) rfl (by omega) ?_
        rw [List.getElem?_map, List.getElem?_eq_getElem hj]
        rfl
      generalize ns[pos.toNat]'hj = cell at hc
      generalize hb : (if cell < 0 then -cell else cell) = b
      have hb0 : 0 ≤ b := by
        rw [← hb]
        split <;> omega
      have h4 : ∀ r p m, lcell (st.set n (.lst (stL ns r p m))) n = some (stL ns r p m) := fun r p m => lcell_set lt
      have hcd2 : CDiv b k := ⟨hk, hk2⟩
      have e : m_take [.cell n, .int k] st = .ok (.int (b % k)) (((st.set n (.lst (stL ns b pos 0))).set n (.lst (stL ns b (pos + 1) 0))).set n (.lst (stL ns (b / k) (pos + 1) 0))) := by
        simp [m_take, dBody, b_take, sSeq, sIf, dB, dOp, st_3 h, dCallB, dCons, st_0 h, st_1 h, st_2 h, hl2, Out.bindS, sRet, hpl, sNil, hc, hb, sAsg, put_1 h, Out.nox, st_2 (h4 _ _ _), put_2 (h4 _ _ _), sSet, st_1 (h4 _ _ _), oIC_at, hk, hcd2, put_1 (h4 _ _ _)]
      refine ⟨_, _, e, Int.emod_nonneg _ (by omega), Int.emod_lt_of_pos _ hk, ⟨_, _, _, lcell_set (by simp only [List.length_set]; exact lt), Int.ediv_nonneg hb0 (by omega), by omega, .inr rfl⟩, .lst (stL ns (b / k) (pos + 1) 0), ?_⟩
      rw [List.set_set, List.set_set]
  · have e : m_take [.cell n, .int k] st = .ok (.int (rest % k)) (st.set n (.lst (stL ns (rest / k) pos 0))) := by
      simp [m_take, dBody, b_take, sSeq, sIf, dB, dOp, st_3 h, dCallB, dCons, st_1 h, Out.bindS, sRet, sNil, hz, sAsg, put_1 h, Out.nox, sSet, oIC_at, hk, hcd]
    exact ⟨_, _, e, Int.emod_nonneg _ (by omega), Int.emod_lt_of_pos _ hk, ⟨_, _, _, lcell_set lt, Int.ediv_nonneg hr (by omega), hp, .inr rfl⟩, _, rfl⟩
/-- a draw -/
theorem take_ok {k : Int} (h : StOk ns st n) (hk : 0 < k) (hk2 : k < 1073741824) : ∃ v st', m_take [.cell n, .int k] st = .ok (.int v) st' ∧ 0 ≤ v ∧ v < k ∧ StOk ns st' n ∧ ∃ c, st' = st.set n c := by
  obtain ⟨rest, pos, mixed, h, hr, hp, hm⟩ := h
  rcases hm with ⟨rfl, hn⟩ | rfl
  · exact take_mixed h hn hp hk
  · exact take_plain h hr hp hk hk2
/-- the state, made -/
theorem state_ok (ns : List Int) (st : Store) : ∃ c, m_state [.fz (ns.map W.int)] st = .ok (.cell st.length) (st ++ [c]) ∧ StOk ns (st ++ [c]) st.length := by
  have hl2 : cLen [.fz (ns.map W.int)] st = .ok (.int ns.length) st := by
    rw [cLen_at (w := .fz (ns.map W.int)) rfl, List.length_map]
  cases ns with
  | nil =>
    refine ⟨.lst (stL [] 0 1 0), ?_, _, _, _, lcell_new (r := []), by omega, by omega, .inr rfl⟩
    have hs : (8 : Nat) ≤ sizeLine := by decide
    simp [m_state, dBody, b_state, sSeq, sIf, dB, dOp, sSet, dCallB, dCons, Out.bindS, sRet, sNil, dCell, dLst, dPure, cLen, hs, stL]
  | cons a ns =>
    have h0 : oIx (.fz ((a :: ns).map W.int)) (.int 0) st = .ok (.int a) st := ix_at rfl (by decide) rfl
    have hs : (8 : Nat) ≤ sizeLine := by decide
    have hs2 : (2 : Nat) ≤ sizeLine := by decide
    generalize hb : (if a < 0 then -a else a) = b
    have hb0 : 0 ≤ b := by
      rw [← hb]
      split <;> omega
    have hm : a % 2 = 0 ∨ a % 2 = 1 := by omega
    have hpos : (0 : Int) < (ns.length : Int) + 1 := by omega
    have hl2 : cLen [.fz (W.int a :: ns.map W.int)] st = .ok (.int ((ns.length : Int) + 1)) st := by
      rw [cLen_at (w := .fz (W.int a :: ns.map W.int)) rfl]
      simp
    have h0 : oIx (.fz (W.int a :: ns.map W.int)) (.int 0) st = .ok (.int a) st := ix_at rfl (by decide) rfl
    have i0 : ∀ x y : W, oIx (.lst [x, y]) (.int 0) st = .ok x st := fun x y => ix_at rfl (by decide) rfl
    have i1 : ∀ x y : W, oIx (.lst [x, y]) (.int 1) st = .ok y st := fun x y => ix_at rfl (by decide) rfl
    rcases hm with hm | hm
    · refine ⟨.lst (stL (a :: ns) (b / 2) 1 0), ?_, _, _, _, lcell_new (r := []), Int.ediv_nonneg hb0 (by decide), by omega, .inr rfl⟩
      simp [m_state, dBody, b_state, sSeq, sIf, dB, dOp, sSet, dCallB, dCons, Out.bindS, sRet, sNil, dCell, dLst, dPure, hl2, hs, hs2, stL, h0, oIC_at, (show CDiv b 2 from ⟨by decide, by decide⟩), hb, hm, i0, i1, hpos]
    · refine ⟨.lst (stL (a :: ns) 1 1 1), ?_, _, _, _, lcell_new (r := []), by omega, by omega, .inl ⟨rfl, by simp⟩⟩
      simp [m_state, dBody, b_state, sSeq, sIf, dB, dOp, sSet, dCallB, dCons, Out.bindS, sRet, sNil, dCell, dLst, dPure, hl2, hs, hs2, stL, h0, oIC_at, (show CDiv b 2 from ⟨by decide, by decide⟩), hb, hm, i0, i1, hpos]
end
end Sh


set_option maxRecDepth 100000
set_option maxHeartbeats 2000000
namespace Sh
open PySem L2 Evl

/-! ### data whose text fits -/
mutual
def okD : W → Bool
  | .non => true
  | .bl _ => true
  | .int i => decide (i.natAbs < 1000000000)
  | .str x => PyData.strOk x
  | .tup xs => okDs xs
  | .lst xs => okDs xs
  | .ftp xs => okDs xs
  | .fz xs => okDs xs
  | .cell _ => false
def okDs : List W → Bool
  | [] => true
  | x :: xs => okD x && okDs xs
end
mutual
def wtD : W → Nat
  | .int _ => 31
  | .str x => x.cps.size
  | .tup xs => wtDs xs
  | .lst xs => wtDs xs
  | .ftp xs => wtDs xs
  | .fz xs => wtDs xs
  | _ => 0
def wtDs : List W → Nat
  | [] => 0
  | x :: xs => wtD x + 1 + wtDs xs
end
mutual
def dpD : W → Nat
  | .tup xs => dpDs xs + 1
  | .lst xs => dpDs xs + 1
  | .ftp xs => dpDs xs + 1
  | .fz xs => dpDs xs + 1
  | _ => 0
def dpDs : List W → Nat
  | [] => 0
  | x :: xs => max (dpD x) (dpDs xs)
end
structure Fit (d : PyData) (w : W) : Prop where
  lay : d.canLay0 = true
  nums : d.intsShort 13 = true
  show_ : d.showable = true
  wt : d.weight ≤ wtD w
  dp : d.depth ≤ dpD w
structure Fits (d : List PyData) (w : List W) : Prop where
  lay : PyData.canLayAll0 d = true
  nums : PyData.intsShortAll 13 d = true
  show_ : PyData.showableAll d = true
  wt : PyData.weightAll d ≤ wtDs w
  dp : PyData.depthAll d ≤ dpDs w
theorem int_short {i : Int} (h : i.natAbs < 1000000000) : (PyData.shown (.int i)).length ≤ 13 := by
  have e := int_text_length_le10 (a := i) (k := 9) (by decide) (by omega)
  show (Str.ofString (toString i)).length ≤ 13
  rw [ofString_length]
  omega
theorem log_le {n k : Nat} (h : n < 2 ^ k) : n.log2 < k ∨ n = 0 := by
  by_cases z : n = 0
  · exact .inr z
  · exact .inl ((Nat.log2_lt z).mpr h)
theorem fit_int {i : Int} (h : i.natAbs < 1000000000) : Fit (.int i) (.int i) := by
  have l := log_le (n := i.natAbs) (k := 30) (by omega)
  refine ⟨rfl, ?_, ?_, ?_, Nat.le_refl _⟩
  · show decide ((PyData.shown (.int i)).length ≤ 13) = true
    exact decide_eq_true (int_short h)
  · show decide (i.natAbs.log2 < 1920) = true
    refine decide_eq_true ?_
    rcases l with l | l
    · omega
    · rw [l]
      decide
  · show (if i == 0 then 0 else i.natAbs.log2 + 1) ≤ 31
    split
    · omega
    · rcases l with l | l
      · omega
      · rw [l]
        decide
mutual
theorem dat_fit : ∀ {w : W}, okD w = true → ∃ d, dat w = some d ∧ Fit d w
  | .non, _ => ⟨_, rfl, rfl, rfl, rfl, Nat.le_refl _, Nat.le_refl _⟩
  | .bl b, _ => ⟨_, rfl, rfl, rfl, rfl, Nat.le_refl _, Nat.le_refl _⟩
  | .int i, h => ⟨_, rfl, fit_int (of_decide_eq_true h)⟩
  | .str x, h => ⟨_, rfl, h, rfl, rfl, Nat.le_refl _, Nat.le_refl _⟩
  | .tup xs, h => by
    obtain ⟨ds, q, f⟩ := dats_fit (ws := xs) h
    exact ⟨.tuple ds, by rw [dat, q]; rfl, f.lay, f.nums, f.show_, f.wt, Nat.succ_le_succ f.dp⟩
  | .ftp xs, h => by
    obtain ⟨ds, q, f⟩ := dats_fit (ws := xs) h
    exact ⟨.tuple ds, by rw [dat, q]; rfl, f.lay, f.nums, f.show_, f.wt, Nat.succ_le_succ f.dp⟩
  | .lst xs, h => by
    obtain ⟨ds, q, f⟩ := dats_fit (ws := xs) h
    exact ⟨.list ds, by rw [dat, q]; rfl, f.lay, f.nums, f.show_, f.wt, Nat.succ_le_succ f.dp⟩
  | .fz xs, h => by
    obtain ⟨ds, q, f⟩ := dats_fit (ws := xs) h
    exact ⟨.list ds, by rw [dat, q]; rfl, f.lay, f.nums, f.show_, f.wt, Nat.succ_le_succ f.dp⟩
  | .cell n, h => absurd h Bool.false_ne_true
theorem dats_fit : ∀ {ws : List W}, okDs ws = true → ∃ ds, dats ws = some ds ∧ Fits ds ws
  | [], _ => ⟨_, rfl, rfl, rfl, rfl, Nat.le_refl _, Nat.le_refl _⟩
  | x :: xs, h => by
    have h : (okD x && okDs xs) = true := h
    rw [Bool.and_eq_true] at h
    obtain ⟨d, q, f⟩ := dat_fit (w := x) h.1
    obtain ⟨ds, q2, f2⟩ := dats_fit (ws := xs) h.2
    refine ⟨d :: ds, by rw [dats, q, q2]; rfl, ?_, ?_, ?_, ?_, ?_⟩
    · show (d.canLay0 && PyData.canLayAll0 ds) = true
      rw [f.lay, f2.lay]; rfl
    · show (d.intsShort 13 && PyData.intsShortAll 13 ds) = true
      rw [f.nums, f2.nums]; rfl
    · show (d.showable && PyData.showableAll ds) = true
      rw [f.show_, f2.show_]; rfl
    · show d.weight + 1 + PyData.weightAll ds ≤ wtD x + 1 + wtDs xs
      have a := f.wt
      have b := f2.wt
      omega
    · show max d.depth (PyData.depthAll ds) ≤ max (dpD x) (dpDs xs)
      have a := f.dp
      have b := f2.dp
      omega
end
theorem shown_line {d : PyData} {w : W} (f : Fit d w) (h : wtD w ≤ 2 ^ 20) (h2 : dpD w ≤ 60) : d.shown.length ≤ sizeLine := by
  have a := f.wt
  have b := f.dp
  have l : PyData.layable0 d = true := by
    show (d.canLay0 && decide (d.depth ≤ 64) && decide (d.weight ≤ 2 ^ 20)) = true
    rw [f.lay, decide_eq_true (show d.depth ≤ 64 by omega), decide_eq_true (show d.weight ≤ 2 ^ 20 by omega)]
    rfl
  have := PyProof.Rows.shown_le13 l f.nums
  rw [sizeLine_eq]
  omega
/-- what repr says of it -/
def shownW (w : W) : Str := match dat w with
  | some d => d.shown
  | none => ""
theorem repr_at {w : W} (st : Store) (h : okD w = true) (hw : wtD w ≤ 2 ^ 20) (hd : dpD w ≤ 60) (hs : (match w with | .lst _ => true | .tup _ => true | _ => false) = true) : cRepr [w] st = .ok (.str (shownW w)) st := by
  obtain ⟨d, q, f⟩ := dat_fit h
  have b := f.dp
  have key : PyProof.Rows.isDisplay d = true ∧ d.showable = true ∧ d.depth ≤ 60 ∧ d.shown.length ≤ sizeLine := by
    refine ⟨?_, f.show_, by omega, shown_line f hw hd⟩
    cases w <;> first
      | (exact absurd hs Bool.false_ne_true)
      | (unfold dat at q; rename_i xs; cases q2 : dats xs with | none => rw [q2] at q; cases q | some ds => rw [q2] at q; cases q; rfl)
  have e : shownW w = d.shown := by
    unfold shownW
    rw [q]
  rw [e]
  cases w with
  | lst xs =>
    have q' : datC (.lst xs) st = some d := q
    unfold cRepr
    simp only [q', key, and_self, if_true]
  | tup xs =>
    have q' : datC (.tup xs) st = some d := q
    unfold cRepr
    simp only [q', key, and_self, if_true]
  | _ => exact absurd hs Bool.false_ne_true
/-! ### data compared -/
theorem deep_of {x y : W} {d e : PyData} {st : Store} (h1 : dat x = some d) (h2 : dat y = some e) (f1 : Fit d x) (f2 : Fit e y) (p1 : dpD x ≤ 60) (p2 : dpD y ≤ 60) (hx : (match x with | .cell _ => false | _ => true) = true) (hy : (match y with | .cell _ => false | _ => true) = true) : eqDeep x y st = some (PyData.eqv d e) := by
  have a := f1.dp
  have b := f2.dp
  have s1 : SeqAt.shaped d = true := by
    show (d.canLay0 && decide (d.depth ≤ 64)) = true
    rw [f1.lay, decide_eq_true (show d.depth ≤ 64 by omega)]
    rfl
  have s2 : SeqAt.shaped e = true := by
    show (e.canLay0 && decide (e.depth ≤ 64)) = true
    rw [f2.lay, decide_eq_true (show e.depth ≤ 64 by omega)]
    rfl
  have c1 : datC x st = some d := by
    cases x <;> first | exact h1 | exact absurd hx Bool.false_ne_true
  have c2 : datC y st = some e := by
    cases y <;> first | exact h2 | exact absurd hy Bool.false_ne_true
  unfold eqDeep
  simp only [c1, c2, s1, s2, and_self, if_true]
mutual
theorem eqv_self : ∀ d : PyData, d.canLay0 = true → PyData.eqv d d = true
  | .none, _ => rfl
  | .bool b, _ => by simp [PyData.eqv]
  | .int i, _ => by simp [PyData.eqv]
  | .str x, _ => by simp [PyData.eqv]
  | .list xs, h => eqvs_self xs h
  | .tuple xs, h => eqvs_self xs h
  | .dict _, h => absurd h Bool.false_ne_true
theorem eqvs_self : ∀ ds : List PyData, PyData.canLayAll0 ds = true → PyData.eqvAll ds ds = true
  | [], _ => rfl
  | x :: xs, h => by
    have h : (x.canLay0 && PyData.canLayAll0 xs) = true := h
    rw [Bool.and_eq_true] at h
    show (PyData.eqv x x && PyData.eqvAll xs xs) = true
    rw [eqv_self x h.1, eqvs_self xs h.2]
    rfl
end
/-- a list is itself -/
theorem eq_self_lst {xs : List W} (st : Store) (h : okDs xs = true) (hd : dpDs xs ≤ 59) : oEq (.lst xs) (.lst xs) st = .ok (.bl true) st := by
  obtain ⟨d, q, f⟩ := dat_fit (w := .lst xs) h
  have e := deep_of (st := st) q q f f (show dpDs xs + 1 ≤ 60 by omega) (show dpDs xs + 1 ≤ 60 by omega) rfl rfl
  rw [eqv_self d f.lay] at e
  unfold oEq eqAny
  simp only [scalW, e]
end Sh


set_option maxRecDepth 100000
set_option maxHeartbeats 2000000
namespace Sh
open PySem L2 Evl

/-! ### one step at a time -/
section
variable {env env1 : Env} {st st1 st2 st3 : Store} {w x y : W} {ws xs : List W} {a b d da db : Env → M W} {ds : Env → M (List W)} {dF eF : Env → M (List W)}
theorem rCons (h : d env st = .ok w st1) (k : ds env st1 = .ok ws st2) : dCons d ds env st = .ok (w :: ws) st2 := by
  unfold dCons
  rw [h, Out.bind_ok, k, Out.bind_ok]
theorem rNil : dNil env st = .ok [] st := rfl
theorem rC : dC w env st = .ok w st := rfl
theorem rV {i : Nat} (h : env[i]? = some (some w)) : dVar i env st = .ok w st := by
  unfold dVar
  rw [h]
theorem rCallB {f : List W → M W} {o : Out W} (h : ds env st = .ok ws st1) (k : f ws st1 = o) : dCallB f ds env st = o := by
  unfold dCallB
  rw [h, Out.bind_ok, k]
theorem rCall {f : List W → M W} (h : ds env st = .ok ws st1) (k : f ws st1 = .ok w st2) : dCall f ds env st = .ok w st2 := by
  unfold dCall
  rw [h, Out.bind_ok, k]
  rfl
theorem rCallF {f : List W → M (List W)} (h : ds env st = .ok ws st1) (k : f ws st1 = .ok xs st2) : dCallF f ds env st = .ok xs st2 := by
  unfold dCallF
  rw [h, Out.bind_ok, k]
theorem rOp {f : W → W → M W} {o : Out W} (h : da env st = .ok x st1) (k : db env st1 = .ok y st2) (j : f x y st2 = o) : dOp f da db env st = o := by
  unfold dOp
  rw [h, Out.bind_ok, k, Out.bind_ok, j]
theorem rOpF {f : W → W → M (List W)} (h : da env st = .ok x st1) (k : db env st1 = .ok y st2) (j : f x y st2 = .ok xs st3) : dOpF f da db env st = .ok xs st3 := by
  unfold dOpF
  rw [h, Out.bind_ok, k, Out.bind_ok, j]
theorem rPure (h : dF env st = .ok xs st1) : dPure dF env st = .ok (.lst xs) st1 := by
  unfold dPure
  rw [h, Out.bind_ok]
theorem rCell (h : dF env st = .ok xs st1) : dCell dF env st = .ok (.cell st1.length) (st1 ++ [.lst xs]) := by
  unfold dCell
  rw [h, Out.bind_ok]
theorem rLst (h : ds env st = .ok ws st1) (l : ws.length ≤ sizeLine) : dLst ds env st = .ok ws st1 := by
  unfold dLst
  rw [h, Out.bind_ok, if_pos l]
theorem rTup (h : ds env st = .ok ws st1) (l : ws.length ≤ sizeLine) : dTup ds env st = .ok (.tup ws) st1 := by
  unfold dTup
  rw [h, Out.bind_ok, if_pos l]
theorem rListR {n : Nat} (h : d env st = .ok (.int (n : Int)) st1) (s : sm (n : Int)) (l : n ≤ 2 ^ 24) : dListR d env st = .ok (rngW 0 n) st1 := by
  unfold dListR
  rw [h, Out.bind_ok]
  have l : (n : Int).toNat ≤ 2 ^ 24 := by rw [Int.toNat_natCast]; exact l
  exact (if_pos ⟨s, l⟩).trans (by rw [Int.toNat_natCast])
theorem rR1 {n : Nat} (h : ds env st = .ok [.int (n : Int)] st1) (s : sm (n : Int)) : iR1 ds env st = .ok ⟨rngW 0 n, fun _ => True⟩ st1 := by
  unfold iR1
  rw [h, Out.bind_ok]
  exact (if_pos s).trans (by rw [Int.toNat_natCast])
theorem rR2 {i j : Int} (h : ds env st = .ok [.int i, .int j] st1) (s : sm i) (t : sm j) : iR2 ds env st = .ok ⟨rngW i (j - i).toNat, fun _ => True⟩ st1 := by
  unfold iR2
  rw [h, Out.bind_ok]
  exact if_pos ⟨s, t⟩
theorem rFor {it : Env → M It'} {i : It'} {g : T} {body : S} {o : SOut} (h : it env st = .ok i st1) (k : forGo i.ok g body i.xs env st1 = o) : sFor it g body env st = o := by
  unfold sFor
  rw [h, Out.bindS_ok, k]
theorem rB {c : Bool} (h : d env st = .ok (.bl c) st1) : dB d env st = .ok c st1 := by
  unfold dB
  rw [h, Out.bind_ok]
  rfl
theorem rNot {t : Env → M Bool} {c : Bool} (h : t env st = .ok c st1) : dNot t env st = .ok (!c) st1 := by
  unfold dNot
  rw [h, Out.bind_ok]
theorem rOrF {t u : Env → M Bool} {c : Bool} (h : t env st = .ok false st1) (k : u env st1 = .ok c st2) : dOr t u env st = .ok c st2 := by
  unfold dOr
  rw [h, Out.bind_ok]
  exact k
theorem rOrT {t u : Env → M Bool} (h : t env st = .ok true st1) : dOr t u env st = .ok true st1 := by
  unfold dOr
  rw [h, Out.bind_ok]
  rfl
theorem rAndT {t u : Env → M Bool} {c : Bool} (h : t env st = .ok true st1) (k : u env st1 = .ok c st2) : dAnd t u env st = .ok c st2 := by
  unfold dAnd
  rw [h, Out.bind_ok]
  exact k
theorem rAndF {t u : Env → M Bool} (h : t env st = .ok false st1) : dAnd t u env st = .ok false st1 := by
  unfold dAnd
  rw [h, Out.bind_ok]
  rfl
theorem rAndVT {o : Out W} (h : da env st = .ok (.bl true) st1) (k : db env st1 = o) : dAndV da db env st = o := by
  unfold dAndV
  rw [h, Out.bind_ok]
  exact k
theorem rOI {g : Int → Int → W} {i j : Int} (h : da env st = .ok (.int i) st1) (k : db env st1 = .ok (.int j) st2) : dOp (oI g) da db env st = .ok (g i j) st2 := rOp h k rfl
theorem rIfT {t : Env → M Bool} {o : Out W} (h : t env st = .ok true st1) (k : da env st1 = o) : dIf t da db env st = o := by
  unfold dIf
  rw [h, Out.bind_ok]
  exact k
theorem rIfF {t : Env → M Bool} {o : Out W} (h : t env st = .ok false st1) (k : db env st1 = o) : dIf t da db env st = o := by
  unfold dIf
  rw [h, Out.bind_ok]
  exact k
theorem rBM {ty : W → Store → Bool} {f : W → List W → M W} {o : Out W} (h : d env st = .ok x st1) (t : ty x st1 = true) (k : ds env st1 = .ok ws st2) (j : f x ws st2 = o) : dBM ty f d ds env st = o := by
  unfold dBM
  rw [h, Out.bind_ok, if_pos t, k, Out.bind_ok, j]
theorem rSome {i : Int} (h : d env st = .ok (.int i) st1) : oSome d env st = .ok (some i) st1 := by
  unfold oSome
  rw [h, Out.bind_ok]
theorem rSl {lo hi : Env → M (Option Int)} {l h : Option Int} (k : d env st = .ok w st) (k1 : lo env st = .ok l st) (k2 : hi env st = .ok h st) (v : lview w st = some xs) : dSl d lo hi env st = .ok (cutW xs l h) st := by
  unfold dSl
  rw [k, Out.bind_ok, k1, Out.bind_ok, k2, Out.bind_ok, v]
theorem rList (h : d env st = .ok (.lst xs) st1) : iL d env st = .ok ⟨xs, fun _ => True⟩ st1 := by
  unfold iL
  rw [h, Out.bind_ok]
theorem tyL_lst : tyL (.lst xs) st = true := rfl
theorem tyL_cell {n : Nat} (h : lcell st n = some xs) : tyL (.cell n) st = true := by
  unfold tyL
  rw [lview_cell, h]
  rfl
/-! statements -/
theorem sDrop_at (h : d env st = .ok w st1) : sDrop d env st = .nx env st1 := by
  unfold sDrop
  rw [h]
  rfl
theorem sAsg_at {g : T} (h : d env st = .ok w st1) (k : g w env st1 = .ok env1 st2) : sAsg g d env st = .nx env1 st2 := by
  unfold sAsg
  rw [h, Out.bindS_ok, k]
  rfl
theorem sSeq_at {s t : S} {o : SOut} (h : s env st = .nx env1 st1) (k : t env1 st1 = o) : sSeq s t env st = o := by
  unfold sSeq
  rw [h]
  exact k
theorem sSeq_rt {s t : S} (h : s env st = .rt w st1) : sSeq s t env st = .rt w st1 := by
  unfold sSeq
  rw [h]
  rfl
theorem sSet_at {i : Nat} (h : d env st = .ok w st1) : sSet i d env st = .nx (env.set i (some w)) st1 := by
  unfold sSet
  rw [h]
  rfl
theorem sIf_t {t : Env → M Bool} {s u : S} {o : SOut} (h : t env st = .ok true st1) (k : s env st1 = o) : sIf t s u env st = o := by
  unfold sIf
  rw [h, Out.bindS_ok]
  exact k
theorem sIf_f {t : Env → M Bool} {s u : S} {o : SOut} (h : t env st = .ok false st1) (k : u env st1 = o) : sIf t s u env st = o := by
  unfold sIf
  rw [h, Out.bindS_ok]
  exact k
theorem sNil_at : sNil env st = .nx env st := rfl
theorem sRet_at (h : d env st = .ok w st1) : sRet d env st = .rt w st1 := by
  unfold sRet
  rw [h]
  rfl
theorem body_rt {n tot : Nat} {s : S} (hl : ws.length = n) (h : s (ws.map some ++ List.replicate (tot - n) none) st = .rt w st1) : dBody n tot s ws st = .ok w st1 := by
  unfold dBody
  rw [if_pos hl, h]
theorem line_ge {k : Nat} (h : k ≤ 1024) : k ≤ sizeLine := Nat.le_trans h (by decide)
theorem sm_lit {i : Int} (h : -4611686018427387904 ≤ i) (h2 : i < 4611686018427387904) : sm i := ⟨h, h2⟩
theorem sm_nat {c : Nat} (h : c ≤ 1000000) : sm (c : Int) := sm_lit (by omega) (by omega)
theorem n24 {c : Nat} (h : c ≤ 1000000) : c ≤ 2 ^ 24 := Nat.le_trans h (by decide)
theorem p63 {i : Int} (h : -9223372036854775808 ≤ i) (h2 : i < 9223372036854775808) : -(2 ^ 63) ≤ i ∧ i < 2 ^ 63 := ⟨h, h2⟩
theorem forGo_nx {ok : Store → Prop} {g : T} {body : S} {env2 : Env} (k : ok st) (h : g w env st = .ok env1 st1) (hb : body env1 st1 = .nx env2 st2) : forGo ok g body (w :: ws) env st = forGo ok g body ws env2 st2 := by
  rw [forGo, if_pos k, h]
  simp only [hb]
theorem forGo_ct {ok : Store → Prop} {g : T} {body : S} {env2 : Env} (k : ok st) (h : g w env st = .ok env1 st1) (hb : body env1 st1 = .ct env2 st2) : forGo ok g body (w :: ws) env st = forGo ok g body ws env2 st2 := by
  rw [forGo, if_pos k, h]
  simp only [hb]
theorem forGo_nil {ok : Store → Prop} {g : T} {body : S} (k : ok st) : forGo ok g body [] env st = .nx env st := by
  rw [forGo, if_pos k]
theorem rLc {it : Env → M It'} {i : It'} {g : T} {tt : Env → M Bool} {te : Env → M W} {vs : List Nat} {o : Out (List W)} (h : it env st = .ok i st1) (k : lcGo i.ok g tt te (wipeW env vs) i.xs [] st1 = o) : dLc it g tt te vs env st = o := by
  unfold dLc
  rw [h, Out.bind_ok, k]
theorem oRep_at {n : Nat} (h : lviewT x st = some xs) (l : xs.length * n ≤ sizeLine) (z : n ≤ 1000000) : oRep x (.int (n : Int)) st = .ok (List.replicate n xs).flatten st := by
  have p := p63 (i := (n : Int)) (by omega) (by omega)
  have q : xs.length * (n : Int).toNat ≤ sizeLine := by
    rw [Int.toNat_natCast]
    exact l
  unfold oRep
  rw [h]
  refine (if_pos ⟨p.1, p.2, q⟩).trans ?_
  rw [Int.toNat_natCast]
end
end Sh


set_option maxRecDepth 100000
set_option maxHeartbeats 4000000
namespace K19
open PySem L2 Evl Sh
def topS (i : Nat) : Stmt := PySem.Challenge.pw_heldloops_k19_weaving.main.body.getD i (.Pass ⟨0, 0, 0, 0⟩)
abbrev S_weave : Stmt := topS 1
abbrev N_weave : List Str := ["order", "heights", "target", "place", "column", "row", "exchanges", "end", "at", "left", "right"]
theorem sc_weave : FnScope N_weave ["order", "heights"] (defScope S_weave) := ⟨rfl, rfl, rfl, by decide +kernel, rfl, by decide +kernel, by decide +kernel⟩
noncomputable def b_weave : S :=
  (sSeq (sSet 2 (dCell (dOpF oRep (dPure (dLst (dCons (dC (.int 0)) dNil))) (dCallB cLen (dCons (dVar 0) dNil)))))
  (sSeq (sFor (iEn (dCons (dVar 0) dNil)) (gTu (gsCons (gN 3) (gsCons (gN 4) gsNil)))
  (sAsg (gAt (dVar 2) (dVar 4)) (dVar 3)))
  (sSeq (sSet 5 (dCell (dListR (dCallB cLen (dCons (dVar 0) dNil)))))
  (sSeq (sSet 6 (dCell (dLst dNil)))
  (sSeq (sFor (iR2 (dCons (dC (.int 1)) (dCons (dCallB cLen (dCons (dVar 5) dNil)) dNil))) (gN 7)
  (sSeq (sSet 8 (dVar 7))
  (sWhile fuel (dAnd (dB (dGt (dVar 8) (dC (.int 0)))) (dB (dGt (dOp oIx (dVar 2) (dOp oIx (dVar 5) (dSub (dVar 8) (dC (.int 1))))) (dOp oIx (dVar 2) (dOp oIx (dVar 5) (dVar 8))))))
  (sSeq (sPar 9 10 (dCons (dOp oIx (dVar 5) (dSub (dVar 8) (dC (.int 1)))) (dCons (dOp oIx (dVar 5) (dVar 8)) dNil)))
  (sSeq (sDrop (dBM tyL mAppend (dVar 6) (dCons (dTup (dCons (dSub (dVar 8) (dC (.int 1))) (dCons (dIf (dB (dGt (dOp oIx (dVar 1) (dVar 9)) (dOp oIx (dVar 1) (dVar 10)))) (dC (.str "left")) (dC (.str "right"))) dNil))) dNil)))
  (sSeq (sAsg (gTu (gsCons (gAt (dVar 5) (dSub (dVar 8) (dC (.int 1)))) (gsCons (gAt (dVar 5) (dVar 8)) gsNil))) (dTup (dCons (dVar 10) (dCons (dVar 9) dNil))))
  (sAug 8 (fun i j => i - j) (dC (.int 1)))))))))
  (sRet (dFz (dVar 6))))))))
noncomputable def m_weave : List W → M W := dBody 2 11 b_weave
abbrev S_state : Stmt := topS 3
abbrev N_state : List Str := ["script", "mixed", "rest"]
theorem sc_state : FnScope N_state ["script"] (defScope S_state) := ⟨rfl, rfl, rfl, by decide +kernel, rfl, by decide +kernel, by decide +kernel⟩
abbrev S_take : Stmt := topS 4
abbrev N_take : List Str := ["state", "many", "cell", "drawn"]
theorem sc_take : FnScope N_take ["state", "many"] (defScope S_take) := ⟨rfl, rfl, rfl, by decide +kernel, rfl, by decide +kernel, by decide +kernel⟩
abbrev S_law : Stmt := topS 5
abbrev N_law : List Str := ["script", "state", "count", "rest", "order", "n", "heights", "before", "exchanges", "row", "crossed", "exchange", "column", "over", "one", "two", "due", "a", "b"]
theorem sc_law : FnScope N_law ["script"] (defScope S_law) := ⟨rfl, rfl, rfl, by decide +kernel, rfl, by decide +kernel, by decide +kernel⟩
noncomputable def b_law : S :=
  (sSeq (sSet 1 (dCall m_state (dCons (dVar 0) dNil)))
  (sSeq (sSet 2 (dCall m_take (dCons (dVar 1) (dCons (dC (.int 10)) dNil))))
  (sSeq (sIf (dB (dEq (dCall m_take (dCons (dVar 1) (dCons (dC (.int 8)) dNil))) (dC (.int 1))))
  (sSet 2 (dAdd (dC (.int 10)) (dCall m_take (dCons (dVar 1) (dCons (dC (.int 7)) dNil)))))
  sNil)
  (sSeq (sSet 3 (dCell (dListR (dVar 2))))
  (sSeq (sSet 4 (dPure (dLc (iR1 (dCons (dVar 2) dNil)) (gN 5) tYesW (dBM tyL mPopAt (dVar 3) (dCons (dCall m_take (dCons (dVar 1) (dCons (dCallB cLen (dCons (dVar 3) dNil)) dNil))) dNil)) [5])))
  (sSeq (sSet 3 (dCell (dListR (dVar 2))))
  (sSeq (sSet 6 (dPure (dLc (iR1 (dCons (dVar 2) dNil)) (gN 5) tYesW (dSub (dMul (dBM tyL mPopAt (dVar 3) (dCons (dCall m_take (dCons (dVar 1) (dCons (dCallB cLen (dCons (dVar 3) dNil)) dNil))) dNil)) (dC (.int 7))) (dC (.int 20))) [5])))
  (sSeq (sSet 7 (dCallB cRepr (dCons (dPure (dLst (dCons (dVar 4) (dCons (dVar 6) dNil)))) dNil)))
  (sSeq (sSet 8 (dCall m_weave (dCons (dVar 4) (dCons (dVar 6) dNil))))
  (sSeq (sSet 9 (dPure (dListR (dVar 2))))
  (sSeq (sSet 10 (dCell (dLst dNil)))
  (sSeq (sIf (dNot (dB (dIs "list" (dVar 8))))
  (sRet (dC (.bl false)))
  sNil)
  (sSeq (sFor (iL (dVar 8)) (gN 11)
  (sSeq (sIf (dOr (dNot (dB (dIs "tuple" (dVar 11)))) (dB (dNe (dCallB cLen (dCons (dVar 11) dNil)) (dC (.int 2)))))
  (sRet (dC (.bl false)))
  sNil)
  (sSeq (sAsg (gTu (gsCons (gN 12) (gsCons (gN 13) gsNil))) (dVar 11))
  (sSeq (sIf (dOr (dB (dLt (dVar 12) (dC (.int 0)))) (dOr (dB (dGe (dAdd (dVar 12) (dC (.int 1))) (dVar 2))) (dB (dNotIn (dVar 13) (dPure (dLst (dCons (dC (.str "left")) (dCons (dC (.str "right")) dNil))))))))
  (sRet (dC (.bl false)))
  sNil)
  (sSeq (sSet 14 (dOp oIx (dVar 9) (dVar 12)))
  (sSeq (sSet 15 (dOp oIx (dVar 9) (dAdd (dVar 12) (dC (.int 1)))))
  (sSeq (sDrop (dBM tyL mAppend (dVar 10) (dCons (dTup (dCons (dCallB cMin2 (dCons (dVar 14) (dCons (dVar 15) dNil))) (dCons (dCallB cMax2 (dCons (dVar 14) (dCons (dVar 15) dNil))) dNil))) dNil)))
  (sSeq (sIf (dB (dNe (dOp oIx (dVar 6) (dOp oIx (dPure (dLst (dCons (dVar 14) (dCons (dVar 15) dNil)))) (dCallB cInt (dCons (dEq (dVar 13) (dC (.str "right"))) dNil)))) (dCallB cMax2 (dCons (dOp oIx (dVar 6) (dVar 14)) (dCons (dOp oIx (dVar 6) (dVar 15)) dNil)))))
  (sRet (dC (.bl false)))
  sNil)
  (sSet 9 (dPure (dOpF oCat (dPure (dOpF oCat (dPure (dSl (dVar 9) oNone (oSome (dVar 12)))) (dPure (dLst (dCons (dVar 15) (dCons (dVar 14) dNil)))))) (dPure (dSl (dVar 9) (oSome (dAdd (dVar 12) (dC (.int 2)))) oNone)))))))))))))
  (sSeq (sSet 16 (dPure (dLst dNil)))
  (sSeq (sFor (iR1 (dCons (dVar 2) dNil)) (gN 17)
  (sSet 16 (dPure (dOpF oCat (dVar 16) (dPure (dLc (iR2 (dCons (dAdd (dVar 17) (dC (.int 1))) (dCons (dVar 2) dNil))) (gN 18) (dB (dGt (dBM tyL mIndex (dVar 4) (dCons (dVar 17) dNil)) (dBM tyL mIndex (dVar 4) (dCons (dVar 18) dNil)))) (dTup (dCons (dVar 17) (dCons (dVar 18) dNil))) [18]))))))
  (sRet (dAndV (dEq (dVar 9) (dVar 4)) (dAndV (dEq (dPure (dCallF cSortedP (dCons (dVar 10) dNil))) (dVar 16)) (dEq (dCallB cRepr (dCons (dPure (dLst (dCons (dVar 4) (dCons (dVar 6) dNil)))) dNil)) (dVar 7))))))))))))))))))))
noncomputable def m_law : List W → M W := dBody 1 19 b_law
section
variable {P : Program} {w : World} {K : PySem.W.Frag} {mg : MG} {base : Heap} {f : Addr} {fd : FuncData}
theorem has_weave (F : Fun K "weave" "weave" S_weave f fd) (g : mg "weave" = some (.ref f)) (b : Binds K fd ["order", "heights"] []) (z_enumerate : mg "enumerate" = none) (z_len : mg "len" = none) (z_list : mg "list" = none) (z_range : mg "range" = none) :
    Has P w K mg base 1 "weave" ["order", "heights"] m_weave :=
  has_mk F g b sc_weave (by decide) fun cdv A outer sh H E hr =>
  (jss_cons (js_set (i := 2) sc_weave.nd rfl (je_cell (jf_rep (je_pure (jf_lst (ja_cons je_int ja_nil))) (je_len (by rfl) z_len (ja_cons (je_var 0) ja_nil)))))
  (jss_cons (js_for PassesOwn.never rfl (ji_enum (by rfl) z_enumerate (ja_cons (je_var 0) ja_nil)) (jg_tup rfl (jgs_cons (jg_name (i := 3) sc_weave.nd rfl) (jgs_cons (jg_name (i := 4) sc_weave.nd rfl) jgs_nil)) (gs_len (gs_len gs_len0)))
  (jss_one (js_asg (je_var 3) (jg_at (je_var 2) (je_var 4)))))
  (jss_cons (js_set (i := 5) sc_weave.nd rfl (je_cell (jf_listR rfl (by rfl) z_list (by rfl) z_range (je_len (by rfl) z_len (ja_cons (je_var 0) ja_nil)))))
  (jss_cons (js_set (i := 6) sc_weave.nd rfl (je_cell (jf_lst ja_nil)))
  (jss_cons (js_for PassesOwn.never rfl (ji_range2 (by rfl) z_range (ja_cons je_int (ja_cons (je_len (by rfl) z_len (ja_cons (je_var 5) ja_nil)) ja_nil))) (jg_name (i := 7) sc_weave.nd rfl)
  (jss_cons (js_set (i := 8) sc_weave.nd rfl (je_var 7))
  (jss_one (js_while PassesOwn.never (jt_w (jw_and (jt_gt (je_var 8) je_int) (jw_and1 (jt_gt (je_at (je_var 2) (je_at (je_var 5) (je_sub (je_var 8) je_int))) (je_at (je_var 2) (je_at (je_var 5) (je_var 8)))))))
  (jss_cons (js_par (i := 9) (j := 10) rfl sc_weave.nd rfl rfl (by decide) rfl rfl (ja_cons (je_at (je_var 5) (je_sub (je_var 8) je_int)) (ja_cons (je_at (je_var 5) (je_var 8)) ja_nil)) (by rfl))
  (jss_cons (js_expr (je_append (je_var 6) (ja_cons (je_tup (ja_cons (je_sub (je_var 8) je_int) (ja_cons (je_if (jt_gt (je_at (je_var 1) (je_var 9)) (je_at (je_var 1) (je_var 10))) je_str je_str) ja_nil))) ja_nil)))
  (jss_cons (js_asg (je_tup (ja_cons (je_var 10) (ja_cons (je_var 9) ja_nil))) (jg_tup rfl (jgs_cons (jg_at (je_var 5) (je_sub (je_var 8) je_int)) (jgs_cons (jg_at (je_var 5) (je_var 8)) jgs_nil)) (gs_len (gs_len gs_len0))))
  (jss_one (js_aug (i := 8) sc_weave.nd rfl je_int ip_sub)))))))))
  (jss_one (js_ret (je_fz (je_var 6)))))))))
theorem has_state (F : Fun K "_law_state" "_law_state" S_state f fd) (g : mg "_law_state" = some (.ref f)) (b : Binds K fd ["script"] []) (z_abs : mg "abs" = none) (z_int : mg "int" = none) (z_len : mg "len" = none) :
    Has P w K mg base 1 "_law_state" ["script"] m_state :=
  has_mk F g b sc_state (by decide) fun cdv A outer sh H E hr =>
  (jss_cons (js_set (i := 1) sc_state.nd rfl je_int)
  (jss_cons (js_set (i := 2) sc_state.nd rfl je_int)
  (jss_cons (js_if (jt_gt (je_len (by rfl) z_len (ja_cons (je_var 0) ja_nil)) je_int)
  (jss_cons (js_set (i := 1) sc_state.nd rfl (je_mod (je_int1 (by rfl) z_int (ja_cons (je_at (je_var 0) je_int) ja_nil)) je_int))
  (jss_one (js_set (i := 2) sc_state.nd rfl (je_at (je_pure (jf_lst (ja_cons (je_fdiv (je_abs (by rfl) z_abs (ja_cons (je_at (je_var 0) je_int) ja_nil)) je_int) (ja_cons je_int ja_nil)))) (je_var 1)))))
  jss_nil)
  (jss_one (js_ret (je_cell (jf_lst (ja_cons (je_var 0) (ja_cons (je_var 2) (ja_cons je_int (ja_cons (je_var 1) (ja_cons (je_pure (jf_lst ja_nil)) (ja_cons je_int (ja_cons je_int (ja_cons je_int ja_nil)))))))))))))))
theorem has_take (F : Fun K "_law_take" "_law_take" S_take f fd) (g : mg "_law_take" = some (.ref f)) (b : Binds K fd ["state", "many"] []) (z_abs : mg "abs" = none) (z_int : mg "int" = none) (z_len : mg "len" = none) :
    Has P w K mg base 1 "_law_take" ["state", "many"] m_take :=
  has_mk F g b sc_take (by decide) fun cdv A outer sh H E hr =>
  (jss_cons (js_if (jt_eq hr.units (je_at (je_var 0) je_int) je_int)
  (jss_cons (js_set (i := 2) sc_take.nd rfl (je_at (je_at (je_var 0) je_int) (je_mod (je_int1 (by rfl) z_int (ja_cons (je_at (je_var 0) je_int) ja_nil)) (je_len (by rfl) z_len (ja_cons (je_at (je_var 0) je_int) ja_nil)))))
  (jss_cons (js_asg (je_mod (je_int1 (by rfl) z_int (ja_cons (je_add (je_add (je_add (je_mul (je_at (je_var 0) je_int) je_int) (je_mul (je_var 2) je_int)) (je_mul (je_at (je_var 0) je_int) je_int)) je_int) ja_nil)) je_int) (jg_at (je_var 0) je_int))
  (jss_cons (js_asg (je_add (je_at (je_var 0) je_int) je_int) (jg_at (je_var 0) je_int))
  (jss_one (js_ret (je_mod (je_mod (je_int1 (by rfl) z_int (ja_cons (je_add (je_mul (je_at (je_var 0) je_int) je_int) je_int) ja_nil)) je_int) (je_var 1)))))))
  jss_nil)
  (jss_cons (js_if (jt_eq hr.units (je_at (je_var 0) je_int) je_int)
  (jss_cons (js_if (jt_ge (je_at (je_var 0) je_int) (je_len (by rfl) z_len (ja_cons (je_at (je_var 0) je_int) ja_nil)))
  (jss_one (js_ret je_int))
  jss_nil)
  (jss_cons (js_asg (je_abs (by rfl) z_abs (ja_cons (je_at (je_at (je_var 0) je_int) (je_at (je_var 0) je_int)) ja_nil)) (jg_at (je_var 0) je_int))
  (jss_one (js_asg (je_add (je_at (je_var 0) je_int) je_int) (jg_at (je_var 0) je_int)))))
  jss_nil)
  (jss_cons (js_set (i := 3) sc_take.nd rfl (je_mod (je_int1 (by rfl) z_int (ja_cons (je_at (je_var 0) je_int) ja_nil)) (je_var 1)))
  (jss_cons (js_asg (je_fdiv (je_at (je_var 0) je_int) (je_var 1)) (jg_at (je_var 0) je_int))
  (jss_one (js_ret (je_var 3)))))))
theorem run_law (F : Fun K "law" "law" S_law f fd) (h_weave : Has P w K mg base 1 "weave" ["order", "heights"] m_weave) (h_state : Has P w K mg base 1 "_law_state" ["script"] m_state) (h_take : Has P w K mg base 1 "_law_take" ["state", "many"] m_take) (z_int : mg "int" = none) (z_isinstance : mg "isinstance" = none) (z_len : mg "len" = none) (z_list : mg "list" = none) (z_max : mg "max" = none) (z_min : mg "min" = none) (z_range : mg "range" = none) (z_repr : mg "repr" = none) (z_sorted : mg "sorted" = none) (z_tuple : mg "tuple" = none) :
    RunAt callerA P w K mg base f fd ["script"] (spM K mg m_law) :=
  fn_at (k := 1) F sc_law (by decide) ⟨rfl, by decide, by decide⟩ fun cdv outer sh H hr =>
  (jss_cons (js_set (i := 1) sc_law.nd rfl (je_def h_state hr (ja_cons (je_var 0) ja_nil)))
  (jss_cons (js_set (i := 2) sc_law.nd rfl (je_def h_take hr (ja_cons (je_var 1) (ja_cons je_int ja_nil))))
  (jss_cons (js_if (jt_eq hr.units (je_def h_take hr (ja_cons (je_var 1) (ja_cons je_int ja_nil))) je_int)
  (jss_one (js_set (i := 2) sc_law.nd rfl (je_add je_int (je_def h_take hr (ja_cons (je_var 1) (ja_cons je_int ja_nil))))))
  jss_nil)
  (jss_cons (js_set (i := 3) sc_law.nd rfl (je_cell (jf_listR rfl (by rfl) z_list (by rfl) z_range (je_var 2))))
  (jss_cons (js_set (i := 4) sc_law.nd rfl (je_pure (jf_lc (own := [("n", 5)]) rfl sc_law.nd (ji_range1 (by rfl) z_range (ja_cons (je_var 2) ja_nil)) (blkOk_by (own := [("n", 5)]) (N := N_law) (sc := defScope S_law) (by decide +kernel)) (fun _ _ _ _ _ => (jg_name (i := 5) sc_law.nd rfl)) (fun _ _ _ _ _ => jts_nil) (fun _ _ _ _ _ => (je_popAt (je_var 3) (ja_cons (je_def h_take hr (ja_cons (je_var 1) (ja_cons (je_len (by rfl) z_len (ja_cons (je_var 3) ja_nil)) ja_nil))) ja_nil))))))
  (jss_cons (js_set (i := 3) sc_law.nd rfl (je_cell (jf_listR rfl (by rfl) z_list (by rfl) z_range (je_var 2))))
  (jss_cons (js_setLc (own := [("n", 5)]) (i := 6) (f := dPure) (fun d σ H Q h => pure_read h) rfl sc_law.nd rfl rfl (sw_true rfl rfl rfl (by decide +kernel)) (ji_range1 (by rfl) z_range (ja_cons (je_var 2) ja_nil)) (blkOk_by (own := [("n", 5)]) (N := N_law) (sc := defScope S_law) (by decide +kernel)) (fun _ _ _ _ _ => (jg_name (i := 5) sc_law.nd rfl)) (fun _ _ _ _ _ => jts_nil) (fun _ _ _ _ _ => (je_sub (je_mul (je_popAt (je_var 3) (ja_cons (je_def h_take hr (ja_cons (je_var 1) (ja_cons (je_len (by rfl) z_len (ja_cons (je_var 3) ja_nil)) ja_nil))) ja_nil)) je_int) je_int)))
  (jss_cons (js_set (i := 7) sc_law.nd rfl (je_repr rfl hr.units (by rfl) z_repr (ja_cons (je_pure (jf_lst (ja_cons (je_var 4) (ja_cons (je_var 6) ja_nil)))) ja_nil)))
  (jss_cons (js_set (i := 8) sc_law.nd rfl (je_def h_weave hr (ja_cons (je_var 4) (ja_cons (je_var 6) ja_nil))))
  (jss_cons (js_set (i := 9) sc_law.nd rfl (je_pure (jf_listR rfl (by rfl) z_list (by rfl) z_range (je_var 2))))
  (jss_cons (js_set (i := 10) sc_law.nd rfl (je_cell (jf_lst ja_nil)))
  (jss_cons (js_if (jt_not (jt_val (je_is (by rfl) z_isinstance (by rfl) z_list (by decide +kernel) (je_var 8) (kit_ty (by decide +kernel)) (kit_ty (by decide +kernel)))))
  (jss_one (js_ret je_bl))
  jss_nil)
  (jss_cons (js_for PassesOwn.never rfl (ji_list (je_var 8)) (jg_name (i := 11) sc_law.nd rfl)
  (jss_cons (js_if (jt_w (jw_or (jt_not (jt_val (je_is (by rfl) z_isinstance (by rfl) z_tuple (by decide +kernel) (je_var 11) (kit_ty (by decide +kernel)) (kit_ty (by decide +kernel))))) (jw_or1 (jt_ne hr.units (je_len (by rfl) z_len (ja_cons (je_var 11) ja_nil)) je_int))))
  (jss_one (js_ret je_bl))
  jss_nil)
  (jss_cons (js_asg (je_var 11) (jg_tup rfl (jgs_cons (jg_name (i := 12) sc_law.nd rfl) (jgs_cons (jg_name (i := 13) sc_law.nd rfl) jgs_nil)) (gs_len (gs_len gs_len0))))
  (jss_cons (js_if (jt_w (jw_or (jt_lt (je_var 12) je_int) (jw_or (jt_ge (je_add (je_var 12) je_int) (je_var 2)) (jw_or1 (jt_notIn (je_var 13) (je_pure (jf_lst (ja_cons je_str (ja_cons je_str ja_nil)))))))))
  (jss_one (js_ret je_bl))
  jss_nil)
  (jss_cons (js_set (i := 14) sc_law.nd rfl (je_at (je_var 9) (je_var 12)))
  (jss_cons (js_set (i := 15) sc_law.nd rfl (je_at (je_var 9) (je_add (je_var 12) je_int)))
  (jss_cons (js_expr (je_append (je_var 10) (ja_cons (je_tup (ja_cons (je_min2 rfl (by rfl) z_min (ja_cons (je_var 14) (ja_cons (je_var 15) ja_nil))) (ja_cons (je_max2 rfl (by rfl) z_max (ja_cons (je_var 14) (ja_cons (je_var 15) ja_nil))) ja_nil))) ja_nil)))
  (jss_cons (js_if (jt_ne hr.units (je_at (je_var 6) (je_at (je_pure (jf_lst (ja_cons (je_var 14) (ja_cons (je_var 15) ja_nil)))) (je_int1 (by rfl) z_int (ja_cons (je_eq hr.units (je_var 13) je_str) ja_nil)))) (je_max2 rfl (by rfl) z_max (ja_cons (je_at (je_var 6) (je_var 14)) (ja_cons (je_at (je_var 6) (je_var 15)) ja_nil))))
  (jss_one (js_ret je_bl))
  jss_nil)
  (jss_one (js_set (i := 9) sc_law.nd rfl (je_pure (jf_cat (je_pure (jf_cat (je_pure (jf_slice (je_var 9) jo_none (jo_some (je_var 12)))) (je_pure (jf_lst (ja_cons (je_var 15) (ja_cons (je_var 14) ja_nil)))))) (je_pure (jf_slice (je_var 9) (jo_some (je_add (je_var 12) je_int)) jo_none))))))))))))))
  (jss_cons (js_set (i := 16) sc_law.nd rfl (je_pure (jf_lst ja_nil)))
  (jss_cons (js_for PassesOwn.never rfl (ji_range1 (by rfl) z_range (ja_cons (je_var 2) ja_nil)) (jg_name (i := 17) sc_law.nd rfl)
  (jss_one (js_set (i := 16) sc_law.nd rfl (je_pure (jf_cat (je_var 16) (je_pure (jf_lc (own := [("b", 18)]) rfl sc_law.nd (ji_range2 (by rfl) z_range (ja_cons (je_add (je_var 17) je_int) (ja_cons (je_var 2) ja_nil))) (blkOk_by (own := [("b", 18)]) (N := N_law) (sc := defScope S_law) (by decide +kernel)) (fun _ _ _ _ _ => (jg_name (i := 18) sc_law.nd rfl)) (fun _ _ _ _ _ => (jts_one (jt_gt (je_index (je_var 4) (ja_cons (je_var 17) ja_nil)) (je_index (je_var 4) (ja_cons (je_var 18) ja_nil))))) (fun _ _ _ _ _ => (je_tup (ja_cons (je_var 17) (ja_cons (je_var 18) ja_nil)))))))))))
  (jss_one (js_ret (je_and (je_eq hr.units (je_var 9) (je_var 4)) (je_and (je_eq hr.units (je_pure (jf_sortedP (by rfl) z_sorted (ja_cons (je_var 10) ja_nil))) (je_var 16)) (je_one (je_eq hr.units (je_repr rfl hr.units (by rfl) z_repr (ja_cons (je_pure (jf_lst (ja_cons (je_var 4) (ja_cons (je_var 6) ja_nil)))) ja_nil)) (je_var 7))))))))))))))))))))))
end
end K19


set_option maxHeartbeats 2000000
namespace K19

/-! ### the mathematics of weaving -/
/-- the pairs that stand against their order -/
def invs : List Nat → List (Nat × Nat)
  | [] => []
  | x :: xs => ((xs.filter fun y => decide (y < x)).map fun y => (y, x)) ++ invs xs
theorem invs_swap {l r : Nat} (h : l < r) (B : List Nat) : ∀ A : List Nat, (invs (A ++ r :: l :: B)).Perm ((l, r) :: invs (A ++ l :: r :: B))
  | [] => by
    have h2 : ¬ r < l := by omega
    show ((((l :: B).filter fun y => decide (y < r)).map fun y => (y, r)) ++ (((B.filter fun y => decide (y < l)).map fun y => (y, l)) ++ invs B)).Perm
      ((l, r) :: ((((r :: B).filter fun y => decide (y < l)).map fun y => (y, l)) ++ (((B.filter fun y => decide (y < r)).map fun y => (y, r)) ++ invs B)))
    rw [List.filter_cons, List.filter_cons, if_pos (decide_eq_true h), if_neg (by simpa using h2), List.map_cons, List.cons_append]
    refine List.Perm.cons _ ?_
    rw [← List.append_assoc, ← List.append_assoc]
    exact List.Perm.append_right _ List.perm_append_comm
  | a :: A => by
    have ih := invs_swap h B A
    show ((((A ++ r :: l :: B).filter fun y => decide (y < a)).map fun y => (y, a)) ++ invs (A ++ r :: l :: B)).Perm
      ((l, r) :: ((((A ++ l :: r :: B).filter fun y => decide (y < a)).map fun y => (y, a)) ++ invs (A ++ l :: r :: B)))
    have p : (A ++ r :: l :: B).Perm (A ++ l :: r :: B) := List.Perm.append_left A (List.Perm.swap l r B)
    refine (List.Perm.append ((p.filter _).map _) ih).trans ?_
    exact List.perm_middle
/-- exchanges done on a row: what they cross, and the row behind -/
inductive Play (h : Nat → Int) : List Nat → List (Nat × Bool) → List (Nat × Nat) → List Nat → Prop
  | nil (row : List Nat) : Play h row [] [] row
  | cons (A : List Nat) (l r : Nat) (B : List Nat) {ex : List (Nat × Bool)} {cr : List (Nat × Nat)} {row' : List Nat} (p : Play h (A ++ r :: l :: B) ex cr row') :
      Play h (A ++ l :: r :: B) ((A.length, decide (h r < h l)) :: ex) ((min l r, max l r) :: cr) row'
theorem Play.snoc {h : Nat → Int} {row row1 : List Nat} {ex : List (Nat × Bool)} {cr : List (Nat × Nat)} (p : Play h row ex cr row1) : ∀ {A : List Nat} {l r : Nat} {B : List Nat}, row1 = A ++ l :: r :: B →
    Play h row (ex ++ [(A.length, decide (h r < h l))]) (cr ++ [(min l r, max l r)]) (A ++ r :: l :: B) := by
  induction p with
  | nil row =>
    intro A l r B e
    subst e
    exact .cons A l r B (.nil _)
  | cons A l r B p ih =>
    intro A' l' r' B' e
    exact .cons A l r B (ih e)
structure Inv (c : Nat) (t h : Nat → Int) (row : List Nat) (ex : List (Nat × Bool)) (cr : List (Nat × Nat)) : Prop where
  play : Play h (List.range c) ex cr row
  perm : row.Perm (List.range c)
  ord : row.Pairwise fun a b => a < b ∨ t a < t b
  cross : cr.Perm (invs row)
theorem Inv.start (c : Nat) (t h : Nat → Int) : Inv c t h (List.range c) [] [] := by
  refine ⟨.nil _, List.Perm.refl _, List.pairwise_lt_range.imp fun h => .inl h, ?_⟩
  have : ∀ l : List Nat, l.Pairwise (· < ·) → invs l = [] := by
    intro l
    induction l with
    | nil => intro _; rfl
    | cons x l ih =>
      intro p
      obtain ⟨p1, p2⟩ := List.pairwise_cons.mp p
      show ((l.filter fun y => decide (y < x)).map fun y => (y, x)) ++ invs l = []
      rw [ih p2, List.filter_eq_nil_iff.mpr fun y hy => by have := p1 y hy; simp; omega]
      rfl
  rw [this _ List.pairwise_lt_range]
theorem Inv.step {c : Nat} {t h : Nat → Int} {A : List Nat} {l r : Nat} {B : List Nat} {ex : List (Nat × Bool)} {cr : List (Nat × Nat)} (i : Inv c t h (A ++ l :: r :: B) ex cr) (ht : t r < t l) :
    Inv c t h (A ++ r :: l :: B) (ex ++ [(A.length, decide (h r < h l))]) (cr ++ [(min l r, max l r)]) := by
  have o := i.ord
  rw [List.pairwise_append, List.pairwise_cons, List.pairwise_cons] at o
  obtain ⟨o1, ⟨o2, o3, o4⟩, o5⟩ := o
  have hlr : l < r := by
    rcases o2 r List.mem_cons_self with z | z
    · exact z
    · omega
  have pm : (A ++ r :: l :: B).Perm (A ++ l :: r :: B) := List.Perm.append_left A (List.Perm.swap l r B)
  refine ⟨i.play.snoc rfl, pm.trans i.perm, ?_, ?_⟩
  · rw [List.pairwise_append, List.pairwise_cons, List.pairwise_cons]
    refine ⟨o1, ⟨fun b hb => ?_, fun b hb => o2 b (List.mem_cons_of_mem _ hb), o4⟩, fun a ha b hb => o5 a ha b ?_⟩
    · rcases List.mem_cons.mp hb with rfl | hb
      · exact .inr ht
      · exact o3 b hb
    · simp only [List.mem_cons] at hb ⊢
      rcases hb with h | h | h
      · exact .inr (.inl h)
      · exact .inl h
      · exact .inr (.inr h)
  · rw [Nat.min_eq_left (Nat.le_of_lt hlr), Nat.max_eq_right (Nat.le_of_lt hlr)]
    refine List.perm_append_comm.trans ?_
    exact (List.Perm.cons (l, r) i.cross).trans (invs_swap hlr B A).symm
/-- a row sorted by its places is the order -/
theorem row_eq {c : Nat} {t : Nat → Int} {row order : List Nat} (p1 : row.Perm (List.range c)) (p2 : order.Perm (List.range c)) (ht : ∀ (i : Nat) (x : Nat), order[i]? = some x → t x = (i : Int)) (s : row.Pairwise fun a b => t a ≤ t b) : row = order := by
  have so : order.Pairwise fun a b => t a ≤ t b := by
    rw [List.pairwise_iff_getElem]
    intro i j hi hj hij
    rw [ht i _ (List.getElem?_eq_getElem hi), ht j _ (List.getElem?_eq_getElem hj)]
    omega
  refine List.Perm.eq_of_pairwise (fun a b ha hb h1 h2 => ?_) s so (p1.trans p2.symm)
  have ma : a ∈ order := (p1.trans p2.symm).mem_iff.mp ha
  obtain ⟨i, hi⟩ := List.mem_iff_getElem?.mp ma
  obtain ⟨j, hj⟩ := List.mem_iff_getElem?.mp hb
  rw [ht i a hi, ht j b hj] at h1 h2
  have : i = j := by omega
  subst this
  rw [hi] at hj
  cases hj
  rfl
/-- membership among the inversions -/
theorem mem_invs : ∀ {l : List Nat}, l.Nodup → ∀ {a b : Nat}, (a, b) ∈ invs l ↔ a < b ∧ ∃ (i j : Nat), i < j ∧ l[i]? = some b ∧ l[j]? = some a
  | [], _, a, b => by simp [invs]
  | x :: xs, nd, a, b => by
    obtain ⟨n1, n2⟩ := List.nodup_cons.mp nd
    have ih := @mem_invs xs n2 a b
    unfold invs
    rw [List.mem_append, ih, List.mem_map]
    constructor
    · rintro (⟨y, hy, e⟩ | ⟨h1, i, j, h2, h3, h4⟩)
      · cases e
        rw [List.mem_filter] at hy
        obtain ⟨j, hj⟩ := List.mem_iff_getElem?.mp hy.1
        exact ⟨by simpa using hy.2, 0, j + 1, by omega, rfl, by simpa using hj⟩
      · exact ⟨h1, i + 1, j + 1, by omega, by simpa using h3, by simpa using h4⟩
    · rintro ⟨h1, i, j, h2, h3, h4⟩
      cases j with
      | zero => omega
      | succ j =>
        have h4 : xs[j]? = some a := by simpa using h4
        cases i with
        | zero =>
          have e : x = b := by simpa using h3
          subst e
          exact .inl ⟨a, List.mem_filter.mpr ⟨List.mem_of_getElem? h4, by simpa using h1⟩, rfl⟩
        | succ i => exact .inr ⟨h1, i, j, by omega, by simpa using h3, h4⟩
theorem nodup_invs : ∀ {l : List Nat}, l.Nodup → (invs l).Nodup
  | [], _ => List.nodup_nil
  | x :: xs, nd => by
    obtain ⟨n1, n2⟩ := List.nodup_cons.mp nd
    unfold invs
    rw [List.nodup_append]
    refine ⟨?_, nodup_invs n2, ?_⟩
    · refine List.Pairwise.map _ (fun a b h e => h ?_) (n2.sublist List.filter_sublist)
      cases e
      rfl
    · intro p hp q hq e
      subst e
      obtain ⟨y, hy, rfl⟩ := List.mem_map.mp hp
      obtain ⟨_, i, j, _, h3, _⟩ := (mem_invs n2).mp hq
      exact n1 (List.mem_of_getElem? h3)
end K19


set_option maxRecDepth 100000
set_option maxHeartbeats 4000000
namespace K19
open PySem L2 Evl Sh

/-! ### steps -/
theorem seq_run {s t : S} {env env1 : Sh.Env} {st st1 : Store} {o : SOut} (h : s env st = .nx env1 st1) (k : t env1 st1 = o) : sSeq s t env st = o := by
  unfold sSeq
  rw [h]
  exact k
theorem set_run {i : Nat} {d : Sh.Env → M W} {env : Sh.Env} {st st1 : Store} {w : W} (h : d env st = .ok w st1) : sSet i d env st = .nx (env.set i (some w)) st1 := by
  unfold sSet
  rw [h]
  rfl
def wN (x : Nat) : W := .int (x : Int)
theorem rng_wN (n : Nat) : rngW 0 n = (List.range n).map wN := by
  unfold rngW
  refine List.map_congr_left fun i _ => ?_
  rw [Int.zero_add]
  rfl
/-- a cell at a place behind -/
theorem lcell_at {st : Store} {r : Store} {k : Nat} {xs : List W} (h : r[k]? = some (.lst xs)) : lcell (st ++ r) (st.length + k) = some xs := by
  unfold lcell
  rw [List.getElem?_append_right (by omega), Nat.add_sub_cancel_left, h]
theorem set_at {st r : Store} {k : Nat} {c : C} : (st ++ r).set (st.length + k) c = st ++ r.set k c := by
  rw [List.set_append_right _ _ (by omega), Nat.add_sub_cancel_left]
theorem ixN_nat {n j : Nat} (h : j < n) : ixN n ((j : Nat) : Int) = some j := by
  unfold ixN
  rw [if_pos (by omega), if_pos (by omega)]
  simp

/-! ### the places -/
/-- tl tells each column's place -/
def plc (tl : List W) (x : Nat) : Int := match tl[x]? with
  | some (.int i) => i
  | _ => 0
theorem enum_run {L : Nat} {st0 : Store} {hs : W} : ∀ (done rest : List Nat) (tl : List W) (env : Sh.Env) (e3 e4 e5 e6 e7 e8 e9 e10 : Option W), st0.length = L → (done ++ rest).Nodup → (∀ x ∈ done ++ rest, x < tl.length) →
    (∀ (i x : Nat), done[i]? = some x → tl[x]? = some (wN i)) →
    env = [some (.lst ((done ++ rest).map wN)), some hs, some (.cell L), e3, e4, e5, e6, e7, e8, e9, e10] →
    ∃ (tl' : List W) (e3' e4' : Option W), tl'.length = tl.length ∧ (∀ (i x : Nat), (done ++ rest)[i]? = some x → tl'[x]? = some (wN i)) ∧
      forGo (fun _ => True) (gTu (gsCons (gN 3) (gsCons (gN 4) gsNil))) (sAsg (gAt (dVar 2) (dVar 4)) (dVar 3)) (enW done.length (rest.map wN)) env (st0 ++ [.lst tl]) =
        .nx [some (.lst ((done ++ rest).map wN)), some hs, some (.cell L), e3', e4', e5, e6, e7, e8, e9, e10] (st0 ++ [.lst tl'])
  | done, [], tl, env, e3, e4, e5, e6, e7, e8, e9, e10, hL, nd, lt, inv, he => by
    refine ⟨tl, e3, e4, rfl, by rw [List.append_nil]; exact inv, ?_⟩
    subst he
    simp [forGo, enW]
  | done, y :: rest, tl, env, e3, e4, e5, e6, e7, e8, e9, e10, hL, nd, lt, inv, he => by
    have hy : y < tl.length := lt y (by simp)
    have e0 : done ++ y :: rest = (done ++ [y]) ++ rest := by simp
    have ih := enum_run (L := L) (st0 := st0) (hs := hs) (done ++ [y]) rest (tl.set y (wN done.length))
      [some (.lst ((done ++ y :: rest).map wN)), some hs, some (.cell L), some (wN done.length), some (wN y), e5, e6, e7, e8, e9, e10] (some (wN done.length)) (some (wN y)) e5 e6 e7 e8 e9 e10 hL (by rw [← e0]; exact nd)
      (fun x hx => by rw [List.length_set]; exact lt x (by rw [e0]; exact hx)) (fun i x hx => by
        by_cases hi : i < done.length
        · rw [List.getElem?_append_left hi] at hx
          have ne : y ≠ x := by
            intro e
            subst e
            rw [List.nodup_append] at nd
            exact nd.2.2 _ (List.mem_of_getElem? hx) _ List.mem_cons_self rfl
          rw [List.getElem?_set_ne ne]
          exact inv i x hx
        · have hi2 : i = done.length := by
            have := (List.getElem?_eq_some_iff.mp hx).1
            rw [List.length_append, List.length_singleton] at this
            omega
          subst hi2
          rw [List.getElem?_append_right (Nat.le_refl _), Nat.sub_self] at hx
          cases hx
          rw [List.getElem?_set_self hy]) (by rw [e0])
    obtain ⟨tl', e3', e4', h1, h2, h3⟩ := ih
    refine ⟨tl', e3', e4', by rw [h1, List.length_set], by rw [e0]; exact h2, ?_⟩
    have c1 : lcell (st0 ++ [.lst tl]) L = some tl := by
      rw [← hL]
      exact lcell_new
    have c2 : (st0 ++ [C.lst tl]).set L (.lst (tl.set y (wN done.length))) = st0 ++ [.lst (tl.set y (wN done.length))] := by
      rw [← hL, List.set_append_right _ _ (Nat.le_refl _), Nat.sub_self]
      rfl
    have c3 : ixN tl.length ((y : Nat) : Int) = some y := ixN_nat hy
    rw [List.map_cons, enW, forGo, if_pos True.intro]
    subst he
    rw [List.length_append, List.length_singleton] at h3
    have g : (gTu (gsCons (gN 3) (gsCons (gN 4) gsNil))) (.tup [.int (done.length : Int), wN y]) [some (.lst ((done ++ y :: rest).map wN)), some hs, some (.cell L), e3, e4, e5, e6, e7, e8, e9, e10] (st0 ++ [.lst tl]) =
        .ok [some (.lst ((done ++ y :: rest).map wN)), some hs, some (.cell L), some (wN done.length), some (wN y), e5, e6, e7, e8, e9, e10] (st0 ++ [.lst tl]) := rfl
    have b : (sAsg (gAt (dVar 2) (dVar 4)) (dVar 3)) [some (.lst ((done ++ y :: rest).map wN)), some hs, some (.cell L), some (wN done.length), some (wN y), e5, e6, e7, e8, e9, e10] (st0 ++ [.lst tl]) =
        .nx [some (.lst ((done ++ y :: rest).map wN)), some hs, some (.cell L), some (wN done.length), some (wN y), e5, e6, e7, e8, e9, e10] (st0 ++ [.lst (tl.set y (wN done.length))]) := by
      unfold sAsg
      rw [show dVar 3 [some (.lst ((done ++ y :: rest).map wN)), some hs, some (.cell L), some (wN done.length), some (wN y), e5, e6, e7, e8, e9, e10] (st0 ++ [.lst tl]) = .ok (wN done.length) (st0 ++ [.lst tl]) from rfl]
      rw [Out.bindS_ok, gAt_at (n := L) (j := y) (xs := tl) (k := ((y : Nat) : Int)) rfl rfl c1 c3, c2]
      rfl
    rw [g]
    simp only []
    rw [b]
    rw [← e0] at h3
    exact h3

theorem invs_len : ∀ l : List Nat, (invs l).length ≤ l.length * l.length
  | [] => Nat.le_refl _
  | x :: xs => by
    have ih := invs_len xs
    have f := List.length_filter_le (fun y => decide (y < x)) xs
    unfold invs
    rw [List.length_append, List.length_map, List.length_cons, Nat.add_mul, Nat.mul_add]
    omega
theorem Play.len {h : Nat → Int} {row row' : List Nat} {ex : List (Nat × Bool)} {cr : List (Nat × Nat)} (p : Play h row ex cr row') : ex.length = cr.length := by
  induction p with
  | nil => rfl
  | cons A l r B p ih => rw [List.length_cons, List.length_cons, ih]
theorem Inv.len {c : Nat} {t h : Nat → Int} {row : List Nat} {ex : List (Nat × Bool)} {cr : List (Nat × Nat)} (i : Inv c t h row ex cr) : ex.length ≤ c * c := by
  have a := i.play.len
  have b := i.cross.length_eq
  have d := invs_len row
  have e := i.perm.length_eq
  rw [List.length_range] at e
  rw [e] at d
  omega
def exW (e : Nat × Bool) : W := .tup [.int (e.1 : Int), .str (if e.2 = true then "left" else "right")]
/-- the columns' values: a list that tells them all -/
def Tells (c : Nat) (l : List W) (f : Nat → Int) : Prop := ∀ x, x < c → l[x]? = some (.int (f x))
abbrev wCond : Sh.Env → M Bool := dAnd (dB (dGt (dVar 8) (dC (.int 0)))) (dB (dGt (dOp oIx (dVar 2) (dOp oIx (dVar 5) (dSub (dVar 8) (dC (.int 1))))) (dOp oIx (dVar 2) (dOp oIx (dVar 5) (dVar 8)))))
abbrev wBody : S := (sSeq (sPar 9 10 (dCons (dOp oIx (dVar 5) (dSub (dVar 8) (dC (.int 1)))) (dCons (dOp oIx (dVar 5) (dVar 8)) dNil)))
  (sSeq (sDrop (dBM tyL mAppend (dVar 6) (dCons (dTup (dCons (dSub (dVar 8) (dC (.int 1))) (dCons (dIf (dB (dGt (dOp oIx (dVar 1) (dVar 9)) (dOp oIx (dVar 1) (dVar 10)))) (dC (.str "left")) (dC (.str "right"))) dNil))) dNil)))
  (sSeq (sAsg (gTu (gsCons (gAt (dVar 5) (dSub (dVar 8) (dC (.int 1)))) (gsCons (gAt (dVar 5) (dVar 8)) gsNil))) (dTup (dCons (dVar 10) (dCons (dVar 9) dNil))))
  (sAug 8 (fun i j => i - j) (dC (.int 1))))))
abbrev st3 (st0 : Store) (tl r e : List W) : Store := st0 ++ [C.lst tl, C.lst r, C.lst e]
abbrev wEnv (L : Nat) (od : Option W) (hl : List W) (e3 e4 e7 : Option W) (a : Int) (e9 e10 : Option W) : Sh.Env :=
  [od, some (.lst hl), some (.cell L), e3, e4, some (.cell (L + 1)), some (.cell (L + 2)), e7, some (.int a), e9, e10]
section
variable {c : Nat} {st0 : Store} {tl hl : List W} {t h : Nat → Int} {od e3 e4 e7 : Option W}
theorem s_1 (r e : List W) : lcell (st3 st0 tl r e) (st0.length + 1) = some r := lcell_at rfl
theorem s_2 (r e : List W) : lcell (st3 st0 tl r e) (st0.length + 2) = some e := lcell_at rfl
theorem s_0 (r e : List W) : lcell (st3 st0 tl r e) st0.length = some tl := lcell_at (k := 0) rfl
theorem p_1 (r e r' : List W) : (st3 st0 tl r e).set (st0.length + 1) (.lst r') = st3 st0 tl r' e := set_at
theorem p_2 (r e e' : List W) : (st3 st0 tl r e).set (st0.length + 2) (.lst e') = st3 st0 tl r e' := set_at
theorem tell_at {l : List W} {f : Nat → Int} (ht : Tells c l f) {x : Nat} (hx : x < c) {w : W} {st : Store} (hw : sview w st = some l) : oIx w (wN x) st = .ok (.int (f x)) st :=
  ix_at hw (by omega) (by rw [Int.toNat_natCast]; exact ht x hx)
theorem row_0 (A : List Nat) (x : Nat) (B : List Nat) (e : List W) : oIx (.cell (st0.length + 1)) (.int (A.length : Int)) (st3 st0 tl ((A ++ x :: B).map wN) e) = .ok (wN x) (st3 st0 tl ((A ++ x :: B).map wN) e) := by
  refine ix_at (s_1 _ _) (by omega) ?_
  simp
theorem row_1 (A : List Nat) (l x : Nat) (B : List Nat) (e : List W) : oIx (.cell (st0.length + 1)) (.int ((A.length : Int) + 1)) (st3 st0 tl ((A ++ l :: x :: B).map wN) e) = .ok (wN x) (st3 st0 tl ((A ++ l :: x :: B).map wN) e) := by
  refine ix_at (s_1 _ _) (by omega) ?_
  rw [show ((A.length : Int) + 1).toNat = A.length + 1 by omega]
  simp
theorem body_run (hh : Tells c hl h) {A : List Nat} {l x : Nat} {B : List Nat} {exl : List W} {e9 e10 : Option W} (hl' : l < c) (hx : x < c) (hz : exl.length < sizeLine) :
    wBody (wEnv st0.length od hl e3 e4 e7 ((A.length : Int) + 1) e9 e10) (st3 st0 tl ((A ++ l :: x :: B).map wN) exl) =
      .nx (wEnv st0.length od hl e3 e4 e7 (A.length : Int) (some (wN l)) (some (wN x))) (st3 st0 tl ((A ++ x :: l :: B).map wN) (exl ++ [exW (A.length, decide (h x < h l))])) := by
  have hs2 : (2 : Nat) ≤ sizeLine := by decide
  refine seq_run (env1 := wEnv st0.length od hl e3 e4 e7 ((A.length : Int) + 1) (some (wN l)) (some (wN x))) (st1 := st3 st0 tl ((A ++ l :: x :: B).map wN) exl) ?_ ?_
  · have g1 := row_0 (st0 := st0) (tl := tl) A l (x :: B) exl
    have g2 := row_1 (st0 := st0) (tl := tl) A l x B exl
    unfold sPar dCons dOp
    simp only [dVar_zero, dVar_succ, Out.bind_ok, dC_at, oI_at, Int.add_sub_cancel, g1, g2, Out.bindS_ok, dNil_at, dCons, dOp]
    rfl
  refine seq_run (env1 := wEnv st0.length od hl e3 e4 e7 ((A.length : Int) + 1) (some (wN l)) (some (wN x))) (st1 := st3 st0 tl ((A ++ l :: x :: B).map wN) (exl ++ [exW (A.length, decide (h x < h l))])) ?_ ?_
  · have g1 := fun st => tell_at (st := st) (w := .lst hl) hh hl' rfl
    have g2 := fun st => tell_at (st := st) (w := .lst hl) hh hx rfl
    have ty : tyL (.cell (st0.length + 2)) (st3 st0 tl ((A ++ l :: x :: B).map wN) exl) = true := by
      unfold tyL
      rw [lview_cell, s_2]
      rfl
    have ap : ∀ w, mAppend (.cell (st0.length + 2)) [w] (st3 st0 tl ((A ++ l :: x :: B).map wN) exl) = .ok .non (st3 st0 tl ((A ++ l :: x :: B).map wN) (exl ++ [w])) := by
      intro w
      unfold mAppend
      simp only [s_2, hz, if_true, p_2]
    have wl : (wN l : W) = .int (l : Int) := rfl
    unfold sDrop dBM dCons dTup dIf dB dOp
    simp only [dVar_zero, dVar_succ, Out.bind_ok, dC_at, oI_at, Int.add_sub_cancel, ty, if_true, g1, g2, asB_at, dNil_at, dCons, dOp]
    by_cases q : h x < h l
    · simp only [q, decide_true, if_true, Out.bind_ok, List.length_cons, List.length_nil, hs2, ap, Out.bindS_ok, exW]
    · simp only [q, decide_false, Bool.false_eq_true, if_false, Out.bind_ok, List.length_cons, List.length_nil, hs2, if_true, ap, Out.bindS_ok, exW]
  refine seq_run (env1 := wEnv st0.length od hl e3 e4 e7 ((A.length : Int) + 1) (some (wN l)) (some (wN x))) (st1 := st3 st0 tl ((A ++ x :: l :: B).map wN) (exl ++ [exW (A.length, decide (h x < h l))])) ?_ ?_
  · generalize exl ++ [exW (A.length, decide (h x < h l))] = e2
    have n1 : ((A ++ l :: x :: B).map wN).length = A.length + 2 + B.length := by simp; omega
    have i1 : ixN ((A ++ l :: x :: B).map wN).length (A.length : Int) = some A.length := by
      rw [n1]
      exact ixN_nat (by omega)
    have j1 : ((A ++ l :: x :: B).map wN).set A.length (wN x) = (A ++ x :: x :: B).map wN := by simp
    have i2 : ixN ((A ++ x :: x :: B).map wN).length ((A.length : Int) + 1) = some (A.length + 1) := by
      have := ixN_nat (n := ((A ++ x :: x :: B).map wN).length) (j := A.length + 1) (by simp)
      simpa using this
    have j2 : ((A ++ x :: x :: B).map wN).set (A.length + 1) (wN l) = (A ++ x :: l :: B).map wN := by simp
    have a1 : gAt (dVar 5) (dSub (dVar 8) (dC (.int 1))) (wN x) (wEnv st0.length od hl e3 e4 e7 ((A.length : Int) + 1) (some (wN l)) (some (wN x))) (st3 st0 tl ((A ++ l :: x :: B).map wN) e2) =
        .ok (wEnv st0.length od hl e3 e4 e7 ((A.length : Int) + 1) (some (wN l)) (some (wN x))) (st3 st0 tl ((A ++ x :: x :: B).map wN) e2) := by
      rw [gAt_at (st1 := st3 st0 tl ((A ++ l :: x :: B).map wN) e2) (st2 := st3 st0 tl ((A ++ l :: x :: B).map wN) e2) (n := st0.length + 1) (k := (A.length : Int)) rfl (by
        simp only [dSub, dOp, dVar_zero, dVar_succ, Out.bind_ok, dC_at, oI_at, Int.add_sub_cancel]) (s_1 _ _) i1, j1, p_1]
    have a2 : gAt (dVar 5) (dVar 8) (wN l) (wEnv st0.length od hl e3 e4 e7 ((A.length : Int) + 1) (some (wN l)) (some (wN x))) (st3 st0 tl ((A ++ x :: x :: B).map wN) e2) =
        .ok (wEnv st0.length od hl e3 e4 e7 ((A.length : Int) + 1) (some (wN l)) (some (wN x))) (st3 st0 tl ((A ++ x :: l :: B).map wN) e2) := by
      rw [gAt_at (st1 := st3 st0 tl ((A ++ x :: x :: B).map wN) e2) (st2 := st3 st0 tl ((A ++ x :: x :: B).map wN) e2) (n := st0.length + 1) (k := (A.length : Int) + 1) rfl rfl (s_1 _ _) i2, j2, p_1]
    unfold sAsg dTup dCons
    simp only [dVar_zero, dVar_succ, Out.bind_ok, dNil_at, List.length_cons, List.length_nil, hs2, if_true, Out.bindS_ok, dCons, gTu, tview, gsCons, a1, a2, gsNil, Out.nox_ok]
  · unfold sAug
    simp only [dC_at, Out.bindS_ok, List.getElem?_cons_succ, List.getElem?_cons_zero, Int.add_sub_cancel]
    rfl
end
end K19


set_option maxRecDepth 100000
set_option maxHeartbeats 4000000
namespace K19
open PySem L2 Evl Sh
theorem rngW_succ (lo : Int) (n : Nat) : rngW lo (n + 1) = .int lo :: rngW (lo + 1) n := by
  unfold rngW
  rw [List.range_succ_eq_map, List.map_cons, List.map_map]
  simp only [Int.natCast_zero, Int.add_zero]
  congr 1
  refine List.map_congr_left fun i _ => ?_
  simp only [Function.comp]
  congr 1
  omega
section
variable {c : Nat} {st0 : Store} {tl hl : List W} {t h : Nat → Int} {od e3 e4 : Option W}
theorem cond_zero {e7 e9 e10 : Option W} {L : Nat} {st : Store} : wCond (wEnv L od hl e3 e4 e7 0 e9 e10) st = .ok false st := rfl
theorem cond_run {e7 e9 e10 : Option W} (ht : Tells c tl t) {A : List Nat} {l x : Nat} {B : List Nat} {exl : List W} (hl' : l < c) (hx : x < c) :
    wCond (wEnv st0.length od hl e3 e4 e7 ((A.length : Int) + 1) e9 e10) (st3 st0 tl ((A ++ l :: x :: B).map wN) exl) = .ok (decide (t x < t l)) (st3 st0 tl ((A ++ l :: x :: B).map wN) exl) := by
  have g1 := row_0 (st0 := st0) (tl := tl) A l (x :: B) exl
  have g2 := row_1 (st0 := st0) (tl := tl) A l x B exl
  have t1 := tell_at (st := st3 st0 tl ((A ++ l :: x :: B).map wN) exl) (w := .cell st0.length) ht hl' (s_0 _ _)
  have t2 := tell_at (st := st3 st0 tl ((A ++ l :: x :: B).map wN) exl) (w := .cell st0.length) ht hx (s_0 _ _)
  have pz : decide ((0 : Int) < (A.length : Int) + 1) = true := decide_eq_true (by omega)
  simp only [wCond, dAnd, dB, dSub, dGt, dOp, dVar_zero, dVar_succ, Out.bind_ok, dC_at, oI_at, asB_at, Int.add_sub_cancel, g1, g2, t1, t2, pz, if_true]
theorem while_run (ht : Tells c tl t) (hh : Tells c hl h) (hc : c ≤ 16) {x : Nat} {B : List Nat} : ∀ (n : Nat) (A M : List Nat) (ex : List (Nat × Bool)) (cr : List (Nat × Nat)) (k : Nat) (e7 e9 e10 : Option W), A.length = n →
    Inv c t h (A ++ x :: (M ++ B)) ex cr → (A ++ M).Pairwise (fun a b => t a ≤ t b) → (∀ m ∈ M, t x ≤ t m) →
    ∃ (A' : List Nat) (ex' : List (Nat × Bool)) (cr' : List (Nat × Nat)) (a' : Int) (e9' e10' : Option W), A'.length = A.length + 1 + M.length ∧ Inv c t h (A' ++ B) ex' cr' ∧ A'.Pairwise (fun a b => t a ≤ t b) ∧
      whileGo wCond wBody (n + 1 + k) (wEnv st0.length od hl e3 e4 e7 (A.length : Int) e9 e10) (st3 st0 tl ((A ++ x :: (M ++ B)).map wN) (ex.map exW)) =
        .nx (wEnv st0.length od hl e3 e4 e7 a' e9' e10') (st3 st0 tl ((A' ++ B).map wN) (ex'.map exW))
  | 0, A, M, ex, cr, k, e7, e9, e10, hA, iv, so, mx => by
    have e : A = [] := List.eq_nil_of_length_eq_zero hA
    subst e
    refine ⟨x :: M, ex, cr, 0, e9, e10, by simp; omega, iv, List.pairwise_cons.mpr ⟨mx, so⟩, ?_⟩
    rw [show 0 + 1 + k = k + 1 by omega, whileGo]
    rw [show ((([] : List Nat).length : Int)) = 0 from rfl, cond_zero]
    rfl
  | n + 1, A, M, ex, cr, k, e7, e9, e10, hA, iv, so, mx => by
    obtain ⟨A1, l, rfl⟩ : ∃ A1 l, A = A1 ++ [l] := by
      rcases List.eq_nil_or_concat A with h0 | ⟨A1, l, h0⟩
      · subst h0; simp at hA
      · exact ⟨A1, l, by rw [h0, List.concat_eq_append]⟩
    have hA1 : A1.length = n := by simpa using hA
    have e1 : A1 ++ [l] ++ x :: (M ++ B) = A1 ++ l :: x :: (M ++ B) := by simp
    rw [e1] at iv
    have mem : ∀ y, y ∈ A1 ++ l :: x :: (M ++ B) → y < c := fun y hy => List.mem_range.mp (iv.perm.mem_iff.mp hy)
    have hl' := mem l (by simp)
    have hx := mem x (by simp)
    have cr1 := cond_run (st0 := st0) (od := od) (hl := hl) (e3 := e3) (e4 := e4) (e7 := e7) (e9 := e9) (e10 := e10) ht (A := A1) (l := l) (x := x) (B := M ++ B) (exl := ex.map exW) hl' hx
    have len1 : (((A1 ++ [l]).length : Nat) : Int) = (A1.length : Int) + 1 := by simp
    rw [e1, len1]
    by_cases q : t x < t l
    · have iv2 := iv.step q
      have bl := iv.len
      have b256 : c * c ≤ 16 * 16 := Nat.mul_le_mul hc hc
      have bz : (ex.map exW).length < sizeLine := by
        rw [List.length_map, sizeLine_eq]
        omega
      have bd := body_run (st0 := st0) (tl := tl) (od := od) (e3 := e3) (e4 := e4) (e7 := e7) (e9 := e9) (e10 := e10) hh (A := A1) (l := l) (x := x) (B := M ++ B) (exl := ex.map exW) hl' hx bz
      obtain ⟨A', ex', cr', a', e9', e10', h1, h2, h3, h4⟩ := while_run ht hh hc (x := x) (B := B) n A1 (l :: M) _ _ k e7 (some (wN l)) (some (wN x)) hA1 iv2 (by
        have : A1 ++ l :: M = A1 ++ [l] ++ M := by simp
        rw [this]
        exact so) (fun m hm => by
        rcases List.mem_cons.mp hm with rfl | hm
        · exact Int.le_of_lt q
        · exact mx m hm)
      refine ⟨A', ex', cr', a', e9', e10', by rw [h1]; simp; omega, h2, h3, ?_⟩
      rw [show n + 1 + 1 + k = (n + 1 + k) + 1 by omega, whileGo, cr1, decide_eq_true q]
      simp only [Out.bindS_ok, if_true]
      rw [bd]
      simp only []
      have ee : (ex ++ [(A1.length, decide (h x < h l))]).map exW = ex.map exW ++ [exW (A1.length, decide (h x < h l))] := by rw [List.map_append, List.map_cons, List.map_nil]
      rw [ee] at h4
      exact h4
    · refine ⟨A1 ++ [l] ++ x :: M, ex, cr, (A1.length : Int) + 1, e9, e10, by simp; omega, ?_, ?_, ?_⟩
      · have : A1 ++ [l] ++ x :: M ++ B = A1 ++ l :: x :: (M ++ B) := by simp
        rw [this]
        exact iv
      · rw [List.pairwise_append] at so ⊢
        obtain ⟨s1, s2, s3⟩ := so
        refine ⟨s1, List.pairwise_cons.mpr ⟨mx, s2⟩, fun a ha b hb => ?_⟩
        rcases List.mem_cons.mp hb with rfl | hb
        · rw [List.pairwise_append] at s1
          rcases List.mem_append.mp ha with ha | ha
          · have := s1.2.2 a ha l List.mem_cons_self
            omega
          · rcases List.mem_cons.mp ha with rfl | ha
            · omega
            · cases ha
        · exact s3 a ha b hb
      · rw [show n + 1 + 1 + k = (n + 1 + k) + 1 by omega, whileGo, cr1, decide_eq_false q]
        have : A1 ++ [l] ++ x :: M ++ B = A1 ++ l :: x :: (M ++ B) := by simp
        rw [this]
        rfl
theorem for_run (ht : Tells c tl t) (hh : Tells c hl h) (hc : c ≤ 16) : ∀ (R A : List Nat) (ex : List (Nat × Bool)) (cr : List (Nat × Nat)) (e7 e8 e9 e10 : Option W),
    Inv c t h (A ++ R) ex cr → A.Pairwise (fun a b => t a ≤ t b) →
    ∃ (row' : List Nat) (ex' : List (Nat × Bool)) (cr' : List (Nat × Nat)) (e7' e8' e9' e10' : Option W), Inv c t h row' ex' cr' ∧ row'.Pairwise (fun a b => t a ≤ t b) ∧
      forGo (fun _ => True) (gN 7) (sSeq (sSet 8 (dVar 7)) (sWhile fuel wCond wBody)) (rngW (A.length : Int) R.length)
        [od, some (.lst hl), some (.cell st0.length), e3, e4, some (.cell (st0.length + 1)), some (.cell (st0.length + 2)), e7, e8, e9, e10] (st3 st0 tl ((A ++ R).map wN) (ex.map exW)) =
        .nx [od, some (.lst hl), some (.cell st0.length), e3, e4, some (.cell (st0.length + 1)), some (.cell (st0.length + 2)), e7', e8', e9', e10'] (st3 st0 tl (row'.map wN) (ex'.map exW))
  | [], A, ex, cr, e7, e8, e9, e10, iv, so => by
    refine ⟨A ++ [], ex, cr, e7, e8, e9, e10, iv, by rw [List.append_nil]; exact so, ?_⟩
    simp [rngW, forGo]
  | x :: R, A, ex, cr, e7, e8, e9, e10, iv, so => by
    have lenA : A.length ≤ 16 := by
      have := iv.perm.length_eq
      rw [List.length_range, List.length_append] at this
      omega
    obtain ⟨A', ex', cr', a', e9', e10', h1, h2, h3, h4⟩ := while_run (st0 := st0) (od := od) (e3 := e3) (e4 := e4) ht hh hc (x := x) (B := R) A.length A [] ex cr (1000000 - (A.length + 1)) (some (.int (A.length : Int))) e9 e10 rfl iv (by rw [List.append_nil]; exact so) (fun m hm => by cases hm)
    obtain ⟨row', ex2, cr2, f7, f8, f9, f10, g1, g2, g3⟩ := for_run ht hh hc R A' ex' cr' (some (.int (A.length : Int))) (some (.int a')) e9' e10' h2 h3
    refine ⟨row', ex2, cr2, f7, f8, f9, f10, g1, g2, ?_⟩
    rw [List.length_cons, rngW_succ, forGo, if_pos True.intro]
    have s1 : (gN 7) (.int (A.length : Int)) [od, some (.lst hl), some (.cell st0.length), e3, e4, some (.cell (st0.length + 1)), some (.cell (st0.length + 2)), e7, e8, e9, e10] (st3 st0 tl ((A ++ x :: R).map wN) (ex.map exW)) =
      .ok [od, some (.lst hl), some (.cell st0.length), e3, e4, some (.cell (st0.length + 1)), some (.cell (st0.length + 2)), some (.int (A.length : Int)), e8, e9, e10] (st3 st0 tl ((A ++ x :: R).map wN) (ex.map exW)) := rfl
    rw [s1]
    simp only []
    have s2 : (sSeq (sSet 8 (dVar 7)) (sWhile fuel wCond wBody)) [od, some (.lst hl), some (.cell st0.length), e3, e4, some (.cell (st0.length + 1)), some (.cell (st0.length + 2)), some (.int (A.length : Int)), e8, e9, e10] (st3 st0 tl ((A ++ x :: R).map wN) (ex.map exW)) =
        .nx (wEnv st0.length od hl e3 e4 (some (.int (A.length : Int))) a' e9' e10') (st3 st0 tl ((A' ++ R).map wN) (ex'.map exW)) := by
      refine seq_run (env1 := wEnv st0.length od hl e3 e4 (some (.int (A.length : Int))) (A.length : Int) e9 e10) (st1 := st3 st0 tl ((A ++ x :: R).map wN) (ex.map exW)) rfl ?_
      show whileGo wCond wBody 1000000 _ _ = _
      rw [show A.length + 1 + (1000000 - (A.length + 1)) = 1000000 by omega] at h4
      exact h4
    rw [s2]
    simp only []
    have lA' : ((A.length : Int) + 1) = (A'.length : Int) := by
      rw [h1]
      simp
    rw [lA']
    exact g3
end
end K19


set_option maxRecDepth 100000
set_option maxHeartbeats 4000000
namespace K19
open PySem L2 Evl Sh
theorem rep_len {c : Nat} {w : W} : ((List.replicate c [w]).flatten).length = c := by simp
section
variable {c : Nat} {od : W} {hl tl : List W} {st0 : Store} {e3 e4 : Option W}
theorem w_1 (hc : c ≤ 16) (z : cLen [od] st0 = .ok (.int (c : Int)) st0) :
    (sSet 2 (dCell (dOpF oRep (dPure (dLst (dCons (dC (.int 0)) dNil))) (dCallB cLen (dCons (dVar 0) dNil))))) [some od, some (.lst hl), none, none, none, none, none, none, none, none, none] st0 =
      .nx [some od, some (.lst hl), some (.cell st0.length), none, none, none, none, none, none, none, none] (st0 ++ [.lst (List.replicate c [W.int 0]).flatten]) := by
  have l : [W.int 0].length * c ≤ sizeLine := by
    rw [List.length_singleton, Nat.one_mul]
    exact line_ge (by omega)
  exact sSet_at (rCell (rOpF (rPure (rLst (rCons rC rNil) (line_ge (by decide)))) (rCallB (rCons (rV rfl) rNil) z) (oRep_at rfl l (by omega))))
theorem w_3 (hc : c ≤ 16) {st : Store} (z : cLen [od] st = .ok (.int (c : Int)) st) :
    (sSet 5 (dCell (dListR (dCallB cLen (dCons (dVar 0) dNil))))) [some od, some (.lst hl), some (.cell st0.length), e3, e4, none, none, none, none, none, none] st =
      .nx [some od, some (.lst hl), some (.cell st0.length), e3, e4, some (.cell st.length), none, none, none, none, none] (st ++ [.lst (rngW 0 c)]) :=
  sSet_at (rCell (rListR (rCallB (rCons (rV rfl) rNil) z) (sm_nat (by omega)) (n24 (by omega))))
theorem w_4 {st : Store} {e2 e5 : Option W} :
    (sSet 6 (dCell (dLst dNil))) [some od, some (.lst hl), e2, e3, e4, e5, none, none, none, none, none] st =
      .nx [some od, some (.lst hl), e2, e3, e4, e5, some (.cell st.length), none, none, none, none] (st ++ [.lst []]) :=
  sSet_at (rCell (rLst rNil (line_ge (Nat.zero_le _))))
theorem w_6 {e7 e8 e9 e10 : Option W} {r ex : List W} : sRet (dFz (dVar 6)) [some od, some (.lst hl), some (.cell st0.length), e3, e4, some (.cell (st0.length + 1)), some (.cell (st0.length + 2)), e7, e8, e9, e10] (st3 st0 tl r ex) =
    .rt (.lst ex) (st0 ++ [.lst tl, .lst r, .dead]) := by
  unfold sRet dFz fz
  simp only [dVar_zero, dVar_succ, Out.bind_ok, s_2, Out.bindS_ok]
  rw [set_at]
  rfl
theorem w_5 (hc : c ≤ 16) {r : List W} (lr : r.length = c) {body : S} {o : SOut}
    (k : forGo (fun _ => True) (gN 7) body (rngW 1 (c - 1)) [some od, some (.lst hl), some (.cell st0.length), e3, e4, some (.cell (st0.length + 1)), some (.cell (st0.length + 2)), none, none, none, none] (st3 st0 tl r []) = o) :
    (sFor (iR2 (dCons (dC (.int 1)) (dCons (dCallB cLen (dCons (dVar 5) dNil)) dNil))) (gN 7) body) [some od, some (.lst hl), some (.cell st0.length), e3, e4, some (.cell (st0.length + 1)), some (.cell (st0.length + 2)), none, none, none, none] (st3 st0 tl r []) = o := by
  have z3 : cLen [.cell (st0.length + 1)] (st3 st0 tl r []) = .ok (.int c) (st3 st0 tl r []) := by
    rw [cLen_at (w := .cell (st0.length + 1)) (s_1 _ _), lr]
  have n1 : ((c : Int) - 1).toNat = c - 1 := by omega
  refine rFor (rR2 (rCons rC (rCons (rCallB (rCons (rV rfl) rNil) z3) rNil)) (sm_lit (by decide) (by decide)) (sm_nat (by omega))) ?_
  rw [n1]
  exact k
theorem w_2 {xs : List W} {body : S} {g : T} {env : Sh.Env} {st : Store} {o : SOut} (k : forGo (fun _ => True) g body (enW 0 xs) (some (.lst xs) :: env) st = o) : (sFor (iEn (dCons (dVar 0) dNil)) g body) (some (.lst xs) :: env) st = o := by
  unfold sFor iEn
  simp only [dCons, dVar_zero, dNil_at, Out.bind_ok, Out.bindS_ok]
  exact k
end
theorem weave_run {c : Nat} {order : List Nat} {hl : List W} {h : Nat → Int} (hp : order.Perm (List.range c)) (hc : c ≤ 16) (hh : Tells c hl h) (st0 : Store) :
    ∃ (ex : List (Nat × Bool)) (cr : List (Nat × Nat)) (tl r : List W), Play h (List.range c) ex cr order ∧ cr.Perm (invs order) ∧ ex.length ≤ c * c ∧
      m_weave [.lst (order.map wN), .lst hl] st0 = .ok (.lst (ex.map exW)) (st0 ++ [.lst tl, .lst r, .dead]) := by
  have ol : order.length = c := by rw [hp.length_eq, List.length_range]
  have nd : order.Nodup := hp.nodup_iff.mpr List.nodup_range
  have hs := sizeLine_eq
  have lc : (order.map wN).length = c := by rw [List.length_map, ol]
  obtain ⟨tl, e3, e4, t1, t2, t3⟩ := enum_run (L := st0.length) (st0 := st0) (hs := .lst hl) [] order (List.replicate c [W.int 0]).flatten
    [some (.lst (order.map wN)), some (.lst hl), some (.cell st0.length), none, none, none, none, none, none, none, none] none none none none none none none none rfl nd
    (fun x hx => by rw [rep_len]; exact List.mem_range.mp (hp.mem_iff.mp hx)) (fun i x hx => by cases hx) rfl
  rw [List.nil_append] at t2 t3
  rw [rep_len] at t1
  have ht : Tells c tl (plc tl) := fun x hx => by
    have m : x ∈ order := hp.mem_iff.mpr (List.mem_range.mpr hx)
    obtain ⟨i, hi⟩ := List.mem_iff_getElem?.mp m
    have e := t2 i x hi
    unfold plc
    rw [e]
    rfl
  have tp : ∀ (i x : Nat), order[i]? = some x → plc tl x = (i : Int) := fun i x hx => by
    unfold plc
    rw [t2 i x hx]
    rfl
  have fin : ∀ {row : List Nat} {ex : List (Nat × Bool)} {cr : List (Nat × Nat)}, Inv c (plc tl) h row ex cr → row.Pairwise (fun a b => plc tl a ≤ plc tl b) → row = order := fun iv so => row_eq iv.perm hp tp so
  have key : ∃ (row' : List Nat) (ex' : List (Nat × Bool)) (cr' : List (Nat × Nat)) (e7' e8' e9' e10' : Option W), Inv c (plc tl) h row' ex' cr' ∧ row'.Pairwise (fun a b => plc tl a ≤ plc tl b) ∧
      forGo (fun _ => True) (gN 7) (sSeq (sSet 8 (dVar 7)) (sWhile fuel wCond wBody)) (rngW 1 (c - 1))
        [some (.lst (order.map wN)), some (.lst hl), some (.cell st0.length), e3, e4, some (.cell (st0.length + 1)), some (.cell (st0.length + 2)), none, none, none, none] (st3 st0 tl (rngW 0 c) []) =
        .nx [some (.lst (order.map wN)), some (.lst hl), some (.cell st0.length), e3, e4, some (.cell (st0.length + 1)), some (.cell (st0.length + 2)), e7', e8', e9', e10'] (st3 st0 tl (row'.map wN) (ex'.map exW)) := by
    cases c with
    | zero =>
      refine ⟨[], [], [], none, none, none, none, Inv.start 0 _ _, List.Pairwise.nil, by simp [rngW, forGo]⟩
    | succ c =>
      have := for_run (st0 := st0) (tl := tl) (hl := hl) (od := some (.lst (order.map wN))) (e3 := e3) (e4 := e4) ht hh hc ((List.range c).map (· + 1)) [0] [] [] none none none none (by
        have := Inv.start (c + 1) (plc tl) h
        rw [List.range_succ_eq_map] at this
        rw [List.range_succ_eq_map] at *
        exact this) (List.pairwise_singleton _ _)
      rw [List.length_map, List.length_range, List.length_singleton] at this
      rw [Nat.add_sub_cancel, rng_wN]
      rw [List.range_succ_eq_map]
      exact this
  obtain ⟨row', ex, cr, e7', e8', e9', e10', iv, so, kr⟩ := key
  have er := fin iv so
  subst er
  refine ⟨ex, cr, tl, row'.map wN, iv.play, iv.cross, iv.len, ?_⟩
  have lr : (rngW 0 c).length = c := by rw [rng_wN, List.length_map, List.length_range]
  have z : ∀ st, cLen [.lst (row'.map wN)] st = .ok (.int c) st := fun st => by rw [cLen_at (w := .lst (row'.map wN)) rfl, lc]
  have l1 : (st0 ++ [C.lst tl]).length = st0.length + 1 := by rw [List.length_append]; rfl
  have l2 : (st0 ++ [C.lst tl, .lst (rngW 0 c)]).length = st0.length + 2 := by rw [List.length_append]; rfl
  have a3 := w_3 (od := .lst (row'.map wN)) (hl := hl) (st0 := st0) (e3 := e3) (e4 := e4) hc (z (st0 ++ [C.lst tl]))
  rw [l1, List.append_assoc] at a3
  have a4 := w_4 (od := .lst (row'.map wN)) (hl := hl) (e3 := e3) (e4 := e4) (st := st0 ++ [C.lst tl, .lst (rngW 0 c)]) (e2 := some (.cell st0.length)) (e5 := some (.cell (st0.length + 1)))
  rw [l2, List.append_assoc] at a4
  exact body_rt rfl (seq_run (w_1 hc (z _)) (seq_run (w_2 t3) (seq_run a3 (seq_run a4 (seq_run (w_5 hc lr kr) w_6)))))
end K19


set_option maxRecDepth 100000
set_option maxHeartbeats 4000000
namespace K19
open PySem L2 Evl Sh
theorem seqIndex_nat {n j : Nat} (h : j < n) : seqIndex? (j : Int) n = some j := by
  have z : ¬ (j : Int) < 0 := by omega
  simp [seqIndex?, z, h]
theorem map_erase (f : Nat → W) : ∀ (l : List Nat) (j : Nat), (l.map f).eraseIdx j = (l.eraseIdx j).map f
  | [], _ => rfl
  | _ :: _, 0 => rfl
  | x :: l, j + 1 => congrArg (f x :: ·) (map_erase f l j)
theorem perm_erase : ∀ {rem : List Nat} {j x : Nat}, rem[j]? = some x → (x :: rem.eraseIdx j).Perm rem
  | [], j, x, h => by cases h
  | y :: rem, 0, x, h => by
    cases h
    exact List.Perm.refl _
  | y :: rem, j + 1, x, h => by
    have h : rem[j]? = some x := by simpa using h
    exact (List.Perm.swap y x _).trans (List.Perm.cons y (perm_erase h))
section
variable {ns : List Int} {s r : Nat} {env : Sh.Env} {st : Store}
theorem cLen_lst {xs : List W} {n : Nat} (h : lcell st n = some xs) : cLen [.cell n] st = .ok (.int (xs.length : Int)) st := cLen_at h
theorem mPopAt_at {xs : List W} {j : Nat} {w : W} (h : lcell st r = some xs) (hj : xs[j]? = some w) (hb : xs.length ≤ 1000000) : mPopAt (.cell r) [.int (j : Int)] st = .ok w (st.set r (.lst (xs.eraseIdx j))) := by
  have l := (List.getElem?_eq_some_iff.mp hj).1
  have p := p63 (i := (j : Int)) (by omega) (by omega)
  unfold mPopAt
  simp only [h]
  refine (if_pos p).trans ?_
  rw [seqIndex_nat l]
  simp only [hj]
noncomputable abbrev ePop : Sh.Env → M W := dBM tyL mPopAt (dVar 3) (dCons (dCall m_take (dCons (dVar 1) (dCons (dCallB cLen (dCons (dVar 3) dNil)) dNil))) dNil)
/-- a column is drawn out of the rest -/
theorem pop_run {rem : List Nat} (h1 : env[1]? = some (some (.cell s))) (h3 : env[3]? = some (some (.cell r))) (ne : s ≠ r) (ok : StOk ns st s) (hr : lcell st r = some (rem.map wN)) (h0 : 0 < rem.length) (hz : rem.length ≤ 16) :
    ∃ (j x : Nat) (st' : Store), rem[j]? = some x ∧ ePop env st = .ok (wN x) st' ∧ StOk ns st' s ∧ lcell st' r = some ((rem.eraseIdx j).map wN) ∧ st'.length = st.length := by
  have lr := lcell_lt hr
  have hl : cLen [.cell r] st = .ok (.int (rem.length : Int)) st := by
    rw [cLen_lst hr, List.length_map]
  obtain ⟨v, st1, t1, t2, t3, t4, c, rfl⟩ := take_ok ok (k := (rem.length : Int)) (by omega) (by omega)
  have hr1 : lcell (st.set s c) r = some (rem.map wN) := by rw [lcell_set_ne ne, hr]
  obtain ⟨j, rfl⟩ : ∃ j : Nat, v = (j : Int) := ⟨v.toNat, by omega⟩
  have lj : j < rem.length := by omega
  have hj : rem[j]? = some rem[j] := List.getElem?_eq_getElem lj
  have hj2 : (rem.map wN)[j]? = some (wN rem[j]) := by rw [List.getElem?_map, hj]; rfl
  refine ⟨j, rem[j], (st.set s c).set r (.lst ((rem.map wN).eraseIdx j)), hj, ?_, ?_, ?_, ?_⟩
  · exact rBM (rV h3) (tyL_cell hr) (rCons (rCall (rCons (rV h1) (rCons (rCallB (rCons (rV h3) rNil) hl) rNil)) t1) rNil) (mPopAt_at hr1 hj2 (by rw [List.length_map]; omega))
  · obtain ⟨a, b, d, e, f⟩ := t4
    refine ⟨a, b, d, ?_, f⟩
    rw [lcell_set_ne (Ne.symm ne), e]
  · rw [lcell_set (by rw [List.length_set]; exact lr), map_erase]
  · rw [List.length_set, List.length_set]
/-- all of them, one after the other -/
theorem pops_run {te : Sh.Env → M W} {g : Nat → W} (h1 : env[1]? = some (some (.cell s))) (h3 : env[3]? = some (some (.cell r))) (ne : s ≠ r)
    (hg : ∀ (env' : Sh.Env) (st st' : Store) (x : Nat), ePop env' st = .ok (wN x) st' → te env' st = .ok (g x) st') : ∀ (n : Nat) (rem : List Nat) (k : Int) (acc : List W) (st : Store), rem.length = n → n ≤ 16 → acc.length + n ≤ 100 → StOk ns st s → lcell st r = some (rem.map wN) →
    ∃ (picked : List Nat) (st' : Store), picked.Perm rem ∧ lcGo (fun _ => True) (gN 5) tYesW te env (rngW k n) acc st = .ok (acc ++ picked.map g) st' ∧ StOk ns st' s ∧ st'.length = st.length
  | 0, rem, k, acc, st, hn, hz, ha, ok, hr => by
    have e := List.eq_nil_of_length_eq_zero hn
    subst e
    exact ⟨[], st, List.Perm.refl _, by simp [rngW, lcGo], ok, rfl⟩
  | n + 1, rem, k, acc, st, hn, hz, ha, ok, hr => by
    have g1 : (env.set 5 (some (.int k)))[1]? = some (some (.cell s)) := by rw [List.getElem?_set_ne (by decide), h1]
    have g3 : (env.set 5 (some (.int k)))[3]? = some (some (.cell r)) := by rw [List.getElem?_set_ne (by decide), h3]
    obtain ⟨j, x, st1, p1, p2, p3, p4, p5⟩ := pop_run (env := env.set 5 (some (.int k))) g1 g3 ne ok hr (by omega) (by omega)
    have lj := (List.getElem?_eq_some_iff.mp p1).1
    have le : (rem.eraseIdx j).length = n := by rw [List.length_eraseIdx_of_lt lj, hn]; rfl
    have la : acc.length < sizeLine := Nat.lt_of_lt_of_le (show acc.length < 101 by omega) (line_ge (by decide))
    obtain ⟨picked, st2, q1, q2, q3, q4⟩ := pops_run h1 h3 ne hg n (rem.eraseIdx j) (k + 1) (acc ++ [g x]) st1 le (by omega) (by rw [List.length_append, List.length_singleton]; omega) p3 p4
    refine ⟨x :: picked, st2, (List.Perm.cons x q1).trans (perm_erase p1), ?_, q3, by rw [q4, p5]⟩
    rw [rngW_succ, lcGo, if_pos True.intro]
    show (tYesW (env.set 5 (some (.int k))) st).nox.bind _ = _
    have t : (tYesW (env.set 5 (some (.int k))) st).nox = .ok true st := rfl
    rw [t, Out.bind_ok, if_pos rfl, hg _ _ _ _ p2]
    rw [show (Out.ok (g x) st1).nox = .ok (g x) st1 from rfl, Out.bind_ok, if_pos la, q2, List.append_assoc]
    rfl
end
end K19


set_option maxRecDepth 100000
set_option maxHeartbeats 4000000
namespace K19
open PySem L2 Evl Sh
theorem cut_to {xs : List W} {k : Nat} (h : k ≤ xs.length) : cutW xs none (some (k : Int)) = xs.take k := by
  have z : ¬ (k : Int) < 0 := by omega
  have e : HT.sIx xs.length xs.length (some (k : Int)) = k := by
    simp only [HT.sIx, if_neg z, Int.toNat_natCast, Nat.min_eq_left h]
  unfold cutW
  rw [e]
  rfl
theorem cut_from {xs : List W} {k : Nat} (h : k ≤ xs.length) : cutW xs (some (k : Int)) none = xs.drop k := by
  have z : ¬ (k : Int) < 0 := by omega
  have e : HT.sIx xs.length 0 (some (k : Int)) = k := by
    simp only [HT.sIx, if_neg z, Int.toNat_natCast, Nat.min_eq_left h]
  unfold cutW
  rw [e]
  show (xs.drop k).take (xs.length - k) = xs.drop k
  rw [← List.length_drop, List.take_length]
theorem over_in {x : Str} (h : x = "left" ∨ x = "right") (st : Store) : oIn true (.str x) (.lst [.str "left", .str "right"]) st = .ok (.bl false) st := by
  rcases h with rfl | rfl
  · rfl
  · rfl
theorem oCat_at {x y : W} {xs ys : List W} {st : Store} (h1 : lviewT x st = some xs) (h2 : lviewT y st = some ys) (l : xs.length + ys.length ≤ 1024) : oCat x y st = .ok (xs ++ ys) st := by
  unfold oCat
  rw [h1, h2]
  exact if_pos (line_ge l)
theorem append_at {n : Nat} {xs : List W} {w : W} {st : Store} (h : lcell st n = some xs) (l : xs.length ≤ 1023) : mAppend (.cell n) [w] st = .ok .non (st.set n (.lst (xs ++ [w]))) := by
  unfold mAppend
  simp only [h]
  exact if_pos (Nat.lt_of_lt_of_le (show xs.length < 1024 by omega) (line_ge (Nat.le_refl _)))
theorem oLt_at (i j : Int) (st : Store) : oLt (.int i) (.int j) st = .ok (.bl (decide (i < j))) st := rfl
theorem oGe_at (i j : Int) (st : Store) : oGe (.int i) (.int j) st = .ok (.bl (decide (j ≤ i))) st := rfl
abbrev pW (p : Nat × Nat) : W := .tup [wN p.1, wN p.2]
theorem min_at (l r : Nat) (st : Store) : cMin2 [wN l, wN r] st = .ok (wN (min l r)) st := by
  show Out.ok (W.int (if (r : Int) < (l : Int) then (r : Int) else (l : Int))) st = _
  congr 1
  show W.int _ = W.int _
  congr 1
  split <;> omega
theorem max_at (l r : Nat) (st : Store) : cMax2 [wN l, wN r] st = .ok (wN (max l r)) st := by
  show Out.ok (W.int (if (r : Int) > (l : Int) then (r : Int) else (l : Int))) st = _
  congr 1
  show W.int _ = W.int _
  congr 1
  split <;> omega
noncomputable abbrev lBody : S :=
  (sSeq (sIf (dOr (dNot (dB (dIs "tuple" (dVar 11)))) (dB (dNe (dCallB cLen (dCons (dVar 11) dNil)) (dC (.int 2)))))
  (sRet (dC (.bl false)))
  sNil)
  (sSeq (sAsg (gTu (gsCons (gN 12) (gsCons (gN 13) gsNil))) (dVar 11))
  (sSeq (sIf (dOr (dB (dLt (dVar 12) (dC (.int 0)))) (dOr (dB (dGe (dAdd (dVar 12) (dC (.int 1))) (dVar 2))) (dB (dNotIn (dVar 13) (dPure (dLst (dCons (dC (.str "left")) (dCons (dC (.str "right")) dNil))))))))
  (sRet (dC (.bl false)))
  sNil)
  (sSeq (sSet 14 (dOp oIx (dVar 9) (dVar 12)))
  (sSeq (sSet 15 (dOp oIx (dVar 9) (dAdd (dVar 12) (dC (.int 1)))))
  (sSeq (sDrop (dBM tyL mAppend (dVar 10) (dCons (dTup (dCons (dCallB cMin2 (dCons (dVar 14) (dCons (dVar 15) dNil))) (dCons (dCallB cMax2 (dCons (dVar 14) (dCons (dVar 15) dNil))) dNil))) dNil)))
  (sSeq (sIf (dB (dNe (dOp oIx (dVar 6) (dOp oIx (dPure (dLst (dCons (dVar 14) (dCons (dVar 15) dNil)))) (dCallB cInt (dCons (dEq (dVar 13) (dC (.str "right"))) dNil)))) (dCallB cMax2 (dCons (dOp oIx (dVar 6) (dVar 14)) (dCons (dOp oIx (dVar 6) (dVar 15)) dNil)))))
  (sRet (dC (.bl false)))
  sNil)
  (sSet 9 (dPure (dOpF oCat (dPure (dOpF oCat (dPure (dSl (dVar 9) oNone (oSome (dVar 12)))) (dPure (dLst (dCons (dVar 15) (dCons (dVar 14) dNil)))))) (dPure (dSl (dVar 9) (oSome (dAdd (dVar 12) (dC (.int 2)))) oNone))))))))))))
abbrev lEnv (e0 e1 e3 e4 e5 : Option W) (c : Nat) (hl : List W) (e7 e8 : Option W) (row : List Nat) (n : Nat) (e11 e12 e13 e14 e15 : Option W) : Sh.Env :=
  [e0, e1, some (.int (c : Int)), e3, e4, e5, some (.lst hl), e7, e8, some (.lst (row.map wN)), some (.cell n), e11, e12, e13, e14, e15, none, none, none]
section
variable {c n : Nat} {hl : List W} {h : Nat → Int} {e0 e1 e3 e4 e5 e7 e8 : Option W} {st : Store}
theorem turn_run (hh : Tells c hl h) (hc : c ≤ 16) {A B : List Nat} {l r : Nat} {cl : List W} {e11 e12 e13 e14 e15 : Option W} (hlen : (A ++ l :: r :: B).length = c) (hl' : l < c) (hr' : r < c) (hn : lcell st n = some cl) (hz : cl.length ≤ 1023) :
    ∃ e11' e12' e13' e14' e15', lBody ((lEnv e0 e1 e3 e4 e5 c hl e7 e8 (A ++ l :: r :: B) n e11 e12 e13 e14 e15).set 11 (some (exW (A.length, decide (h r < h l))))) st =
      .nx (lEnv e0 e1 e3 e4 e5 c hl e7 e8 (A ++ r :: l :: B) n e11' e12' e13' e14' e15') (st.set n (.lst (cl ++ [pW (min l r, max l r)]))) := by
  have l2 : (2 : Nat) ≤ sizeLine := line_ge (by decide)
  have hA : A.length + 2 + B.length = c := by
    rw [← hlen]
    simp
    omega
  obtain ⟨o, ho⟩ : ∃ o : Str, (if decide (h r < h l) = true then ("left" : Str) else ("right" : Str)) = o := ⟨_, rfl⟩
  have ho2 : o = "left" ∨ o = "right" := by
    rw [← ho]
    split
    · exact .inl rfl
    · exact .inr rfl
  have ex : exW (A.length, decide (h r < h l)) = .tup [.int (A.length : Int), .str o] := by rw [← ho]; rfl
  rw [ex]
  refine ⟨some (.tup [.int (A.length : Int), .str o]), some (.int (A.length : Int)), some (.str o), some (wN l), some (wN r), ?_⟩
  have g1 : oIx (.lst ((A ++ l :: r :: B).map wN)) (.int (A.length : Int)) st = .ok (wN l) st := ix_at rfl (by omega) (by simp)
  have g2 : oIx (.lst ((A ++ l :: r :: B).map wN)) (.int ((A.length : Int) + 1)) st = .ok (wN r) st := ix_at rfl (by omega) (by
    rw [show ((A.length : Int) + 1).toNat = A.length + 1 by omega]
    simp)
  have ln : cLen [.tup [.int (A.length : Int), .str o]] st = .ok (.int 2) st := cLen_at (w := .tup [.int (A.length : Int), .str o]) rfl
  -- the two checks
  refine sSeq_at (sIf_f (rOrF (rNot (c := true) (rB (c := true) (show dIs "tuple" (dVar 11) _ _ = _ from rfl))) (rB (c := false) (rOp (rCallB (rCons (rV rfl) rNil) ln) rC rfl))) sNil_at) ?_
  refine sSeq_at (sAsg_at (rV (w := .tup [.int (A.length : Int), .str o]) rfl) rfl) ?_
  have d1 : decide ((A.length : Int) < 0) = false := decide_eq_false (by omega)
  have d2 : decide ((c : Int) ≤ (A.length : Int) + 1) = false := decide_eq_false (by omega)
  refine sSeq_at (sIf_f (rOrF (rB (c := false) (rOp (x := .int (A.length : Int)) (y := .int 0) (rV rfl) rC ((oLt_at _ _ _).trans (by rw [d1])))) (rOrF (rB (c := false) (rOp (x := .int ((A.length : Int) + 1)) (y := .int (c : Int)) (rOp (rV rfl) rC rfl) (rV rfl) ((oGe_at _ _ _).trans (by rw [d2]))))
    (rB (c := false) (rOp (rV rfl) (rPure (rLst (rCons rC (rCons rC rNil)) l2)) (over_in ho2 st))))) sNil_at) ?_
  refine sSeq_at (sSet_at (rOp (rV rfl) (rV rfl) g1)) ?_
  refine sSeq_at (sSet_at (rOp (rV rfl) (rOp (rV rfl) rC rfl) g2)) ?_
  refine sSeq_at (sDrop_at (rBM (x := .cell n) (rV rfl) (tyL_cell hn) (rCons (rTup (rCons (rCallB (rCons (rV rfl) (rCons (rV rfl) rNil)) (min_at l r st)) (rCons (rCallB (rCons (rV rfl) (rCons (rV rfl) rNil)) (max_at l r st)) rNil)) l2) rNil) (append_at hn hz))) ?_
  generalize st.set n (.lst (cl ++ [.tup [wN (min l r), wN (max l r)]])) = st2
  have k1 : oIx (.lst hl) (wN l) st2 = .ok (.int (h l)) st2 := tell_at hh hl' rfl
  have k2 : oIx (.lst hl) (wN r) st2 = .ok (.int (h r)) st2 := tell_at hh hr' rfl
  refine sSeq_at (sIf_f (st1 := st2) (rB (c := false) ?_) sNil_at) ?_
  · have mx : cMax2 [.int (h l), .int (h r)] st2 = .ok (.int (if h r > h l then h r else h l)) st2 := rfl
    by_cases q : h r < h l
    · rw [decide_eq_true q, if_pos rfl] at ho
      subst ho
      refine rOp (x := .int (h l)) (y := .int (h l)) (rOp (x := .lst hl) (y := wN l) (rV rfl) (rOp (x := .lst [wN l, wN r]) (y := .int 0) (rPure (rLst (rCons (rV rfl) (rCons (rV rfl) rNil)) l2)) (rCallB (rCons (w := .bl false) (rOp (rV rfl) rC rfl) rNil) rfl) (ix_at rfl (by decide) rfl)) k1)
        (rCallB (rCons (rOp (rV rfl) (rV rfl) k1) (rCons (rOp (rV rfl) (rV rfl) k2) rNil)) (mx.trans (by rw [if_neg (by omega)]))) ?_
      rw [oNe_int, decide_eq_true rfl]
      rfl
    · rw [decide_eq_false q, if_neg Bool.false_ne_true] at ho
      subst ho
      refine rOp (x := .int (h r)) (y := .int (h r)) (rOp (x := .lst hl) (y := wN r) (rV rfl) (rOp (x := .lst [wN l, wN r]) (y := .int 1) (rPure (rLst (rCons (rV rfl) (rCons (rV rfl) rNil)) l2)) (rCallB (rCons (w := .bl true) (rOp (rV rfl) rC rfl) rNil) rfl) (ix_at rfl (by decide) rfl)) k2)
        (rCallB (rCons (rOp (rV rfl) (rV rfl) k1) (rCons (rOp (rV rfl) (rV rfl) k2) rNil)) (mx.trans (by
          have : (if h r > h l then h r else h l) = h r := by split <;> omega
          rw [this]))) ?_
      rw [oNe_int, decide_eq_true rfl]
      rfl
  have lr : ((A ++ l :: r :: B).map wN).length = c := by rw [List.length_map, hlen]
  have c1 : cutW ((A ++ l :: r :: B).map wN) none (some (A.length : Int)) = A.map wN := by
    rw [cut_to (by omega), List.map_append]
    have : A.length = (A.map wN).length := by rw [List.length_map]
    rw [this, List.take_left]
  have c2 : cutW ((A ++ l :: r :: B).map wN) (some ((A.length : Int) + 2)) none = B.map wN := by
    have e : (A.length : Int) + 2 = ((A.length + 2 : Nat) : Int) := by omega
    rw [e, cut_from (by omega)]
    have e2 : (A ++ l :: r :: B).map wN = (A.map wN ++ [wN l, wN r]) ++ B.map wN := by simp
    have e3 : A.length + 2 = (A.map wN ++ [wN l, wN r]).length := by simp
    rw [e2, e3, List.drop_left]
  have p1 : (A.map wN).length = A.length := List.length_map ..
  have p2 : (B.map wN).length = B.length := List.length_map ..
  have fin : (A.map wN ++ [wN r, wN l]) ++ B.map wN = (A ++ r :: l :: B).map wN := by simp
  rw [show lEnv e0 e1 e3 e4 e5 c hl e7 e8 (A ++ r :: l :: B) n (some (.tup [.int (A.length : Int), .str o])) (some (.int (A.length : Int))) (some (.str o)) (some (wN l)) (some (wN r)) =
    (lEnv e0 e1 e3 e4 e5 c hl e7 e8 (A ++ l :: r :: B) n (some (.tup [.int (A.length : Int), .str o])) (some (.int (A.length : Int))) (some (.str o)) (some (wN l)) (some (wN r))).set 9 (some (.lst ((A ++ r :: l :: B).map wN))) from rfl, ← fin]
  refine sSet_at (rPure (rOpF (st1 := st2) (st2 := st2) (rPure (rOpF (st1 := st2) (st2 := st2) (x := .lst (A.map wN)) (y := .lst [wN r, wN l]) (rPure ?_) (rPure (rLst (rCons (rV rfl) (rCons (rV rfl) rNil)) l2)) (oCat_at rfl rfl (by rw [p1]; simp; omega)))) (y := .lst (B.map wN)) (rPure ?_) (oCat_at rfl rfl (by rw [List.length_append, p1, p2]; simp; omega))))
  · rw [← c1]
    exact rSl (w := .lst ((A ++ l :: r :: B).map wN)) (rV rfl) rfl (rSome (rV rfl)) rfl
  · rw [← c2]
    exact rSl (w := .lst ((A ++ l :: r :: B).map wN)) (rV rfl) (rSome (rOp (rV rfl) rC rfl)) rfl rfl
end
end K19


set_option maxRecDepth 100000
set_option maxHeartbeats 4000000
namespace K19
open PySem L2 Evl Sh
theorem lc_pure {g : T} {tt : Sh.Env → M Bool} {te : Sh.Env → M W} {env : Sh.Env} {st : Store} {α : Type} {u : α → W} {e2 : α → Sh.Env} {p : α → Bool} {f : α → W} : ∀ (ws : List α) (acc : List W),
    (∀ w ∈ ws, g (u w) env st = .ok (e2 w) st ∧ tt (e2 w) st = .ok (p w) st ∧ te (e2 w) st = .ok (f w) st) → acc.length + ws.length ≤ 1024 →
    lcGo (fun _ => True) g tt te env (ws.map u) acc st = .ok (acc ++ (ws.filter p).map f) st
  | [], acc, h, hz => by simp [lcGo]
  | w :: ws, acc, h, hz => by
    obtain ⟨h1, h2, h3⟩ := h w List.mem_cons_self
    rw [List.length_cons] at hz
    have l : acc.length < sizeLine := Nat.lt_of_lt_of_le (show acc.length < 1024 by omega) (line_ge (Nat.le_refl _))
    rw [List.map_cons, lcGo, if_pos True.intro, h1]
    show (tt (e2 w) st).nox.bind _ = _
    rw [h2]
    rw [show (Out.ok (p w) st).nox = .ok (p w) st from rfl, Out.bind_ok]
    by_cases q : p w = true
    · rw [if_pos q, h3, show (Out.ok (f w) st).nox = .ok (f w) st from rfl, Out.bind_ok, if_pos l, lc_pure ws (acc ++ [f w]) (fun w hw => h w (List.mem_cons_of_mem _ hw)) (by rw [List.length_append, List.length_singleton]; omega),
        List.filter_cons, if_pos q, List.map_cons, List.append_assoc]
      rfl
    · rw [if_neg q, lc_pure ws acc (fun w hw => h w (List.mem_cons_of_mem _ hw)) (by omega), List.filter_cons, if_neg q]
section
variable {c n : Nat} {hl : List W} {h : Nat → Int} {e0 e1 e3 e4 e5 e7 e8 : Option W}
theorem loop_run (hh : Tells c hl h) (hc : c ≤ 16) {row row' : List Nat} {ex : List (Nat × Bool)} {cr : List (Nat × Nat)} (p : Play h row ex cr row') :
    ∀ (cl : List W) (st : Store) (e11 e12 e13 e14 e15 : Option W), row.length = c → (∀ x ∈ row, x < c) → lcell st n = some cl → cl.length + ex.length ≤ 1024 →
    ∃ (e11' e12' e13' e14' e15' : Option W) (st' : Store), forGo (fun _ => True) (gN 11) lBody (ex.map exW) (lEnv e0 e1 e3 e4 e5 c hl e7 e8 row n e11 e12 e13 e14 e15) st =
      .nx (lEnv e0 e1 e3 e4 e5 c hl e7 e8 row' n e11' e12' e13' e14' e15') st' ∧ lcell st' n = some (cl ++ cr.map pW) := by
  induction p with
  | nil row =>
    intro cl st e11 e12 e13 e14 e15 _ _ hn _
    exact ⟨e11, e12, e13, e14, e15, st, by simp [forGo], by simpa using hn⟩
  | cons A l r B p ih =>
    intro cl st e11 e12 e13 e14 e15 hl' hm hn hz
    rw [List.length_cons] at hz
    obtain ⟨f11, f12, f13, f14, f15, hb⟩ := turn_run (e0 := e0) (e1 := e1) (e3 := e3) (e4 := e4) (e5 := e5) (e7 := e7) (e8 := e8) (e11 := e11) (e12 := e12) (e13 := e13) (e14 := e14) (e15 := e15) hh hc hl' (hm l (by simp)) (hm r (by simp)) hn (by omega)
    obtain ⟨g11, g12, g13, g14, g15, st', q1, q2⟩ := ih (cl ++ [pW (min l r, max l r)]) (st.set n (.lst (cl ++ [pW (min l r, max l r)]))) f11 f12 f13 f14 f15 (by rw [← hl']; simp) (fun x hx => hm x (by
      simp only [List.mem_append, List.mem_cons] at hx ⊢
      rcases hx with h | h | h | h
      · exact .inl h
      · exact .inr (.inr (.inl h))
      · exact .inr (.inl h)
      · exact .inr (.inr (.inr h)))) (lcell_set (lcell_lt hn)) (by rw [List.length_append, List.length_singleton]; omega)
    refine ⟨g11, g12, g13, g14, g15, st', ?_, by rw [q2, List.append_assoc]; rfl⟩
    rw [List.map_cons, forGo, if_pos True.intro]
    have s1 : ∀ w, (gN 11) w (lEnv e0 e1 e3 e4 e5 c hl e7 e8 (A ++ l :: r :: B) n e11 e12 e13 e14 e15) st = .ok ((lEnv e0 e1 e3 e4 e5 c hl e7 e8 (A ++ l :: r :: B) n e11 e12 e13 e14 e15).set 11 (some w)) st := fun w => rfl
    rw [s1]
    simp only []
    rw [hb]
    exact q1
end

/-! ### what should have crossed -/
theorem find_pos {x : Nat} : ∀ {l : List Nat}, x ∈ l → findW (wN x) (l.map wN) = some (l.idxOf x)
  | y :: l, h => by
    rw [List.map_cons, findW]
    have e : eqW (wN y) (wN x) = decide (y = x) := by
      show ((y : Int) == (x : Int)) = decide (y = x)
      by_cases q : y = x
      · subst q; simp
      · rw [decide_eq_false q, beq_eq_false_iff_ne]
        omega
    rw [e]
    by_cases q : y = x
    · subst q
      simp
    · rw [decide_eq_false q, if_neg Bool.false_ne_true, find_pos ((List.mem_cons.mp h).resolve_left fun e => q e.symm), List.idxOf_cons]
      have : (y == x) = false := beq_eq_false_iff_ne.mpr q
      rw [this]
      rfl
theorem flat_wN (l : List Nat) : (l.map wN).all flatW = true := by
  rw [List.all_map, List.all_eq_true]
  intro x _
  rfl
theorem mIndex_at {l : List Nat} {x : Nat} {st : Store} (h : x ∈ l) : mIndex (.lst (l.map wN)) [wN x] st = .ok (.int (l.idxOf x : Int)) st := by
  unfold mIndex
  simp only [lview_lst]
  refine (if_pos ⟨rfl, flat_wN l⟩).trans ?_
  rw [find_pos h]
def dueA (order : List Nat) (c a : Nat) : List (Nat × Nat) := (((List.range (c - (a + 1))).map (fun i => a + 1 + i)).filter fun b => decide (order.idxOf b < order.idxOf a)).map fun b => (a, b)
def dueL (order : List Nat) (c : Nat) : Nat → List (Nat × Nat)
  | 0 => []
  | n + 1 => dueL order c n ++ dueA order c n
theorem mem_dueA {order : List Nat} {c a x y : Nat} : (x, y) ∈ dueA order c a ↔ x = a ∧ a < y ∧ y < c ∧ order.idxOf y < order.idxOf a := by
  unfold dueA
  rw [List.mem_map]
  constructor
  · rintro ⟨b, hb, e⟩
    cases e
    rw [List.mem_filter, List.mem_map] at hb
    obtain ⟨⟨i, hi, rfl⟩, q⟩ := hb
    rw [List.mem_range] at hi
    exact ⟨rfl, by omega, by omega, of_decide_eq_true q⟩
  · rintro ⟨rfl, h1, h2, h3⟩
    exact ⟨y, List.mem_filter.mpr ⟨List.mem_map.mpr ⟨y - (x + 1), List.mem_range.mpr (by omega), by omega⟩, decide_eq_true h3⟩, rfl⟩
theorem mem_dueL {order : List Nat} {c x y : Nat} : ∀ {n : Nat}, (x, y) ∈ dueL order c n ↔ x < n ∧ x < y ∧ y < c ∧ order.idxOf y < order.idxOf x
  | 0 => by simp [dueL]
  | n + 1 => by
    rw [dueL, List.mem_append, mem_dueL, mem_dueA]
    constructor
    · rintro (⟨a, b, d⟩ | ⟨rfl, b, d⟩)
      · exact ⟨by omega, b, d⟩
      · exact ⟨by omega, b, d⟩
    · rintro ⟨a, b, d⟩
      by_cases q : x = n
      · exact .inr ⟨q, by omega, d.1, by rw [← q]; exact d.2⟩
      · exact .inl ⟨by omega, b, d⟩
def ltP (p q : Nat × Nat) : Prop := p.1 < q.1 ∨ (p.1 = q.1 ∧ p.2 < q.2)
theorem sort_dueA (order : List Nat) (c a : Nat) : (dueA order c a).Pairwise ltP := by
  unfold dueA
  refine List.Pairwise.map _ (fun x y h => .inr ⟨rfl, h⟩) (List.Pairwise.sublist List.filter_sublist ?_)
  exact List.Pairwise.map _ (fun x y h => by omega) (List.pairwise_lt_range)
theorem sort_dueL (order : List Nat) (c : Nat) : ∀ n, (dueL order c n).Pairwise ltP
  | 0 => List.Pairwise.nil
  | n + 1 => by
    rw [dueL, List.pairwise_append]
    refine ⟨sort_dueL order c n, sort_dueA order c n, ?_⟩
    rintro ⟨x, y⟩ hp ⟨u, v⟩ hq
    have a := mem_dueL.mp hp
    have b := mem_dueA.mp hq
    exact .inl (by rw [b.1]; exact a.1)
theorem due_perm {order : List Nat} {c : Nat} {cr : List (Nat × Nat)} (ho : order.Perm (List.range c)) (hc : cr.Perm (invs order)) : (dueL order c c).Perm cr := by
  have nd : order.Nodup := ho.nodup_iff.mpr List.nodup_range
  have n1 : (dueL order c c).Nodup := (sort_dueL order c c).imp fun {a b} h e => by
    subst e
    rcases h with h | h
    · omega
    · omega
  refine List.Perm.trans ?_ hc.symm
  rw [List.perm_ext_iff_of_nodup n1 (nodup_invs nd)]
  rintro ⟨x, y⟩
  rw [mem_dueL, mem_invs nd]
  have m : ∀ z, z < c → z ∈ order := fun z hz => ho.mem_iff.mpr (List.mem_range.mpr hz)
  constructor
  · rintro ⟨h1, h2, h3, h4⟩
    have my := m y h3
    have mx := m x h1
    refine ⟨h2, order.idxOf y, order.idxOf x, h4, ?_, ?_⟩
    · rw [List.getElem?_eq_getElem (List.idxOf_lt_length_of_mem my), List.getElem_idxOf]
    · rw [List.getElem?_eq_getElem (List.idxOf_lt_length_of_mem mx), List.getElem_idxOf]
  · rintro ⟨h1, i, j, h2, h3, h4⟩
    obtain ⟨li, rfl⟩ := List.getElem?_eq_some_iff.mp h3
    obtain ⟨lj, rfl⟩ := List.getElem?_eq_some_iff.mp h4
    have r1 := List.mem_range.mp (ho.mem_iff.mp (List.getElem_mem li))
    have r2 := List.mem_range.mp (ho.mem_iff.mp (List.getElem_mem lj))
    refine ⟨r2, h1, r1, ?_⟩
    rw [nd.idxOf_getElem _ li, nd.idxOf_getElem _ lj]
    exact h2
end K19


set_option maxRecDepth 100000
set_option maxHeartbeats 4000000
namespace K19
open PySem L2 Evl Sh
noncomputable abbrev dBodyS : S := sSet 16 (dPure (dOpF oCat (dVar 16) (dPure (dLc (iR2 (dCons (dAdd (dVar 17) (dC (.int 1))) (dCons (dVar 2) dNil))) (gN 18) (dB (dGt (dBM tyL mIndex (dVar 4) (dCons (dVar 17) dNil)) (dBM tyL mIndex (dVar 4) (dCons (dVar 18) dNil)))) (dTup (dCons (dVar 17) (dCons (dVar 18) dNil))) [18]))))
abbrev dEnv (e0 e1 e3 e5 e6 e7 e8 e9 e10 e11 e12 e13 e14 e15 : Option W) (c : Nat) (order : List Nat) (L : List (Nat × Nat)) (e17 e18 : Option W) : Sh.Env :=
  [e0, e1, some (.int (c : Int)), e3, some (.lst (order.map wN)), e5, e6, e7, e8, e9, e10, e11, e12, e13, e14, e15, some (.lst (L.map pW)), e17, e18]
theorem len_dueA (order : List Nat) (c a : Nat) : (dueA order c a).length ≤ c := by
  unfold dueA
  rw [List.length_map]
  refine Nat.le_trans (List.length_filter_le _ _) ?_
  rw [List.length_map, List.length_range]
  omega
theorem len_dueL (order : List Nat) (c : Nat) : ∀ n, (dueL order c n).length ≤ c * n
  | 0 => Nat.le_refl _
  | n + 1 => by
    have a := len_dueL order c n
    have b := len_dueA order c n
    rw [dueL, List.length_append, Nat.mul_succ]
    omega
theorem rng_map (lo n : Nat) : rngW ((lo : Int) + 1) n = ((List.range n).map (fun i => lo + 1 + i)).map wN := by
  unfold rngW
  rw [List.map_map]
  refine List.map_congr_left fun i _ => ?_
  show W.int _ = W.int _
  congr 1
section
variable {c : Nat} {order : List Nat} {e0 e1 e3 e5 e6 e7 e8 e9 e10 e11 e12 e13 e14 e15 e17 e18 : Option W} {st : Store}
theorem due_turn (hc : c ≤ 16) (ho : order.Perm (List.range c)) {a : Nat} (ha : a < c) : dBodyS ((dEnv e0 e1 e3 e5 e6 e7 e8 e9 e10 e11 e12 e13 e14 e15 c order (dueL order c a) e17 e18).set 17 (some (wN a))) st =
    .nx (dEnv e0 e1 e3 e5 e6 e7 e8 e9 e10 e11 e12 e13 e14 e15 c order (dueL order c (a + 1)) (some (wN a)) e18) st := by
  have mem : ∀ z, z < c → z ∈ order := fun z hz => ho.mem_iff.mpr (List.mem_range.mpr hz)
  have n1 : ((c : Int) - ((a : Int) + 1)).toNat = c - (a + 1) := by omega
  have l1 : (dueL order c a).length ≤ 256 := by
    have := len_dueL order c a
    have : c * a ≤ 16 * 16 := Nat.mul_le_mul hc (by omega)
    omega
  have l2 : (dueA order c a).length ≤ 16 := Nat.le_trans (len_dueA order c a) hc
  have lc : dLc (iR2 (dCons (dAdd (dVar 17) (dC (.int 1))) (dCons (dVar 2) dNil))) (gN 18) (dB (dGt (dBM tyL mIndex (dVar 4) (dCons (dVar 17) dNil)) (dBM tyL mIndex (dVar 4) (dCons (dVar 18) dNil)))) (dTup (dCons (dVar 17) (dCons (dVar 18) dNil))) [18]
      ((dEnv e0 e1 e3 e5 e6 e7 e8 e9 e10 e11 e12 e13 e14 e15 c order (dueL order c a) e17 e18).set 17 (some (wN a))) st = .ok ((dueA order c a).map pW) st := by
    unfold dLc
    rw [rR2 (i := (a : Int) + 1) (j := (c : Int)) (st1 := st) (rCons (rOp (rV (w := wN a) rfl) rC rfl) (rCons (rV rfl) rNil)) (sm_lit (by omega) (by omega)) (sm_nat (by omega)), Out.bind_ok]
    show lcGo (fun _ => True) _ _ _ _ (rngW ((a : Int) + 1) ((c : Int) - ((a : Int) + 1)).toNat) [] st = _
    rw [n1, rng_map, lc_pure (u := wN) (e2 := fun b => dEnv e0 e1 e3 e5 e6 e7 e8 e9 e10 e11 e12 e13 e14 e15 c order (dueL order c a) (some (wN a)) (some (wN b))) (p := fun b => decide (order.idxOf b < order.idxOf a)) (f := fun b => pW (a, b))]
    · rw [List.nil_append]
      unfold dueA
      rw [List.map_map]
      rfl
    · intro b hb
      obtain ⟨i, hi, rfl⟩ := List.mem_map.mp hb
      rw [List.mem_range] at hi
      refine ⟨rfl, ?_, ?_⟩
      · refine rB (rOp (x := .int (order.idxOf a : Int)) (y := .int (order.idxOf (a + 1 + i) : Int)) (rBM (x := .lst (order.map wN)) (rV rfl) tyL_lst (rCons (rV rfl) rNil) (mIndex_at (mem a ha))) (rBM (x := .lst (order.map wN)) (rV rfl) tyL_lst (rCons (rV rfl) rNil) (mIndex_at (mem _ (by omega)))) ?_)
        show Out.ok (W.bl (decide ((order.idxOf (a + 1 + i) : Int) < (order.idxOf a : Int)))) st = _
        rw [decide_eq_decide.mpr Int.ofNat_lt]
      · have l2 : (2 : Nat) ≤ sizeLine := line_ge (by decide)
        exact rTup (rCons (rV rfl) (rCons (rV rfl) rNil)) l2
    · rw [List.length_map, List.length_range]
      simp
      omega
  have e : (dueL order c a).map pW ++ (dueA order c a).map pW = (dueL order c (a + 1)).map pW := by rw [dueL, List.map_append]
  rw [show dEnv e0 e1 e3 e5 e6 e7 e8 e9 e10 e11 e12 e13 e14 e15 c order (dueL order c (a + 1)) (some (wN a)) e18 =
    ((dEnv e0 e1 e3 e5 e6 e7 e8 e9 e10 e11 e12 e13 e14 e15 c order (dueL order c a) e17 e18).set 17 (some (wN a))).set 16 (some (.lst ((dueL order c (a + 1)).map pW))) from rfl, ← e]
  exact sSet_at (rPure (rOpF (st1 := st) (x := .lst ((dueL order c a).map pW)) (rV rfl) (rPure lc) (oCat_at rfl rfl (by rw [List.length_map, List.length_map]; omega))))
theorem due_run (hc : c ≤ 16) (ho : order.Perm (List.range c)) : ∀ (m a : Nat) (e17 e18 : Option W), a + m = c →
    ∃ (e17' e18' : Option W), forGo (fun _ => True) (gN 17) dBodyS (rngW (a : Int) m) (dEnv e0 e1 e3 e5 e6 e7 e8 e9 e10 e11 e12 e13 e14 e15 c order (dueL order c a) e17 e18) st =
      .nx (dEnv e0 e1 e3 e5 e6 e7 e8 e9 e10 e11 e12 e13 e14 e15 c order (dueL order c c) e17' e18') st
  | 0, a, e17, e18, h => by
    have e : a = c := by omega
    subst e
    exact ⟨e17, e18, forGo_nil True.intro⟩
  | m + 1, a, e17, e18, h => by
    obtain ⟨f17, f18, q⟩ := due_run hc ho m (a + 1) (some (wN a)) e18 (by omega)
    refine ⟨f17, f18, ?_⟩
    rw [rngW_succ, forGo_nx (w := .int (a : Int)) (env1 := (dEnv e0 e1 e3 e5 e6 e7 e8 e9 e10 e11 e12 e13 e14 e15 c order (dueL order c a) e17 e18).set 17 (some (wN a))) (st1 := st) True.intro rfl (due_turn hc ho (by omega))]
    have e : (a : Int) + 1 = ((a + 1 : Nat) : Int) := by omega
    rw [e]
    exact q
end
/-! ### sorted, and texts -/
theorem pairs_at : ∀ cr : List (Nat × Nat), pairs? (cr.map pW) = some (cr.map fun p => ((p.1 : Int), (p.2 : Int)))
  | [] => rfl
  | p :: cr => by
    show (pairs? (cr.map pW)).map _ = _
    rw [pairs_at cr]
    rfl
theorem sorted_due {order : List Nat} {c n : Nat} {cr : List (Nat × Nat)} {st : Store} (hn : lcell st n = some (cr.map pW)) (hp : (dueL order c c).Perm cr) : cSortedP [.cell n] st = .ok ((dueL order c c).map pW) st := by
  unfold cSortedP
  simp only [lview_cell, hn, pairs_at]
  rw [← sortP_uniq (hp.map fun p => ((p.1 : Int), (p.2 : Int)))]
  · rw [List.map_map]
    rfl
  · refine List.Pairwise.map _ (fun x y h => ?_) (sort_dueL order c c)
    have h : ltP x y := h
    unfold ltP at h
    simp only [leP, decide_eq_true_eq]
    omega
theorem okDs_of {l : List W} (h : ∀ w ∈ l, okD w = true) : okDs l = true := by
  induction l with
  | nil => rfl
  | cons x l ih =>
    show (okD x && okDs l) = true
    rw [h x List.mem_cons_self, ih fun w hw => h w (List.mem_cons_of_mem _ hw)]
    rfl
theorem wtDs_le {l : List W} {k : Nat} (h : ∀ w ∈ l, wtD w ≤ k) : wtDs l ≤ l.length * (k + 1) := by
  induction l with
  | nil => exact Nat.zero_le _
  | cons x l ih =>
    have a := h x List.mem_cons_self
    have b := ih fun w hw => h w (List.mem_cons_of_mem _ hw)
    show wtD x + 1 + wtDs l ≤ (l.length + 1) * (k + 1)
    rw [Nat.add_mul]
    omega
theorem dpDs_le {l : List W} {k : Nat} (h : ∀ w ∈ l, dpD w ≤ k) : dpDs l ≤ k := by
  induction l with
  | nil => exact Nat.zero_le _
  | cons x l ih =>
    have a := h x List.mem_cons_self
    have b := ih fun w hw => h w (List.mem_cons_of_mem _ hw)
    show max (dpD x) (dpDs l) ≤ k
    omega
theorem ok_wN {x : Nat} (h : x < 1000) : okD (wN x) = true := decide_eq_true (by omega)
end K19


set_option maxRecDepth 100000
set_option maxHeartbeats 4000000
namespace K19
open PySem L2 Evl Sh
/-- how many columns -/
theorem count_run {ns : List Int} {st : Store} (ok : StOk ns st 0) (hl : st.length = 1) {e3 : List (Option W)} {e0 e2 : Option W} :
    ∃ (v : Int) (st1 : Store), 0 ≤ v ∧ v < 10 ∧ StOk ns st1 0 ∧ st1.length = 1 ∧ sSet 2 (dCall m_take (dCons (dVar 1) (dCons (dC (.int 10)) dNil))) (e0 :: some (.cell 0) :: e2 :: e3) st = .nx (e0 :: some (.cell 0) :: some (.int v) :: e3) st1 := by
  obtain ⟨v, st1, t1, t2, t3, t4, c, rfl⟩ := take_ok ok (k := 10) (by decide) (by decide)
  exact ⟨v, _, t2, t3, t4, by rw [List.length_set, hl], sSet_at (rCall (rCons (rV (w := .cell 0) rfl) (rCons rC rNil)) t1)⟩
theorem more_run {ns : List Int} {st : Store} (ok : StOk ns st 0) (hl : st.length = 1) {e3 : List (Option W)} {e0 : Option W} {v : Int} (h0 : 0 ≤ v) (h1 : v < 10) :
    ∃ (c : Nat) (st1 : Store), c ≤ 16 ∧ StOk ns st1 0 ∧ st1.length = 1 ∧ sIf (dB (dEq (dCall m_take (dCons (dVar 1) (dCons (dC (.int 8)) dNil))) (dC (.int 1)))) (sSet 2 (dAdd (dC (.int 10)) (dCall m_take (dCons (dVar 1) (dCons (dC (.int 7)) dNil))))) sNil (e0 :: some (.cell 0) :: some (.int v) :: e3) st =
      .nx (e0 :: some (.cell 0) :: some (.int (c : Int)) :: e3) st1 := by
  obtain ⟨u, st1, t1, t2, t3, t4, k, rfl⟩ := take_ok ok (k := 8) (by decide) (by decide)
  have q : dCall m_take (dCons (dVar 1) (dCons (dC (.int 8)) dNil)) (e0 :: some (.cell 0) :: some (.int v) :: e3) st = .ok (.int u) (st.set 0 k) := rCall (rCons (rV (w := .cell 0) rfl) (rCons rC rNil)) t1
  have hl1 : (st.set 0 k).length = 1 := by rw [List.length_set, hl]
  by_cases hu : u = 1
  · obtain ⟨x, st2, x1, x2, x3, x4, k2, rfl⟩ := take_ok t4 (k := 7) (by decide) (by decide)
    refine ⟨(10 + x).toNat, _, by omega, x4, by rw [List.length_set, hl1], ?_⟩
    have e : (((10 + x).toNat : Nat) : Int) = 10 + x := by omega
    rw [e]
    refine sIf_t (rB (rOp q rC ?_)) (sSet_at (rOp (x := .int 10) (y := .int x) rC (rCall (rCons (rV (w := .cell 0) rfl) (rCons rC rNil)) x1) rfl))
    rw [oEq_int, decide_eq_true hu]
  · refine ⟨v.toNat, _, by omega, t4, hl1, ?_⟩
    have e : ((v.toNat : Nat) : Int) = v := by omega
    rw [e]
    refine sIf_f (rB (rOp q rC ?_)) sNil_at
    rw [oEq_int, decide_eq_false hu]
noncomputable abbrev hPop : Sh.Env → M W := dSub (dMul ePop (dC (.int 7))) (dC (.int 20))
abbrev hW (x : Nat) : W := .int ((x : Int) * 7 - 20)
theorem h_pop (env : Sh.Env) (st st' : Store) (x : Nat) (h : ePop env st = .ok (wN x) st') : hPop env st = .ok (hW x) st' := by
  refine rOp (x := .int ((x : Int) * 7)) (y := .int 20) (rOp (x := .int (x : Int)) (y := .int 7) h rC ?_) rC rfl
  exact oIC_at (cmul (by decide))
/-- a row drawn -/
theorem draw_run {ns : List Int} {st : Store} {c : Nat} (hc : c ≤ 16) (ok : StOk ns st 0) {g : Nat → W} {te : Sh.Env → M W} (hg : ∀ (env' : Sh.Env) (st st' : Store) (x : Nat), ePop env' st = .ok (wN x) st' → te env' st = .ok (g x) st')
    {e0 e3 e4 e5 : Option W} {e6 : List (Option W)} :
    ∃ (picked : List Nat) (st1 : Store), picked.Perm (List.range c) ∧ StOk ns st1 0 ∧ st1.length = st.length + 1 ∧
      sSet 3 (dCell (dListR (dVar 2))) (e0 :: some (.cell 0) :: some (.int (c : Int)) :: e3 :: e4 :: e5 :: e6) st = .nx (e0 :: some (.cell 0) :: some (.int (c : Int)) :: some (.cell st.length) :: e4 :: e5 :: e6) (st ++ [.lst (rngW 0 c)]) ∧
      dPure (dLc (iR1 (dCons (dVar 2) dNil)) (gN 5) tYesW te [5]) (e0 :: some (.cell 0) :: some (.int (c : Int)) :: some (.cell st.length) :: e4 :: e5 :: e6) (st ++ [.lst (rngW 0 c)]) = .ok (.lst (picked.map g)) st1 := by
  have l0 := ok.lt
  have r1 : lcell (st ++ [.lst (rngW 0 c)]) st.length = some ((List.range c).map wN) := by rw [lcell_new, rng_wN]
  have ok1 : StOk ns (st ++ [.lst (rngW 0 c)]) 0 := by
    obtain ⟨a, b, d, e, f⟩ := ok
    exact ⟨a, b, d, by rw [lcell_app l0, e], f⟩
  obtain ⟨picked, st1, p1, p2, p3, p4⟩ := pops_run (env := (e0 :: some (.cell 0) :: some (.int (c : Int)) :: some (.cell st.length) :: e4 :: none :: e6)) (s := 0) (r := st.length) rfl rfl (by omega) hg c (List.range c) 0 [] (st ++ [.lst (rngW 0 c)]) List.length_range hc (by simp; omega) ok1 r1
  refine ⟨picked, st1, p1, p3, by rw [p4, List.length_append]; rfl, sSet_at (rCell (rListR (rV rfl) (sm_nat (by omega)) (n24 (by omega)))), rPure ?_⟩
  exact rLc (rR1 (n := c) (rCons (rV rfl) rNil) (sm_nat (by omega))) p2
theorem fit_order {c : Nat} (hc : c ≤ 16) {order : List Nat} (ho : order.Perm (List.range c)) : okDs (order.map wN) = true ∧ wtDs (order.map wN) ≤ 512 ∧ dpDs (order.map wN) ≤ 0 := by
  have hm : ∀ w ∈ order.map wN, ∃ x, x < 16 ∧ w = wN x := by
    intro w hw
    obtain ⟨x, hx, rfl⟩ := List.mem_map.mp hw
    exact ⟨x, by have := List.mem_range.mp (ho.mem_iff.mp hx); omega, rfl⟩
  have hl : (order.map wN).length ≤ 16 := by
    rw [List.length_map, ho.length_eq, List.length_range]
    exact hc
  refine ⟨okDs_of fun w hw => ?_, ?_, dpDs_le fun w hw => ?_⟩
  · obtain ⟨x, hx, rfl⟩ := hm w hw
    exact ok_wN (by omega)
  · have := wtDs_le (l := order.map wN) (k := 31) fun w hw => by
      obtain ⟨x, hx, rfl⟩ := hm w hw
      exact Nat.le_refl _
    omega
  · obtain ⟨x, hx, rfl⟩ := hm w hw
    exact Nat.le_refl _
theorem fit_heights {c : Nat} (hc : c ≤ 16) {hp : List Nat} (ho : hp.Perm (List.range c)) : okDs (hp.map hW) = true ∧ wtDs (hp.map hW) ≤ 512 ∧ dpDs (hp.map hW) ≤ 0 := by
  have hm : ∀ w ∈ hp.map hW, ∃ x : Nat, x < 16 ∧ w = hW x := by
    intro w hw
    obtain ⟨x, hx, rfl⟩ := List.mem_map.mp hw
    exact ⟨x, by have := List.mem_range.mp (ho.mem_iff.mp hx); omega, rfl⟩
  have hl : (hp.map hW).length ≤ 16 := by
    rw [List.length_map, ho.length_eq, List.length_range]
    exact hc
  refine ⟨okDs_of fun w hw => ?_, ?_, dpDs_le fun w hw => ?_⟩
  · obtain ⟨x, hx, rfl⟩ := hm w hw
    exact decide_eq_true (by omega)
  · have := wtDs_le (l := hp.map hW) (k := 31) fun w hw => by
      obtain ⟨x, hx, rfl⟩ := hm w hw
      exact Nat.le_refl _
    omega
  · obtain ⟨x, hx, rfl⟩ := hm w hw
    exact Nat.le_refl _
theorem fit_due {c : Nat} (hc : c ≤ 16) (order : List Nat) : okDs ((dueL order c c).map pW) = true ∧ dpDs ((dueL order c c).map pW) ≤ 59 := by
  have hm : ∀ w ∈ (dueL order c c).map pW, ∃ x y : Nat, x < 16 ∧ y < 16 ∧ w = pW (x, y) := by
    intro w hw
    obtain ⟨⟨x, y⟩, hx, rfl⟩ := List.mem_map.mp hw
    have := mem_dueL.mp hx
    exact ⟨x, y, by omega, by omega, rfl⟩
  refine ⟨okDs_of fun w hw => ?_, dpDs_le fun w hw => ?_⟩
  · obtain ⟨x, y, hx, hy, rfl⟩ := hm w hw
    show (okD (wN x) && (okD (wN y) && true)) = true
    rw [ok_wN (by omega), ok_wN (by omega)]
    rfl
  · obtain ⟨x, y, hx, hy, rfl⟩ := hm w hw
    show 1 ≤ 59
    decide
theorem tells_heights {c : Nat} {hp : List Nat} (ho : hp.Perm (List.range c)) : Tells c (hp.map hW) (fun x => ((hp.getD x 0 : Nat) : Int) * 7 - 20) := by
  intro x hx
  have l : x < hp.length := by rw [ho.length_eq, List.length_range]; exact hx
  show (hp.map hW)[x]? = some (.int (((hp.getD x 0 : Nat) : Int) * 7 - 20))
  rw [List.getElem?_map, List.getD_eq_getElem?_getD, List.getElem?_eq_getElem l]
  rfl
theorem law_true (ns : List Int) (_ : ns.length ≤ 63) : ∃ st, m_law [.fz (ns.map W.int)] [] = .ok (.bl true) st := by
  obtain ⟨c0, s1, ok1⟩ := state_ok ns []
  obtain ⟨v, sA, v1, v2, okA, lA, rA⟩ := count_run (e0 := some (.fz (ns.map W.int))) (e2 := none) (e3 := List.replicate 16 none) ok1 rfl
  obtain ⟨c, sB, hc, okB, lB, rB'⟩ := more_run (e0 := some (.fz (ns.map W.int))) (e3 := List.replicate 16 none) okA lA v1 v2
  obtain ⟨order, sC, ho, okC, lC, rC1, rC2⟩ := draw_run (te := ePop) (g := wN) (e0 := some (.fz (ns.map W.int))) (e3 := none) (e4 := none) (e5 := none) (e6 := List.replicate 13 none) hc okB fun _ _ _ _ h => h
  obtain ⟨hp, sD, hh, okD', lD, rD1, rD2⟩ := draw_run (te := hPop) (g := hW) (e0 := some (.fz (ns.map W.int))) (e3 := some (.cell sB.length)) (e4 := some (.lst (order.map wN))) (e5 := none) (e6 := List.replicate 13 none) hc okC h_pop
  have tells := tells_heights hh
  obtain ⟨f1, f2, f3⟩ := fit_order hc ho
  obtain ⟨g1, g2, g3⟩ := fit_heights hc hh
  obtain ⟨d1, d2⟩ := fit_due hc order
  obtain ⟨ex, cr, tl, r, w1, w2, w3, w4⟩ := weave_run ho hc tells sD
  have exl : ex.length ≤ 256 := by
    have : c * c ≤ 16 * 16 := Nat.mul_le_mul hc hc
    omega
  generalize hsE : sD ++ [C.lst tl, .lst r, .dead] = sE at w4
  have rep : ∀ st, cRepr [.lst [.lst (order.map wN), .lst (hp.map hW)]] st = .ok (.str (shownW (.lst [.lst (order.map wN), .lst (hp.map hW)]))) st := fun st => repr_at st (by
    show (okDs (order.map wN) && (okDs (hp.map hW) && true)) = true
    rw [f1, g1]
    rfl) (by
    show wtDs (order.map wN) + 1 + (wtDs (hp.map hW) + 1 + 0) ≤ 2 ^ 20
    have : (2 : Nat) ^ 20 = 1048576 := by decide
    omega) (by
    show max (dpDs (order.map wN) + 1) (max (dpDs (hp.map hW) + 1) 0) + 1 ≤ 60
    omega) rfl
  generalize shownW (.lst [.lst (order.map wN), .lst (hp.map hW)]) = text at rep
  have l2 : (2 : Nat) ≤ sizeLine := line_ge (by decide)
  have l0 : (0 : Nat) ≤ sizeLine := Nat.zero_le _
  -- the exchanges played
  obtain ⟨e11, e12, e13, e14, e15, sF, p1, p2⟩ := loop_run (n := sE.length) (e0 := some (.fz (ns.map W.int))) (e1 := some (.cell 0)) (e3 := some (.cell sC.length)) (e4 := some (.lst (order.map wN))) (e5 := none) (e7 := some (.str text)) (e8 := some (.lst (ex.map exW))) tells hc w1 [] (sE ++ [.lst []]) none none none none none
    List.length_range (fun x hx => List.mem_range.mp hx) lcell_new (by simp; omega)
  rw [List.nil_append] at p2
  -- what should have crossed
  obtain ⟨e17, e18, q1⟩ := due_run (e0 := some (.fz (ns.map W.int))) (e1 := some (.cell 0)) (e3 := some (.cell sC.length)) (e5 := none) (e6 := some (.lst (hp.map hW))) (e7 := some (.str text)) (e8 := some (.lst (ex.map exW))) (e9 := some (.lst (order.map wN))) (e10 := some (.cell sE.length))
    (e11 := e11) (e12 := e12) (e13 := e13) (e14 := e14) (e15 := e15) (st := sF) hc ho c 0 none none (by omega)
  have pm := due_perm ho w2
  refine ⟨sF, body_rt rfl ?_⟩
  unfold b_law
  refine sSeq_at (sSet_at (rCall (rCons (rV rfl) rNil) s1)) ?_
  refine sSeq_at rA ?_
  refine sSeq_at rB' ?_
  refine sSeq_at rC1 ?_
  refine sSeq_at (sSet_at rC2) ?_
  refine sSeq_at rD1 ?_
  refine sSeq_at (sSet_at rD2) ?_
  refine sSeq_at (sSet_at (rCallB (rCons (w := .lst [.lst (order.map wN), .lst (hp.map hW)]) (rPure (rLst (rCons (rV rfl) (rCons (rV rfl) rNil)) l2)) rNil) (rep sD))) ?_
  refine sSeq_at (sSet_at (rCall (rCons (rV rfl) (rCons (rV rfl) rNil)) w4)) ?_
  refine sSeq_at (sSet_at (rPure (rListR (rV rfl) (sm_nat (by omega)) (n24 (by omega))))) ?_
  refine sSeq_at (sSet_at (rCell (rLst rNil l0))) ?_
  refine sSeq_at (sIf_f (rNot (c := true) (rB (c := true) (show dIs "list" (dVar 8) _ _ = _ from rfl))) sNil_at) ?_
  rw [rng_wN]
  refine sSeq_at (rFor (rList (rV rfl)) p1) ?_
  refine sSeq_at (sSet_at (rPure (rLst rNil l0))) ?_
  refine sSeq_at (rFor (rR1 (n := c) (rCons (rV rfl) rNil) (sm_nat (by omega))) q1) ?_
  refine sRet_at (rAndVT (st1 := sF) (rOp (x := .lst (order.map wN)) (y := .lst (order.map wN)) (rV rfl) (rV rfl) (eq_self_lst sF f1 (by omega))) (rAndVT (st1 := sF) (rOp (x := .lst ((dueL order c c).map pW)) (y := .lst ((dueL order c c).map pW)) (rPure (rCallF (rCons (rV rfl) rNil) (sorted_due p2 pm))) (rV rfl) (eq_self_lst sF d1 d2)) ?_))
  refine rOp (x := .str text) (y := .str text) (rCallB (rCons (w := .lst [.lst (order.map wN), .lst (hp.map hW)]) (rPure (rLst (rCons (rV rfl) (rCons (rV rfl) rNil)) l2)) rNil) (rep sF)) (rV rfl) ?_
  rw [oEq_str, decide_eq_true rfl]
end K19


set_option maxRecDepth 100000
set_option maxHeartbeats 4000000
namespace K19
open PySem L2 Evl Sh
theorem all_mk {l : PySem.W.OpenLaw} {w : World} {K : PySem.W.Frag} {h : Heap} {mg : MG} {fa : Addr} (X : K.In h) (G : h.Ns mainGlobals mg) (hfa : mg "law" = some (.ref fa))
    {f0 : Addr} {od0 an0 : Option Addr} {sl0 : Array (Option Value)} {oc0 kV0 dc0 pm0 cd0 ct0 : Value}
    (a0 : PySem.W.nsIn K mainGlobals "weave" = some (some (.ref f0)))
    (l0 : K.lookup f0 = some ⟨oc0, od0, .func (PySem.W.fnOf "weave" "weave" (defArgs S_weave) (defBody S_weave) (defScope S_weave) .none kV0 dc0 pm0 an0 cd0 ct0), sl0⟩)
    (c0 : PySem.W.codeIn K cd0 "weave" = true) (k0 : PySem.W.keepIn K (.ref f0) = true)
    {f1 : Addr} {od1 an1 : Option Addr} {sl1 : Array (Option Value)} {oc1 kV1 dc1 pm1 cd1 ct1 : Value}
    (a1 : PySem.W.nsIn K mainGlobals "_law_state" = some (some (.ref f1)))
    (l1 : K.lookup f1 = some ⟨oc1, od1, .func (PySem.W.fnOf "_law_state" "_law_state" (defArgs S_state) (defBody S_state) (defScope S_state) .none kV1 dc1 pm1 an1 cd1 ct1), sl1⟩)
    (c1 : PySem.W.codeIn K cd1 "_law_state" = true) (k1 : PySem.W.keepIn K (.ref f1) = true)
    {f2 : Addr} {od2 an2 : Option Addr} {sl2 : Array (Option Value)} {oc2 kV2 dc2 pm2 cd2 ct2 : Value}
    (a2 : PySem.W.nsIn K mainGlobals "_law_take" = some (some (.ref f2)))
    (l2 : K.lookup f2 = some ⟨oc2, od2, .func (PySem.W.fnOf "_law_take" "_law_take" (defArgs S_take) (defBody S_take) (defScope S_take) .none kV2 dc2 pm2 an2 cd2 ct2), sl2⟩)
    (c2 : PySem.W.codeIn K cd2 "_law_take" = true) (k2 : PySem.W.keepIn K (.ref f2) = true)
    {f3 : Addr} {od3 an3 : Option Addr} {sl3 : Array (Option Value)} {oc3 kV3 dc3 pm3 cd3 ct3 : Value}
    (a3 : PySem.W.nsIn K mainGlobals "law" = some (some (.ref f3)))
    (l3 : K.lookup f3 = some ⟨oc3, od3, .func (PySem.W.fnOf "law" "law" (defArgs S_law) (defBody S_law) (defScope S_law) .none kV3 dc3 pm3 an3 cd3 ct3), sl3⟩)
    (c3 : PySem.W.codeIn K cd3 "law" = true) (k3 : PySem.W.keepIn K (.ref f3) = true)
    (z_abs : PySem.W.nsIn K mainGlobals "abs" = some none)
    (z_enumerate : PySem.W.nsIn K mainGlobals "enumerate" = some none)
    (z_int : PySem.W.nsIn K mainGlobals "int" = some none)
    (z_isinstance : PySem.W.nsIn K mainGlobals "isinstance" = some none)
    (z_len : PySem.W.nsIn K mainGlobals "len" = some none)
    (z_list : PySem.W.nsIn K mainGlobals "list" = some none)
    (z_max : PySem.W.nsIn K mainGlobals "max" = some none)
    (z_min : PySem.W.nsIn K mainGlobals "min" = some none)
    (z_range : PySem.W.nsIn K mainGlobals "range" = some none)
    (z_repr : PySem.W.nsIn K mainGlobals "repr" = some none)
    (z_sorted : PySem.W.nsIn K mainGlobals "sorted" = some none)
    (z_tuple : PySem.W.nsIn K mainGlobals "tuple" = some none)
    : ∃ fd : FuncData, (∀ (s : Shared) (u : Value), BindsTo s fd ⟨[u], []⟩ [("script", u)]) ∧ ∀ base : Heap, K.In base → base.Ns mainGlobals mg → RunAt callerA l.prog w K mg base fa fd ["script"] (spM K mg m_law) := by
  have e := hfa.symm.trans (PySem.W.mg_of X G a3)
  cases e
  have F0 := fun_mk (st := S_weave) l0 c0 k0
  have F1 := fun_mk (st := S_state) l1 c1 k1
  have F2 := fun_mk (st := S_take) l2 c2 k2
  have F3 := fun_mk (st := S_law) l3 c3 k3
  have b0 := F0.binds (ps := ["order", "heights"]) fun _ _ _ _ _ _ us hl => match us, hl with | [_, _], _ => rfl
  have b1 := F1.binds (ps := ["script"]) fun _ _ _ _ _ _ us hl => match us, hl with | [_], _ => rfl
  have b2 := F2.binds (ps := ["state", "many"]) fun _ _ _ _ _ _ us hl => match us, hl with | [_, _], _ => rfl
  have z_abs := PySem.W.mg_none_of X G z_abs
  have z_enumerate := PySem.W.mg_none_of X G z_enumerate
  have z_int := PySem.W.mg_none_of X G z_int
  have z_isinstance := PySem.W.mg_none_of X G z_isinstance
  have z_len := PySem.W.mg_none_of X G z_len
  have z_list := PySem.W.mg_none_of X G z_list
  have z_max := PySem.W.mg_none_of X G z_max
  have z_min := PySem.W.mg_none_of X G z_min
  have z_range := PySem.W.mg_none_of X G z_range
  have z_repr := PySem.W.mg_none_of X G z_repr
  have z_sorted := PySem.W.mg_none_of X G z_sorted
  have z_tuple := PySem.W.mg_none_of X G z_tuple
  refine ⟨PySem.W.fnOf "law" "law" (defArgs S_law) (defBody S_law) (defScope S_law) .none kV3 dc3 pm3 an3 cd3 ct3, fun s v => .of_eq rfl, fun base _ _ => ?_⟩
  have h_weave := has_weave (P := l.prog) (w := w) (base := base) F0 (PySem.W.mg_of X G a0) b0 z_enumerate z_len z_list z_range
  have h_state := has_state (P := l.prog) (w := w) (base := base) F1 (PySem.W.mg_of X G a1) b1 z_abs z_int z_len
  have h_take := has_take (P := l.prog) (w := w) (base := base) F2 (PySem.W.mg_of X G a2) b2 z_abs z_int z_len
  exact run_law (P := l.prog) (w := w) F3 h_weave h_state h_take z_int z_isinstance z_len z_list z_max z_min z_range z_repr z_sorted z_tuple
end K19
open PySem PySem.W PyProof.Rows
set_option maxHeartbeats 0 in
theorem PySem.Challenge.cw_heldloops_k19_weaving_holds : PySem.Challenge.rw_heldloops_k19_weaving.Holds := by
  w_on; o_law; k_head; (case hw => w_witness2)
  k_fill
  refine Sh.end_of (l := PySem.Challenge.rw_heldloops_k19_weaving) (n := 63) (x := "script") (f := K19.m_law) rfl (by decide) rfl (fun w h Y => PySem.W.kIn_of Y) ?F K19.law_true
  case F =>
    intro w mg fa h KX G hmg
    refine' K19.all_mk KX G hmg ?a0 ?l0 ?c0 ?k0 ?a1 ?l1 ?c1 ?k1 ?a2 ?l2 ?c2 ?k2 ?a3 ?l3 ?c3 ?k3 ?z_abs ?z_enumerate ?z_int ?z_isinstance ?z_len ?z_list ?z_max ?z_min ?z_range ?z_repr ?z_sorted ?z_tuple
    (case a0 => k_is); (case l0 => k_is); (case c0 => k_is); (case k0 => k_is); (case a1 => k_is); (case l1 => k_is); (case c1 => k_is); (case k1 => k_is); (case a2 => k_is); (case l2 => k_is); (case c2 => k_is); (case k2 => k_is); (case a3 => k_is); (case l3 => k_is); (case c3 => k_is); (case k3 => k_is); (case z_abs => k_is); (case z_enumerate => k_is); (case z_int => k_is); (case z_isinstance => k_is); (case z_len => k_is); (case z_list => k_is); (case z_max => k_is); (case z_min => k_is); (case z_range => k_is); (case z_repr => k_is); (case z_sorted => k_is); (case z_tuple => k_is)
