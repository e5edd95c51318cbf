import PyProof.Rows.All
import Wide.All
import OpenK.AllK
import Wide.FinOn
import HandS.ForMost
import HandS.Evl
import HandS.Conv
import HandS.Style
import HandS.IsInst
import HandS.SortRule
import HandS.ExcInit
import HandS.WordsExc
import HandS.ExcField
import KE.KExcIs
import KE.KIsAll
import HandS.ExcIs
import HandS.More
import HandS.ListItems
import HandS.SetFor
import HandS.TupAny
import HandS.Deep
import HandS.Text
import HandS.RaiseMore
import HandS.Strs
import PySem.Challenge.RW_heldloops_k01_checked_charts
set_option Elab.async false
set_option linter.all false

set_option maxRecDepth 100000
set_option maxHeartbeats 2000000
/-! The shallow layer: a def of the text as a function over plain data and a store of cells. -/
namespace Sh
open PySem L2 Evl

/-- plain data, and the number of a cell -/
inductive W where
  | non | bl (b : Bool) | int (i : Int) | str (x : Str) | tup (xs : List W) | lst (xs : List W) | fz (xs : List W) | ftp (xs : List W) | cell (n : Nat)
  | exn (a dd : Addr) (ns : List Str) (ws : List W) | xob (cls : Str) (ns : List Str) (ws : List W)
/-- what a cell holds -/
inductive C where
  | dead | lst (xs : List W) | dK (kvs : List (Key × W)) | dT (kvs : List (List Key × W)) | ins (cls : Str) (fs : List (Str × W))
abbrev Store := List C
abbrev Env := List (Option W)
structure Exn where
  cls : Str
  fs : List (Str × W)
inductive Out (α : Type) where
  | stuck | ok (a : α) (st : Store) | exc (x : Exn) (st : Store)
abbrev M (α : Type) := Store → Out α
def Out.bind {α β : Type} (o : Out α) (f : α → M β) : Out β := match o with
  | .stuck => .stuck
  | .ok a st => f a st
  | .exc x st => .exc x st
@[simp] theorem Out.bind_ok {α β : Type} (a : α) (st : Store) (f : α → M β) : (Out.ok a st).bind f = f a st := rfl
@[simp] theorem Out.bind_stuck {α β : Type} (f : α → M β) : (Out.stuck : Out α).bind f = .stuck := rfl
@[simp] theorem Out.bind_exc {α β : Type} (x : Exn) (st : Store) (f : α → M β) : (Out.exc x st : Out α).bind f = .exc x st := rfl
def Out.nox {α : Type} (o : Out α) : Out α := match o with
  | .exc _ _ => .stuck
  | o => o
@[simp] theorem Out.nox_ok {α : Type} (a : α) (st : Store) : (Out.ok a st).nox = .ok a st := rfl

mutual
inductive RW (K : PySem.W.Frag) (G : Hp) (m : List Addr) : W → V → Prop
  | non : RW K G m .non .non
  | bl (b : Bool) : RW K G m (.bl b) (.bl b)
  | int (i : Int) : RW K G m (.int i) (.int i)
  | str (x : Str) : RW K G m (.str x) (.str x)
  | tup {p : Addr} {vs : List V} {xs : List W} : G p = some (.tup vs) → RWs K G m xs vs → RW K G m (.tup xs) (.ref p)
  | ftp {p : Addr} {vs : List V} {xs : List W} : SqT K G p vs → RWs K G m xs vs → RW K G m (.ftp xs) (.ref p)
  | lst {p : Addr} {vs : List V} {xs : List W} : G p = some (.lst vs) → RWs K G m xs vs → RW K G m (.lst xs) (.ref p)
  | fz {p : Addr} {vs : List V} {xs : List W} : SqL K G p vs → RWs K G m xs vs → RW K G m (.fz xs) (.ref p)
  | cell {n : Nat} {a : Addr} : m[n]? = some a → RW K G m (.cell n) (.ref a)
  | exn {a dd : Addr} {ns : List Str} {ws : List W} {vs : List V} : G dd = some (.xd (ns.zip vs)) → RWs K G m ws vs → RW K G m (.exn a dd ns ws) (.ref a)
  | xob {x : Str} {Cl a dd : Addr} {ns : List Str} {ws : List W} {vs : List V} : PySem.W.nsIn K mainGlobals x = some (some (.ref Cl)) → G a = some (exo a Cl (some dd)) → G dd = some (exd dd (ns.zip vs)) → RWs K G m ws vs → RW K G m (.xob x ns ws) (.ref a)
inductive RWs (K : PySem.W.Frag) (G : Hp) (m : List Addr) : List W → List V → Prop
  | nil : RWs K G m [] []
  | cons {x : W} {v : V} {xs : List W} {vs : List V} : RW K G m x v → RWs K G m xs vs → RWs K G m (x :: xs) (v :: vs)
end

structure Ext (G : Hp) (m : List Addr) (G' : Hp) (m' : List Addr) : Prop where
  ex : Ex G G'
  mm : ∀ (n : Nat) (a : Addr), m[n]? = some a → m'[n]? = some a
theorem Ext.refl (G : Hp) (m : List Addr) : Ext G m G m := ⟨Ex.refl G, fun _ _ h => h⟩
theorem Ext.trans {G G1 G2 : Hp} {m m1 m2 : List Addr} (a : Ext G m G1 m1) (b : Ext G1 m1 G2 m2) : Ext G m G2 m2 :=
  ⟨a.ex.trans b.ex, fun n c h => b.mm n c (a.mm n c h)⟩

section
variable {K : PySem.W.Frag} {G G' : Hp} {m m' : List Addr}
mutual
theorem RW.mono (e : Ext G m G' m') : ∀ {x : W} {v : V}, RW K G m x v → RW K G' m' x v
  | _, _, .non => .non
  | _, _, .bl b => .bl b
  | _, _, .int i => .int i
  | _, _, .str x => .str x
  | _, _, .tup h r => .tup (e.ex _ _ h) (RWs.mono e r)
  | _, _, .ftp h r => .ftp (ex_t e.ex h) (RWs.mono e r)
  | _, _, .lst h r => .lst (e.ex _ _ h) (RWs.mono e r)
  | _, _, .fz h r => .fz (ex_l e.ex h) (RWs.mono e r)
  | _, _, .cell h => .cell (e.mm _ _ h)
  | _, _, .exn h r => .exn (e.ex _ _ h) (RWs.mono e r)
  | _, _, .xob k h g r => .xob k (e.ex _ _ h) (e.ex _ _ g) (RWs.mono e r)
theorem RWs.mono (e : Ext G m G' m') : ∀ {x : List W} {v : List V}, RWs K G m x v → RWs K G' m' x v
  | _, _, .nil => .nil
  | _, _, .cons h r => .cons (RW.mono e h) (RWs.mono e r)
end
theorem RWs.length : ∀ {xs : List W} {vs : List V}, RWs K G m xs vs → xs.length = vs.length
  | _, _, .nil => rfl
  | _, _, .cons _ r => by rw [List.length_cons, List.length_cons, RWs.length r]
theorem RWs.append : ∀ {xs ys : List W} {vs us : List V}, RWs K G m xs vs → RWs K G m ys us → RWs K G m (xs ++ ys) (vs ++ us)
  | _, _, _, _, .nil, s => s
  | _, _, _, _, .cons h r, s => .cons h (RWs.append r s)
theorem RWs.get : ∀ {xs : List W} {vs : List V} {i : Nat} {x : W}, RWs K G m xs vs → xs[i]? = some x → ∃ v, vs[i]? = some v ∧ RW K G m x v
  | _, _, _, _, .nil, e => by simp at e
  | _, _, 0, _, .cons h _, e => by simp at e; subst e; exact ⟨_, rfl, h⟩
  | _, _, i + 1, _, .cons _ r, e => by
    obtain ⟨v, h1, h2⟩ := RWs.get (i := i) r (by simpa using e)
    exact ⟨v, by simpa using h1, h2⟩
theorem RWs.get' {xs : List W} {vs : List V} {i : Nat} {v : V} (r : RWs K G m xs vs) (e : vs[i]? = some v) : ∃ x, xs[i]? = some x ∧ RW K G m x v := by
  have hl := r.length
  have hi : i < xs.length := by
    rw [hl]
    exact (List.getElem?_eq_some_iff.mp e).1
  obtain ⟨u, h1, h2⟩ := r.get (List.getElem?_eq_getElem hi)
  rw [e] at h1
  cases h1
  exact ⟨_, List.getElem?_eq_getElem hi, h2⟩
theorem RWs.set {x : W} {v : V} (h : RW K G m x v) : ∀ {xs : List W} {vs : List V} (i : Nat), RWs K G m xs vs → RWs K G m (xs.set i x) (vs.set i v)
  | _, _, _, .nil => .nil
  | _, _, 0, .cons _ r => .cons h r
  | _, _, i + 1, .cons a r => .cons a (RWs.set h i r)
theorem RWs.take : ∀ {xs : List W} {vs : List V} (n : Nat), RWs K G m xs vs → RWs K G m (xs.take n) (vs.take n)
  | _, _, 0, _ => .nil
  | _, _, _ + 1, .nil => .nil
  | _, _, n + 1, .cons a r => .cons a (RWs.take n r)
theorem RWs.drop : ∀ {xs : List W} {vs : List V} (n : Nat), RWs K G m xs vs → RWs K G m (xs.drop n) (vs.drop n)
  | _, _, 0, r => r
  | _, _, _ + 1, .nil => .nil
  | _, _, n + 1, .cons _ r => RWs.drop n r
theorem RWs.reverse {xs : List W} {vs : List V} (r : RWs K G m xs vs) : RWs K G m xs.reverse vs.reverse := by
  induction xs generalizing vs with
  | nil => cases r; exact .nil
  | cons x xs ih =>
    cases r with
    | cons h r =>
      rw [List.reverse_cons, List.reverse_cons]
      exact (ih r).append (.cons h .nil)
theorem RWs.eraseIdx : ∀ {xs : List W} {vs : List V} (i : Nat), RWs K G m xs vs → RWs K G m (xs.eraseIdx i) (vs.eraseIdx i)
  | _, _, _, .nil => .nil
  | _, _, 0, .cons _ r => r
  | _, _, i + 1, .cons a r => .cons a (RWs.eraseIdx i r)
theorem RWs.dropLast {xs : List W} {vs : List V} (r : RWs K G m xs vs) : RWs K G m xs.dropLast vs.dropLast := by
  rw [List.dropLast_eq_take, List.dropLast_eq_take, r.length]
  exact r.take _
theorem RWs.rep {xs : List W} {vs : List V} (r : RWs K G m xs vs) : ∀ k : Nat, RWs K G m (List.replicate k xs).flatten (List.replicate k vs).flatten
  | 0 => .nil
  | k + 1 => by
    rw [List.replicate_succ, List.replicate_succ, List.flatten_cons, List.flatten_cons]
    exact r.append (RWs.rep r k)
end

/-- keyed entries -/
inductive RKs {κ : Type} (K : PySem.W.Frag) (G : Hp) (m : List Addr) : List (κ × W) → List (κ × V) → Prop
  | nil : RKs K G m [] []
  | cons {k : κ} {x : W} {v : V} {xs : List (κ × W)} {vs : List (κ × V)} : RW K G m x v → RKs K G m xs vs → RKs K G m ((k, x) :: xs) ((k, v) :: vs)
theorem RKs.mono {κ : Type} {K : PySem.W.Frag} {G G' : Hp} {m m' : List Addr} (e : Ext G m G' m') : ∀ {xs : List (κ × W)} {vs : List (κ × V)}, RKs K G m xs vs → RKs K G' m' xs vs
  | _, _, .nil => .nil
  | _, _, .cons h r => .cons (h.mono e) (RKs.mono e r)

def C.live : C → Prop
  | .dead => False
  | _ => True

/-- the cell's content stands at a -/
def COk (K : PySem.W.Frag) (mg : Str → Option Value) (G : Hp) (m : List Addr) (H : Hp) (a : Addr) : C → Prop
  | .dead => True
  | .lst xs => G a = none ∧ ∃ vs, H a = some (.lst vs) ∧ RWs K G m xs vs
  | .dK kvs => G a = none ∧ ∃ vs, H a = some (.dK vs) ∧ RKs K G m kvs vs
  | .dT kvs => G a = none ∧ ∃ vs, H a = some (.dT vs) ∧ RKs K G m kvs vs
  | .ins cls fs => G a = none ∧ ∃ Cl dx vs, mg cls = some (.ref Cl) ∧ H a = some (.ins Cl dx vs) ∧ RKs K G m fs vs

structure Sim (K : PySem.W.Frag) (mg : Str → Option Value) (F G : Hp) (m : List Addr) (st : Store) (H : Hp) : Prop where
  ex : Ex G H
  exF : Ex F H
  dj : ∀ (b : Addr) (o : HO), F b = some o → G b = none
  fr : ∀ (n : Nat) (c : C) (a : Addr), st[n]? = some c → c.live → m[n]? = some a → F a = none
  len : m.length = st.length
  ok : ∀ (n : Nat) (c : C) (a : Addr), st[n]? = some c → m[n]? = some a → COk K mg G m H a c
  inj : ∀ (i j : Nat) (a : Addr) (c c' : C), st[i]? = some c → st[j]? = some c' → c.live → c'.live → m[i]? = some a → m[j]? = some a → i = j

section
variable {K : PySem.W.Frag} {mg : Str → Option Value} {F G G' : Hp} {m m' : List Addr} {st : Store} {H H' : Hp} {a p : Addr} {c c' : C} {o : HO} {n : Nat}
theorem COk.mono (e : Ext G m G' m') (hg : c.live → G' a = none) (hh : c.live → H' a = H a) (h : COk K mg G m H a c) : COk K mg G' m' H' a c := by
  cases c with
  | dead => exact True.intro
  | lst xs =>
    obtain ⟨_, vs, h1, h2⟩ := h
    exact ⟨hg True.intro, vs, (hh True.intro).trans h1, h2.mono e⟩
  | dK xs =>
    obtain ⟨_, vs, h1, h2⟩ := h
    exact ⟨hg True.intro, vs, (hh True.intro).trans h1, h2.mono e⟩
  | dT xs =>
    obtain ⟨_, vs, h1, h2⟩ := h
    exact ⟨hg True.intro, vs, (hh True.intro).trans h1, h2.mono e⟩
  | ins cls fs =>
    obtain ⟨_, Cl, dx, vs, h0, h1, h2⟩ := h
    exact ⟨hg True.intro, Cl, dx, vs, h0, (hh True.intro).trans h1, h2.mono e⟩
theorem COk.some (h : COk K mg G m H a c) (l : c.live) : G a = none ∧ ∃ o, H a = some o := by
  cases c with
  | dead => exact l.elim
  | lst xs => obtain ⟨g, vs, h1, _⟩ := h; exact ⟨g, _, h1⟩
  | dK xs => obtain ⟨g, vs, h1, _⟩ := h; exact ⟨g, _, h1⟩
  | dT xs => obtain ⟨g, vs, h1, _⟩ := h; exact ⟨g, _, h1⟩
  | ins cls fs => obtain ⟨g, Cl, dx, vs, _, h1, _⟩ := h; exact ⟨g, _, h1⟩
theorem C.live_or (c : C) : c = .dead ∨ c.live := by
  cases c <;> first | exact .inl rfl | exact .inr True.intro
theorem ex_upd (e : Ex G H) (h : H p = none) : Ex (upd G p o) (upd H p o) := fun b u hb => by
  by_cases q : b = p
  · subst q
    rw [upd_same] at hb ⊢
    exact hb
  · rw [upd_ne q] at hb ⊢
    exact e b u hb
theorem Ext.new (h : G p = none) : Ext G m (upd G p o) m := ⟨Ex.new h, fun _ _ q => q⟩
/-- a new object that never changes -/
theorem Sim.newG (S : Sim K mg F G m st H) (hp : H p = none) : Sim K mg F (upd G p o) m st (upd H p o) := by
  have hg : G p = none := fresh_back S.ex hp
  refine ⟨ex_upd S.ex hp, fun b u e => ?_, fun b u e => ?_, S.fr, S.len, fun n c a h1 h2 => ?_, S.inj⟩
  · rw [upd_ne (ne_of_none (S.exF b u e) hp)]
    exact S.exF b u e
  · rw [upd_ne (ne_of_none (S.exF b u e) hp)]
    exact S.dj b u e
  have q := S.ok n c a h1 h2
  refine q.mono (Ext.new hg) (fun l => ?_) (fun l => ?_)
  · obtain ⟨g, u, hu⟩ := q.some l
    rw [upd_ne (ne_of_none hu hp)]
    exact g
  · obtain ⟨g, u, hu⟩ := q.some l
    rw [upd_ne (ne_of_none hu hp)]
theorem getElem?_snoc {α : Type} {l : List α} {x y : α} {i : Nat} (h : (l ++ [x])[i]? = some y) : (i < l.length ∧ l[i]? = some y) ∨ (i = l.length ∧ y = x) := by
  by_cases q : i < l.length
  · rw [List.getElem?_append_left q] at h
    exact .inl ⟨q, h⟩
  · rw [List.getElem?_append_right (by omega)] at h
    have q2 : i - l.length = 0 := by
      have := (List.getElem?_eq_some_iff.mp h).1
      simp at this
      omega
    rw [q2] at h
    simp at h
    exact .inr ⟨by omega, h.symm⟩
theorem mm_snoc {l : List Addr} (n : Nat) (a : Addr) (h : l[n]? = some a) : (l ++ [p])[n]? = some a := by
  rw [List.getElem?_append_left (List.getElem?_eq_some_iff.mp h).1]
  exact h
theorem Ext.cell : Ext G m G (m ++ [p]) := ⟨Ex.refl G, fun n a h => mm_snoc n a h⟩
/-- a new cell -/
theorem Sim.newC (S : Sim K mg F G m st H) (hp : H p = none) (hc : COk K mg G (m ++ [p]) (upd H p o) p c) : Sim K mg F G (m ++ [p]) (st ++ [c]) (upd H p o) := by
  have hg : G p = none := fresh_back S.ex hp
  refine ⟨fun b u e => ?_, fun b u e => ?_, S.dj, fun n c' a h1 l h2 => ?_, by simp [S.len], fun n c' a h1 h2 => ?_, fun i j a c1 c2 h1 h2 l1 l2 h3 h4 => ?_⟩
  · rw [upd_ne (ne_of_none (S.ex b u e) hp)]
    exact S.ex b u e
  · rw [upd_ne (ne_of_none (S.exF b u e) hp)]
    exact S.exF b u e
  · have hl := S.len
    rcases getElem?_snoc h1 with ⟨i1, h1⟩ | ⟨i1, h1⟩ <;> rcases getElem?_snoc h2 with ⟨i2, h2⟩ | ⟨i2, h2⟩ <;> first | omega | skip
    · exact S.fr n c' a h1 l h2
    · rw [h2]
      exact fresh_back S.exF hp
  · rcases getElem?_snoc h1 with ⟨i1, h1⟩ | ⟨i1, h1⟩
    · rcases getElem?_snoc h2 with ⟨i2, h2⟩ | ⟨i2, h2⟩
      · have q := S.ok n c' a h1 h2
        refine q.mono Ext.cell (fun l => (q.some l).1) (fun l => ?_)
        obtain ⟨g, u, hu⟩ := q.some l
        rw [upd_ne (ne_of_none hu hp)]
      · have := S.len
        omega
    · rcases getElem?_snoc h2 with ⟨i2, h2⟩ | ⟨i2, h2⟩
      · have := S.len
        omega
      · subst h1 h2
        exact hc
  · have old : ∀ {k : Nat} {c : C} {b : Addr}, st[k]? = some c → m[k]? = some b → c.live → b ≠ p := fun {k c b} e1 e2 l => by
      obtain ⟨g, u, hu⟩ := (S.ok _ _ _ e1 e2).some l
      exact ne_of_none hu hp
    have hl := S.len
    rcases getElem?_snoc h1 with ⟨i1, h1⟩ | ⟨i1, h1⟩ <;> rcases getElem?_snoc h2 with ⟨i2, h2⟩ | ⟨i2, h2⟩ <;>
      rcases getElem?_snoc h3 with ⟨i3, h3⟩ | ⟨i3, h3⟩ <;> rcases getElem?_snoc h4 with ⟨i4, h4⟩ | ⟨i4, h4⟩ <;> first | omega | skip
    · exact S.inj i j a c1 c2 h1 h2 l1 l2 h3 h4
    · exact absurd h4 (old h1 h3 l1)
    · exact absurd h3 (old h2 h4 l2)
/-- a cell's content is changed -/
theorem Sim.set {c0 : C} (S : Sim K mg F G m st H) (h0 : st[n]? = some c0) (l0 : c0.live) (ha : m[n]? = some a) (hc : COk K mg G m (upd H a o) a c') : Sim K mg F G m (st.set n c') (upd H a o) := by
  obtain ⟨g0, u0, hu0⟩ := (S.ok _ _ _ h0 ha).some l0
  refine ⟨fun b u e => ?_, fun b u e => ?_, S.dj, fun k c b h1 l h2 => ?_, by simp [S.len], fun k c b h1 h2 => ?_, fun i j b c1 c2 h1 h2 l1 l2 h3 h4 => ?_⟩
  · rw [upd_ne (ne_of_none e g0)]
    exact S.ex b u e
  · rw [upd_ne (ne_of_none e (S.fr _ _ _ h0 l0 ha))]
    exact S.exF b u e
  · by_cases q : n = k
    · subst q
      rw [ha] at h2
      cases h2
      exact S.fr _ _ _ h0 l0 ha
    · rw [List.getElem?_set_ne q] at h1
      exact S.fr _ _ _ h1 l h2
  · by_cases q : n = k
    · subst q
      rw [List.getElem?_set_self (List.getElem?_eq_some_iff.mp h0).1] at h1
      rw [ha] at h2
      cases h1
      cases h2
      exact hc
    · rw [List.getElem?_set_ne q] at h1
      have z := S.ok k c b h1 h2
      refine z.mono (Ext.refl G m) (fun l => (z.some l).1) (fun l => ?_)
      rw [upd_ne]
      intro e
      subst e
      exact q (S.inj n k b c0 c h0 h1 l0 l ha h2)
  · have back : ∀ {k : Nat} {c : C}, (st.set n c')[k]? = some c → c.live → ∃ c2, st[k]? = some c2 ∧ c2.live := fun {k c} e l => by
      by_cases q : n = k
      · subst q
        exact ⟨c0, h0, l0⟩
      · rw [List.getElem?_set_ne q] at e
        exact ⟨c, e, l⟩
    obtain ⟨d1, e1, m1⟩ := back h1 l1
    obtain ⟨d2, e2, m2⟩ := back h2 l2
    exact S.inj i j b d1 d2 e1 e2 m1 m2 h3 h4
/-- a cell's list becomes plain data -/
theorem Sim.freeze {xs : List W} {vs : List V} (S : Sim K mg F G m st H) (h0 : st[n]? = some (.lst xs)) (ha : m[n]? = some a) (hv : H a = some (.lst vs)) (r : RWs K G m xs vs) :
    Sim K mg F (upd G a (.lst vs)) m (st.set n .dead) H ∧ Ext G m (upd G a (.lst vs)) m ∧ RW K (upd G a (.lst vs)) m (.lst xs) (.ref a) := by
  have g0 : G a = none := (S.ok _ _ _ h0 ha).1
  refine ⟨⟨fun b u e => ?_, S.exF, fun b u e => ?_, fun k c b h1 l h2 => ?_, by simp [S.len], fun k c b h1 h2 => ?_, fun i j b c1 c2 h1 h2 l1 l2 h3 h4 => ?_⟩, Ext.new g0, .lst upd_same (r.mono (Ext.new g0))⟩
  · by_cases q : b = a
    · subst q
      rw [upd_same] at e
      cases e
      exact hv
    · rw [upd_ne q] at e
      exact S.ex b u e
  · rw [upd_ne (ne_of_none e (S.fr _ _ _ h0 True.intro ha))]
    exact S.dj b u e
  · by_cases q : n = k
    · subst q
      rw [List.getElem?_set_self (List.getElem?_eq_some_iff.mp h0).1] at h1
      cases h1
      exact l.elim
    · rw [List.getElem?_set_ne q] at h1
      exact S.fr _ _ _ h1 l h2
  · by_cases q : n = k
    · subst q
      rw [List.getElem?_set_self (List.getElem?_eq_some_iff.mp h0).1] at h1
      cases h1
      exact True.intro
    · rw [List.getElem?_set_ne q] at h1
      have z := S.ok k c b h1 h2
      refine z.mono (Ext.new g0) (fun l => ?_) (fun l => rfl)
      rw [upd_ne]
      · exact (z.some l).1
      · intro e
        subst e
        exact q (S.inj n k b _ c h0 h1 True.intro l ha h2)
  · have back : ∀ {k : Nat} {c : C}, (st.set n C.dead)[k]? = some c → c.live → st[k]? = some c := fun {k c} e l => by
      by_cases q : n = k
      · subst q
        rw [List.getElem?_set_self (List.getElem?_eq_some_iff.mp h0).1] at e
        cases e
        exact l.elim
      · rw [List.getElem?_set_ne q] at e
        exact e
    exact S.inj i j b c1 c2 (back h1 l1) (back h2 l2) l1 l2 h3 h4
/-- less is held apart -/
theorem Sim.less {F' : Hp} (S : Sim K mg F' G m st H) (e : Ex F F') : Sim K mg F G m st H := by
  refine ⟨S.ex, e.trans S.exF, fun b o h => S.dj b o (e b o h), fun n c a h1 l h2 => ?_, S.len, S.ok, S.inj⟩
  have h := S.fr n c a h1 l h2
  cases q : F a with
  | none => rfl
  | some o =>
    rw [e a o q] at h
    cases h
/-- more is held apart: a new object -/
theorem Sim.more (S : Sim K mg F G m st H) (hp : H p = none) : Sim K mg (upd F p o) G m st (upd H p o) := by
  refine ⟨fun b u e => ?_, ex_upd S.exF hp, fun b u e => ?_, fun n c a h1 l h2 => ?_, S.len, fun n c a h1 h2 => ?_, S.inj⟩
  · rw [upd_ne (ne_of_none (S.ex b u e) hp)]
    exact S.ex b u e
  · by_cases q : b = p
    · rw [q]
      exact fresh_back S.ex hp
    · rw [upd_ne q] at e
      exact S.dj b u e
  · obtain ⟨g, u, hu⟩ := (S.ok n c a h1 h2).some l
    rw [upd_ne (ne_of_none hu hp)]
    exact S.fr n c a h1 l h2
  · have q := S.ok n c a h1 h2
    refine q.mono (Ext.refl G m) (fun l => (q.some l).1) (fun l => ?_)
    obtain ⟨g, u, hu⟩ := q.some l
    rw [upd_ne (ne_of_none hu hp)]
/-- .. changes -/
theorem Sim.turn {o' : HO} (S : Sim K mg (upd F p o) G m st H) : Sim K mg (upd F p o') G m st (upd H p o') := by
  have gp : G p = none := S.dj p o upd_same
  refine ⟨fun b u e => ?_, fun b u e => ?_, fun b u e => ?_, fun n c a h1 l h2 => ?_, S.len, fun n c a h1 h2 => ?_, S.inj⟩
  · rw [upd_ne (ne_of_none e gp)]
    exact S.ex b u e
  · by_cases q : b = p
    · subst q
      rw [upd_same] at e ⊢
      exact e
    · rw [upd_ne q] at e ⊢
      exact S.exF b u (by rw [upd_ne q]; exact e)
  · by_cases q : b = p
    · rw [q]
      exact gp
    · rw [upd_ne q] at e
      exact S.dj b u (by rw [upd_ne q]; exact e)
  · have h := S.fr n c a h1 l h2
    by_cases q : a = p
    · subst q
      rw [upd_same] at h
      cases h
    · rw [upd_ne q] at h ⊢
      exact h
  · have q := S.ok n c a h1 h2
    refine q.mono (Ext.refl G m) (fun l => (q.some l).1) (fun l => ?_)
    rw [upd_ne]
    intro z
    subst z
    have h := S.fr n c a h1 l h2
    rw [upd_same] at h
    cases h
/-- .. becomes plain data -/
theorem Sim.give {vs : List V} {xs : List W} (S : Sim K mg (upd F p (.lst vs)) G m st H) (fp : F p = none) (r : RWs K G m xs vs) :
    Sim K mg F (upd G p (.lst vs)) m st H ∧ Ext G m (upd G p (.lst vs)) m ∧ RW K (upd G p (.lst vs)) m (.lst xs) (.ref p) := by
  have gp : G p = none := S.dj p _ upd_same
  have hp : H p = some (.lst vs) := S.exF p _ upd_same
  have nf : ∀ {b : Addr} {o : HO}, F b = some o → (upd F p (.lst vs)) b = some o := fun {b o} e => by
    rw [upd_ne (ne_of_none e fp)]
    exact e
  refine ⟨⟨fun b u e => ?_, fun b u e => S.exF b u (nf e), fun b u e => ?_, fun n c a h1 l h2 => ?_, S.len, fun n c a h1 h2 => ?_, S.inj⟩, Ext.new gp, .lst upd_same (r.mono (Ext.new gp))⟩
  · by_cases q : b = p
    · subst q
      rw [upd_same] at e
      cases e
      exact hp
    · rw [upd_ne q] at e
      exact S.ex b u e
  · rw [upd_ne (ne_of_none e fp)]
    exact S.dj b u (nf e)
  · have h := S.fr n c a h1 l h2
    by_cases q : a = p
    · rw [q]
      exact fp
    · rw [upd_ne q] at h
      exact h
  · have q := S.ok n c a h1 h2
    refine q.mono (Ext.new gp) (fun l => ?_) (fun l => rfl)
    rw [upd_ne]
    · exact (q.some l).1
    · intro z
      subst z
      have h := S.fr n c a h1 l h2
      rw [upd_same] at h
      cases h
theorem Sim.addr (S : Sim K mg F G m st H) (h : st[n]? = some c) : ∃ a, m[n]? = some a := by
  have h1 := (List.getElem?_eq_some_iff.mp h).1
  rw [← S.len] at h1
  exact ⟨_, List.getElem?_eq_getElem h1⟩
end
end Sh


set_option maxRecDepth 100000
set_option maxHeartbeats 2000000
namespace Sh
open PySem L2 Evl

abbrev MG := Str → Option Value
/-- an error's class and its own dict -/
def XOk (K : PySem.W.Frag) (mg : MG) (G : Hp) (m : List Addr) (H : Hp) (x : Exn) (cls : Value) (d : Option Addr) : Prop :=
  ∃ Cl, mg x.cls = some (.ref Cl) ∧ cls = .ref Cl ∧ ∃ da vs, d = some da ∧ G da = some (.xd vs) ∧ RKs K G m x.fs vs

abbrev Rel (α β : Type) := PySem.W.Frag → Hp → List Addr → α → β → Prop
def Post {α β : Type} (R : Rel α β) (K : PySem.W.Frag) (mg : MG) (E : XK) (F G : Hp) (m : List Addr) (o : Out α) (Q : β → Hp → Prop) : Prop := match o with
  | .stuck => False
  | .ok a st => ∀ G' m' b H', Ext G m G' m' → Sim K mg F G' m' st H' → R K G' m' a b → Q b H'
  | .exc x st => ∀ G' m' H' cls d, Ext G m G' m' → Sim K mg F G' m' st H' → XOk K mg G' m' H' x cls d → E cls d H'

section
variable {K : PySem.W.Frag} {mg : MG} {E : XK} {F G G' H : Hp} {m m' : List Addr} {st : Store} {α β γ δ : Type} {R : Rel α β} {R' : Rel γ δ}
theorem Post.mono {o : Out α} {Q : β → Hp → Prop} (e : Ext G m G' m') (h : Post R K mg E F G m o Q) : Post R K mg E F G' m' o Q := by
  cases o with
  | stuck => exact h
  | ok a st => exact fun G2 m2 b H2 e2 => h G2 m2 b H2 (e.trans e2)
  | exc x st => exact fun G2 m2 H2 c d e2 => h G2 m2 H2 c d (e.trans e2)
theorem Post.imp {o : Out α} {Q Q' : β → Hp → Prop} (h : Post R K mg E F G m o Q) (f : ∀ b H, Q b H → Q' b H) : Post R K mg E F G m o Q' := by
  cases o with
  | stuck => exact h
  | ok a st => exact fun G2 m2 b H2 e s r => f b H2 (h G2 m2 b H2 e s r)
  | exc x st => exact h
theorem Post.bind {o : Out α} {f : α → M γ} {Q : δ → Hp → Prop} (h : Post R' K mg E F G m (o.bind f) Q) :
    Post R K mg E F G m o fun b H => ∃ G' m' a st, Ext G m G' m' ∧ Sim K mg F G' m' st H ∧ R K G' m' a b ∧ Post R' K mg E F G' m' (f a st) Q := by
  cases o with
  | stuck => exact h
  | ok a st => exact fun G2 m2 b H2 e s r => ⟨G2, m2, a, st, e, s, r, Post.mono e h⟩
  | exc x st => exact h
theorem Post.ret {a : α} {b : β} {Q : β → Hp → Prop} (h : Post R K mg E F G m (.ok a st) Q) (S : Sim K mg F G m st H) (r : R K G m a b) : Q b H := h G m b H (Ext.refl G m) S r
theorem Post.nox {o : Out α} {Q : β → Hp → Prop} {E' : XK} (h : Post R K mg E F G m o.nox Q) : Post R K mg E' F G m o.nox Q := by
  cases o with
  | stuck => exact h
  | ok a st => exact h
  | exc x st => exact h.elim
end

def REnv (K : PySem.W.Frag) (G : Hp) (m : List Addr) (env : Env) (σ : L2.St) : Prop :=
  env.length = σ.length ∧ ∀ (i : Nat) (w : W), env[i]? = some (some w) → ∃ v, σ[i]? = some (some v) ∧ RW K G m w v
section
variable {K : PySem.W.Frag} {G G' : Hp} {m m' : List Addr} {env : Env} {σ : L2.St}
theorem REnv.mono (e : Ext G m G' m') (h : REnv K G m env σ) : REnv K G' m' env σ := ⟨h.1, fun i w q => let ⟨v, a, b⟩ := h.2 i w q; ⟨v, a, b.mono e⟩⟩
theorem REnv.set {w : W} {v : V} (h : REnv K G m env σ) (r : RW K G m w v) (i : Nat) : REnv K G m (env.set i (some w)) (σ.set i (some v)) := by
  refine ⟨by rw [List.length_set, List.length_set, h.1], fun j u q => ?_⟩
  by_cases e : i = j
  · subst e
    by_cases hi : i < env.length
    · rw [List.getElem?_set_self hi] at q
      cases q
      exact ⟨v, List.getElem?_set_self (by rw [← h.1]; exact hi), r⟩
    · rw [List.getElem?_eq_none (by rw [List.length_set]; omega)] at q
      cases q
  · rw [List.getElem?_set_ne e] at q ⊢
    exact h.2 j u q
theorem REnv.clr (h : REnv K G m env σ) (i : Nat) : REnv K G m (env.set i none) (σ.set i none) := by
  refine ⟨by rw [List.length_set, List.length_set, h.1], fun j u q => ?_⟩
  by_cases e : i = j
  · subst e
    by_cases hi : i < env.length
    · rw [List.getElem?_set_self hi] at q
      cases q
    · rw [List.getElem?_eq_none (by rw [List.length_set]; omega)] at q
      cases q
  · rw [List.getElem?_set_ne e] at q ⊢
    exact h.2 j u q
end
def wipeW (env : Env) : List Nat → Env
  | [] => env
  | v :: vs => (wipeW env vs).set v none
theorem REnv.wipe {K : PySem.W.Frag} {G : Hp} {m : List Addr} {env : Env} {σ : L2.St} (h : REnv K G m env σ) : ∀ vs : List Nat, REnv K G m (wipeW env vs) (L2.wipe σ vs)
  | [] => h
  | v :: vs => (REnv.wipe h vs).clr v

abbrev RA : Rel (List W) (List V) := RWs
def RB : Rel Bool Bool := fun _ _ _ a b => b = a
def RU : Rel Unit Unit := fun _ _ _ _ _ => True
/-- a new list, as yet nobody's -/
def RF : Rel (List W) V := fun _ _ _ _ _ => True

/-! ### the readings -/
def tE (K : PySem.W.Frag) (mg : MG) (E : XK) (d : Env → M W) : TE := fun σ H Q => ∃ F G m env st, Sim K mg F G m st H ∧ REnv K G m env σ ∧ Post RW K mg E F G m (d env st) Q
def tT (K : PySem.W.Frag) (mg : MG) (E : XK) (d : Env → M Bool) : TT := fun σ H Q => ∃ F G m env st, Sim K mg F G m st H ∧ REnv K G m env σ ∧ Post RB K mg E F G m (d env st) Q
def tA (K : PySem.W.Frag) (mg : MG) (E : XK) (d : Env → M (List W)) : TA := fun σ H Q => ∃ F G m env st, Sim K mg F G m st H ∧ REnv K G m env σ ∧ Post RA K mg E F G m (d env st) Q
/-- a new list that nothing tells of yet -/
def PostF (K : PySem.W.Frag) (mg : MG) (E : XK) (F G : Hp) (m : List Addr) (o : Out (List W)) (Q : VK) : Prop := match o with
  | .stuck => False
  | .ok xs st' => ∀ G' m' p vs H', Ext G m G' m' → Sim K mg F G' m' st' H' → H' p = none → RWs K G' m' xs vs → Q (.ref p) (upd H' p (.lst vs))
  | .exc x st' => ∀ G' m' H' cls d, Ext G m G' m' → Sim K mg F G' m' st' H' → XOk K mg G' m' H' x cls d → E cls d H'
def tF (K : PySem.W.Frag) (mg : MG) (E : XK) (d : Env → M (List W)) : TE := fun σ H Q => ∃ F G m env st, Sim K mg F G m st H ∧ REnv K G m env σ ∧ PostF K mg E F G m (d env st) Q
section
variable {K : PySem.W.Frag} {mg : MG} {E : XK} {F G G' H : Hp} {m m' : List Addr} {st : Store} {α β : Type} {R : Rel α β}
theorem PostF.mono {o : Out (List W)} {Q : VK} (e : Ext G m G' m') (h : PostF K mg E F G m o Q) : PostF K mg E F G' m' o Q := by
  cases o with
  | stuck => exact h
  | ok a st => exact fun G2 m2 p b H2 e2 => h G2 m2 p b H2 (e.trans e2)
  | exc x st => exact fun G2 m2 H2 c d e2 => h G2 m2 H2 c d (e.trans e2)
theorem PostF.bind {o : Out α} {f : α → M (List W)} {Q : VK} (h : PostF K mg E F G m (o.bind f) Q) :
    Post R K mg E F G m o fun b H => ∃ G' m' a st, Ext G m G' m' ∧ Sim K mg F G' m' st H ∧ R K G' m' a b ∧ PostF K mg E F G' m' (f a st) Q := by
  cases o with
  | stuck => exact h
  | ok a st => exact fun G2 m2 b H2 e s r => ⟨G2, m2, a, st, e, s, r, PostF.mono e h⟩
  | exc x st => exact h
theorem PostF.ret {xs : List W} {vs : List V} {p : Addr} {Q : VK} (h : PostF K mg E F G m (.ok xs st) Q) (S : Sim K mg F G m st H) (hp : H p = none) (r : RWs K G m xs vs) : Q (.ref p) (upd H p (.lst vs)) :=
  h G m p vs H (Ext.refl G m) S hp r
end

inductive SOut where
  | stuck | nx (env : Env) (st : Store) | rt (w : W) (st : Store) | bk (env : Env) (st : Store) | ct (env : Env) (st : Store) | exc (x : Exn) (st : Store)
abbrev S := Env → Store → SOut
def Out.bindS {α : Type} (o : Out α) (f : α → Store → SOut) : SOut := match o with
  | .stuck => .stuck
  | .ok a st => f a st
  | .exc x st => .exc x st
@[simp] theorem Out.bindS_ok {α : Type} (a : α) (st : Store) (f : α → Store → SOut) : (Out.ok a st).bindS f = f a st := rfl
@[simp] theorem Out.bindS_stuck {α : Type} (f : α → Store → SOut) : (Out.stuck : Out α).bindS f = .stuck := rfl
@[simp] theorem Out.bindS_exc {α : Type} (x : Exn) (st : Store) (f : α → Store → SOut) : (Out.exc x st : Out α).bindS f = .exc x st := rfl

def PostS (K : PySem.W.Frag) (mg : MG) (E : XK) (F G : Hp) (m : List Addr) (o : SOut) (D : Ends) : Prop := match o with
  | .stuck => False
  | .nx env st => ∀ G' m' σ' H', Ext G m G' m' → Sim K mg F G' m' st H' → REnv K G' m' env σ' → D.nx σ' H'
  | .bk env st => ∀ G' m' σ' H', Ext G m G' m' → Sim K mg F G' m' st H' → REnv K G' m' env σ' → D.bk σ' H'
  | .ct env st => ∀ G' m' σ' H', Ext G m G' m' → Sim K mg F G' m' st H' → REnv K G' m' env σ' → D.ct σ' H'
  | .rt w st => ∀ G' m' v H', Ext G m G' m' → Sim K mg F G' m' st H' → RW K G' m' w v → D.rt v H'
  | .exc x st => ∀ G' m' H' cls d, Ext G m G' m' → Sim K mg F G' m' st H' → XOk K mg G' m' H' x cls d → E cls d H'
def tS (K : PySem.W.Frag) (mg : MG) (E : XK) (s : S) : TS := fun D σ H => ∃ F G m env st, Sim K mg F G m st H ∧ REnv K G m env σ ∧ PostS K mg E F G m (s env st) D

section
variable {K : PySem.W.Frag} {mg : MG} {E : XK} {F G G' H : Hp} {m m' : List Addr} {st : Store} {α β : Type} {R : Rel α β}
theorem PostS.mono {o : SOut} {D : Ends} (e : Ext G m G' m') (h : PostS K mg E F G m o D) : PostS K mg E F G' m' o D := by
  cases o with
  | stuck => exact h
  | nx env st => exact fun G2 m2 b H2 e2 => h G2 m2 b H2 (e.trans e2)
  | bk env st => exact fun G2 m2 b H2 e2 => h G2 m2 b H2 (e.trans e2)
  | ct env st => exact fun G2 m2 b H2 e2 => h G2 m2 b H2 (e.trans e2)
  | rt w st => exact fun G2 m2 b H2 e2 => h G2 m2 b H2 (e.trans e2)
  | exc x st => exact fun G2 m2 H2 c d e2 => h G2 m2 H2 c d (e.trans e2)
theorem PostS.bindS {o : Out α} {f : α → Store → SOut} {D : Ends} (h : PostS K mg E F G m (o.bindS f) D) :
    Post R K mg E F G m o fun b H => ∃ G' m' a st, Ext G m G' m' ∧ Sim K mg F G' m' st H ∧ R K G' m' a b ∧ PostS K mg E F G' m' (f a st) D := by
  cases o with
  | stuck => exact h
  | ok a st => exact fun G2 m2 b H2 e s r => ⟨G2, m2, a, st, e, s, r, PostS.mono e h⟩
  | exc x st => exact h
end

/-! ### the judgements -/
section
variable {X : Cx}
theorem weakE {e : Expr} {t t' : TE} (h : PE X e t) (w : ∀ σ H Q, t' σ H Q → t σ H Q) : PE X e t' := ⟨fun pins s σ H Q I q => h.run pins s σ H Q I (w σ H Q q)⟩
theorem weakT {e : Expr} {t t' : TT} (h : PT X e t) (w : ∀ σ H Q, t' σ H Q → t σ H Q) : PT X e t' := ⟨fun pins s σ H Q I q => h.run pins s σ H Q I (w σ H Q q)⟩
theorem weakA {e : List Expr} {t t' : TA} (h : PA X e t) (w : ∀ σ H Q, t' σ H Q → t σ H Q) : PA X e t' := ⟨fun po pins s σ H Q I q => h.run po pins s σ H Q I (w σ H Q q)⟩
theorem weakS {e : Stmt} {t t' : TS} (h : PS X e t) (w : ∀ D σ H, t' D σ H → t D σ H) : PS X e t' := ⟨fun pins s σ H D I q => h.run pins s σ H D I (w D σ H q)⟩
theorem weakSs {e : List Stmt} {t t' : TS} (h : PSs X e t) (w : ∀ D σ H, t' D σ H → t D σ H) : PSs X e t' := ⟨fun pins s σ H D I q => h.run pins s σ H D I (w D σ H q)⟩
end
abbrev JE (X : Cx) (E : XK) (e : Expr) (d : Env → M W) : Prop := PE X e (tE X.K X.mg E d)
abbrev JT (X : Cx) (E : XK) (e : Expr) (d : Env → M Bool) : Prop := PT X e (tT X.K X.mg E d)
abbrev JA (X : Cx) (E : XK) (e : List Expr) (d : Env → M (List W)) : Prop := PA X e (tA X.K X.mg E d)
abbrev JF (X : Cx) (E : XK) (e : Expr) (d : Env → M (List W)) : Prop := PE X e (tF X.K X.mg E d)
abbrev JS (X : Cx) (E : XK) (e : Stmt) (d : S) : Prop := PS X e (tS X.K X.mg E d)
abbrev JSs (X : Cx) (E : XK) (e : List Stmt) (d : S) : Prop := PSs X e (tS X.K X.mg E d)

/-! ### names, constants, operators -/
def dVar (i : Nat) : Env → M W := fun env st => match env[i]? with
  | some (some w) => .ok w st
  | _ => .stuck
def dC (w : W) : Env → M W := fun _ st => .ok w st
def dOp (f : W → W → M W) (a b : Env → M W) : Env → M W := fun env st => (a env st).bind fun x st => (b env st).bind fun y st => f x y st
def dUn (f : W → M W) (a : Env → M W) : Env → M W := fun env st => (a env st).bind f
def dNil : Env → M (List W) := fun _ st => .ok [] st
def dCons (a : Env → M W) (r : Env → M (List W)) : Env → M (List W) := fun env st => (a env st).bind fun x st => (r env st).bind fun xs st => .ok (x :: xs) st
/-- an operation of values keeps its word -/
def OpOk (K : PySem.W.Frag) (mg : MG) (E : XK) (r : R2) (f : W → W → M W) : Prop :=
  ∀ F G m st H x y v u Q, Sim K mg F G m st H → RW K G m x v → RW K G m y u → Post RW K mg E F G m (f x y st) Q → r v u H Q
def UnOk (K : PySem.W.Frag) (mg : MG) (E : XK) (r : V → Hp → VK → Prop) (f : W → M W) : Prop :=
  ∀ F G m st H x v Q, Sim K mg F G m st H → RW K G m x v → Post RW K mg E F G m (f x st) Q → r v H Q
def CallOk (K : PySem.W.Frag) (mg : MG) (E : XK) (r : List V → Hp → VK → Prop) (f : List W → M W) : Prop :=
  ∀ F G m st H xs vs Q, Sim K mg F G m st H → RWs K G m xs vs → Post RW K mg E F G m (f xs st) Q → r vs H Q
def TruOk (K : PySem.W.Frag) (mg : MG) (E : XK) (r : V → Hp → (Bool → Hp → Prop) → Prop) (f : W → M Bool) : Prop :=
  ∀ F G m st H x v Q, Sim K mg F G m st H → RW K G m x v → Post RB K mg E F G m (f x st) Q → r v H Q

section
variable {X : Cx} {E : XK} {a b e : Expr} {es : List Expr} {da db d : Env → M W} {ds : Env → M (List W)} {pos : Pos} {r : R2} {f : W → W → M W}
theorem je_var (i : Nat) {x : Str} {pos : Pos} (hN : X.N[i]? = some x := by rfl) (hv : Vis X.env.scope x := by first | exact Or.inl rfl | exact Or.inr (Or.inl rfl) | exact Or.inr (Or.inr rfl))
    (hd : (x == ("__debug__" : Str)) = false := by decide) (hcd : (x == ("__classdict__" : Str)) = false := by decide) : JE X E (.Name x pos) (dVar i) := by
  refine weakE (pe_var hN hv hd hcd) ?_
  rintro σ H Q ⟨F, G, m, env, st, S, R, P⟩
  unfold dVar at P
  split at P
  · rename_i w q
    obtain ⟨v, h1, h2⟩ := R.2 i w q
    exact ⟨v, h1, P.ret S h2⟩
  · exact P.elim
theorem je_const {v : V} {w : W} (h : PE X e (tC v)) (r : ∀ G m, RW X.K G m w v) : JE X E e (dC w) := by
  refine weakE h ?_
  rintro σ H Q ⟨F, G, m, env, st, S, R, P⟩
  exact P.ret S (r G m)
theorem je_int {i j pos} : JE X E (.Constant (.int i) j pos) (dC (.int i)) := je_const pe_int fun _ _ => .int i
theorem je_bl {i j pos} : JE X E (.Constant (.bool i) j pos) (dC (.bl i)) := je_const pe_bl fun _ _ => .bl i
theorem je_str {i j pos} : JE X E (.Constant (.str i) j pos) (dC (.str i)) := je_const pe_str fun _ _ => .str i
theorem je_non {j pos} : JE X E (.Constant .none j pos) (dC .non) := je_const pe_non fun _ _ => .non

theorem two {Q : V → V → Hp → Prop} {σ : L2.St} {H : Hp} {da db : Env → M W} {γ δ : Type} {R' : Rel γ δ} {k : W → W → M γ} {QQ : δ → Hp → Prop} {G : Hp} {m : List Addr} {env : Env} {st : Store}
    (S : Sim X.K X.mg F G m st H) (R : REnv X.K G m env σ) (P : Post R' X.K X.mg E F G m ((da env st).bind fun x st => (db env st).bind fun y st => k x y st) QQ)
    (h : ∀ F G m st H x y v u, Sim X.K X.mg F G m st H → RW X.K G m x v → RW X.K G m y u → Post R' X.K X.mg E F G m (k x y st) QQ → Q v u H) :
    tE X.K X.mg E da σ H fun v H1 => tE X.K X.mg E db σ H1 fun u H2 => Q v u H2 :=
  ⟨F, G, m, env, st, S, R, P.bind.imp fun v1 H1 ⟨G1, m1, x, st1, e1, S1, r1, P1⟩ => ⟨F, G1, m1, env, st1, S1, R.mono e1, P1.bind.imp fun v2 H2 ⟨G2, m2, y, st2, e2, S2, r2, P2⟩ => h F G2 m2 st2 H2 x y v1 v2 S2 (r1.mono e2) r2 P2⟩⟩
theorem je_op {op : Operator} (ho : OpR X (binaryOp op) r) (hf : OpOk X.K X.mg E r f) (ha : JE X E a da) (hb : JE X E b db) : JE X E (.BinOp a op b pos) (dOp f da db) := by
  refine weakE (pe_op ho ha hb) ?_
  rintro σ H Q ⟨F, G, m, env, st, S, R, P⟩
  exact two S R P fun F G m st H x y v u S1 r1 r2 P1 => hf F G m st H x y v u Q S1 r1 r2 P1
theorem je_cmp {op : CmpOp} (ho : OpR X (compareOp op) r) (hf : OpOk X.K X.mg E r f) (ha : JE X E a da) (hb : JE X E b db) (hm : behindInMarks op b = false) : JE X E (.Compare a [op] [b] pos) (dOp f da db) := by
  refine weakE (pe_cmpR ho ha hb hm) ?_
  rintro σ H Q ⟨F, G, m, env, st, S, R, P⟩
  exact two S R P fun F G m st H x y v u S1 r1 r2 P1 => hf F G m st H x y v u Q S1 r1 r2 P1
theorem je_un {op : UnaryOp} {r : V → Hp → VK → Prop} {f : W → M W} (ho : UnR X (unaryOp op) r) (hf : UnOk X.K X.mg E r f) (ha : JE X E a da) : JE X E (.UnaryOp op a pos) (dUn f da) := by
  refine weakE (pe_un ho ha) ?_
  rintro σ H Q ⟨F, G, m, env, st, S, R, P⟩
  exact ⟨F, G, m, env, st, S, R, P.bind.imp fun v1 H1 ⟨G1, m1, x, st1, e1, S1, r1, P1⟩ => hf F G1 m1 st1 H1 x v1 Q S1 r1 P1⟩
theorem je_ix {r : R2} {f : W → W → M W} (ho : IxR X r) (hf : OpOk X.K X.mg E r f) (ha : JE X E a da) (hb : JE X E b db) (hs : PlainIx b := by exact fun _ _ => rfl) : JE X E (.Subscript a b pos) (dOp f da db) := by
  refine weakE (pe_ix ho ha hb hs) ?_
  rintro σ H Q ⟨F, G, m, env, st, S, R, P⟩
  exact two S R P fun F G m st H x y v u S1 r1 r2 P1 => hf F G m st H x y v u Q S1 r1 r2 P1
theorem ja_nil : JA X E [] dNil := by
  refine weakA pa_nil ?_
  rintro σ H Q ⟨F, G, m, env, st, S, R, P⟩
  exact P.ret S .nil
theorem ja_cons (ha : JE X E e d) (hr : JA X E es ds) (hs : starEach (e :: es) X.env = (false, eval e X.env) :: starEach es X.env := by rfl) : JA X E (e :: es) (dCons d ds) := by
  refine weakA (pa_cons ha hr hs) ?_
  rintro σ H Q ⟨F, G, m, env, st, S, R, P⟩
  refine ⟨F, G, m, env, st, S, R, P.bind.imp fun v1 H1 ⟨G1, m1, x, st1, e1, S1, r1, P1⟩ => ?_⟩
  refine ⟨F, G1, m1, env, st1, S1, R.mono e1, (P1.bind (R := RA)).imp fun v2 H2 ⟨G2, m2, y, st2, e2, S2, r2, P2⟩ => ?_⟩
  exact P2.ret S2 (RWs.cons (r1.mono e2) r2)
/-- a display that is a tuple -/
def dTup (ds : Env → M (List W)) : Env → M W := fun env st => (ds env st).bind fun xs st => if xs.length ≤ sizeLine then .ok (.tup xs) st else .stuck
theorem je_tup {x1} (h : JA X E es ds) : JE X E (.Tuple es x1 pos) (dTup ds) := by
  refine weakE (pe_tup h) ?_
  rintro σ H Q ⟨F, G, m, env, st, S, R, P⟩
  refine ⟨F, G, m, env, st, S, R, (P.bind (R := RA)).imp fun vs H1 ⟨G1, m1, xs, st1, e1, S1, r1, P1⟩ => ?_⟩
  split at P1
  · rename_i z
    have hl := RWs.length r1
    refine ⟨by rw [← hl]; exact z, fun p hp => ?_⟩
    have hg := fresh_back S1.ex hp
    exact P1.mono (Ext.new hg) |>.ret (S1.newG hp) (.tup upd_same (RWs.mono (Ext.new hg) r1))
  · exact P1.elim
/-- a display that is a list, nobody's yet -/
def dLst (ds : Env → M (List W)) : Env → M (List W) := fun env st => (ds env st).bind fun xs st => if xs.length ≤ sizeLine then .ok xs st else .stuck
theorem jf_lst (h : JA X E es ds) : JF X E (.List es pos) (dLst ds) := by
  refine weakE (pe_lst h) ?_
  rintro σ H Q ⟨F, G, m, env, st, S, R, P⟩
  refine ⟨F, G, m, env, st, S, R, (P.bind (R := RA)).imp fun vs H1 ⟨G1, m1, xs, st1, e1, S1, r1, P1⟩ => ?_⟩
  split at P1
  · rename_i z
    have hl := RWs.length r1
    exact ⟨by rw [← hl]; exact z, fun p hp => P1.ret S1 hp r1⟩
  · exact P1.elim
/-- .. is plain data -/
def dPure (d : Env → M (List W)) : Env → M W := fun env st => (d env st).bind fun xs st => .ok (.lst xs) st
theorem je_pure {d : Env → M (List W)} (h : JF X E e d) : JE X E e (dPure d) := by
  refine weakE h ?_
  rintro σ H Q ⟨F, G, m, env, st, S, R, P⟩
  refine ⟨F, G, m, env, st, S, R, ?_⟩
  unfold dPure at P
  cases q : d env st with
  | stuck => rw [q] at P; exact P.elim
  | exc x st1 => rw [q] at P; exact P
  | ok xs st1 =>
    rw [q] at P
    intro G1 m1 p vs H1 e1 S1 hp r1
    have P : Post RW X.K X.mg E F G m (.ok (.lst xs) st1) Q := P
    have hg := fresh_back S1.ex hp
    exact (P.mono e1).mono (Ext.new hg) |>.ret (S1.newG hp) (.lst upd_same (r1.mono (Ext.new hg)))
/-- .. is a cell -/
def dCell (d : Env → M (List W)) : Env → M W := fun env st => (d env st).bind fun xs st => .ok (.cell st.length) (st ++ [.lst xs])
theorem je_cell {d : Env → M (List W)} (h : JF X E e d) : JE X E e (dCell d) := by
  refine weakE h ?_
  rintro σ H Q ⟨F, G, m, env, st, S, R, P⟩
  refine ⟨F, G, m, env, st, S, R, ?_⟩
  unfold dCell at P
  cases q : d env st with
  | stuck => rw [q] at P; exact P.elim
  | exc x st1 => rw [q] at P; exact P
  | ok xs st1 =>
    rw [q] at P
    intro G1 m1 p vs H1 e1 S1 hp r1
    have P : Post RW X.K X.mg E F G m (.ok (.cell st1.length) (st1 ++ [.lst xs])) Q := P
    have hg := fresh_back S1.ex hp
    refine (P.mono e1).mono (Ext.cell (p := p)) |>.ret (S1.newC hp ⟨hg, vs, upd_same, r1.mono Ext.cell⟩) (.cell ?_)
    rw [← S1.len]
    simp
end
end Sh


set_option maxRecDepth 100000
set_option maxHeartbeats 2000000
namespace Sh
open PySem L2 Evl

/-! ### what is read of a value -/
def lcell (st : Store) (n : Nat) : Option (List W) := match st[n]? with
  | some (.lst xs) => some xs
  | _ => none
theorem lcell_some {st : Store} {n : Nat} {xs : List W} (h : lcell st n = some xs) : st[n]? = some (.lst xs) := by
  unfold lcell at h
  split at h
  · rename_i q
    cases h
    exact q
  · cases h
def lviewT (w : W) (st : Store) : Option (List W) := match w with
  | .lst xs => some xs
  | .cell n => lcell st n
  | _ => none
def lview (w : W) (st : Store) : Option (List W) := match w with
  | .fz xs => some xs
  | w => lviewT w st
def tview (w : W) : Option (List W) := match w with
  | .tup xs => some xs
  | .ftp xs => some xs
  | _ => none
def sview (w : W) (st : Store) : Option (List W) := match w with
  | .tup xs => some xs
  | .ftp xs => some xs
  | w => lview w st
section
variable {K : PySem.W.Frag} {mg : MG} {G H : Hp} {m : List Addr} {st : Store} {w : W} {v : V} {xs : List W}
theorem lviewT_at (S : Sim K mg F G m st H) (r : RW K G m w v) (h : lviewT w st = some xs) : ∃ a vs, v = .ref a ∧ H a = some (.lst vs) ∧ RWs K G m xs vs := by
  cases r with
  | lst h1 h2 =>
    cases h
    exact ⟨_, _, rfl, S.ex _ _ h1, h2⟩
  | @cell n a h1 =>
    obtain ⟨_, vs, h2, h3⟩ := S.ok n _ a (lcell_some h) h1
    exact ⟨a, vs, rfl, h2, h3⟩
  | _ => cases h
theorem lview_at (S : Sim K mg F G m st H) (r : RW K G m w v) (h : lview w st = some xs) : ∃ a vs, v = .ref a ∧ SqL K H a vs ∧ RWs K G m xs vs := by
  cases w with
  | fz ys =>
    cases r with
    | fz h1 h2 =>
      cases h
      exact ⟨_, _, rfl, ex_l S.ex h1, h2⟩
  | lst ys =>
    obtain ⟨a, vs, e, h1, h2⟩ := lviewT_at S r (show lviewT (.lst ys) st = some xs from h)
    exact ⟨a, vs, e, .inl (.inl h1), h2⟩
  | cell n =>
    obtain ⟨a, vs, e, h1, h2⟩ := lviewT_at S r (show lviewT (.cell n) st = some xs from h)
    exact ⟨a, vs, e, .inl (.inl h1), h2⟩
  | _ => cases h
theorem tview_at (S : Sim K mg F G m st H) (r : RW K G m w v) (h : tview w = some xs) : ∃ a vs, v = .ref a ∧ SqT K H a vs ∧ RWs K G m xs vs := by
  cases r with
  | tup h1 h2 =>
    cases h
    exact ⟨_, _, rfl, .inl (.inl (S.ex _ _ h1)), h2⟩
  | ftp h1 h2 =>
    cases h
    exact ⟨_, _, rfl, ex_t S.ex h1, h2⟩
  | _ => cases h
theorem sview_at (S : Sim K mg F G m st H) (r : RW K G m w v) (h : sview w st = some xs) : ∃ a vs, v = .ref a ∧ (SqL K H a vs ∨ SqT K H a vs) ∧ RWs K G m xs vs := by
  cases w with
  | tup ys =>
    obtain ⟨a, vs, e, h1, h2⟩ := tview_at S r (show tview (.tup ys) = some xs from h)
    exact ⟨a, vs, e, .inr h1, h2⟩
  | ftp ys =>
    obtain ⟨a, vs, e, h1, h2⟩ := tview_at S r (show tview (.ftp ys) = some xs from h)
    exact ⟨a, vs, e, .inr h1, h2⟩
  | _ =>
    obtain ⟨a, vs, e, h1, h2⟩ := lview_at S r h
    exact ⟨a, vs, e, .inl h1, h2⟩
end

/-! ### data at any depth -/
mutual
def dat : W → Option PyData
  | .non => some .none
  | .bl b => some (.bool b)
  | .int i => some (.int i)
  | .str x => some (.str x)
  | .tup xs => (dats xs).map .tuple
  | .ftp xs => (dats xs).map .tuple
  | .lst xs => (dats xs).map .list
  | .fz xs => (dats xs).map .list
  | .cell _ => none
  | .exn _ _ _ _ => none
  | .xob _ _ _ => none
def dats : List W → Option (List PyData)
  | [] => some []
  | x :: xs => (dat x).bind fun d => (dats xs).map fun ds => d :: ds
end
/-- a cell's list too, at the top -/
def datC (w : W) (st : Store) : Option PyData := match w with
  | .cell n => (lviewT (.cell n) st).bind fun xs => (dats xs).map .list
  | w => dat w
section
variable {K : PySem.W.Frag} {mg : MG} {G H : Hp} {m : List Addr} {st : Store}
mutual
theorem dat_at (S : Sim K mg F G m st H) : ∀ {w : W} {v : V} {d : PyData}, RW K G m w v → dat w = some d → Dp K H v d
  | _, _, d, .non, h => by cases h; exact .non
  | _, _, d, .bl b, h => by cases h; exact .bl b
  | _, _, d, .int i, h => by cases h; exact .int i
  | _, _, d, .str x, h => by cases h; exact .str x
  | .tup xs, _, d, .tup h1 h2, h => by
    cases q : dats xs with
    | none => rw [dat, q] at h; cases h
    | some ds =>
      rw [dat, q] at h
      cases h
      exact .tup (.inl (.inl (S.ex _ _ h1))) (dats_at S h2 q)
  | .ftp xs, _, d, .ftp h1 h2, h => by
    cases q : dats xs with
    | none => rw [dat, q] at h; cases h
    | some ds =>
      rw [dat, q] at h
      cases h
      exact .tup (ex_t S.ex h1) (dats_at S h2 q)
  | .lst xs, _, d, .lst h1 h2, h => by
    cases q : dats xs with
    | none => rw [dat, q] at h; cases h
    | some ds =>
      rw [dat, q] at h
      cases h
      exact .lst (.inl (.inl (S.ex _ _ h1))) (dats_at S h2 q)
  | .fz xs, _, d, .fz h1 h2, h => by
    cases q : dats xs with
    | none => rw [dat, q] at h; cases h
    | some ds =>
      rw [dat, q] at h
      cases h
      exact .lst (ex_l S.ex h1) (dats_at S h2 q)
  | .cell n, _, d, .cell h1, h => by cases h
  | .exn _ _ _ _, _, d, .exn _ _, h => by cases h
  | .xob _ _ _, _, d, .xob _ _ _ _, h => by cases h
theorem dats_at (S : Sim K mg F G m st H) : ∀ {ws : List W} {vs : List V} {ds : List PyData}, RWs K G m ws vs → dats ws = some ds → DpAll K H vs ds
  | _, _, _, .nil, h => by cases h; exact .nil
  | x :: xs, _, _, .cons h1 h2, h => by
    cases q : dat x with
    | none => rw [dats, q] at h; cases h
    | some d =>
      cases q2 : dats xs with
      | none => rw [dats, q, q2] at h; cases h
      | some ds =>
        rw [dats, q, q2] at h
        cases h
        exact .cons (dat_at S h1 q) (dats_at S h2 q2)
end
theorem datC_at (S : Sim K mg F G m st H) {w : W} {v : V} {d : PyData} (r : RW K G m w v) (h : datC w st = some d) : Dp K H v d := by
  cases w with
  | cell n =>
    cases q : lviewT (.cell n) st with
    | none => rw [datC, q] at h; cases h
    | some xs =>
      cases q2 : dats xs with
      | none => simp only [datC, q, q2, Option.bind, Option.map] at h; cases h
      | some ds =>
        simp only [datC, q, q2, Option.bind, Option.map] at h
        cases h
        obtain ⟨a, vs, rfl, h1, h2⟩ := lviewT_at S r q
        exact .lst (.inl (.inl h1)) (dats_at S h2 q2)
  | _ => exact dat_at S r h
end

/-! ### operators by value -/
def oI (g : Int → Int → W) : W → W → M W := fun x y st => match x, y with
  | .int i, .int j => .ok (g i j) st
  | _, _ => .stuck
def oIC (c : Int → Int → Prop) [∀ i j, Decidable (c i j)] (g : Int → Int → W) : W → W → M W := fun x y st => match x, y with
  | .int i, .int j => if c i j then .ok (g i j) st else .stuck
  | _, _ => .stuck
instance (i j : Int) : Decidable (CMul i j) := by unfold CMul; exact inferInstance
instance (i j : Int) : Decidable (CDiv i j) := by unfold CDiv; exact inferInstance
def oCat : W → W → M (List W) := fun x y st => match lviewT x st, lviewT y st with
  | some xs, some ys => if xs.length + ys.length ≤ sizeLine then .ok (xs ++ ys) st else .stuck
  | _, _ => .stuck
def oRep : W → W → M (List W) := fun x y st => match lviewT x st, y with
  | some xs, .int k => if -(2 ^ 63) ≤ k ∧ k < 2 ^ 63 ∧ xs.length * k.toNat ≤ sizeLine then .ok (List.replicate k.toNat xs).flatten st else .stuck
  | _, _ => .stuck
def scalW : W → W → Option Bool
  | .non, .non => some true
  | .int i, .int j => some (decide (i = j))
  | .bl i, .bl j => some (decide (i = j))
  | .str i, .str j => some (decide (i = j))
  | .non, .int _ => some false
  | .int _, .non => some false
  | .non, .bl _ => some false
  | .bl _, .non => some false
  | .non, .str _ => some false
  | .str _, .non => some false
  | .int _, .str _ => some false
  | .str _, .int _ => some false
  | .bl _, .str _ => some false
  | .str _, .bl _ => some false
  | _, _ => none
def eqDeep (x y : W) (st : Store) : Option Bool := match datC x st, datC y st with
  | some d, some e => if SeqAt.shaped d = true ∧ SeqAt.shaped e = true then some (PyData.eqv d e) else none
  | _, _ => none
def eqAny (x y : W) (st : Store) : Option Bool := match scalW x y with
  | some b => some b
  | none => eqDeep x y st
def oEq : W → W → M W := fun x y st => match eqAny x y st with
  | some b => .ok (.bl b) st
  | none => .stuck
def oNe : W → W → M W := fun x y st => match eqAny x y st with
  | some b => .ok (.bl (!b)) st
  | none => .stuck
def oStr : W → W → M W := fun x y st => match x, y with
  | .str a, .str b => if a.length + b.length ≤ sizeLine then .ok (.str (a ++ b)) st else .stuck
  | _, _ => .stuck
def oIx : W → W → M W := fun x y st => match sview x st, y with
  | some xs, .int i => match atI xs i with
    | some w => .ok w st
    | none => .stuck
  | _, _ => .stuck
def oIsN : W → W → M W := fun x y st => match y with
  | .non => match x with
    | .non => .ok (.bl true) st
    | _ => .ok (.bl false) st
  | _ => .stuck
def oNotN : W → W → M W := fun x y st => match y with
  | .non => match x with
    | .non => .ok (.bl false) st
    | _ => .ok (.bl true) st
  | _ => .stuck
/-- a new list by an operation -/
def OpOkF (K : PySem.W.Frag) (mg : MG) (E : XK) (r : R2) (f : W → W → M (List W)) : Prop :=
  ∀ F G m st H x y v u Q, Sim K mg F G m st H → RW K G m x v → RW K G m y u → PostF K mg E F G m (f x y st) Q → r v u H Q
def CallOkF (K : PySem.W.Frag) (mg : MG) (E : XK) (r : List V → Hp → VK → Prop) (f : List W → M (List W)) : Prop :=
  ∀ F G m st H xs vs Q, Sim K mg F G m st H → RWs K G m xs vs → PostF K mg E F G m (f xs st) Q → r vs H Q
section
variable {K : PySem.W.Frag} {mg : MG} {E : XK}
theorem ok_I {g' : Int → Int → V} {g : Int → Int → W} (hg : ∀ i j G m, RW K G m (g i j) (g' i j)) : OpOk K mg E (rI0 g') (oI g) := by
  intro F G m st H x y v u Q S r1 r2 P
  unfold oI at P
  split at P
  · cases r1
    cases r2
    exact ⟨_, _, rfl, rfl, P.ret S (hg _ _ G m)⟩
  · exact P.elim
theorem ok_IC {c : Int → Int → Prop} [∀ i j, Decidable (c i j)] {g' : Int → Int → V} {g : Int → Int → W} (hg : ∀ i j G m, RW K G m (g i j) (g' i j)) : OpOk K mg E (rI c g') (oIC c g) := by
  intro F G m st H x y v u Q S r1 r2 P
  unfold oIC at P
  split at P
  · cases r1
    cases r2
    split at P
    · exact ⟨_, _, rfl, rfl, by assumption, P.ret S (hg _ _ G m)⟩
    · exact P.elim
  · exact P.elim
theorem ok_str : OpOk K mg E (fun x y H Q => ∃ i j, x = .str i ∧ y = .str j ∧ i.length + j.length ≤ sizeLine ∧ Q (.str (i ++ j)) H) oStr := by
  intro F G m st H x y v u Q S r1 r2 P
  unfold oStr at P
  split at P
  · cases r1
    cases r2
    split at P
    · exact ⟨_, _, rfl, rfl, by assumption, P.ret S (.str _)⟩
    · exact P.elim
  · exact P.elim
theorem ok_cat : OpOkF K mg E rCat oCat := by
  intro F G m st H x y v u Q S r1 r2 P
  unfold oCat at P
  split at P
  · rename_i xs ys q1 q2
    split at P
    · rename_i z
      obtain ⟨a, vs, rfl, h1, h2⟩ := lviewT_at S r1 q1
      obtain ⟨b, us, rfl, h3, h4⟩ := lviewT_at S r2 q2
      exact ⟨a, b, vs, us, rfl, rfl, h1, h3, by rw [← h2.length, ← h4.length]; exact z, fun p hp => P.ret S hp (h2.append h4)⟩
    · exact P.elim
  · exact P.elim
theorem ok_rep : OpOkF K mg E rRep oRep := by
  intro F G m st H x y v u Q S r1 r2 P
  unfold oRep at P
  split at P
  · rename_i xs k q1
    split at P
    · rename_i z
      obtain ⟨a, vs, rfl, h1, h2⟩ := lviewT_at S r1 q1
      cases r2
      exact ⟨a, k, vs, rfl, rfl, h1, z.1, z.2.1, by rw [← h2.length]; exact z.2.2, fun p hp => P.ret S hp (h2.rep _)⟩
    · exact P.elim
  · exact P.elim
theorem scal_at {G : Hp} {m : List Addr} {x y : W} {v u : V} {b : Bool} (r1 : RW K G m x v) (r2 : RW K G m y u) (h : scalW x y = some b) : scal v u = true ∧ decide (v = u) = b := by
  cases r1 <;> cases r2 <;> first
    | (cases h; done)
    | (cases h; exact ⟨rfl, rfl⟩)
    | (cases h; exact ⟨rfl, by simp⟩)
theorem deep_at {F G : Hp} {m : List Addr} {st : Store} {H : Hp} {x y : W} {v u : V} {b : Bool} (S : Sim K mg F G m st H) (r1 : RW K G m x v) (r2 : RW K G m y u) (h : eqDeep x y st = some b) :
    ∃ d e, Dp K H v d ∧ Dp K H u e ∧ SeqAt.shaped d = true ∧ SeqAt.shaped e = true ∧ PyData.eqv d e = b := by
  unfold eqDeep at h
  split at h
  · rename_i d e q1 q2
    split at h
    · rename_i z
      cases h
      exact ⟨d, e, datC_at S r1 q1, datC_at S r2 q2, z.1, z.2, rfl⟩
    · cases h
  · cases h
theorem ok_eq : OpOk K mg E (fun x y H Q => rEq x y H Q ∨ rEqD K x y H Q) oEq := by
  intro F G m st H x y v u Q S r1 r2 P
  unfold oEq at P
  split at P
  · rename_i b q
    unfold eqAny at q
    split at q
    · rename_i b' q2
      cases q
      obtain ⟨h1, h2⟩ := scal_at r1 r2 q2
      refine .inl ⟨h1, ?_⟩
      rw [h2]
      exact P.ret S (.bl _)
    · obtain ⟨d, e, h1, h2, h3, h4, h5⟩ := deep_at S r1 r2 q
      refine .inr ⟨d, e, h1, h2, h3, h4, ?_⟩
      rw [h5]
      exact P.ret S (.bl _)
  · exact P.elim
theorem ok_ne : OpOk K mg E (fun x y H Q => rNe x y H Q ∨ rNeD K x y H Q) oNe := by
  intro F G m st H x y v u Q S r1 r2 P
  unfold oNe at P
  split at P
  · rename_i b q
    unfold eqAny at q
    split at q
    · rename_i b' q2
      cases q
      obtain ⟨h1, h2⟩ := scal_at r1 r2 q2
      refine .inl ⟨h1, ?_⟩
      rw [h2]
      exact P.ret S (.bl _)
    · obtain ⟨d, e, h1, h2, h3, h4, h5⟩ := deep_at S r1 r2 q
      refine .inr ⟨d, e, h1, h2, h3, h4, ?_⟩
      rw [h5]
      exact P.ret S (.bl _)
  · exact P.elim
theorem RWs.atI {G : Hp} {m : List Addr} {xs : List W} {vs : List V} {i : Int} {w : W} (r : RWs K G m xs vs) (h : L2.atI xs i = some w) : ∃ v, L2.atI vs i = some v ∧ RW K G m w v := by
  unfold L2.atI at h ⊢
  rw [← r.length]
  cases q : ixN xs.length i with
  | none => rw [q] at h; cases h
  | some j =>
    rw [q] at h
    exact r.get h
theorem ok_ix : OpOk K mg E (rIx K) oIx := by
  intro F G m st H x y v u Q S r1 r2 P
  unfold oIx at P
  split at P
  · rename_i xs i q1
    cases r2
    split at P
    · rename_i w q2
      obtain ⟨a, vs, rfl, h1, h2⟩ := sview_at S r1 q1
      obtain ⟨z, h3, h4⟩ := h2.atI q2
      rcases h1 with h1 | h1
      · exact .inl ⟨a, vs, i, z, rfl, rfl, h1, h3, P.ret S h4⟩
      · exact .inr (.inl ⟨a, vs, i, z, rfl, rfl, h1, h3, P.ret S h4⟩)
    · exact P.elim
  · exact P.elim
theorem ok_isN : OpOk K mg E (fun x y H Q => y = .non ∧ Q (.bl (decide (x = .non))) H) oIsN := by
  intro F G m st H x y v u Q S r1 r2 P
  unfold oIsN at P
  split at P
  · cases r2
    refine ⟨rfl, ?_⟩
    split at P
    · cases r1
      exact P.ret S (.bl true)
    · rename_i hn
      have : decide (v = V.non) = false := by
        cases r1 <;> first | (exact absurd rfl hn) | (exact decide_eq_false (by intro q; cases q))
      rw [this]
      exact P.ret S (.bl false)
  · exact P.elim
theorem ok_notN : OpOk K mg E (fun x y H Q => y = .non ∧ Q (.bl (!decide (x = .non))) H) oNotN := by
  intro F G m st H x y v u Q S r1 r2 P
  unfold oNotN at P
  split at P
  · cases r2
    refine ⟨rfl, ?_⟩
    split at P
    · cases r1
      exact P.ret S (.bl false)
    · rename_i hn
      have : decide (v = V.non) = false := by
        cases r1 <;> first | (exact absurd rfl hn) | (exact decide_eq_false (by intro q; cases q))
      rw [this]
      exact P.ret S (.bl true)
  · exact P.elim
end

section
variable {X : Cx} {E : XK} {a b e c : Expr} {es : List Expr} {da db d : Env → M W} {ds : Env → M (List W)} {pos : Pos} {dt du : Env → M Bool}
def dOpF (f : W → W → M (List W)) (a b : Env → M W) : Env → M (List W) := fun env st => (a env st).bind fun x st => (b env st).bind fun y st => f x y st
theorem jf_op {r : R2} {f : W → W → M (List W)} {op : Operator} (ho : OpR X (binaryOp op) r) (hf : OpOkF X.K X.mg E r f) (ha : JE X E a da) (hb : JE X E b db) : JF X E (.BinOp a op b pos) (dOpF f da db) := by
  refine weakE (pe_op ho ha hb) ?_
  rintro σ H Q ⟨F, G, m, env, st, S, R, P⟩
  refine ⟨F, G, m, env, st, S, R, (PostF.bind (R := RW) P).imp fun v1 H1 ⟨G1, m1, x, st1, e1, S1, r1, P1⟩ => ⟨F, G1, m1, env, st1, S1, R.mono e1, (PostF.bind (R := RW) P1).imp fun v2 H2 ⟨G2, m2, y, st2, e2, S2, r2, P2⟩ => hf F G2 m2 st2 H2 x y v1 v2 Q S2 (RW.mono e2 r1) r2 P2⟩⟩
theorem je_add (ha : JE X E a da) (hb : JE X E b db) : JE X E (.BinOp a .Add b pos) (dOp (oI fun i j => .int (i + j)) da db) := je_op op_add (ok_I fun i j _ _ => .int _) ha hb
theorem je_sub (ha : JE X E a da) (hb : JE X E b db) : JE X E (.BinOp a .Sub b pos) (dOp (oI fun i j => .int (i - j)) da db) := je_op op_sub (ok_I fun i j _ _ => .int _) ha hb
theorem je_mul (ha : JE X E a da) (hb : JE X E b db) : JE X E (.BinOp a .Mult b pos) (dOp (oIC CMul fun i j => .int (i * j)) da db) := je_op op_mul (ok_IC fun i j _ _ => .int _) ha hb
theorem je_mod (ha : JE X E a da) (hb : JE X E b db) : JE X E (.BinOp a .Mod b pos) (dOp (oIC (fun _ j => 0 < j) fun i j => .int (i % j)) da db) := je_op op_mod (ok_IC fun i j _ _ => .int _) ha hb
theorem je_fdiv (ha : JE X E a da) (hb : JE X E b db) : JE X E (.BinOp a .FloorDiv b pos) (dOp (oIC CDiv fun i j => .int (i / j)) da db) := je_op op_fdiv (ok_IC fun i j _ _ => .int _) ha hb
theorem je_addS (ha : JE X E a da) (hb : JE X E b db) : JE X E (.BinOp a .Add b pos) (dOp oStr da db) := je_op op_add_str ok_str ha hb
theorem jf_cat (ha : JE X E a da) (hb : JE X E b db) : JF X E (.BinOp a .Add b pos) (dOpF oCat da db) := jf_op op_cat ok_cat ha hb
theorem jf_rep (ha : JE X E a da) (hb : JE X E b db) : JF X E (.BinOp a .Mult b pos) (dOpF oRep da db) := jf_op op_rep ok_rep ha hb
theorem je_lt (ha : JE X E a da) (hb : JE X E b db) : JE X E (.Compare a [.Lt] [b] pos) (dOp (oI fun i j => .bl (decide (i < j))) da db) := je_cmp op_lt (ok_I fun i j _ _ => .bl _) ha hb (nomark _)
theorem je_le (ha : JE X E a da) (hb : JE X E b db) : JE X E (.Compare a [.LtE] [b] pos) (dOp (oI fun i j => .bl (decide (i ≤ j))) da db) := je_cmp op_le (ok_I fun i j _ _ => .bl _) ha hb (nomark _)
theorem je_gt (ha : JE X E a da) (hb : JE X E b db) : JE X E (.Compare a [.Gt] [b] pos) (dOp (oI fun i j => .bl (decide (j < i))) da db) := je_cmp op_gt (ok_I fun i j _ _ => .bl _) ha hb (nomark _)
theorem je_ge (ha : JE X E a da) (hb : JE X E b db) : JE X E (.Compare a [.GtE] [b] pos) (dOp (oI fun i j => .bl (decide (j ≤ i))) da db) := je_cmp op_ge (ok_I fun i j _ _ => .bl _) ha hb (nomark _)
theorem je_eq (hu : X.A.units + 64 < cLine) (ha : JE X E a da) (hb : JE X E b db) : JE X E (.Compare a [.Eq] [b] pos) (dOp oEq da db) := je_cmp (op_eq.or (op_eqD hu)) ok_eq ha hb (nomark _)
theorem je_ne (hu : X.A.units + 64 < cLine) (ha : JE X E a da) (hb : JE X E b db) : JE X E (.Compare a [.NotEq] [b] pos) (dOp oNe da db) := je_cmp (op_ne.or (op_neD hu)) ok_ne ha hb (nomark _)
theorem je_isN (ha : JE X E a da) (hb : JE X E b db) : JE X E (.Compare a [.Is] [b] pos) (dOp oIsN da db) := je_cmp op_isN ok_isN ha hb (nomark _)
theorem je_notN (ha : JE X E a da) (hb : JE X E b db) : JE X E (.Compare a [.IsNot] [b] pos) (dOp oNotN da db) := je_cmp op_notN ok_notN ha hb (nomark _)
theorem je_at (ha : JE X E a da) (hb : JE X E b db) (hs : PlainIx b := by exact fun _ _ => rfl) : JE X E (.Subscript a b pos) (dOp oIx da db) := je_ix ix_seq ok_ix ha hb hs
def oNeg : W → M W := fun x st => match x with
  | .int i => .ok (.int (-i)) st
  | _ => .stuck
theorem je_neg (ha : JE X E a da) : JE X E (.UnaryOp .USub a pos) (dUn oNeg da) := je_un un_neg (by
  intro F G m st H x v Q S r P
  unfold oNeg at P
  split at P
  · cases r
    exact ⟨_, rfl, P.ret S (.int _)⟩
  · exact P.elim) ha

/-! ### tests -/
/-- a value that is a bool, as a test -/
def asB : W → M Bool := fun w st => match w with
  | .bl b => .ok b st
  | _ => .stuck
def dB (d : Env → M W) : Env → M Bool := fun env st => (d env st).bind asB
theorem jt_of {t : TT} {r : V → Hp → (Bool → Hp → Prop) → Prop} {f : W → M Bool} (h : PT X e fun σ H Q => tE X.K X.mg E d σ H fun x H1 => r x H1 Q) (hf : TruOk X.K X.mg E r f) : JT X E e fun env st => (d env st).bind f := by
  refine weakT h ?_
  rintro σ H Q ⟨F, G, m, env, st, S, R, P⟩
  exact ⟨F, G, m, env, st, S, R, P.bind.imp fun v1 H1 ⟨G1, m1, x, st1, e1, S1, r1, P1⟩ => hf F G1 m1 st1 H1 x v1 Q S1 r1 P1⟩
theorem tru_B {K : PySem.W.Frag} {mg : MG} : TruOk K mg E (fun x H Q => ∃ k, x = .bl k ∧ Q k H) asB := by
  intro F G m st H x v Q S r P
  unfold asB at P
  split at P
  · cases r
    exact ⟨_, rfl, P.ret S rfl⟩
  · exact P.elim
theorem jt_val (h : JE X E e d) (he : ∀ whole, isTrue e X.env whole = (do let v ← whole; standAt e.pos; holding [v] (truthy v)) := by intro _; rfl) : JT X E e (dB d) :=
  jt_of (t := tB (tE X.K X.mg E d)) (pt_val h he) tru_B
/-- a comparison as a test -/
theorem jt_cmp {op : CmpOp} {r : R2} {f : W → W → M W} (ho : OpR X (compareOp op) r) (hf : OpOk X.K X.mg E r f) (ha : JE X E a da) (hb : JE X E b db) (hm : behindInMarks op b = false) : JT X E (.Compare a [op] [b] pos) (dB (dOp f da db)) := by
  refine weakT (pt_cmpR ho ha hb hm) ?_
  rintro σ H Q ⟨F, G, m, env, st, S, R, P⟩
  have P2 : Post RB X.K X.mg E F G m ((da env st).bind fun x st => (db env st).bind fun y st => (f x y st).bind asB) Q := by
    unfold dB dOp at P
    cases q : da env st with
    | stuck => rw [q] at P; exact P
    | exc x st => rw [q] at P; exact P
    | ok x st =>
      rw [q] at P
      simp only [Out.bind_ok] at P ⊢
      cases q2 : db env st with
      | stuck => rw [q2] at P; exact P
      | exc x st => rw [q2] at P; exact P
      | ok y st => rw [q2] at P; exact P
  exact two S R P2 fun F G m st H x y v u S1 r1 r2 P1 => hf F G m st H x y v u _ S1 r1 r2 (P1.bind.imp fun w H2 ⟨G2, m2, z, st2, e2, S2, r3, P3⟩ => tru_B F G2 m2 st2 H2 z w Q S2 r3 P3)
theorem jt_lt (ha : JE X E a da) (hb : JE X E b db) : JT X E (.Compare a [.Lt] [b] pos) (dB (dOp (oI fun i j => .bl (decide (i < j))) da db)) := jt_cmp op_lt (ok_I fun i j _ _ => .bl _) ha hb (nomark _)
theorem jt_le (ha : JE X E a da) (hb : JE X E b db) : JT X E (.Compare a [.LtE] [b] pos) (dB (dOp (oI fun i j => .bl (decide (i ≤ j))) da db)) := jt_cmp op_le (ok_I fun i j _ _ => .bl _) ha hb (nomark _)
theorem jt_gt (ha : JE X E a da) (hb : JE X E b db) : JT X E (.Compare a [.Gt] [b] pos) (dB (dOp (oI fun i j => .bl (decide (j < i))) da db)) := jt_cmp op_gt (ok_I fun i j _ _ => .bl _) ha hb (nomark _)
theorem jt_ge (ha : JE X E a da) (hb : JE X E b db) : JT X E (.Compare a [.GtE] [b] pos) (dB (dOp (oI fun i j => .bl (decide (j ≤ i))) da db)) := jt_cmp op_ge (ok_I fun i j _ _ => .bl _) ha hb (nomark _)
theorem jt_eq (hu : X.A.units + 64 < cLine) (ha : JE X E a da) (hb : JE X E b db) : JT X E (.Compare a [.Eq] [b] pos) (dB (dOp oEq da db)) := jt_cmp (op_eq.or (op_eqD hu)) ok_eq ha hb (nomark _)
theorem jt_ne (hu : X.A.units + 64 < cLine) (ha : JE X E a da) (hb : JE X E b db) : JT X E (.Compare a [.NotEq] [b] pos) (dB (dOp oNe da db)) := jt_cmp (op_ne.or (op_neD hu)) ok_ne ha hb (nomark _)
theorem jt_isN (ha : JE X E a da) (hb : JE X E b db) : JT X E (.Compare a [.Is] [b] pos) (dB (dOp oIsN da db)) := jt_cmp op_isN ok_isN ha hb (nomark _)
theorem jt_notN (ha : JE X E a da) (hb : JE X E b db) : JT X E (.Compare a [.IsNot] [b] pos) (dB (dOp oNotN da db)) := jt_cmp op_notN ok_notN ha hb (nomark _)
def dAnd (a b : Env → M Bool) : Env → M Bool := fun env st => (a env st).bind fun c st => if c = true then b env st else .ok false st
def dOr (a b : Env → M Bool) : Env → M Bool := fun env st => (a env st).bind fun c st => if c = true then .ok true st else b env st
def dNot (a : Env → M Bool) : Env → M Bool := fun env st => (a env st).bind fun c st => .ok (!c) st
abbrev JW (X : Cx) (E : XK) (e : Expr) (d : Env → M Bool) : Prop := PW X e (tT X.K X.mg E d)
theorem weakW {t t' : TT} (h : PW X e t) (w : ∀ σ H Q, t' σ H Q → t σ H Q) : PW X e t' := ⟨fun wh pins s σ H Q I q => h.run wh pins s σ H Q I (w σ H Q q)⟩
theorem jw_and1 (h : JT X E a dt) : JW X E (.BoolOp .And [a] pos) dt := pw_and1 h
theorem jw_or1 (h : JT X E a dt) : JW X E (.BoolOp .Or [a] pos) dt := pw_or1 h
theorem jw_and {rest : List Expr} (ha : JT X E a dt) (hb : JW X E (.BoolOp .And (b :: rest) pos) du) : JW X E (.BoolOp .And (a :: b :: rest) pos) (dAnd dt du) := by
  refine weakW (pw_and ha hb) ?_
  rintro σ H Q ⟨F, G, m, env, st, S, R, P⟩
  refine ⟨F, G, m, env, st, S, R, (P.bind (R := RB)).imp fun c' H1 ⟨G1, m1, c, st1, e1, S1, r1, P1⟩ => ?_⟩
  cases r1
  cases c' with
  | true => exact ⟨F, G1, m1, env, st1, S1, R.mono e1, P1⟩
  | false => exact P1.ret S1 rfl
theorem jw_or {rest : List Expr} (ha : JT X E a dt) (hb : JW X E (.BoolOp .Or (b :: rest) pos) du) : JW X E (.BoolOp .Or (a :: b :: rest) pos) (dOr dt du) := by
  refine weakW (pw_or ha hb) ?_
  rintro σ H Q ⟨F, G, m, env, st, S, R, P⟩
  refine ⟨F, G, m, env, st, S, R, (P.bind (R := RB)).imp fun c' H1 ⟨G1, m1, c, st1, e1, S1, r1, P1⟩ => ?_⟩
  cases r1
  cases c' with
  | false => exact ⟨F, G1, m1, env, st1, S1, R.mono e1, P1⟩
  | true => exact P1.ret S1 rfl
theorem jt_w (h : JW X E e dt) : JT X E e dt := h.pt
theorem jt_not (h : JT X E a dt) : JT X E (.UnaryOp .Not a pos) (dNot dt) := by
  refine weakT (pt_not h) ?_
  rintro σ H Q ⟨F, G, m, env, st, S, R, P⟩
  refine ⟨F, G, m, env, st, S, R, (P.bind (R := RB)).imp fun c' H1 ⟨G1, m1, c, st1, e1, S1, r1, P1⟩ => ?_⟩
  cases r1
  exact P1.ret S1 rfl
/-- and, or, not as values of bools -/
def dAndV (a b : Env → M W) : Env → M W := fun env st => (a env st).bind fun w st => match w with
  | .bl true => b env st
  | .bl false => .ok (.bl false) st
  | _ => .stuck
def dOrV (a b : Env → M W) : Env → M W := fun env st => (a env st).bind fun w st => match w with
  | .bl true => .ok (.bl true) st
  | .bl false => b env st
  | _ => .stuck
theorem je_one {op} (h : JE X E a d) : JE X E (.BoolOp op [a] pos) d := pe_one h
theorem je_and {rest : List Expr} (ha : JE X E a da) (hb : JE X E (.BoolOp .And (b :: rest) pos) db) : JE X E (.BoolOp .And (a :: b :: rest) pos) (dAndV da db) := by
  refine weakE (pe_and ha hb) ?_
  rintro σ H Q ⟨F, G, m, env, st, S, R, P⟩
  refine ⟨F, G, m, env, st, S, R, P.bind.imp fun v H1 ⟨G1, m1, w, st1, e1, S1, r1, P1⟩ => ?_⟩
  split at P1
  · cases r1
    exact ⟨true, rfl, F, G1, m1, env, st1, S1, R.mono e1, P1⟩
  · cases r1
    exact ⟨false, rfl, P1.ret S1 (.bl false)⟩
  · exact P1.elim
theorem je_or {rest : List Expr} (ha : JE X E a da) (hb : JE X E (.BoolOp .Or (b :: rest) pos) db) : JE X E (.BoolOp .Or (a :: b :: rest) pos) (dOrV da db) := by
  refine weakE (pe_or ha hb) ?_
  rintro σ H Q ⟨F, G, m, env, st, S, R, P⟩
  refine ⟨F, G, m, env, st, S, R, P.bind.imp fun v H1 ⟨G1, m1, w, st1, e1, S1, r1, P1⟩ => ?_⟩
  split at P1
  · cases r1
    exact ⟨true, rfl, P1.ret S1 (.bl true)⟩
  · cases r1
    exact ⟨false, rfl, F, G1, m1, env, st1, S1, R.mono e1, P1⟩
  · exact P1.elim
def dIf (t : Env → M Bool) (a b : Env → M W) : Env → M W := fun env st => (t env st).bind fun c st => if c = true then a env st else b env st
theorem je_if (hc : JT X E c dt) (ha : JE X E a da) (hb : JE X E b db) : JE X E (.IfExp c a b pos) (dIf dt da db) := by
  refine weakE (pe_ifExp hc ha hb) ?_
  rintro σ H Q ⟨F, G, m, env, st, S, R, P⟩
  refine ⟨F, G, m, env, st, S, R, (P.bind (R := RB)).imp fun c' H1 ⟨G1, m1, c, st1, e1, S1, r1, P1⟩ => ?_⟩
  cases r1
  cases c' with
  | true => exact ⟨F, G1, m1, env, st1, S1, R.mono e1, P1⟩
  | false => exact ⟨F, G1, m1, env, st1, S1, R.mono e1, P1⟩
end
end Sh


set_option maxRecDepth 100000
set_option maxHeartbeats 2000000
namespace Sh
open PySem L2 Evl
section
variable {X : Cx} {E : XK} {a b e c : Expr} {es : List Expr} {da db d : Env → M W} {ds : Env → M (List W)} {pos : Pos} {dt du : Env → M Bool} {st1 : Stmt} {rest : List Stmt} {s1 s2 : S}
/-! ### blocks -/
def SOut.seq (o : SOut) (t : S) : SOut := match o with
  | .nx env st => t env st
  | o => o
@[simp] theorem SOut.seq_nx (env : Env) (st : Store) (t : S) : (SOut.nx env st).seq t = t env st := rfl
@[simp] theorem SOut.seq_rt (w : W) (st : Store) (t : S) : (SOut.rt w st).seq t = .rt w st := rfl
@[simp] theorem SOut.seq_bk (env : Env) (st : Store) (t : S) : (SOut.bk env st).seq t = .bk env st := rfl
@[simp] theorem SOut.seq_ct (env : Env) (st : Store) (t : S) : (SOut.ct env st).seq t = .ct env st := rfl
@[simp] theorem SOut.seq_exc (x : Exn) (st : Store) (t : S) : (SOut.exc x st).seq t = .exc x st := rfl
@[simp] theorem SOut.seq_stuck (t : S) : SOut.stuck.seq t = .stuck := rfl
def sNil : S := fun env st => .nx env st
def sSeq (s t : S) : S := fun env st => (s env st).seq t
theorem jss_nil : JSs X E [] sNil := by
  refine weakSs pss_nil ?_
  rintro D σ H ⟨F, G, m, env, st, S, R, P⟩
  exact P G m σ H (Ext.refl G m) S R
theorem jss_cons (h1 : JS X E st1 s1) (h2 : JSs X E rest s2) : JSs X E (st1 :: rest) (sSeq s1 s2) := by
  refine weakSs (pss_cons h1 h2) ?_
  rintro D σ H ⟨F, G, m, env, st, S, R, P⟩
  refine ⟨F, G, m, env, st, S, R, ?_⟩
  unfold sSeq at P
  cases q : s1 env st with
  | stuck => rw [q] at P; exact P
  | nx env' st' =>
    rw [q] at P
    exact fun G1 m1 σ1 H1 e1 S1 R1 => ⟨F, G1, m1, env', st', S1, R1, PostS.mono e1 P⟩
  | rt w st' => rw [q] at P; exact P
  | bk env' st' => rw [q] at P; exact P
  | ct env' st' => rw [q] at P; exact P
  | exc x st' => rw [q] at P; exact P
theorem jss_one (h1 : JS X E st1 s1) : JSs X E [st1] s1 := pss_one h1
theorem js_pass : JS X E (.Pass pos) sNil := by
  refine weakS ps_pass ?_
  rintro D σ H ⟨F, G, m, env, st, S, R, P⟩
  exact P G m σ H (Ext.refl G m) S R
theorem js_doc {x j pos pos'} : JS X E (.Expr (.Constant (.str x) j pos) pos') sNil := by
  refine weakS ps_doc ?_
  rintro D σ H ⟨F, G, m, env, st, S, R, P⟩
  exact P G m σ H (Ext.refl G m) S R
def sBreak : S := fun env st => .bk env st
def sCont : S := fun env st => .ct env st
theorem js_break : JS X E (.Break pos) sBreak := by
  refine weakS ps_break ?_
  rintro D σ H ⟨F, G, m, env, st, S, R, P⟩
  exact P G m σ H (Ext.refl G m) S R
theorem js_continue : JS X E (.Continue pos) sCont := by
  refine weakS ps_continue ?_
  rintro D σ H ⟨F, G, m, env, st, S, R, P⟩
  exact P G m σ H (Ext.refl G m) S R
def sRet (d : Env → M W) : S := fun env st => (d env st).bindS fun w st => .rt w st
theorem js_ret (h : JE X E e d) : JS X E (.Return (some e) pos) (sRet d) := by
  refine weakS (ps_ret h) ?_
  rintro D σ H ⟨F, G, m, env, st, S, R, P⟩
  exact ⟨F, G, m, env, st, S, R, (P.bindS (R := RW)).imp fun v H1 ⟨G1, m1, w, st1, e1, S1, r1, P1⟩ => P1 G1 m1 v H1 (Ext.refl G1 m1) S1 r1⟩
def sRetN : S := fun _ st => .rt .non st
theorem js_retN : JS X E (.Return none pos) sRetN := by
  refine weakS ps_retN ?_
  rintro D σ H ⟨F, G, m, env, st, S, R, P⟩
  exact P G m .non H (Ext.refl G m) S .non
def sDrop (d : Env → M W) : S := fun env st => (d env st).bindS fun _ st => .nx env st
theorem js_expr (h : JE X E e d) (hs : swapsWith e none pos.line X.env = pure false := by rfl) : JS X E (.Expr e pos) (sDrop d) := by
  refine weakS (ps_expr h hs) ?_
  rintro D σ H ⟨F, G, m, env, st, S, R, P⟩
  exact ⟨F, G, m, env, st, S, R, (P.bindS (R := RW)).imp fun v H1 ⟨G1, m1, w, st1, e1, S1, r1, P1⟩ => P1 G1 m1 σ H1 (Ext.refl G1 m1) S1 (R.mono e1)⟩
def sIf (t : Env → M Bool) (s u : S) : S := fun env st => (t env st).bindS fun c st => if c = true then s env st else u env st
theorem js_if {xs ys : List Stmt} (hc : JT X E c dt) (ha : JSs X E xs s1) (hb : JSs X E ys s2) : JS X E (.If c xs ys pos) (sIf dt s1 s2) := by
  refine weakS (ps_if hc ha hb) ?_
  rintro D σ H ⟨F, G, m, env, st, S, R, P⟩
  refine ⟨F, G, m, env, st, S, R, (P.bindS (R := RB)).imp fun c' H1 ⟨G1, m1, c, st1, e1, S1, r1, P1⟩ => ?_⟩
  cases r1
  cases c' with
  | true => exact ⟨F, G1, m1, env, st1, S1, R.mono e1, P1⟩
  | false => exact ⟨F, G1, m1, env, st1, S1, R.mono e1, P1⟩
/-- x = e -/
def sSet (i : Nat) (d : Env → M W) : S := fun env st => (d env st).bindS fun w st => .nx (env.set i (some w)) st
theorem js_set {i : Nat} {x : Str} {pos' : Pos} (hN : X.N.Nodup) (hi : X.N[i]? = some x) (h : JE X E e d) (hx : Loc X.env.scope x := by first | exact .inl rfl | exact .inr rfl) (hs : swapsWith e (some (.Name x pos')) pos.line X.env = pure false := by rfl)
    (hf : X.fn x = true ∨ X.env.scope.names.lookup x = some .local := by first | exact .inl rfl | exact .inr rfl | assumption) : JS X E (.Assign [.Name x pos'] e pos) (sSet i d) := by
  refine weakS (ps_set hN hi hx h hs hf) ?_
  rintro D σ H ⟨F, G, m, env, st, S, R, P⟩
  exact ⟨F, G, m, env, st, S, R, (P.bindS (R := RW)).imp fun v H1 ⟨G1, m1, w, st1, e1, S1, r1, P1⟩ => P1 G1 m1 _ H1 (Ext.refl G1 m1) S1 ((R.mono e1).set r1 i)⟩
/-- x += e, rngW -/
def sAug (i : Nat) (f : Int → Int → Int) (d : Env → M W) : S := fun env st => match env[i]? with
  | some (some (.int a)) => (d env st).bindS fun w st => match w with
    | .int b => .nx (env.set i (some (.int (f a b)))) st
    | _ => .stuck
  | _ => .stuck
theorem js_aug {i : Nat} {x : Str} {op : Operator} {f : Int → Int → Int} {pos' : Pos} (hN : X.N.Nodup) (hi : X.N[i]? = some x) (h : JE X E e d) (ho : PIp X op (ipI f)) (hx : Loc X.env.scope x := by first | exact .inl rfl | exact .inr rfl)
    (hf : X.fn x = true ∨ X.env.scope.names.lookup x = some .local := by first | exact .inl rfl | exact .inr rfl | assumption) : JS X E (.AugAssign (.Name x pos') op e pos) (sAug i f d) := by
  refine weakS (ps_aug hN hi hx h ho hf) ?_
  rintro D σ H ⟨F, G, m, env, st, S, R, P⟩
  unfold sAug at P
  split at P
  · rename_i z q
    obtain ⟨v, h1, h2⟩ := R.2 i _ q
    cases h2
    refine ⟨.int z, h1, F, G, m, env, st, S, R, (P.bindS (R := RW)).imp fun v H1 ⟨G1, m1, w, st1, e1, S1, r1, P1⟩ => ?_⟩
    split at P1
    · cases r1
      exact ⟨_, _, rfl, rfl, P1 G1 m1 _ H1 (Ext.refl G1 m1) S1 ((R.mono e1).set (.int _) i)⟩
    · exact P1.elim
  · exact P.elim

/-! ### targets -/
abbrev T := W → Env → M Env
abbrev Ts := List W → Env → M Env
/-- the slots at sl alone may differ -/
def Off (sl : List Nat) (σ σ' : L2.St) : Prop := ∀ vs : List Nat, (∀ i ∈ sl, i ∈ vs) → wipe σ' vs = wipe σ vs
def PostT (K : PySem.W.Frag) (mg : MG) (F G : Hp) (m : List Addr) (sl : List Nat) (σ : L2.St) (o : Out Env) (Q : L2.St → Hp → Prop) : Prop := match o with
  | .ok env st => ∀ G' m' σ' H', Ext G m G' m' → Sim K mg F G' m' st H' → REnv K G' m' env σ' → Off sl σ σ' → Q σ' H'
  | _ => False
theorem PostT.mono {K : PySem.W.Frag} {mg : MG} {F G G' : Hp} {m m' : List Addr} {sl : List Nat} {σ : L2.St} {o : Out Env} {Q : L2.St → Hp → Prop} (e : Ext G m G' m') (h : PostT K mg F G m sl σ o Q) : PostT K mg F G' m' sl σ o Q := by
  cases o with
  | ok env st => exact fun G2 m2 s2 H2 e2 => h G2 m2 s2 H2 (e.trans e2)
  | stuck => exact h
  | exc x st => exact h
def tG (K : PySem.W.Frag) (mg : MG) (sl : List Nat) (g : T) : TG := fun v σ H Q => ∃ F G m env st w, Sim K mg F G m st H ∧ REnv K G m env σ ∧ RW K G m w v ∧ PostT K mg F G m sl σ (g w env st) Q
def tGs (K : PySem.W.Frag) (mg : MG) (sl : List Nat) (g : Ts) : TGs := fun vs σ H Q => ∃ F G m env st ws, Sim K mg F G m st H ∧ REnv K G m env σ ∧ RWs K G m ws vs ∧ PostT K mg F G m sl σ (g ws env st) Q
abbrev JG (X : Cx) (e : Expr) (sl : List Nat) (g : T) : Prop := PG X e (tG X.K X.mg sl g)
abbrev JGs (X : Cx) (e : List Expr) (sl : List Nat) (g : Ts) : Prop := PGs X e (tGs X.K X.mg sl g)
theorem wipe_at {σ : L2.St} {x : Option V} : ∀ {vs : List Nat} {i : Nat}, i ∈ vs → wipe (σ.set i x) vs = wipe σ vs
  | v :: vs, i, h => by
    unfold wipe
    by_cases e : i = v
    · subst e
      by_cases h2 : i ∈ vs
      · rw [wipe_at h2]
      · have : ∀ vs : List Nat, wipe (σ.set i x) vs = (wipe σ vs).set i (if i ∈ vs then none else x) := by
          intro vs
          induction vs with
          | nil => rfl
          | cons u us ih =>
            unfold wipe
            rw [ih]
            by_cases q : i = u
            · subst q
              simp
            · rw [List.set_comm _ _ q]
              simp [q]
        rw [this]
        simp
    · rcases List.mem_cons.mp h with h | h
      · exact absurd h e
      · rw [wipe_at h]
theorem weakG {t t' : TG} (h : PG X e t) (w : ∀ v σ H Q, t' v σ H Q → t v σ H Q) : PG X e t' := ⟨fun pins s σ H v u Q I r q => h.run pins s σ H v u Q I r (w v σ H Q q)⟩
theorem weakGs {t t' : TGs} (h : PGs X es t) (w : ∀ v σ H Q, t' v σ H Q → t v σ H Q) : PGs X es t' := ⟨fun pins s σ H v u Q I r q => h.run pins s σ H v u Q I r (w v σ H Q q)⟩
def gN (i : Nat) : T := fun w env st => .ok (env.set i (some w)) st
def gsNil : Ts := fun ws env st => match ws with
  | [] => .ok env st
  | _ => .stuck
def gsCons (g : T) (gs : Ts) : Ts := fun ws env st => match ws with
  | w :: ws => (g w env st).bind fun env st => gs ws env st
  | [] => .stuck
theorem jg_name {i : Nat} {x : Str} (hN : X.N.Nodup) (hi : X.N[i]? = some x) (hx : Loc X.env.scope x := by first | exact .inl rfl | exact .inr rfl) (hf : X.fn x = true ∨ X.env.scope.names.lookup x = some .local := by first | exact .inl rfl | exact .inr rfl | assumption) : JG X (.Name x pos) [i] (gN i) := by
  refine weakG (pg_name hN hi hx hf) ?_
  rintro v σ H Q ⟨F, G, m, env, st, w, S, R, r, q⟩
  exact q G m _ H (Ext.refl G m) S (R.set r i) fun vs hv => wipe_at (hv i (List.mem_singleton.mpr rfl))
theorem jgs_nil : JGs X [] [] gsNil := by
  refine weakGs pgs_nil ?_
  rintro v σ H Q ⟨F, G, m, env, st, w, S, R, r, q⟩
  cases r with
  | nil => exact ⟨rfl, q G m σ H (Ext.refl G m) S R fun _ _ => rfl⟩
  | cons a b => exact q.elim
theorem jgs_cons {g : T} {gs : Ts} {s1 s2 : List Nat} (h1 : JG X e s1 g) (h2 : JGs X es s2 gs) (hs : (assignEach (e :: es) X.env).map (·.2) = assign e X.env :: (assignEach es X.env).map (·.2) := by rfl) : JGs X (e :: es) (s1 ++ s2) (gsCons g gs) := by
  refine weakGs (pgs_cons h1 h2 hs) ?_
  rintro v σ H Q ⟨F, G, m, env, st, w, S, R, r, q⟩
  cases r with
  | nil => exact q.elim
  | @cons x v xs vs r1 r2 =>
    refine ⟨v, vs, rfl, F, G, m, env, st, x, S, R, r1, ?_⟩
    unfold gsCons at q
    cases h3 : g x env st with
    | stuck => simp only [h3] at q; exact q
    | exc x st => simp only [h3] at q; exact q
    | ok env1 st1 =>
      simp only [h3, Out.bind_ok] at q
      intro G1 m1 σ1 H1 e1 S1 R1 o1
      refine ⟨F, G1, m1, env1, st1, xs, S1, R1, r2.mono e1, ?_⟩
      have q := PostT.mono e1 q
      cases h4 : gs xs env1 st1 with
      | stuck => rw [h4] at q; exact q
      | exc x st => rw [h4] at q; exact q
      | ok env2 st2 =>
        rw [h4] at q
        exact fun G2 m2 σ2 H2 e2 S2 R2 o2 => q G2 m2 σ2 H2 e2 S2 R2 fun us hu => (o2 us fun i hi => hu i (List.mem_append_right _ hi)).trans (o1 us fun i hi => hu i (List.mem_append_left _ hi))
/-- as many targets as values, or nothing -/
def GsLen (gs : Ts) (n : Nat) : Prop := ∀ ws env st env' st', gs ws env st = .ok env' st' → ws.length = n
theorem gs_len0 : GsLen gsNil 0 := by
  intro ws env st env' st' q
  cases ws with
  | nil => rfl
  | cons => cases q
theorem gs_len {gs : Ts} {n : Nat} {g : T} (h : GsLen gs n) : GsLen (gsCons g gs) (n + 1) := by
  intro ws env st env' st' q
  cases ws with
  | nil => cases q
  | cons w ws =>
    unfold gsCons at q
    cases h3 : g w env st with
    | stuck => simp only [h3] at q; cases q
    | exc x st => simp only [h3] at q; cases q
    | ok env1 st1 =>
      simp only [h3] at q
      rw [List.length_cons, h ws env1 st1 env' st' q]
/-- (a, b, ..) = a tuple -/
def gTu (gs : Ts) : T := fun w env st => match tview w with
  | some ws => gs ws env st
  | none => .stuck
theorem jg_tup {k : Nat} {gs : Ts} {n : Nat} {sl : List Nat} (hc : X.calm = true) (h : JGs X es sl gs) (hl : GsLen gs n) (hn : (assignEach es X.env).length = n := by rfl)
    (hst : (assignEach es X.env).findIdx? (·.1) = none := by rfl) : JG X (.Tuple es k pos) sl (gTu gs) := by
  refine weakG (pg_tup hc h hn hst) ?_
  rintro v σ H Q ⟨F, G, m, env, st, w, S, R, r, q⟩
  unfold gTu at q
  split at q
  · rename_i ws h3
    obtain ⟨a, vs, rfl, h4, h5⟩ := tview_at S r h3
    refine ⟨a, vs, rfl, h4, ?_, F, G, m, env, st, ws, S, R, h5, q⟩
    rw [← h5.length]
    cases h6 : gs ws env st with
    | stuck => rw [h6] at q; exact q.elim
    | exc x st => rw [h6] at q; exact q.elim
    | ok env' st' => exact hl _ _ _ _ _ h6
  · exact q.elim
/-- o[i] as a target: a list in a cell -/
def gAt (o ix : Env → M W) : T := fun w env st => (o env st).bind fun ow st => (ix env st).bind fun iw st => match ow, iw with
  | .cell n, .int k => match lcell st n with
    | some xs => match ixN xs.length k with
      | some j => .ok env (st.set n (.lst (xs.set j w)))
      | none => .stuck
    | none => .stuck
  | _, _ => .stuck
theorem post_of {K : PySem.W.Frag} {mg : MG} {F G : Hp} {m : List Addr} {sl : List Nat} {σ : L2.St} {α β : Type} {R : Rel α β} {o : Out α} {f : α → M Env} {Q : L2.St → Hp → Prop} (h : PostT K mg F G m sl σ (o.bind f) Q) :
    Post R K mg E F G m o fun b H => ∃ G' m' a st, Ext G m G' m' ∧ Sim K mg F G' m' st H ∧ R K G' m' a b ∧ PostT K mg F G' m' sl σ (f a st) Q := by
  cases o with
  | stuck => exact h
  | exc x st => exact h.elim
  | ok a st => exact fun G2 m2 b H2 e s r => ⟨G2, m2, a, st, e, s, r, PostT.mono e h⟩
theorem jg_at {o i : Expr} {dO dI : Env → M W} (ho : JE X E0 o dO) (hi : JE X E0 i dI) (ha : ∀ v, assign (.Subscript o i pos) X.env v = (do
      let ov ← holding [v] (eval o X.env)
      let iv ← holding [v, ov] (eval i X.env)
      standAt pos
      holding [v, ov, iv] (setItem ov iv v)
      release [v, ov, iv] []) := by intro _; rfl) : JG X (.Subscript o i pos) [] (gAt dO dI) := by
  refine weakG (pg_sub ho hi set_list ha) ?_
  rintro v σ H Q ⟨F, G, m, env, st, w, S, R, r, P⟩
  refine ⟨F, G, m, env, st, S, R, (post_of (R := RW) P).imp fun ov H1 ⟨G1, m1, ow, st1, e1, S1, r1, P1⟩ => ?_⟩
  refine ⟨F, G1, m1, env, st1, S1, R.mono e1, (post_of (R := RW) P1).imp fun iv H2 ⟨G2, m2, iw, st2, e2, S2, r2, P2⟩ => ?_⟩
  split at P2
  · rename_i n k _
    split at P2
    · rename_i xs q
      split at P2
      · rename_i j q2
        have q := lcell_some q
        have r1 := RW.mono e2 r1
        have r := RW.mono e2 (RW.mono e1 r)
        cases r2
        cases r1 with
        | @cell _ adr hm =>
          obtain ⟨g0, vs, h2, h3⟩ := S2.ok n _ adr q hm
          refine ⟨adr, vs, k, j, rfl, rfl, h2, by rw [← h3.length]; exact q2, ?_⟩
          exact P2 G2 m2 σ _ (Ext.refl G2 m2) (S2.set q True.intro hm ⟨g0, _, upd_same, h3.set r j⟩) ((R.mono e1).mono e2) fun _ _ => rfl
      · exact P2.elim
    · exact P2.elim
  · exact P2.elim
/-- target = e -/
def sAsg (g : T) (d : Env → M W) : S := fun env st => (d env st).bindS fun w st => (g w env st).nox.bindS fun env st => .nx env st
theorem js_asg {tg : Expr} {g : T} {sl : List Nat} (h : JE X E e d) (hg : JG X tg sl g) (hs : swapsWithSole [tg] e pos.line X.env = pure false := by rfl) (hw : swappedStores [tg] e X.env = pure none := by rfl)
    (h1 : (assignEach [tg] X.env).map (·.2) = [assign tg X.env] := by rfl) : JS X E (.Assign [tg] e pos) (sAsg g d) := by
  refine weakS (ps_asg h hg hs hw h1) ?_
  rintro D σ H ⟨F, G, m, env, st, S, R, P⟩
  refine ⟨F, G, m, env, st, S, R, (P.bindS (R := RW)).imp fun v H1 ⟨G1, m1, w, st1, e1, S1, r1, P1⟩ => ?_⟩
  refine ⟨F, G1, m1, env, st1, w, S1, R.mono e1, r1, ?_⟩
  cases q : g w env st1 with
  | stuck => rw [q] at P1; exact P1.elim
  | exc x st => rw [q] at P1; exact P1.elim
  | ok env2 st2 =>
    rw [q] at P1
    exact fun G2 m2 σ2 H2 e2 S2 R2 _ => P1 G2 m2 σ2 H2 e2 S2 R2
/-- a, b = x, y (plain local names) -/
def sPar (i j : Nat) (ds : Env → M (List W)) : S := fun env st => (ds env st).bindS fun ws st => match ws with
  | [v, w] => .nx ((env.set i (some v)).set j (some w)) st
  | _ => .stuck
theorem js_par {i j : Nat} {x y : Str} {px py pt : Pos} {kt k2 pt2} (hc : X.calm = true) (hN : X.N.Nodup) (hi : X.N[i]? = some x) (hj : X.N[j]? = some y) (hij : i ≠ j)
    (hx : X.env.scope.names.lookup x = some .local) (hy : X.env.scope.names.lookup y = some .local) (ha : JA X E [a, b] ds)
    (hw : swappedStores [.Tuple [.Name x px, .Name y py] kt pt] (.Tuple [a, b] k2 pt2) X.env = pure (some [x, y]))
    (hs : swapsWithSole [.Tuple [.Name x px, .Name y py] kt pt] (.Tuple [a, b] k2 pt2) pos.line X.env = pure false := by rfl) :
    JS X E (.Assign [.Tuple [.Name x px, .Name y py] kt pt] (.Tuple [a, b] k2 pt2) pos) (sPar i j ds) := by
  refine weakS (ps_par hc hN hi hj hij hx hy ha hw hs) ?_
  rintro D σ H ⟨F, G, m, env, st, S, R, P⟩
  refine ⟨F, G, m, env, st, S, R, (P.bindS (R := RA)).imp fun vs H1 ⟨G1, m1, ws, st1, e1, S1, r1, P1⟩ => ?_⟩
  split at P1
  · cases r1 with
    | cons a r =>
      cases r with
      | cons b r =>
        cases r
        exact ⟨_, _, rfl, P1 G1 m1 _ H1 (Ext.refl G1 m1) S1 (((R.mono e1).set a i).set b j)⟩
  · exact P1.elim
end

/-! ### loops -/
/-- the iterator goes through these -/
structure Walks (K : PySem.W.Frag) (mg : MG) (G : Hp) (m : List Addr) (xs : List W) (ok : Store → Prop) (J : It) : Prop where
  go : ∀ i H F G1 m1 st, Ext G m G1 m1 → Sim K mg F G1 m1 st H → ok st → i < xs.length → J.go i H
  stop : ∀ i H F G1 m1 st, Ext G m G1 m1 → Sim K mg F G1 m1 st H → ok st → xs.length ≤ i → J.stop i H
  yld : ∀ i H x H' F G1 m1 st, Ext G m G1 m1 → Sim K mg F G1 m1 st H → ok st → i < xs.length → J.yld i H x H' → ∃ w G2, xs[i]? = some w ∧ Ex G1 G2 ∧ Sim K mg F G2 m1 st H' ∧ RW K G2 m1 w x
theorem Walks.mono {K : PySem.W.Frag} {mg : MG} {G G' : Hp} {m m' : List Addr} {xs : List W} {ok : Store → Prop} {J : It} (e : Ext G m G' m') (w : Walks K mg G m xs ok J) : Walks K mg G' m' xs ok J :=
  ⟨fun i H F G1 m1 st x => w.go i H F G1 m1 st (e.trans x), fun i H F G1 m1 st x => w.stop i H F G1 m1 st (e.trans x), fun i H x H' F G1 m1 st z => w.yld i H x H' F G1 m1 st (e.trans z)⟩
/-- what is walked: the items, and the store's word that they still stand -/
structure It' where
  xs : List W
  ok : Store → Prop
def RI (mg : MG) : Rel It' It := fun K G m a J => Walks K mg G m a.xs a.ok J
def tIt (K : PySem.W.Frag) (mg : MG) (E : XK) (d : Env → M It') : TI := fun σ H R => ∃ F G m env st, Sim K mg F G m st H ∧ REnv K G m env σ ∧ Post (RI mg) K mg E F G m (d env st) R
abbrev JI (X : Cx) (E : XK) (tg e : Expr) (d : Env → M It') : Prop := PI X tg e (tIt X.K X.mg E d)
theorem weakI {X : Cx} {tg e : Expr} {t t' : TI} (h : PI X tg e t) (w : ∀ σ H Q, t' σ H Q → t σ H Q) : PI X tg e t' := ⟨fun pins s σ H R I q => h.run pins s σ H R I (w σ H R q)⟩

open Classical in
/-- a for's turns -/
noncomputable def forGo (ok : Store → Prop) (g : T) (body : S) : List W → Env → Store → SOut
  | [], env, st => if ok st then .nx env st else .stuck
  | w :: ws, env, st => if ok st then (match g w env st with
    | .ok env st => (match body env st with
      | .nx env st => forGo ok g body ws env st
      | .ct env st => forGo ok g body ws env st
      | .bk env st => .nx env st
      | o => o)
    | _ => .stuck) else .stuck
noncomputable def sFor (it : Env → M It') (g : T) (body : S) : S := fun env st => (it env st).bindS fun i st => forGo i.ok g body i.xs env st
section
variable {X : Cx} {E : XK} {a b e c : Expr} {es : List Expr} {da db d : Env → M W} {ds : Env → M (List W)} {pos : Pos} {dt du : Env → M Bool} {st1 : Stmt} {rest : List Stmt} {s1 s2 : S}
theorem js_for {tg iter : Expr} {body : List Stmt} {di : Env → M It'} {g : T} {sl : List Nat} {s : S} (hp : PassesOwn (model X.prog X.w) X.A X.env X.xe) (hc : X.calm = true) (hi : JI X E tg iter di) (hg : JG X tg sl g) (hb : JSs X E body s)
    (hs : ∀ x, foldedSetIterable iter X.env x = pure x := by intro _; rfl) : JS X E (.For tg iter body [] pos) (sFor di g s) := by
  refine weakS (ps_for hp hc hi hg hb hs) ?_
  rintro D σ H ⟨F, G, m, env, st, S, R, P⟩
  refine ⟨F, G, m, env, st, S, R, (P.bindS (R := RI X.mg)).imp fun J H1 ⟨G1, m1, i1, st1, e1, S1, w1, P1⟩ => ?_⟩
  refine ⟨fun i k σ' H' => k = i1.xs.length - i ∧ i ≤ i1.xs.length ∧ ∃ G' m' env' st', Ext G1 m1 G' m' ∧ Sim X.K X.mg F G' m' st' H' ∧ REnv X.K G' m' env' σ' ∧ PostS X.K X.mg E F G' m' (forGo i1.ok g s (i1.xs.drop i) env' st') D,
    ⟨_, rfl, Nat.zero_le _, G1, m1, env, st1, Ext.refl G1 m1, S1, R.mono e1, P1⟩, ?_⟩
  rintro i k σ' H' ⟨rfl, hi, G', m', env', st', e', S', R', P'⟩
  by_cases hlt : i < i1.xs.length
  · rw [List.drop_eq_getElem_cons hlt, forGo] at P'
    split at P'
    · rename_i hok
      refine .inr ⟨w1.go i H' F G' m' st' e' S' hok hlt, fun σ2 H2 => ∃ G2 m2 env2 st2, Ext G1 m1 G2 m2 ∧ Sim X.K X.mg F G2 m2 st2 H2 ∧ REnv X.K G2 m2 env2 σ2 ∧ PostS X.K X.mg E F G2 m2 (forGo i1.ok g s (i1.xs.drop (i + 1)) env2 st2) D,
        fun σ2 H2 h2 => ⟨_, Nat.sub_lt_sub_left hlt (Nat.lt_succ_self i), rfl, hlt, h2⟩, fun x H2 hy => ?_⟩
      obtain ⟨w, G2, hw, eG, S2, r2⟩ := w1.yld i H' x H2 F G' m' st' e' S' hok hlt hy
      rw [List.getElem?_eq_getElem hlt] at hw
      cases hw
      have x2 : Ext G' m' G2 m' := ⟨eG, fun _ _ h => h⟩
      refine ⟨F, G2, m', env', st', _, S2, R'.mono x2, r2, ?_⟩
      cases hg2 : g i1.xs[i] env' st' with
      | stuck => simp only [hg2] at P'; exact P'.elim
      | exc x st => simp only [hg2] at P'; exact P'.elim
      | ok env2 st2 =>
        simp only [hg2] at P'
        intro G3 m3 σ3 H3 e3 S3 R3 _
        refine ⟨F, G3, m3, env2, st2, S3, R3, ?_⟩
        have P2 := PostS.mono e3 (PostS.mono x2 P')
        have ee := (e'.trans x2).trans e3
        cases q : s env2 st2 with
        | stuck => rw [q] at P2; exact P2
        | rt w st4 => rw [q] at P2; exact P2
        | exc x st4 => rw [q] at P2; exact P2
        | bk env4 st4 => rw [q] at P2; exact P2
        | nx env4 st4 =>
          rw [q] at P2
          exact fun G4 m4 σ4 H4 e4 S4 R4 => ⟨G4, m4, env4, st4, ee.trans e4, S4, R4, PostS.mono e4 P2⟩
        | ct env4 st4 =>
          rw [q] at P2
          exact fun G4 m4 σ4 H4 e4 S4 R4 => ⟨G4, m4, env4, st4, ee.trans e4, S4, R4, PostS.mono e4 P2⟩
    · exact P'.elim
  · have hd : i1.xs.drop i = [] := List.drop_eq_nil_of_le (by omega)
    rw [hd, forGo] at P'
    split at P'
    · rename_i hok
      exact .inl ⟨w1.stop i H' F G' m' st' e' S' hok (by omega), P' G' m' σ' H' (Ext.refl G' m') S' R'⟩
    · exact P'.elim
/-- a while's turns, at most n -/
def whileGo (t : Env → M Bool) (body : S) : Nat → Env → Store → SOut
  | 0, _, _ => .stuck
  | n + 1, env, st => (t env st).bindS fun c st => if c = true then (match body env st with
      | .nx env st => whileGo t body n env st
      | .ct env st => whileGo t body n env st
      | .bk env st => .nx env st
      | o => o) else .nx env st
def sWhile (n : Env → Store → Nat) (t : Env → M Bool) (body : S) : S := fun env st => whileGo t body (n env st) env st
theorem js_while {body : List Stmt} {n : Env → Store → Nat} {s : S} (hp : PassesOwn (model X.prog X.w) X.A X.env X.xe) (hc : JT X E c dt) (hb : JSs X E body s) : JS X E (.While c body [] pos) (sWhile n dt s) := by
  refine weakS (ps_while hp hc hb) ?_
  rintro D σ H ⟨F, G, m, env, st, S, R, P⟩
  refine ⟨fun k σ' H' => ∃ G' m' env' st', Sim X.K X.mg F G' m' st' H' ∧ REnv X.K G' m' env' σ' ∧ PostS X.K X.mg E F G' m' (whileGo dt s k env' st') D, ⟨_, G, m, env, st, S, R, P⟩, ?_⟩
  rintro k σ' H' ⟨G', m', env', st', S', R', P'⟩
  cases k with
  | zero => exact P'.elim
  | succ k =>
    rw [whileGo] at P'
    refine ⟨F, G', m', env', st', S', R', (P'.bindS (R := RB)).imp fun c' H1 ⟨G1, m1, c, st1, e1, S1, r1, P1⟩ => ?_⟩
    cases r1
    cases c' with
    | false => exact P1 G1 m1 σ' H1 (Ext.refl G1 m1) S1 (R'.mono e1)
    | true =>
      refine ⟨fun σ2 H2 => ∃ G2 m2 env2 st2, Sim X.K X.mg F G2 m2 st2 H2 ∧ REnv X.K G2 m2 env2 σ2 ∧ PostS X.K X.mg E F G2 m2 (whileGo dt s k env2 st2) D, fun σ2 H2 h2 => ⟨k, Nat.lt_succ_self k, h2⟩, F, G1, m1, env', st1, S1, R'.mono e1, ?_⟩
      have P2 : PostS X.K X.mg E F G1 m1 (match s env' st1 with
        | .nx env st => whileGo dt s k env st
        | .ct env st => whileGo dt s k env st
        | .bk env st => .nx env st
        | o => o) D := P1
      cases q : s env' st1 with
      | stuck => rw [q] at P2; exact P2
      | rt w st4 => rw [q] at P2; exact P2
      | exc x st4 => rw [q] at P2; exact P2
      | bk env4 st4 => rw [q] at P2; exact P2
      | nx env4 st4 =>
        rw [q] at P2
        exact fun G4 m4 σ4 H4 e4 S4 R4 => ⟨G4, m4, env4, st4, S4, R4, PostS.mono e4 P2⟩
      | ct env4 st4 =>
        rw [q] at P2
        exact fun G4 m4 σ4 H4 e4 S4 R4 => ⟨G4, m4, env4, st4, S4, R4, PostS.mono e4 P2⟩

/-- over a list -/
def iL (d : Env → M W) : Env → M It' := fun env st => (d env st).bind fun w st => match w with
  | .lst xs => .ok ⟨xs, fun _ => True⟩ st
  | .fz xs => .ok ⟨xs, fun _ => True⟩ st
  | .cell n => match lcell st n with
    | some xs => .ok ⟨xs, fun st => lcell st n = some xs⟩ st
    | none => .stuck
  | _ => .stuck
theorem walks_list {K : PySem.W.Frag} {mg : MG} {G : Hp} {m : List Addr} {xs : List W} {adr : Addr} {ok : Store → Prop}
    (h : ∀ H F G1 m1 st, Ext G m G1 m1 → Sim K mg F G1 m1 st H → ok st → ∃ vs, SqL K H adr vs ∧ RWs K G1 m1 xs vs)
    : Walks K mg G m xs ok (Itl K adr) where
  go := fun i H F G1 m1 st e S k hi => by
    obtain ⟨vs, h1, h2⟩ := h H F G1 m1 st e S k
    exact ⟨vs, vs[i]'(by rw [← h2.length]; exact hi), h1, List.getElem?_eq_getElem _⟩
  stop := fun i H F G1 m1 st e S k hi => by
    obtain ⟨vs, h1, h2⟩ := h H F G1 m1 st e S k
    exact ⟨vs, h1, by rw [← h2.length]; exact hi⟩
  yld := fun i H x H' F G1 m1 st e S k hi hy => by
    obtain ⟨vs, h1, h2⟩ := h H F G1 m1 st e S k
    obtain ⟨rfl, h3⟩ := hy
    obtain ⟨w, h4, h5⟩ := h2.get' (h3 vs h1)
    exact ⟨w, G1, h4, Ex.refl G1, S, h5⟩
theorem ji_list {tg : Expr} (h : JE X E e d) : JI X E tg e (iL d) := by
  refine weakI (pi_list h) ?_
  rintro σ H Q ⟨F, G, m, env, st, S, R, P⟩
  refine ⟨F, G, m, env, st, S, R, (P.bind (R := RW)).imp fun v H1 ⟨G1, m1, w, st1, e1, S1, r1, P1⟩ => ?_⟩
  split at P1
  · rename_i xs
    cases r1 with
    | @lst p vs _ h1 h2 =>
      refine ⟨p, rfl, ⟨vs, .inl (.inl (S1.ex _ _ h1))⟩, P1.ret S1 (walks_list fun H F G1 m1 st e S k => ⟨vs, .inl (.inl (S.ex _ _ (e.ex _ _ h1))), h2.mono e⟩)⟩
  · rename_i xs
    cases r1 with
    | @fz p vs _ h1 h2 =>
      refine ⟨p, rfl, ⟨vs, ex_l S1.ex h1⟩, P1.ret S1 (walks_list fun H F G1 m1 st e S k => ⟨vs, ex_l S.ex (ex_l e.ex h1), h2.mono e⟩)⟩
  · rename_i n
    split at P1
    · rename_i xs q
      cases r1 with
      | @cell _ adr hm =>
        obtain ⟨g0, vs, h2, h3⟩ := S1.ok n _ adr (lcell_some q) hm
        refine ⟨adr, rfl, ⟨vs, .inl (.inl h2)⟩, P1.ret S1 (walks_list fun H F G1 m1 st e S k => ?_)⟩
        obtain ⟨_, vs', h4, h5⟩ := S.ok n _ adr (lcell_some k) (e.mm _ _ hm)
        exact ⟨vs', .inl (.inl h4), h5⟩
    · exact P1.elim
  · exact P1.elim
/-- lo, lo + 1, .. n of them -/
def rngW (lo : Int) (n : Nat) : List W := (List.range n).map fun (i : Nat) => W.int (lo + (i : Int))
theorem rngW_get {lo : Int} {n i : Nat} (h : i < n) : (rngW lo n)[i]? = some (.int (lo + (i : Int))) := by
  unfold rngW
  rw [List.getElem?_map, List.getElem?_range h]
  rfl
theorem rngW_len {lo : Int} {n : Nat} : (rngW lo n).length = n := by
  unfold rngW
  rw [List.length_map, List.length_range]
def small (i : Int) : Prop := -(2 ^ 62) ≤ i ∧ i < 2 ^ 62
instance (i : Int) : Decidable (small i) := by unfold small; exact inferInstance
theorem walks_range {K : PySem.W.Frag} {mg : MG} {G : Hp} {m : List Addr} {lo : Int} {n : Nat} : Walks K mg G m (rngW lo n) (fun _ => True) (Itr lo n) where
  go := fun i H F G1 m1 st e S k hi => by
    rw [rngW_len] at hi
    exact hi
  stop := fun i H F G1 m1 st e S k hi => by
    rw [rngW_len] at hi
    exact hi
  yld := fun i H x H' F G1 m1 st e S k hi hy => by
    obtain ⟨rfl, rfl⟩ := hy
    rw [rngW_len] at hi
    exact ⟨.int (lo + (i : Int)), G1, rngW_get hi, Ex.refl G1, S, .int _⟩
end
end Sh


set_option maxRecDepth 100000
set_option maxHeartbeats 2000000
namespace Sh
open PySem L2 Evl

/-! ### defs -/
/-- a def's promise: it does as the function says -/
def spM (K : PySem.W.Frag) (mg : MG) (f : List W → M W) : Sp := fun vs H Q _ => ∃ F G m ws st, Sim K mg F G m st H ∧ RWs K G m ws vs ∧ Post RW K mg E0 F G m (f ws st).nox Q
def dBody (n tot : Nat) (s : S) : List W → M W := fun ws st => if ws.length = n then (match s (ws.map some ++ List.replicate (tot - n) none) st with
  | .nx _ st => .ok .non st
  | .rt w st => .ok w st
  | .exc x st => .exc x st
  | _ => .stuck) else .stuck
theorem start_env {K : PySem.W.Frag} {G : Hp} {m : List Addr} {N : List Str} {ws : List W} {vs : List V} (r : RWs K G m ws vs) : REnv K G m (ws.map some ++ List.replicate (N.length - ws.length) none) (L2.start N vs) := by
  have hl := r.length
  refine ⟨by simp [L2.start, hl], fun i w q => ?_⟩
  by_cases hi : i < ws.length
  · rw [List.getElem?_append_left (by simpa using hi), List.getElem?_map, List.getElem?_eq_getElem hi] at q
    simp at q
    subst q
    obtain ⟨v, h1, h2⟩ := r.get (List.getElem?_eq_getElem hi)
    refine ⟨v, ?_, h2⟩
    unfold L2.start
    rw [List.getElem?_append_left (by simp; omega), List.getElem?_map, h1]
    rfl
  · rw [List.getElem?_append_right (by simp; omega), List.getElem?_replicate] at q
    split at q <;> cases q
section
variable {P : Program} {w : World} {K : PySem.W.Frag} {mg : MG} {base : Heap} {x qual : Str} {st : Stmt} {f : Addr} {fd : FuncData} {N ps : List Str} {k : Nat}
/-- the body's word as the def's -/
theorem body_ok {X : Cx} {s : S} {ss : List Stmt} {vs : List V} {H : Hp} {Q : VK} (hK : X.K = K) (hm : X.mg = mg) (hb : JSs X E0 ss s) (hN : ps.length ≤ N.length)
    (h : spM K mg (dBody ps.length N.length s) vs H Q E) : ∃ t, PSs X ss t ∧ t { nx := fun _ H' => Q .non H', rt := Q } (L2.start N vs) H := by
  subst hK hm
  refine ⟨_, hb, ?_⟩
  obtain ⟨F, G, m, ws, st, S, r, P⟩ := h
  unfold dBody at P
  split at P
  · rename_i hl
    refine ⟨F, G, m, ws.map some ++ List.replicate (N.length - ws.length) none, st, S, start_env r, ?_⟩
    rw [hl]
    cases q : s (ws.map some ++ List.replicate (N.length - ps.length) none) st with
    | stuck => rw [q] at P; exact P
    | bk env st => rw [q] at P; exact P.elim
    | ct env st => rw [q] at P; exact P.elim
    | exc x st => rw [q] at P; exact P.elim
    | rt w st => rw [q] at P; exact P
    | nx env st =>
      rw [q] at P
      exact fun G1 m1 σ1 H1 e1 S1 R1 => P G1 m1 .non H1 e1 S1 .non
  · exact P.elim
theorem spM_len {s : S} {n tot : Nat} {vs : List V} {H : Hp} {Q : VK} {E : XK} (h : spM K mg (dBody n tot s) vs H Q E) : vs.length = n := by
  obtain ⟨F, G, m, ws, st, S, r, P⟩ := h
  unfold dBody at P
  split at P
  · rename_i hl
    rw [← r.length]
    exact hl
  · exact P.elim
theorem fn_ok {s : S} (F : Fun K x qual st f fd) (hS : FnScope N ps (defScope st)) (hN : ps.length ≤ N.length)
    (hb : ∀ (cdv : Value) (A : Around) (outer : List PySem.Env) (sh : Shared) (H : Hp) (E : XK), Room k (A.deeper (PyProof.Rows.envOfC qual (defScope st) sh.heap.objs.size f cdv)) → JSs (cxOf CX0 P w K mg base N qual (defScope st) f cdv A outer sh H E).nox E0 (defBody st) s) :
    FnOk P w K mg base CX0 (k + 1) f fd ps (spM K mg (dBody ps.length N.length s)) :=
  F.ok hS (fun vs H Q E h => spM_len h) fun cdv A outer sh H vs Q E hr h => body_ok rfl rfl (hb cdv A outer sh H E hr) hN h
theorem fn_eq {f' g : List W → M W} (F : FnOk P w K mg base CX0 k f fd ps (spM K mg f')) (h : ∀ ws st, (f' ws st).nox = (g ws st).nox) : FnOk P w K mg base CX0 k f fd ps (spM K mg g) :=
  F.imp fun vs H Q E ⟨F, G, m, ws, st, S, r, P⟩ => ⟨F, G, m, ws, st, S, r, by rw [h]; exact P⟩
end

/-! ### calls -/
def dCall (f : List W → M W) (ds : Env → M (List W)) : Env → M W := fun env st => (ds env st).bind fun ws st => (f ws st).nox
def dCallB (f : List W → M W) (ds : Env → M (List W)) : Env → M W := fun env st => (ds env st).bind f
def dCallF (f : List W → M (List W)) (ds : Env → M (List W)) : Env → M (List W) := fun env st => (ds env st).bind f
section
variable {X : Cx} {E : XK} {a b e c o : Expr} {es : List Expr} {da db d dO : Env → M W} {ds : Env → M (List W)} {p pos apos cpos : Pos} {k : Nat} {f : Addr} {fd : FuncData} {ps : List Str} {x : Str} {df : List W → M W}
theorem je_call (F : FnOk X.prog X.w X.K X.mg X.base CX0 k f fd ps (spM X.K X.mg df)) (hr : Room k X.A) (hg : Gl X x) (hm : X.mg x = some (.ref f)) (hk : PySem.W.keepIn X.K (.ref f) = true) (hb : Binds X.K fd ps [])
    (ha : JA X E (e :: es) ds) (hdb : (x == ("__debug__" : Str)) = false := by decide) (he : starEach (e :: es) X.env = (false, eval e X.env) :: starEach es X.env := by rfl) (hpl : (backTo pos (starEach es X.env)).any (·.1) = false := by rfl) :
    JE X E (.Call (.Name x p) (e :: es) [] pos) (dCall df ds) := by
  refine weakE (pe_call F hr hg hm hk hb .nil (E := E0) pass0 ha hdb he hpl) ?_
  rintro σ H Q ⟨F, G, m, env, st, S, R, P⟩
  refine ⟨F, G, m, env, st, S, R, (P.bind (R := RA)).imp fun vs H1 ⟨G1, m1, ws, st1, e1, S1, r1, P1⟩ => ?_⟩
  rw [List.append_nil]
  exact ⟨F, G1, m1, ws, st1, S1, r1, P1.nox⟩
theorem je_call0 (F : FnOk X.prog X.w X.K X.mg X.base CX0 k f fd ps (spM X.K X.mg df)) (hr : Room k X.A) (hg : Gl X x) (hm : X.mg x = some (.ref f)) (hk : PySem.W.keepIn X.K (.ref f) = true) (hb : Binds X.K fd ps [])
    (hdb : (x == ("__debug__" : Str)) = false := by decide) : JE X E (.Call (.Name x p) [] [] pos) (dCall df dNil) := by
  refine weakE (pe_call0 F hr hg hm hk hb .nil (E := E0) pass0 hdb) ?_
  rintro σ H Q ⟨F, G, m, env, st, S, R, P⟩
  exact ⟨F, G, m, [], st, S, .nil, Post.nox P⟩
theorem je_callB {id : String} {r : List V → Hp → VK → Prop} {g : List W → M W} (hc : CallR X (.builtin id) r) (hf : CallOk X.K X.mg E r g) (hg : Gl X x) (hm : X.mg x = none) (hv : bootBuiltins x = some (.builtin id)) (ha : JA X E (e :: es) ds)
    (hn : x ≠ "__name__" := by decide) (hdb : (x == ("__debug__" : Str)) = false := by decide) (he : starEach (e :: es) X.env = (false, eval e X.env) :: starEach es X.env := by rfl) (hpl : (backTo pos (starEach es X.env)).any (·.1) = false := by rfl) :
    JE X E (.Call (.Name x p) (e :: es) [] pos) (dCallB g ds) := by
  refine weakE (pe_callB hc hg hm hv ha hn hdb he hpl) ?_
  rintro σ H Q ⟨F, G, m, env, st, S, R, P⟩
  exact ⟨F, G, m, env, st, S, R, (P.bind (R := RA)).imp fun vs H1 ⟨G1, m1, ws, st1, e1, S1, r1, P1⟩ => hf F G1 m1 st1 H1 ws vs Q S1 r1 P1⟩
theorem je_callT {id : String} {r : List V → Hp → VK → Prop} {g : List W → M W} (hc : CallR X (.type id) r) (hf : CallOk X.K X.mg E r g) (hg : Gl X x) (hm : X.mg x = none) (hv : bootBuiltins x = some (.type id)) (ha : JA X E (e :: es) ds)
    (hn : x ≠ "__name__" := by decide) (hdb : (x == ("__debug__" : Str)) = false := by decide) (he : starEach (e :: es) X.env = (false, eval e X.env) :: starEach es X.env := by rfl) (hpl : (backTo pos (starEach es X.env)).any (·.1) = false := by rfl) :
    JE X E (.Call (.Name x p) (e :: es) [] pos) (dCallB g ds) := by
  refine weakE (pe_callTy hc hg hm hv ha hn hdb he hpl) ?_
  rintro σ H Q ⟨F, G, m, env, st, S, R, P⟩
  exact ⟨F, G, m, env, st, S, R, (P.bind (R := RA)).imp fun vs H1 ⟨G1, m1, ws, st1, e1, S1, r1, P1⟩ => hf F G1 m1 st1 H1 ws vs Q S1 r1 P1⟩
theorem jf_callB {id : String} {r : List V → Hp → VK → Prop} {g : List W → M (List W)} (hc : CallR X (.builtin id) r) (hf : CallOkF X.K X.mg E r g) (hg : Gl X x) (hm : X.mg x = none) (hv : bootBuiltins x = some (.builtin id)) (ha : JA X E (e :: es) ds)
    (hn : x ≠ "__name__" := by decide) (hdb : (x == ("__debug__" : Str)) = false := by decide) (he : starEach (e :: es) X.env = (false, eval e X.env) :: starEach es X.env := by rfl) (hpl : (backTo pos (starEach es X.env)).any (·.1) = false := by rfl) :
    JF X E (.Call (.Name x p) (e :: es) [] pos) (dCallF g ds) := by
  refine weakE (pe_callB hc hg hm hv ha hn hdb he hpl) ?_
  rintro σ H Q ⟨F, G, m, env, st, S, R, P⟩
  exact ⟨F, G, m, env, st, S, R, (PostF.bind (R := RA) P).imp fun vs H1 ⟨G1, m1, ws, st1, e1, S1, r1, P1⟩ => hf F G1 m1 st1 H1 ws vs Q S1 r1 P1⟩
theorem jf_callT {id : String} {r : List V → Hp → VK → Prop} {g : List W → M (List W)} (hc : CallR X (.type id) r) (hf : CallOkF X.K X.mg E r g) (hg : Gl X x) (hm : X.mg x = none) (hv : bootBuiltins x = some (.type id)) (ha : JA X E (e :: es) ds)
    (hn : x ≠ "__name__" := by decide) (hdb : (x == ("__debug__" : Str)) = false := by decide) (he : starEach (e :: es) X.env = (false, eval e X.env) :: starEach es X.env := by rfl) (hpl : (backTo pos (starEach es X.env)).any (·.1) = false := by rfl) :
    JF X E (.Call (.Name x p) (e :: es) [] pos) (dCallF g ds) := by
  refine weakE (pe_callTy hc hg hm hv ha hn hdb he hpl) ?_
  rintro σ H Q ⟨F, G, m, env, st, S, R, P⟩
  exact ⟨F, G, m, env, st, S, R, (PostF.bind (R := RA) P).imp fun vs H1 ⟨G1, m1, ws, st1, e1, S1, r1, P1⟩ => hf F G1 m1 st1 H1 ws vs Q S1 r1 P1⟩

/-! ### built-in functions by value -/
def cLen : List W → M W := fun ws st => match ws with
  | [.str x] => if x.length ≤ sizeLine then .ok (.int x.length) st else .stuck
  | [w] => match sview w st with
    | some xs => .ok (.int xs.length) st
    | none => .stuck
  | _ => .stuck
def cAbs : List W → M W := fun ws st => match ws with
  | [.int i] => .ok (.int (if i < 0 then -i else i)) st
  | _ => .stuck
def cInt : List W → M W := fun ws st => match ws with
  | [.int i] => .ok (.int i) st
  | [.bl b] => .ok (.int (if b then 1 else 0)) st
  | _ => .stuck
def cMin2 : List W → M W := fun ws st => match ws with
  | [.int i, .int j] => .ok (.int (if j < i then j else i)) st
  | _ => .stuck
def cMax2 : List W → M W := fun ws st => match ws with
  | [.int i, .int j] => .ok (.int (if j > i then j else i)) st
  | _ => .stuck
def cList : List W → M (List W) := fun ws st => match ws with
  | [w] => match sview w st with
    | some xs => .ok xs st
    | none => .stuck
  | _ => .stuck
section
variable {K : PySem.W.Frag} {mg : MG}
theorem ok_len : CallOk K mg E (fun xs H Q => (∃ p ys, xs = [.ref p] ∧ (SqL K H p ys ∨ SqT K H p ys) ∧ Q (.int ys.length) H) ∨ (∃ z, xs = [.str z] ∧ z.length ≤ sizeLine ∧ Q (.int z.length) H)) cLen := by
  intro F G m st H ws vs Q S r P
  unfold cLen at P
  split at P
  · cases r with
    | cons h r =>
      cases r
      cases h
      split at P
      · exact .inr ⟨_, rfl, by assumption, P.ret S (.int _)⟩
      · exact P.elim
  · cases r with
    | cons h r =>
      cases r
      split at P
      · rename_i xs q
        obtain ⟨a, vs, rfl, h1, h2⟩ := sview_at S h q
        rw [h2.length] at P
        exact .inl ⟨a, vs, rfl, h1, P.ret S (.int _)⟩
      · exact P.elim
  · exact P.elim
theorem ok_abs : CallOk K mg E (fun xs H Q => ∃ i, xs = [.int i] ∧ Q (.int (if i < 0 then -i else i)) H) cAbs := by
  intro F G m st H ws vs Q S r P
  unfold cAbs at P
  split at P
  · cases r with
    | cons h r =>
      cases r
      cases h
      exact ⟨_, rfl, P.ret S (.int _)⟩
  · exact P.elim
theorem ok_int : CallOk K mg E (fun xs H Q => (∃ i, xs = [.int i] ∧ Q (.int i) H) ∨ ∃ k, xs = [.bl k] ∧ Q (.int (if k then 1 else 0)) H) cInt := by
  intro F G m st H ws vs Q S r P
  unfold cInt at P
  split at P
  · cases r with
    | cons h r =>
      cases r
      cases h
      exact .inl ⟨_, rfl, P.ret S (.int _)⟩
  · cases r with
    | cons h r =>
      cases r
      cases h
      exact .inr ⟨_, rfl, P.ret S (.int _)⟩
  · exact P.elim
theorem ok_min2 : CallOk K mg E (fun xs H Q => ∃ i j, xs = [.int i, .int j] ∧ Q (.int (if j < i then j else i)) H) cMin2 := by
  intro F G m st H ws vs Q S r P
  unfold cMin2 at P
  split at P
  · cases r with
    | cons h r =>
      cases r with
      | cons h2 r =>
        cases r
        cases h
        cases h2
        exact ⟨_, _, rfl, P.ret S (.int _)⟩
  · exact P.elim
theorem ok_max2 : CallOk K mg E (fun xs H Q => ∃ i j, xs = [.int i, .int j] ∧ Q (.int (if j > i then j else i)) H) cMax2 := by
  intro F G m st H ws vs Q S r P
  unfold cMax2 at P
  split at P
  · cases r with
    | cons h r =>
      cases r with
      | cons h2 r =>
        cases r
        cases h
        cases h2
        exact ⟨_, _, rfl, P.ret S (.int _)⟩
  · exact P.elim
theorem ok_list : CallOkF K mg E (fun xs H Q => ∃ p ys, xs = [.ref p] ∧ (SqL K H p ys ∨ SqT K H p ys) ∧ ∀ l, H l = none → Q (.ref l) (upd H l (.lst ys))) cList := by
  intro F G m st H ws vs Q S r P
  unfold cList at P
  split at P
  · cases r with
    | cons h r =>
      cases r
      split at P
      · rename_i xs q
        obtain ⟨a, vs, rfl, h1, h2⟩ := sview_at S h q
        exact ⟨a, vs, rfl, h1, fun l hl => P.ret S hl h2⟩
      · exact P.elim
  · exact P.elim
end
theorem je_len (hg : Gl X "len") (hm : X.mg "len" = none) (ha : JA X E (e :: es) ds) (he : starEach (e :: es) X.env = (false, eval e X.env) :: starEach es X.env := by rfl) (hpl : (backTo pos (starEach es X.env)).any (·.1) = false := by rfl) :
    JE X E (.Call (.Name "len" p) (e :: es) [] pos) (dCallB cLen ds) := je_callB (call_len_seq.or call_len_str) ok_len hg hm PySem.boot_len ha (by decide) (by decide) he hpl
theorem je_abs (hg : Gl X "abs") (hm : X.mg "abs" = none) (ha : JA X E (e :: es) ds) (he : starEach (e :: es) X.env = (false, eval e X.env) :: starEach es X.env := by rfl) (hpl : (backTo pos (starEach es X.env)).any (·.1) = false := by rfl) :
    JE X E (.Call (.Name "abs" p) (e :: es) [] pos) (dCallB cAbs ds) := je_callB call_abs ok_abs hg hm (by decide +kernel) ha (by decide) (by decide) he hpl
theorem je_int1 (hg : Gl X "int") (hm : X.mg "int" = none) (ha : JA X E (e :: es) ds) (he : starEach (e :: es) X.env = (false, eval e X.env) :: starEach es X.env := by rfl) (hpl : (backTo pos (starEach es X.env)).any (·.1) = false := by rfl) :
    JE X E (.Call (.Name "int" p) (e :: es) [] pos) (dCallB cInt ds) := je_callT call_int1 ok_int hg hm (by decide +kernel) ha (by decide) (by decide) he hpl
theorem je_min2 (hc : X.calm = true) (hg : Gl X "min") (hm : X.mg "min" = none) (ha : JA X E (e :: es) ds) (he : starEach (e :: es) X.env = (false, eval e X.env) :: starEach es X.env := by rfl) (hpl : (backTo pos (starEach es X.env)).any (·.1) = false := by rfl) :
    JE X E (.Call (.Name "min" p) (e :: es) [] pos) (dCallB cMin2 ds) := je_callB (call_min2 hc) ok_min2 hg hm (by decide +kernel) ha (by decide) (by decide) he hpl
theorem je_max2 (hc : X.calm = true) (hg : Gl X "max") (hm : X.mg "max" = none) (ha : JA X E (e :: es) ds) (he : starEach (e :: es) X.env = (false, eval e X.env) :: starEach es X.env := by rfl) (hpl : (backTo pos (starEach es X.env)).any (·.1) = false := by rfl) :
    JE X E (.Call (.Name "max" p) (e :: es) [] pos) (dCallB cMax2 ds) := je_callB (call_max2 hc) ok_max2 hg hm (by decide +kernel) ha (by decide) (by decide) he hpl
theorem jf_list (hg : Gl X "list") (hm : X.mg "list" = none) (ha : JA X E (e :: es) ds) (he : starEach (e :: es) X.env = (false, eval e X.env) :: starEach es X.env := by rfl) (hpl : (backTo pos (starEach es X.env)).any (·.1) = false := by rfl) :
    JF X E (.Call (.Name "list" p) (e :: es) [] pos) (dCallF cList ds) := jf_callT call_list_of ok_list hg hm (by decide +kernel) ha (by decide) (by decide) he hpl

/-! ### ranges -/
def sm (i : Int) : Prop := -(2 ^ 62) ≤ i ∧ i < 2 ^ 62
instance (i : Int) : Decidable (sm i) := by unfold sm; exact inferInstance
def iR1 (ds : Env → M (List W)) : Env → M It' := fun env st => (ds env st).bind fun ws st => match ws with
  | [.int n] => if sm n then .ok ⟨rngW 0 n.toNat, fun _ => True⟩ st else .stuck
  | _ => .stuck
def iR2 (ds : Env → M (List W)) : Env → M It' := fun env st => (ds env st).bind fun ws st => match ws with
  | [.int a, .int b] => if sm a ∧ sm b then .ok ⟨rngW a (b - a).toNat, fun _ => True⟩ st else .stuck
  | _ => .stuck
theorem ji_range1 {tg : Expr} (hg : Gl X "range") (hm : X.mg "range" = none) (ha : JA X E [a] ds) (hs : starEach [a] X.env = [(false, eval a X.env)] := by rfl) : JI X E tg (.Call (.Name "range" p) [a] [] pos) (iR1 ds) := by
  refine weakI (pi_range1 hg hm ha hs) ?_
  rintro σ H Q ⟨F, G, m, env, st, S, R, P⟩
  refine ⟨F, G, m, env, st, S, R, (P.bind (R := RA)).imp fun vs H1 ⟨G1, m1, ws, st1, e1, S1, r1, P1⟩ => ?_⟩
  split at P1
  · split at P1
    · rename_i hs
      cases r1 with
      | cons r1 r2 =>
        cases r2
        cases r1
        exact ⟨_, rfl, hs.1, hs.2, P1.ret S1 walks_range⟩
    · exact P1.elim
  · exact P1.elim
theorem ji_range2 {tg : Expr} (hg : Gl X "range") (hm : X.mg "range" = none) (ha : JA X E [a, b] ds) (hs : starEach [a, b] X.env = [(false, eval a X.env), (false, eval b X.env)] := by rfl) (hs2 : starEach [b] X.env = [(false, eval b X.env)] := by rfl) :
    JI X E tg (.Call (.Name "range" p) [a, b] [] pos) (iR2 ds) := by
  refine weakI (pi_range2 hg hm ha hs hs2) ?_
  rintro σ H Q ⟨F, G, m, env, st, S, R, P⟩
  refine ⟨F, G, m, env, st, S, R, (P.bind (R := RA)).imp fun vs H1 ⟨G1, m1, ws, st1, e1, S1, r1, P1⟩ => ?_⟩
  split at P1
  · split at P1
    · rename_i hs
      cases r1 with
      | cons r1 r2 =>
        cases r2 with
        | cons r2 r3 =>
          cases r3
          cases r1
          cases r2
          exact ⟨_, _, rfl, ⟨hs.1.1, hs.1.2, hs.2.1, hs.2.2⟩, P1.ret S1 walks_range⟩
    · exact P1.elim
  · exact P1.elim
/-- list(range(n)) -/
def dListR (d : Env → M W) : Env → M (List W) := fun env st => (d env st).bind fun w st => match w with
  | .int n => if sm n ∧ n.toNat ≤ 2 ^ 24 then .ok (rngW 0 n.toNat) st else .stuck
  | _ => .stuck
theorem rngW_at {K : PySem.W.Frag} {G : Hp} {m : List Addr} {lo : Int} {n : Nat} : RWs K G m (rngW lo n) ((List.range n).map fun (i : Nat) => V.int (lo + (i : Int))) := by
  unfold rngW
  generalize List.range n = l
  induction l with
  | nil => exact .nil
  | cons x l ih => exact .cons (.int _) ih
theorem jf_listR (hc : X.calm = true) (hg : Gl X "list") (hm : X.mg "list" = none) (hg2 : Gl X "range") (hm2 : X.mg "range" = none) (ha : JE X E a da) (na : starEach [a] X.env = (false, eval a X.env) :: starEach [] X.env := by rfl)
    (n2 : starEach [.Call (.Name "range" p) [a] [] pos] X.env = (false, eval (.Call (.Name "range" p) [a] [] pos) X.env) :: starEach [] X.env := by rfl) : JF X E (.Call (.Name "list" cpos) [.Call (.Name "range" p) [a] [] pos] [] apos) (dListR da) := by
  refine weakE (pe_listRg hc hg hm (prg_1 hg2 hm2 ha na) n2) ?_
  rintro σ H Q ⟨F, G, m, env, st, S, R, P⟩
  refine ⟨F, G, m, env, st, S, R, (PostF.bind (R := RW) P).imp fun v H1 ⟨G1, m1, w, st1, e1, S1, r1, P1⟩ => ?_⟩
  split at P1
  · split at P1
    · rename_i n hn
      cases r1
      refine ⟨n, rfl, ⟨by omega, by omega, hn.1.1, hn.1.2, ?_⟩, fun q hq => ?_⟩
      · rw [Int.sub_zero]
        exact hn.2
      · unfold rgV
        rw [Int.sub_zero]
        exact P1.ret S1 hq rngW_at
    · exact P1.elim
  · exact P1.elim

/-! ### methods of built-in types -/
def MtOk (K : PySem.W.Frag) (mg : MG) (E : XK) (r : V → List V → Hp → VK → Prop) (f : W → List W → M W) : Prop :=
  ∀ F G m st H x v ws vs Q, Sim K mg F G m st H → RW K G m x v → RWs K G m ws vs → Post RW K mg E F G m (f x ws st) Q → r v vs H Q
/-- the receiver is of that type -/
def TyOk (T : String) (ty : W → Store → Bool) : Prop := ∀ (K : PySem.W.Frag) mg F G m st H x v, Sim K mg F G m st H → RW K G m x v → ty x st = true → tyV K T v H
def dBM (ty : W → Store → Bool) (f : W → List W → M W) (o : Env → M W) (ds : Env → M (List W)) : Env → M W := fun env st => (o env st).bind fun x st => if ty x st = true then (ds env st).bind fun ws st => f x ws st else .stuck
def tyL (x : W) (st : Store) : Bool := (lview x st).isSome
theorem tyL_ok : TyOk "list" tyL := by
  intro K mg F G m st H x v S r h
  unfold tyL at h
  cases q : lview x st with
  | none => rw [q] at h; cases h
  | some xs =>
    obtain ⟨a, vs, rfl, h1, h2⟩ := lview_at S r q
    exact .inl ⟨rfl, _, h1⟩
theorem je_bm {name : Str} {T id : String} {r : V → List V → Hp → VK → Prop} {ty : W → Store → Bool} {g : W → List W → M W} (pa : PlainAttrs T) (slot : Slot T name id) (hty : typeOf (.builtin id) = pure (.type "method_descriptor")) (hm : MtR X id r) (ht : TyOk T ty) (hf : MtOk X.K X.mg E r g)
    (ho : JE X E o dO) (ha : JA X E (e :: es) ds) (hbase : attributeBase o name X.env (eval o X.env) = eval o X.env := by rfl)
    (hfew : ((backTo cpos (starEach (e :: es) X.env)).all (fun x => !x.1) && (backToKw cpos (keywordEach [] X.env)).all (fun x => x.1.isSome)
      && decide ((e :: es).length + ([] : List Keyword).length + (if ([] : List Keyword).isEmpty then 0 else 1) < 30)) = true := by rfl)
    (hline : (apos.endLine == cpos.line) = true := by rfl) (hs : starEach (e :: es) X.env = (false, eval e X.env) :: starEach es X.env := by rfl) (hplain : (backTo cpos (starEach es X.env)).any (·.1) = false := by rfl) :
    JE X E (.Call (.Attribute o name apos) (e :: es) [] cpos) (dBM ty g dO ds) := by
  refine weakE (pe_bm pa slot hty hm ho ha hbase hfew hline hs hplain) ?_
  rintro σ H Q ⟨F, G, m, env, st, S, R, P⟩
  refine ⟨F, G, m, env, st, S, R, (P.bind (R := RW)).imp fun v H1 ⟨G1, m1, w, st1, e1, S1, r1, P1⟩ => ?_⟩
  split at P1
  · rename_i hty
    refine ⟨ht X.K X.mg F G1 m1 st1 H1 w v S1 r1 hty, F, G1, m1, env, st1, S1, R.mono e1, (P1.bind (R := RA)).imp fun vs H2 ⟨G2, m2, ws, st2, e2, S2, r2, P2⟩ => ?_⟩
    exact hf F G2 m2 st2 H2 w v ws vs Q S2 (RW.mono e2 r1) r2 P2
  · exact P1.elim
def dBM0 (ty : W → Store → Bool) (f : W → List W → M W) (o : Env → M W) : Env → M W := fun env st => (o env st).bind fun x st => if ty x st = true then f x [] st else .stuck
theorem je_bm0 {name : Str} {T id : String} {r : V → List V → Hp → VK → Prop} {ty : W → Store → Bool} {g : W → List W → M W} (pa : PlainAttrs T) (slot : Slot T name id) (hty : typeOf (.builtin id) = pure (.type "method_descriptor")) (hm : MtR X id r) (ht : TyOk T ty) (hf : MtOk X.K X.mg E r g)
    (ho : JE X E o dO) (hbase : attributeBase o name X.env (eval o X.env) = eval o X.env := by rfl) (hline : (apos.endLine == cpos.line) = true := by rfl) :
    JE X E (.Call (.Attribute o name apos) [] [] cpos) (dBM0 ty g dO) := by
  refine weakE (pe_bm0 pa slot hty hm ho hbase hline) ?_
  rintro σ H Q ⟨F, G, m, env, st, S, R, P⟩
  refine ⟨F, G, m, env, st, S, R, (P.bind (R := RW)).imp fun v H1 ⟨G1, m1, w, st1, e1, S1, r1, P1⟩ => ?_⟩
  split at P1
  · rename_i hty
    exact ⟨ht X.K X.mg F G1 m1 st1 H1 w v S1 r1 hty, hf F G1 m1 st1 H1 w v [] [] Q S1 r1 .nil P1⟩
  · exact P1.elim
def mAppend : W → List W → M W := fun x ws st => match x, ws with
  | .cell n, [w] => match lcell st n with
    | some xs => if xs.length < sizeLine then .ok .non (st.set n (.lst (xs ++ [w]))) else .stuck
    | none => .stuck
  | _, _ => .stuck
def mPopAt : W → List W → M W := fun x ws st => match x, ws with
  | .cell n, [.int i] => match lcell st n with
    | some xs => if -(2 ^ 63) ≤ i ∧ i < 2 ^ 63 then (match seqIndex? i xs.length with
      | some k => match xs[k]? with
        | some w => .ok w (st.set n (.lst (xs.eraseIdx k)))
        | none => .stuck
      | none => .stuck) else .stuck
    | none => .stuck
  | _, _ => .stuck
def mPop : W → List W → M W := fun x ws st => match x, ws with
  | .cell n, [] => match lcell st n with
    | some xs => match xs[xs.length - 1]? with
      | some w => .ok w (st.set n (.lst xs.dropLast))
      | none => .stuck
    | none => .stuck
  | _, _ => .stuck
section
variable {K : PySem.W.Frag} {mg : MG}
theorem cell_at {F G : Hp} {m : List Addr} {st : Store} {H : Hp} {n : Nat} {v : V} {xs : List W} (S : Sim K mg F G m st H) (r : RW K G m (.cell n) v) (q : lcell st n = some xs) : ∃ a vs, v = .ref a ∧ m[n]? = some a ∧ H a = some (.lst vs) ∧ RWs K G m xs vs ∧
    ∀ ys us G' m', Ext G m G' m' → RWs K G m ys us → Sim K mg F G m (st.set n (.lst ys)) (upd H a (.lst us)) := by
  cases r with
  | @cell _ a hm =>
    have q' := lcell_some q
    obtain ⟨g0, vs, h2, h3⟩ := S.ok n _ a q' hm
    exact ⟨a, vs, rfl, hm, h2, h3, fun ys us G' m' _ r => S.set q' True.intro hm ⟨g0, us, upd_same, r⟩⟩
theorem ok_append : MtOk K mg E rAppend mAppend := by
  intro F G m st H x v ws vs Q S r rs P
  unfold mAppend at P
  split at P
  · rename_i n w
    split at P
    · rename_i xs q
      split at P
      · rename_i z
        obtain ⟨a, us, rfl, hm, h1, h2, h3⟩ := cell_at S r q
        cases rs with
        | cons r1 rs =>
          cases rs
          refine ⟨a, us, _, rfl, rfl, h1, by rw [← h2.length]; exact z, ?_⟩
          exact P.ret (h3 _ _ G m (Ext.refl G m) (h2.append (.cons r1 .nil))) .non
      · exact P.elim
    · exact P.elim
  · exact P.elim
theorem ok_popAt : MtOk K mg E rPopAt mPopAt := by
  intro F G m st H x v ws vs Q S r rs P
  unfold mPopAt at P
  split at P
  · rename_i n i
    split at P
    · rename_i xs q
      split at P
      · rename_i z
        split at P
        · rename_i k hk
          split at P
          · rename_i w hw
            obtain ⟨a, us, rfl, hm, h1, h2, h3⟩ := cell_at S r q
            cases rs with
            | cons r1 rs =>
              cases rs
              cases r1
              obtain ⟨y, hy, ry⟩ := h2.get hw
              refine ⟨a, us, i, k, y, rfl, rfl, h1, z.1, z.2, by rw [← h2.length]; exact hk, hy, ?_⟩
              exact P.ret (h3 _ _ G m (Ext.refl G m) (h2.eraseIdx k)) ry
          · exact P.elim
        · exact P.elim
      · exact P.elim
    · exact P.elim
  · exact P.elim
theorem ok_pop : MtOk K mg E rPop mPop := by
  intro F G m st H x v ws vs Q S r rs P
  unfold mPop at P
  split at P
  · rename_i n
    split at P
    · rename_i xs q
      split at P
      · rename_i w hw
        obtain ⟨a, us, rfl, hm, h1, h2, h3⟩ := cell_at S r q
        cases rs
        obtain ⟨y, hy, ry⟩ := h2.get hw
        refine ⟨a, us, y, rfl, rfl, h1, by rw [← h2.length]; exact hy, ?_⟩
        exact P.ret (h3 _ _ G m (Ext.refl G m) h2.dropLast) ry
      · exact P.elim
    · exact P.elim
  · exact P.elim
end

/-! ### slices -/
def RO : Rel (Option Int) (Option Int) := fun _ _ _ a b => b = a
def tO (K : PySem.W.Frag) (mg : MG) (E : XK) (d : Env → M (Option Int)) : TO := fun σ H Q => ∃ F G m env st, Sim K mg F G m st H ∧ REnv K G m env σ ∧ Post RO K mg E F G m (d env st) Q
abbrev JO (X : Cx) (E : XK) (e : Option Expr) (d : Env → M (Option Int)) : Prop := PO X e (tO X.K X.mg E d)
theorem weakO {e : Option Expr} {t t' : TO} (h : PO X e t) (w : ∀ σ H Q, t' σ H Q → t σ H Q) : PO X e t' := ⟨fun pins s σ H Q I q => h.run pins s σ H Q I (w σ H Q q)⟩
def oNone : Env → M (Option Int) := fun _ st => .ok none st
def oSome (d : Env → M W) : Env → M (Option Int) := fun env st => (d env st).bind fun w st => match w with
  | .int i => .ok (some i) st
  | _ => .stuck
theorem jo_none : JO X E none oNone := by
  refine weakO po_none ?_
  rintro σ H Q ⟨F, G, m, env, st, S, R, P⟩
  exact P.ret S rfl
theorem jo_some (h : JE X E e d) : JO X E (some e) (oSome d) := by
  refine weakO (po_some h) ?_
  rintro σ H Q ⟨F, G, m, env, st, S, R, P⟩
  refine ⟨F, G, m, env, st, S, R, (P.bind (R := RW)).imp fun v H1 ⟨G1, m1, w, st1, e1, S1, r1, P1⟩ => ?_⟩
  split at P1
  · cases r1
    exact ⟨_, rfl, P1.ret S1 rfl⟩
  · exact P1.elim
def cutW (xs : List W) (lo hi : Option Int) : List W := (xs.drop (HT.sIx xs.length 0 lo)).take (HT.sIx xs.length xs.length hi - HT.sIx xs.length 0 lo)
def dSl (d : Env → M W) (dl dh : Env → M (Option Int)) : Env → M (List W) := fun env st => (d env st).bind fun w st => (dl env st).bind fun lo st => (dh env st).bind fun hi st => match lview w st with
  | some xs => .ok (cutW xs lo hi) st
  | none => .stuck
theorem jf_slice {lo hi : Option Expr} {dl dh : Env → M (Option Int)} {p2 : Pos} (he : JE X E e d) (hl : JO X E lo dl) (hu : JO X E hi dh) : JF X E (.Subscript e (.Slice lo hi none p2) pos) (dSl d dl dh) := by
  refine weakE (pe_slice sl_list he hl hu) ?_
  rintro σ H Q ⟨F, G, m, env, st, S, R, P⟩
  refine ⟨F, G, m, env, st, S, R, (PostF.bind (R := RW) P).imp fun v H1 ⟨G1, m1, w, st1, e1, S1, r1, P1⟩ => ?_⟩
  refine ⟨F, G1, m1, env, st1, S1, R.mono e1, (PostF.bind (R := RO) P1).imp fun lo' H2 ⟨G2, m2, lo, st2, e2, S2, r2, P2⟩ => ?_⟩
  refine ⟨F, G2, m2, env, st2, S2, (R.mono e1).mono e2, (PostF.bind (R := RO) P2).imp fun hi' H3 ⟨G3, m3, hi, st3, e3, S3, r3, P3⟩ => ?_⟩
  cases r2
  cases r3
  split at P3
  · rename_i xs q
    obtain ⟨a, vs, rfl, h1, h2⟩ := lview_at S3 (RW.mono e3 (RW.mono e2 r1)) q
    refine ⟨a, vs, rfl, h1, fun p hp => P3.ret S3 hp ?_⟩
    unfold cutV cutW
    rw [h2.length]
    exact (h2.drop _).take _
  · exact P3.elim
def dRev (d : Env → M W) : Env → M (List W) := fun env st => (d env st).bind fun w st => match lview w st with
  | some xs => .ok xs.reverse st
  | none => .stuck
theorem jf_rev {k : Nat} {p1 p2 p3 : Pos} (he : JE X E e d) : JF X E (.Subscript e (.Slice none none (some (.UnaryOp .USub (.Constant (.int 1) k p1) p2)) p3) pos) (dRev d) := by
  refine weakE (pe_revL he) ?_
  rintro σ H Q ⟨F, G, m, env, st, S, R, P⟩
  refine ⟨F, G, m, env, st, S, R, (PostF.bind (R := RW) P).imp fun v H1 ⟨G1, m1, w, st1, e1, S1, r1, P1⟩ => ?_⟩
  split at P1
  · rename_i xs q
    obtain ⟨a, vs, rfl, h1, h2⟩ := lview_at S1 r1 q
    exact ⟨a, vs, rfl, h1, fun p hp => P1.ret S1 hp h2.reverse⟩
  · exact P1.elim

/-! ### in -/
def flatW : W → Bool
  | .non => true
  | .bl _ => true
  | .int _ => true
  | .str _ => true
  | _ => false
def eqW : W → W → Bool
  | .non, .non => true
  | .bl a, .bl b => a == b
  | .bl a, .int b => (if a then 1 else 0) == b
  | .int a, .bl b => a == (if b then 1 else 0)
  | .int a, .int b => a == b
  | .str a, .str b => a == b
  | _, _ => false
def inW (x : W) (xs : List W) : Bool := xs.any fun y => eqW y x
section
variable {K : PySem.W.Frag} {mg : MG} {G : Hp} {m : List Addr}
theorem flat_of {x : W} {v : V} (r : RW K G m x v) (h : flatW x = true) : flatV v = true := by
  cases r <;> first | rfl | cases h
theorem eq_of {x y : W} {v u : V} (r : RW K G m x v) (q : RW K G m y u) (h : flatW x = true) (h2 : flatW y = true) : eqV v u = eqW x y := by
  cases r <;> first | (exact absurd h Bool.false_ne_true) | skip
  all_goals (cases q <;> first | rfl | (exact absurd h2 Bool.false_ne_true))
theorem flats_of : ∀ {xs : List W} {vs : List V}, RWs K G m xs vs → xs.all flatW = true → vs.all flatV = true
  | _, _, .nil, _ => rfl
  | _, _, .cons r rs, h => by
    rw [List.all_cons, Bool.and_eq_true] at h ⊢
    exact ⟨flat_of r h.1, flats_of rs h.2⟩
theorem in_of {x : W} {v : V} (r : RW K G m x v) (h : flatW x = true) : ∀ {xs : List W} {vs : List V}, RWs K G m xs vs → xs.all flatW = true → inV v vs = inW x xs
  | _, _, .nil, _ => rfl
  | _, _, .cons q qs, h2 => by
    rw [List.all_cons, Bool.and_eq_true] at h2
    have ih := in_of r h qs h2.2
    unfold inV at ih ⊢
    unfold inW at ih ⊢
    rw [List.any_cons, List.any_cons, ih, eq_of q r h2.1 h]
def oIn (neg : Bool) : W → W → M W := fun x y st => match sview y st with
  | some xs => if flatW x = true ∧ xs.all flatW = true then .ok (.bl (if neg then !inW x xs else inW x xs)) st else .stuck
  | none => .stuck
theorem ok_in {neg : Bool} : OpOk K mg E (rIn K neg) (oIn neg) := by
  intro F G m st H x y v u Q S r1 r2 P
  unfold oIn at P
  split at P
  · rename_i xs q
    split at P
    · rename_i z
      obtain ⟨a, vs, rfl, h1, h2⟩ := sview_at S r2 q
      refine ⟨a, vs, rfl, h1, flat_of r1 z.1, flats_of h2 z.2, ?_⟩
      rw [in_of r1 z.1 h2 z.2]
      exact P.ret S (.bl _)
    · exact P.elim
  · exact P.elim
/-- the first place -/
def findW (x : W) : List W → Option Nat
  | [] => none
  | y :: ys => if eqW y x = true then some 0 else (findW x ys).map (· + 1)
def mIndex : W → List W → M W := fun x ws st => match ws with
  | [w] => match lview x st with
    | some xs => if flatW w = true ∧ xs.all flatW = true then (match findW w xs with
      | some j => .ok (.int j) st
      | none => .stuck) else .stuck
    | none => .stuck
  | _ => .stuck
theorem findW_at {x : W} : ∀ {xs : List W} {j : Nat}, findW x xs = some j → ∃ z, xs[j]? = some z ∧ eqW z x = true ∧ ∀ (k : Nat) (z' : W), k < j → xs[k]? = some z' → eqW z' x = false
  | [], j, h => by cases h
  | y :: ys, j, h => by
    unfold findW at h
    split at h
    · rename_i e
      cases h
      exact ⟨y, rfl, e, fun k z' hk => absurd hk (Nat.not_lt_zero k)⟩
    · rename_i e
      cases q : findW x ys with
      | none => rw [q] at h; cases h
      | some i =>
        rw [q] at h
        cases h
        obtain ⟨z, h1, h2, h3⟩ := findW_at q
        refine ⟨z, by simpa using h1, h2, fun k z' hk hz => ?_⟩
        cases k with
        | zero =>
          cases hz
          exact Bool.eq_false_iff.mpr e
        | succ k => exact h3 k z' (Nat.lt_of_succ_lt_succ hk) (by simpa using hz)
theorem ok_index : MtOk K mg E (rIndex K) mIndex := by
  intro F G m st H x v ws vs Q S r rs P
  unfold mIndex at P
  split at P
  · rename_i w
    split at P
    · rename_i xs q
      split at P
      · rename_i z
        split at P
        · rename_i j hj
          obtain ⟨a, us, rfl, h1, h2⟩ := lview_at S r q
          cases rs with
          | cons r1 rs =>
            cases rs
            obtain ⟨y, hy, e1, e2⟩ := findW_at hj
            obtain ⟨yv, hyv, ry⟩ := h2.get hy
            have hm := List.all_eq_true.mp z.2
            refine ⟨a, us, _, j, yv, rfl, rfl, h1, flat_of r1 z.1, flats_of h2 z.2, hyv, ?_, fun k zv hk hz => ?_, P.ret S (.int _)⟩
            · rw [eq_of ry r1 (hm y (List.mem_of_getElem? hy)) z.1]
              exact e1
            · obtain ⟨zw, hzw, rz⟩ := h2.get' hz
              rw [eq_of rz r1 (hm zw (List.mem_of_getElem? hzw)) z.1]
              exact e2 k zw hk hzw
        · exact P.elim
      · exact P.elim
    · exact P.elim
  · exact P.elim
end
theorem je_in (ha : JE X E a da) (hb : JE X E b db) (hm : behindInMarks .In b = false := by rfl) : JE X E (.Compare a [.In] [b] pos) (dOp (oIn false) da db) := je_cmp op_in_seq ok_in ha hb hm
theorem je_notIn (ha : JE X E a da) (hb : JE X E b db) (hm : behindInMarks .NotIn b = false := by rfl) : JE X E (.Compare a [.NotIn] [b] pos) (dOp (oIn true) da db) := je_cmp op_notIn_seq ok_in ha hb hm
theorem jt_in (ha : JE X E a da) (hb : JE X E b db) (hm : behindInMarks .In b = false := by rfl) : JT X E (.Compare a [.In] [b] pos) (dB (dOp (oIn false) da db)) := jt_cmp op_in_seq ok_in ha hb hm
theorem jt_notIn (ha : JE X E a da) (hb : JE X E b db) (hm : behindInMarks .NotIn b = false := by rfl) : JT X E (.Compare a [.NotIn] [b] pos) (dB (dOp (oIn true) da db)) := jt_cmp op_notIn_seq ok_in ha hb hm
/-! ### isinstance, one built-in class -/
def isW (T : String) (w : W) (st : Store) : Option Bool := match w with
  | .lst _ => some (T == "list")
  | .tup _ => some (T == "tuple")
  | .cell n => match lcell st n with
    | some _ => some (T == "list")
    | none => none
  | _ => none
def cIs (T : String) : W → M W := fun w st => match isW T w st with
  | some b => .ok (.bl b) st
  | none => .stuck
def dIs (T : String) (d : Env → M W) : Env → M W := fun env st => (d env st).bind (cIs T)
theorem je_is {T : String} {x : Str} {p2 : Pos} (hg : Gl X "isinstance") (hm : X.mg "isinstance" = none) (hg2 : Gl X x) (hm2 : X.mg x = none) (hv : bootBuiltins x = some (.type T)) (ha : JE X E a da)
    (kl : PySem.W.kitOne X.K (.type "list") (.type T) = some (T == "list")) (kt : PySem.W.kitOne X.K (.type "tuple") (.type T) = some (T == "tuple"))
    (he : starEach [a, .Name x p2] X.env = (false, eval a X.env) :: starEach [.Name x p2] X.env := by rfl) (he2 : starEach [.Name x p2] X.env = (false, eval (.Name x p2) X.env) :: starEach [] X.env := by rfl)
    (hpl : (backTo pos (starEach [.Name x p2] X.env)).any (·.1) = false := by rfl) (hn : x ≠ "__name__" := by decide) (hdb : (x == ("__debug__" : Str)) = false := by decide) :
    JE X E (.Call (.Name "isinstance" p) [a, .Name x p2] [] pos) (dIs T da) := by
  refine weakE (pe_callB call_isi hg hm (by decide +kernel) (pa_cons ha (pa_cons (pe_bltn (v := .ty T) hg2 hm2 hv rfl hn hdb) pa_nil he2) he) (by decide) (by decide) he hpl) ?_
  rintro σ H Q ⟨F, G, m, env, st, S, R, P⟩
  refine ⟨F, G, m, env, st, S, R, (P.bind (R := RW)).imp fun v H1 ⟨G1, m1, w, st1, e1, S1, r1, P1⟩ => ?_⟩
  unfold cIs at P1
  split at P1
  · rename_i b q
    refine ⟨v, .ty T, ?_⟩
    unfold isW at q
    split at q
    · cases r1 with
      | lst h1 h2 =>
        cases q
        exact ⟨_, _, _, rfl, .ty T, .base (.lst (S1.ex _ _ h1)), kl, P1.ret S1 (.bl _)⟩
    · cases r1 with
      | tup h1 h2 =>
        cases q
        exact ⟨_, _, _, rfl, .ty T, .base (.tup (S1.ex _ _ h1)), kt, P1.ret S1 (.bl _)⟩
    · split at q
      · rename_i xs q2
        cases q
        obtain ⟨adr, vs, rfl, hm, h1, h2, h3⟩ := cell_at S1 r1 q2
        exact ⟨_, _, _, rfl, .ty T, .base (.lst h1), kl, P1.ret S1 (.bl _)⟩
      · cases q
    · cases q
  · exact P1.elim
end
end Sh


set_option maxRecDepth 100000
set_option maxHeartbeats 2000000
namespace Sh
open PySem L2 Evl

/-! ### a cell's list is let go as plain data -/
def fz : W → M W := fun w st => match w with
  | .cell n => match lcell st n with
    | some xs => .ok (.lst xs) (st.set n .dead)
    | none => .stuck
  | w => .ok w st
def dFz (d : Env → M W) : Env → M W := fun env st => (d env st).bind fz
section
variable {X : Cx} {E : XK} {a b e c o : Expr} {es : List Expr} {da db d dO : Env → M W} {ds : Env → M (List W)} {p pos apos cpos : Pos} {x : Str}
theorem fz_read {K : PySem.W.Frag} {mg : MG} {σ : L2.St} {H : Hp} {Q : VK} (h : tE K mg E (dFz d) σ H Q) : tE K mg E d σ H Q := by
  obtain ⟨F, G, m, env, st, S, R, P⟩ := h
  refine ⟨F, G, m, env, st, S, R, (P.bind (R := RW)).imp fun v H1 ⟨G1, m1, w, st1, e1, S1, r1, P1⟩ => ?_⟩
  unfold fz at P1
  split at P1
  · rename_i n
    split at P1
    · rename_i xs q
      obtain ⟨adr, vs, rfl, hm, h1, h2, h3⟩ := cell_at S1 r1 q
      obtain ⟨S2, e2, r2⟩ := S1.freeze (lcell_some q) hm h1 h2
      exact (P1.mono e2).ret S2 r2
    · exact P1.elim
  · exact P1.ret S1 r1
theorem je_fz (h : JE X E e d) : JE X E e (dFz d) := weakE h fun σ H Q => fz_read
theorem pure_read {K : PySem.W.Frag} {mg : MG} {d : Env → M (List W)} {σ : L2.St} {H : Hp} {Q : VK} (h : tE K mg E (dPure d) σ H Q) : tF K mg E d σ H Q := by
  obtain ⟨F, G, m, env, st, S, R, P⟩ := h
  refine ⟨F, G, m, env, st, S, R, ?_⟩
  unfold dPure at P
  cases q : d env st with
  | stuck => rw [q] at P; exact P.elim
  | exc x st1 => rw [q] at P; exact P
  | ok xs st1 =>
    rw [q] at P
    intro G1 m1 p vs H1 e1 S1 hp r1
    have P : Post RW K mg E F G m (.ok (.lst xs) st1) Q := P
    have hg := fresh_back S1.ex hp
    exact (P.mono e1).mono (Ext.new hg) |>.ret (S1.newG hp) (.lst upd_same (r1.mono (Ext.new hg)))
theorem cell_read {K : PySem.W.Frag} {mg : MG} {d : Env → M (List W)} {σ : L2.St} {H : Hp} {Q : VK} (h : tE K mg E (dCell d) σ H Q) : tF K mg E d σ H Q := by
  obtain ⟨F, G, m, env, st, S, R, P⟩ := h
  refine ⟨F, G, m, env, st, S, R, ?_⟩
  unfold dCell at P
  cases q : d env st with
  | stuck => rw [q] at P; exact P.elim
  | exc x st1 => rw [q] at P; exact P
  | ok xs st1 =>
    rw [q] at P
    intro G1 m1 p vs H1 e1 S1 hp r1
    have P : Post RW K mg E F G m (.ok (.cell st1.length) (st1 ++ [.lst xs])) Q := P
    have hg := fresh_back S1.ex hp
    refine (P.mono e1).mono (Ext.cell (p := p)) |>.ret (S1.newC hp ⟨hg, vs, upd_same, r1.mono Ext.cell⟩) (.cell ?_)
    rw [← S1.len]
    simp

/-! ### comprehensions -/
def hid (p : Addr) (H : Hp) : Hp := fun b => if b = p then none else H b
theorem upd_hid {p : Addr} {H : Hp} {o : HO} (h : H p = some o) : upd (hid p H) p o = H := by
  funext b
  unfold upd hid
  by_cases q : b = p
  · rw [if_pos q, q, h]
  · rw [if_neg q, if_neg q]
theorem sim_hid {K : PySem.W.Frag} {mg : MG} {F G : Hp} {m : List Addr} {st : Store} {H : Hp} {p : Addr} {o : HO} (S : Sim K mg (upd F p o) G m st H) (fp : F p = none) : Sim K mg F G m st (hid p H) := by
  have S' := S.less (F := F) fun b u e => by
    rw [upd_ne (ne_of_none e fp)]
    exact e
  have gp : G p = none := S.dj p o upd_same
  have ne : ∀ {b : Addr} {H : Hp}, b ≠ p → hid p H b = H b := fun {b H} q => if_neg q
  refine ⟨fun b u e => ?_, fun b u e => ?_, S'.dj, S'.fr, S.len, fun n c a h1 h2 => ?_, S.inj⟩
  · rw [ne (ne_of_none e gp)]
    exact S.ex b u e
  · rw [ne (ne_of_none e fp)]
    exact S'.exF b u e
  · have q := S.ok n c a h1 h2
    refine q.mono (Ext.refl G m) (fun l => (q.some l).1) (fun l => ne ?_)
    intro z
    subst z
    have h := S.fr n c a h1 l h2
    rw [upd_same] at h
    cases h
theorem wipe_none {σ : L2.St} : ∀ {vs : List Nat} {i : Nat} {v : Option V}, i ∈ vs → (wipe σ vs)[i]? = some v → v = none
  | v :: vs, i, w, h, e => by
    unfold wipe at e
    by_cases q : v = i
    · subst q
      by_cases l : v < (wipe σ vs).length
      · rw [List.getElem?_set_self l] at e
        cases e
        rfl
      · rw [List.getElem?_eq_none (by rw [List.length_set]; omega)] at e
        cases e
    · rw [List.getElem?_set_ne q] at e
      rcases List.mem_cons.mp h with h | h
      · exact absurd h.symm q
      · exact wipe_none h e
theorem wipe_id {σ : L2.St} : ∀ {us : List Nat}, (∀ i ∈ us, ∀ v, σ[i]? = some v → v = none) → wipe σ us = σ
  | [], _ => rfl
  | u :: us, h => by
    unfold wipe
    rw [wipe_id fun i hi => h i (List.mem_cons_of_mem _ hi)]
    apply List.ext_getElem?
    intro j
    by_cases q : u = j
    · subst q
      by_cases l : u < σ.length
      · rw [List.getElem?_set_self l, List.getElem?_eq_getElem l]
        rw [h u List.mem_cons_self _ (List.getElem?_eq_getElem l)]
      · rw [List.getElem?_eq_none (by rw [List.length_set]; omega), List.getElem?_eq_none (by omega)]
    · rw [List.getElem?_set_ne q]
theorem wipe_wipe (σ : L2.St) (vs : List Nat) : wipe (wipe σ vs) vs = wipe σ vs := wipe_id fun i hi v e => wipe_none hi e

open Classical in
noncomputable def lcGo (ok : Store → Prop) (g : T) (tt : Env → M Bool) (te : Env → M W) (env : Env) : List W → List W → Store → Out (List W)
  | [], acc, st => if ok st then .ok acc st else .stuck
  | w :: ws, acc, st => if ok st then (match g w env st with
    | .stuck => .stuck
    | .exc _ _ => .stuck
    | .ok env2 st => (tt env2 st).nox.bind fun b st => if b = true then ((te env2 st).nox.bind fun y st => if acc.length < sizeLine then lcGo ok g tt te env ws (acc ++ [y]) st else .stuck) else lcGo ok g tt te env ws acc st) else .stuck
noncomputable def dLc (it : Env → M It') (g : T) (tt : Env → M Bool) (te : Env → M W) (vs : List Nat) : Env → M (List W) := fun env st => (it env st).bind fun i st => lcGo i.ok g tt te (wipeW env vs) i.xs [] st
theorem lc_read {K : PySem.W.Frag} {mg : MG} {di : Env → M It'} {g : T} {tt : Env → M Bool} {te : Env → M W} {vs sl : List Nat} (hsl : ∀ i ∈ sl, i ∈ vs) {σ : L2.St} {H : Hp} {Q : VK} (h : tF K mg E (dLc di g tt te vs) σ H Q) :
    tLc (tIt K mg E di) (tG K mg sl g) (tT K mg E0 tt) (tE K mg E0 te) vs σ H Q := by
  obtain ⟨F, G, m, env, st, S, R, P⟩ := h
  refine ⟨F, G, m, env, st, S, R, (PostF.bind (R := RI mg) P).imp fun J H1 ⟨G1, m1, i1, st1, e1, S1, w1, P1⟩ => ?_⟩
  intro D hD
  have fD : F D = none := fresh_back S1.exF hD
  refine ⟨fun i k H' => k = i1.xs.length - i ∧ i ≤ i1.xs.length ∧ ∃ G' m' st' acc us, Ext G1 m1 G' m' ∧ Sim K mg (upd F D (.lst us)) G' m' st' H' ∧ RWs K G' m' acc us ∧ PostF K mg E F G' m' (lcGo i1.ok g tt te (wipeW env vs) (i1.xs.drop i) acc st') Q,
    ⟨_, rfl, Nat.zero_le _, G1, m1, st1, [], [], Ext.refl G1 m1, S1.more hD, .nil, P1⟩, ?_⟩
  rintro i k H' ⟨rfl, hi, G', m', st', acc, us, e', S', r', P'⟩
  by_cases hlt : i < i1.xs.length
  · rw [List.drop_eq_getElem_cons hlt, lcGo] at P'
    split at P'
    · rename_i hok
      refine .inr ⟨w1.go i H' _ G' m' st' e' S' hok hlt, fun H2 => ∃ G2 m2 st2 acc us, Ext G1 m1 G2 m2 ∧ Sim K mg (upd F D (.lst us)) G2 m2 st2 H2 ∧ RWs K G2 m2 acc us ∧ PostF K mg E F G2 m2 (lcGo i1.ok g tt te (wipeW env vs) (i1.xs.drop (i + 1)) acc st2) Q,
        fun H2 h2 => ⟨_, Nat.sub_lt_sub_left hlt (Nat.lt_succ_self i), rfl, hlt, h2⟩, fun x H2 hy => ?_⟩
      obtain ⟨w, G2, hw, eG, S2, r2⟩ := w1.yld i H' x H2 _ G' m' st' e' S' hok hlt hy
      rw [List.getElem?_eq_getElem hlt] at hw
      cases hw
      have x2 : Ext G' m' G2 m' := ⟨eG, fun _ _ h => h⟩
      refine ⟨_, G2, m', wipeW env vs, st', _, S2, ((R.mono (e1.trans (e'.trans x2))).wipe vs), r2, ?_⟩
      cases hg2 : g i1.xs[i] (wipeW env vs) st' with
      | stuck => simp only [hg2] at P'; exact P'.elim
      | exc x st => simp only [hg2] at P'; exact P'.elim
      | ok env2 st2 =>
        simp only [hg2] at P'
        intro G3 m3 σ3 H3 e3 S3 R3 o3
        refine ⟨(o3 vs hsl).trans (wipe_wipe σ vs), _, G3, m3, env2, st2, S3, R3, ?_⟩
        have P2 := PostF.mono e3 (PostF.mono x2 P')
        have r' := (r'.mono x2).mono e3
        have ee := (e'.trans x2).trans e3
        cases q : tt env2 st2 with
        | stuck => rw [q] at P2; exact P2.elim
        | exc x st4 => rw [q] at P2; exact P2.elim
        | ok b st4 =>
          rw [q] at P2
          intro G4 m4 b' H4 e4 S4 hb
          cases hb
          have P3 : PostF K mg E F G4 m4 (if b = true then ((te env2 st4).nox.bind fun y st => if acc.length < sizeLine then lcGo i1.ok g tt te (wipeW env vs) (i1.xs.drop (i + 1)) (acc ++ [y]) st else .stuck) else lcGo i1.ok g tt te (wipeW env vs) (i1.xs.drop (i + 1)) acc st4) Q := PostF.mono e4 P2
          have r4 := r'.mono e4
          cases b with
          | false => exact ⟨G4, m4, st4, acc, us, ee.trans e4, S4, r4, P3⟩
          | true =>
            refine ⟨_, G4, m4, env2, st4, S4, R3.mono e4, ?_⟩
            rw [if_pos rfl] at P3
            cases q2 : te env2 st4 with
            | stuck => rw [q2] at P3; exact P3.elim
            | exc x st5 => rw [q2] at P3; exact P3.elim
            | ok y st5 =>
              rw [q2] at P3
              intro G5 m5 v H5 e5 S5 r5
              have P5 : PostF K mg E F G5 m5 (if acc.length < sizeLine then lcGo i1.ok g tt te (wipeW env vs) (i1.xs.drop (i + 1)) (acc ++ [y]) st5 else .stuck) Q := PostF.mono e5 P3
              split at P5
              · rename_i z
                refine ⟨us, S5.exF D _ upd_same, by rw [← r'.length]; exact z, G5, m5, st5, acc ++ [y], us ++ [v], (ee.trans e4).trans e5, S5.turn, (r4.mono e5).append (.cons r5 .nil), P5⟩
              · exact P5.elim
    · exact P'.elim
  · have hd : i1.xs.drop i = [] := List.drop_eq_nil_of_le (by omega)
    rw [hd, lcGo] at P'
    split at P'
    · rename_i hok
      refine .inl ⟨w1.stop i H' _ G' m' st' e' S' hok (by omega), ?_⟩
      have q := P' G' m' D us (hid D H') (Ext.refl G' m') (sim_hid S' fD) (if_pos rfl) r'
      rw [upd_hid (S'.exF D _ upd_same)] at q
      exact q
    · exact P'.elim
abbrev JTs (X : Cx) (E : XK) (e : List Expr) (d : Env → M Bool) : Prop := PTs X e (tT X.K X.mg E d)
def tYesW : Env → M Bool := fun _ st => .ok true st
theorem jts_nil : JTs X E [] tYesW := ⟨fun pins s σ H Q I ⟨F, G, m, env, st, S, R, P⟩ => pts_nil.run pins s σ H Q I (show tYes σ H Q from P.ret S rfl)⟩
theorem jts_one {dt : Env → M Bool} (h : JT X E c dt) : JTs X E [c] dt := pts_one h
theorem jf_lc {elt tg iter : Expr} {ifs : List Expr} {scope : Scope} {own : List (Str × Nat)} {di : Env → M It'} {g : T} {sl : List Nat} {tt : Env → M Bool} {te : Env → M W} (hc : X.calm = true) (hN : X.N.Nodup) (hi : JI X E tg iter di) (ok : BlkOk X.N X.env.scope scope own)
    (hg : ∀ (s : Shared) (H : Hp) (C : Addr) (cl : List (Str × Addr)) (fp : List Addr), JG (X.blk s H scope (compEnvC scope cl C X.env) fp) tg sl g) (ht : ∀ (s : Shared) (H : Hp) (C : Addr) (cl : List (Str × Addr)) (fp : List Addr), JTs (X.blk s H scope (compEnvC scope cl C X.env) fp) E0 ifs tt)
    (he : ∀ (s : Shared) (H : Hp) (C : Addr) (cl : List (Str × Addr)) (fp : List Addr), JE (X.blk s H scope (compEnvC scope cl C X.env) fp) E0 elt te) (hsl : ∀ i ∈ sl, i ∈ own.map (·.2) := by decide) (hs : ∀ x, foldedSetIterable iter X.env x = pure x := by intro _; rfl) :
    JF X E (.ListComp elt [⟨tg, iter, ifs, 0⟩] scope pos) (dLc di g tt te (own.map (·.2))) :=
  weakE (pe_lc hc hN hi ok hg ht he hs) fun σ H Q h => lc_read hsl h
/-- y = [.. for ..] -/
theorem js_setLc {i : Nat} {y : Str} {py : Pos} {elt tg iter : Expr} {ifs : List Expr} {scope : Scope} {own : List (Str × Nat)} {spos : Pos} {di : Env → M It'} {g : T} {sl : List Nat} {tt : Env → M Bool} {te : Env → M W} {f : (Env → M (List W)) → Env → M W}
    (hf : ∀ (d : Env → M (List W)) σ H Q, tE X.K X.mg E (f d) σ H Q → tF X.K X.mg E d σ H Q)
    (hc : X.calm = true) (hN : X.N.Nodup) (hy : X.N[i]? = some y) (hyl : X.env.scope.names.lookup y = some .local)
    (hsw : swapsWith (.ListComp elt [⟨tg, iter, ifs, 0⟩] scope pos) (some (.Name y py)) spos.line X.env = pure true) (hi : JI X E tg iter di) (ok : BlkOk X.N X.env.scope scope own)
    (hg : ∀ (s : Shared) (H : Hp) (C : Addr) (cl : List (Str × Addr)) (fp : List Addr), JG (X.blk s H scope (compEnvC scope cl C X.env) fp) tg sl g) (ht : ∀ (s : Shared) (H : Hp) (C : Addr) (cl : List (Str × Addr)) (fp : List Addr), JTs (X.blk s H scope (compEnvC scope cl C X.env) fp) E0 ifs tt)
    (he : ∀ (s : Shared) (H : Hp) (C : Addr) (cl : List (Str × Addr)) (fp : List Addr), JE (X.blk s H scope (compEnvC scope cl C X.env) fp) E0 elt te) (hsl : ∀ i ∈ sl, i ∈ own.map (·.2) := by decide) (hs : ∀ x, foldedSetIterable iter X.env x = pure x := by intro _; rfl) :
    JS X E (.Assign [.Name y py] (.ListComp elt [⟨tg, iter, ifs, 0⟩] scope pos) spos) (sSet i (f (dLc di g tt te (own.map (·.2))))) := by
  refine weakS (ps_setLc (g := tG X.K X.mg sl g) (tt := tT X.K X.mg E0 tt) (te := tE X.K X.mg E0 te) hc hN hy hyl hsw hi ok hg ht he hs) ?_
  rintro D σ H ⟨F, G, m, env, st, S, R, P⟩
  have q : tE X.K X.mg E (f (dLc di g tt te (own.map (·.2)))) σ H (fun v H1 => D.nx (σ.set i (some v)) H1) :=
    ⟨F, G, m, env, st, S, R, (PostS.bindS (R := RW) P).imp fun v H1 ⟨G1, m1, w, st1, e1, S1, r1, P1⟩ => P1 G1 m1 _ H1 (Ext.refl G1 m1) S1 ((R.mono e1).set r1 i)⟩
  exact lc_read hsl (hf _ σ H _ q)

/-! ### repr of data, where no repr is under way -/
def cRepr : List W → M W := fun ws st => match ws with
  | [.non] => .ok (.str "None") st
  | [w] => match datC w st with
    | some d => if PyProof.Rows.isDisplay d = true ∧ d.showable = true ∧ d.depth ≤ 60 ∧ d.shown.length ≤ sizeLine then .ok (.str d.shown) st else .stuck
    | none => .stuck
  | _ => .stuck
mutual
theorem dat_noDict : ∀ {w : W} {d : PyData}, dat w = some d → d.hasDict = false
  | .non, d, h => by cases h; rfl
  | .bl b, d, h => by cases h; rfl
  | .int i, d, h => by cases h; rfl
  | .str x, d, h => by cases h; rfl
  | .tup xs, d, h => by
    cases q : dats xs with
    | none => rw [dat, q] at h; cases h
    | some ds => rw [dat, q] at h; cases h; exact dats_noDict q
  | .ftp xs, d, h => by
    cases q : dats xs with
    | none => rw [dat, q] at h; cases h
    | some ds => rw [dat, q] at h; cases h; exact dats_noDict q
  | .lst xs, d, h => by
    cases q : dats xs with
    | none => rw [dat, q] at h; cases h
    | some ds => rw [dat, q] at h; cases h; exact dats_noDict q
  | .fz xs, d, h => by
    cases q : dats xs with
    | none => rw [dat, q] at h; cases h
    | some ds => rw [dat, q] at h; cases h; exact dats_noDict q
  | .cell n, d, h => by cases h
theorem dats_noDict : ∀ {ws : List W} {ds : List PyData}, dats ws = some ds → PyData.hasDictAll ds = false
  | [], ds, h => by cases h; rfl
  | x :: xs, ds, h => by
    cases q : dat x with
    | none => rw [dats, q] at h; cases h
    | some d =>
      cases q2 : dats xs with
      | none => rw [dats, q, q2] at h; cases h
      | some es =>
        rw [dats, q, q2] at h
        cases h
        show (d.hasDict || PyData.hasDictAll es) = false
        rw [dat_noDict q, dats_noDict q2]
        rfl
end
theorem datC_noDict {w : W} {st : Store} {d : PyData} (h : datC w st = some d) : d.hasDict = false := by
  cases w with
  | cell n =>
    cases q : lviewT (.cell n) st with
    | none => rw [datC, q] at h; cases h
    | some xs =>
      cases q2 : dats xs with
      | none => simp only [datC, q, q2, Option.bind, Option.map] at h; cases h
      | some ds =>
        simp only [datC, q, q2, Option.bind, Option.map] at h
        cases h
        exact dats_noDict q2
  | _ => exact dat_noDict h
theorem call_reprD (hgd : X.A.guards = some []) (hu : X.A.units + 64 < cLine) : CallR X (.builtin "repr") (fun vs H Q => (vs = [.non] ∧ Q (.str "None") H) ∨ ∃ v d, vs = [v] ∧ Dp X.K H v d ∧ PyProof.Rows.isDisplay d = true ∧ d.showable = true ∧ d.hasDict = false ∧ d.depth ≤ 60 ∧ d.shown.length ≤ sizeLine ∧ Q (.str d.shown) H) := by
  intro pins s σ H vs us Q I r h
  rcases h with ⟨rfl, q⟩ | ⟨v, d, rfl, hd, h1, h2, h3, h4, h5, q⟩
  · obtain ⟨u, rfl, ru⟩ := vals1 r
    cases ru
    exact P.repr_of_none ⟨.str "None", H, I.tok _, ⟨_, rfl⟩, q⟩
  · obtain ⟨u, rfl, ru⟩ := vals1 r
    obtain ⟨as, rd⟩ := Dp.reads I d v u hd ru
    obtain ⟨adr, rfl⟩ := PyProof.Rows.isRef_of_reads rd h1
    refine repr_of_reads' rd h2 (PyData.noDict_hsm h3) hgd (by omega) (fun _ _ e => e) (fun h' u tk hk => ?_) h5
    exact ⟨.str d.shown, H, I.kept hk, ⟨_, rfl⟩, q⟩
theorem ok_repr {K : PySem.W.Frag} {mg : MG} : CallOk K mg E (fun vs H Q => (vs = [.non] ∧ Q (.str "None") H) ∨ ∃ v d, vs = [v] ∧ Dp K H v d ∧ PyProof.Rows.isDisplay d = true ∧ d.showable = true ∧ d.hasDict = false ∧ d.depth ≤ 60 ∧ d.shown.length ≤ sizeLine ∧ Q (.str d.shown) H) cRepr := by
  intro F G m st H ws vs Q S r P
  unfold cRepr at P
  split at P
  · cases r with
    | cons h r =>
      cases r
      cases h
      exact .inl ⟨rfl, P.ret S (.str _)⟩
  · rename_i w _
    cases r with
    | cons h r =>
      cases r
      split at P
      · rename_i d q
        split at P
        · rename_i z
          exact .inr ⟨_, d, rfl, datC_at S h q, z.1, z.2.1, datC_noDict q, z.2.2.1, z.2.2.2, P.ret S (.str _)⟩
        · exact P.elim
      · exact P.elim
  · exact P.elim
theorem je_repr (hgd : X.A.guards = some []) (hu : X.A.units + 64 < cLine) (hg : Gl X "repr") (hm : X.mg "repr" = none) (ha : JA X E (e :: es) ds) (he : starEach (e :: es) X.env = (false, eval e X.env) :: starEach es X.env := by rfl) (hpl : (backTo pos (starEach es X.env)).any (·.1) = false := by rfl) :
    JE X E (.Call (.Name "repr" p) (e :: es) [] pos) (dCallB cRepr ds) := je_callB (call_reprD hgd hu) ok_repr hg hm (by decide +kernel) ha (by decide) (by decide) he hpl
end
end Sh


set_option maxRecDepth 100000
set_option maxHeartbeats 2000000
namespace Sh
open PySem L2 Evl

/-! ### the law's own def, called from the claim's caller -/
def RunAt (A : Around) (P : Program) (w : World) (K : PySem.W.Frag) (mg : MG) (base : Heap) (fa : Addr) (fd : FuncData) (ps : List Str) (sp : Sp) : Prop :=
  ∀ (outer : List PySem.Env) (s : Shared) (H : Hp) (args : Args) (us : List Value) (vs : List V) (Q : VK), Env0 P w K mg base A outer s H → BindsTo s fd args (ps.zip us) → Vals vs us → sp vs H Q E0 →
    codeAny (model P w) A (.call (.ref fa) args) (CR CX0 outer P w H s Q E0) s
section
variable {P : Program} {w : World} {K : PySem.W.Frag} {mg : MG} {base : Heap} {x qual : Str} {st : Stmt} {f : Addr} {fd : FuncData} {N ps : List Str} {k : Nat}
theorem fn_at {s : S} {A : Around} (F : Fun K x qual st f fd) (hS : FnScope N ps (defScope st)) (hN : ps.length ≤ N.length) (hr : Room (k + 1) A)
    (hb : ∀ (cdv : Value) (outer : List PySem.Env) (sh : Shared) (H : Hp), Room k (A.deeper (PyProof.Rows.envOfC qual (defScope st) sh.heap.objs.size f cdv)) →
      JSs (cxOf CX0 P w K mg base N qual (defScope st) f cdv A outer sh H E0).nox E0 (defBody st) s) :
    RunAt A P w K mg base f fd ps (spM K mg (dBody ps.length N.length s)) := by
  obtain ⟨oc, od, kV, doc, pm, an, cdv, ct, osl, rfl, lk, hcd⟩ := F.ex
  intro outer s0 H args us vs Q e0 bind rv hsp
  have kin : K.In s0.heap := by
    refine e0.mod.kin.keeps ?_
    intro b o e
    exact (e0.bs b o e).1
  have nolim : s0.heap.NoLimit := by
    refine e0.mod.nolimit.keeps ?_
    intro b o e
    exact (e0.bs b o e).1
  have ln : vs.length = ps.length := spM_len hsp
  refine codeAny_call_function hr.depth (kin _ _ lk) rfl
    hS.co hS.gen rfl (PySem.W.codeRec_of kin hcd) ?_
  refine bind _ _ _ _ ?_
  refine wpAny_newFunctionEnv_cells hS.kind ?_ ?_
  · intro y hy
    obtain ⟨n, v⟩ := y
    have z := hS.par n (List.of_mem_zip hy).1
    rcases z with z | z
    · exact Or.inl z
    · exact Or.inr ⟨z, PySem.W.cellsFrom_some _ _ _ (Or.inl z)⟩
  · intro env he s1 ic
    subst he
    refine ⟨nolim.keeps ic.toInCall.keep, codeAny_func ?_⟩
    obtain ⟨t, ht, hq⟩ := body_ok (ps := ps) (Q := Q) rfl rfl (hb cdv outer s0 H (hr.deeper _)) hN hsp
    have inv := inv_start (CX := CX0) (E := E0) hS hr.hd e0 ln rv ic
    have go := ht.run [] s1 _ H _ (inv.wish fun _ _ => False) hq
    refine wpAny_mono go ?_ (fun _ _ z => False.elim z)
    intro fl s2 hs
    have give : ∀ {σ' : L2.St} {H' : Hp} {v : V} {u : Value}, Inv (cxOf CX0 P w K mg base N qual (defScope st) f cdv A outer s0 H E0).nox [] σ' H' s2 →
        RelV v u → Q v H' → CE outer P w H s0 Q u s2 := by
      intro σ' H' v u J r q
      exact ⟨v, H', J.os, J.bare, J.base, J.hok, r, q⟩
    cases fl with
    | next =>
      obtain ⟨σ', H', J, q⟩ := hs
      exact give (v := .non) J rfl q
    | ret u =>
      obtain ⟨v, σ', H', J, r, q⟩ := hs
      exact give J r q
    | brk => exact hs.choose_spec.choose_spec.2.elim
    | cont => exact hs.choose_spec.choose_spec.2.elim
end
theorem fz_ints {K : PySem.W.Frag} {G : Hp} {m : List Addr} : ∀ ns : List Int, RWs K G m (ns.map W.int) (ns.map V.int)
  | [] => .nil
  | n :: ns => .cons (.int n) (fz_ints ns)
/-- from the law's def to the goal that the head leaves -/
theorem end_of {l : PySem.W.OpenLaw} {n : Nat} {q : Program} {loose : List Str} {XP : (Str → Option Value) → Heap → Prop} {YP : World → Heap → Prop} {d : DefRec} {K : Params → PySem.W.Frag} {x : Str} {f : List W → M W}
    (hn : l.most = some n) (hn2 : n ≤ sizeLine) (hdf : d.params.defaults = [])
    (hY : ∀ (w : World) (h : Heap), YP w h → (K w.params).In h)
    (run : ∀ (w : World) (mg : MG) (fa : Addr) (h : Heap), (K w.params).In h → h.Ns mainGlobals mg → mg d.name = some (.ref fa) →
      ∃ fd : FuncData, (∀ (s : Shared) (u : Value), BindsTo s fd ⟨[u], []⟩ [(x, u)]) ∧
        ∀ base : Heap, (K w.params).In base → base.Ns mainGlobals mg → RunAt callerA l.prog w (K w.params) mg base fa fd [x] (spM (K w.params) mg f))
    (law : ∀ ns : List Int, ns.length ≤ n → ∃ st, f [.fz (ns.map W.int)] [] = .ok (.bl true) st) :
    PySem.W.WalkO q loose XP YP l.row.toRowW d [] (fun f vs => PySem.call f vs) := by
  refine Att.attach_call hn hdf ?_
  intro w s₀ s₁ mg mb fa o pm cd doc a vs ns Gr Y ho hd hcd hmg hobj hints hlen hg
  have kin := hY w _ Y
  obtain ⟨fd, hbind, hrun⟩ := run w mg fa _ kin Gr.T.g hmg
  obtain ⟨stL, hlaw⟩ := law ns hlen
  have rvs : Vals (ns.map V.int) vs := vals_ints hints
  have lv : vs.length = ns.length := hints.length.symm ▸ rfl
  -- the script is tracked, unless the module has it
  have core : ∀ H : Hp, (∀ b, H b = none ∨ (b = a ∧ (K w.params).lookup a = none ∧ ∃ ob ys, H b = some (.frz ob (.lst ys)))) → SqL (K w.params) H a (ns.map V.int) → HOk l.prog w H s₁.heap →
      codeAny (model l.prog w) callerA (.call (.ref fa) ⟨[.ref a], []⟩) (fun r s' => r = .ok (.ret (.bool true)) ∧ PySem.OldK s₁.heap s'.heap ∧ s'.os = s₁.os ∧ PyProof.Rows.AllBare s'.gens) s₁ := by
    intro H hO hS hok
    have at0 : ∀ {b : Addr} {ob : Obj}, s₁.heap.get? b = some ob → H b = none → (hidT s₁.heap H).get? b = some ob := fun e n => hidT_get e n
    have dict0 : ∀ {b : Addr} {ob : Obj} {es : Array DictEntry} {ep : Nat}, s₁.heap.get? b = some ob → ob.data = .dict es ep → H b = none := by
      intro b ob es ep e dd
      rcases hO b with z | ⟨z, _, _⟩
      · exact z
      · subst z
        rw [hobj] at e
        cases e
        cases dd
    have ns0 : ∀ {b : Addr} {mm : MG}, s₁.heap.Ns b mm → (hidT s₁.heap H).Ns b mm := by
      intro b mm z
      obtain ⟨ob, es, ep, e, dd, r⟩ := z
      exact ⟨ob, es, ep, at0 e (dict0 e dd), dd, r⟩
    have kin0 : (K w.params).In (hidT s₁.heap H) := by
      intro b ob e
      refine at0 (kin b ob e) ?_
      rcases hO b with z | ⟨z, z2, _⟩
      · exact z
      · subst z
        rw [z2] at e
        cases e
    obtain ⟨mc, c1, c2⟩ := Gr.T.nolimit
    have md : Mod (K w.params) mg (hidT s₁.heap H) := ⟨kin0, ns0 Gr.T.g, ⟨mb, ns0 Gr.T.b, Gr.T.builtins⟩, ⟨mc, ns0 c1, c2⟩⟩
    have e0 : Env0 l.prog w (K w.params) mg (hidT s₁.heap H) callerA [] s₁ H := {
      frames := rfl
      mod := md
      bs := fun b ob e => of_hidT e
      bsz := Nat.le_of_eq (hidT_size _ _)
      funs := trivial
      frf := fun b hb => nomatch hb
      hok := hok
      bare := .of_eq hg }
    have sp : spM (K w.params) mg f [.ref a] H (fun v _ => v = .bl true) E0 := by
      refine ⟨fun _ => none, H, [], [.fz (ns.map W.int)], [], ⟨Ex.refl H, (fun b u z => by cases z), (fun b u z => by cases z), (fun i c b z => by cases z), rfl, (fun i c b z => by cases z), (fun i j b c c' z => by cases z)⟩, .cons (.fz hS (fz_ints ns)) .nil, ?_⟩
      rw [hlaw]
      intro G' m' b H' _ _ r
      cases r
      rfl
    refine codeAny_mono (hrun _ kin0 (ns0 Gr.T.g) [] s₁ H ⟨[.ref a], []⟩ [.ref a] [.ref a] _ e0 (hbind s₁ (.ref a)) (.cons rfl .nil) sp) ?_
    intro r s' h
    cases r with
    | error e => exact h.elim
    | ok fl =>
      cases fl with
      | next => exact h.elim
      | brk => exact h.elim
      | cont => exact h.elim
      | ret u =>
        obtain ⟨v, H', os', bare', un, hok', rr, qv⟩ := h
        have qv : v = .bl true := qv
        subst qv
        obtain rfl : u = Value.bool true := rr
        refine ⟨rfl, PySem.OldK.of_keep fun b ob e => ?_, os', bare'⟩
        rcases hO b with z | ⟨_, _, oz, ys, z⟩
        · exact un.keep b ob e z (fun y => nomatch y) (fun y => nomatch y)
        · obtain ⟨e1, _⟩ := hok b _ z
          obtain ⟨e2, _⟩ := hok' b _ (un.frzs b oz _ z)
          rw [e] at e1
          cases e1
          exact e2
  cases lk : (K w.params).lookup a with
  | some ob =>
    have e := kin a ob lk
    rw [hobj] at e
    cases e
    refine core (fun _ => none) (fun _ => .inl rfl) (.inr ⟨_, vs.toArray, _, lk, rfl, rfl, rfl, ?_, by simpa using rvs⟩) (fun b u z => nomatch z)
    rw [List.size_toArray]
    omega
  | none =>
    refine core (fun b => if b = a then some (.frz { cls := .type "list", data := .seq vs.toArray } (.lst (ns.map V.int))) else none) (fun b => ?_) (.inl (.inr ⟨_, if_pos rfl⟩)) (fun b u z => ?_)
    · by_cases hb : b = a
      · exact .inr ⟨hb, lk, _, _, if_pos hb⟩
      · exact .inl (if_neg hb)
    · by_cases hb : b = a
      · have z := (if_pos hb).symm.trans z
        cases z
        subst hb
        refine ⟨hobj, ?_, vs, _, rvs, hobj⟩
        rw [List.length_map]
        omega
      · have z := (if_neg hb).symm.trans z
        cases z

/-- a def of the text, with its word -/
def Has (P : Program) (w : World) (K : PySem.W.Frag) (mg : MG) (base : Heap) (k : Nat) (x : Str) (ps : List Str) (m : List W → M W) : Prop :=
  ∃ f fd, mg x = some (.ref f) ∧ PySem.W.keepIn K (.ref f) = true ∧ Binds K fd ps [] ∧ FnOk P w K mg base CX0 k f fd ps (spM K mg m)
theorem Has.eq {P : Program} {w : World} {K : PySem.W.Frag} {mg : MG} {base : Heap} {k : Nat} {x : Str} {ps : List Str} {m g : List W → M W} (h : Has P w K mg base k x ps m) (e : ∀ ws st, (m ws st).nox = (g ws st).nox) : Has P w K mg base k x ps g :=
  let ⟨f, fd, h1, h2, h3, h4⟩ := h
  ⟨f, fd, h1, h2, h3, fn_eq h4 e⟩
section
variable {X : Cx} {E : XK} {e : Expr} {es : List Expr} {ds : Env → M (List W)} {p pos : Pos} {k j : Nat} {ps : List Str} {x : Str} {m : List W → M W}
theorem je_def (h : Has X.prog X.w X.K X.mg X.base k x ps m) (hr : Room j X.A) (ha : JA X E (e :: es) ds) (hj : k ≤ j := by decide) (hg : Gl X x := by rfl) (hdb : (x == ("__debug__" : Str)) = false := by decide) (he : starEach (e :: es) X.env = (false, eval e X.env) :: starEach es X.env := by rfl)
    (hpl : (backTo pos (starEach es X.env)).any (·.1) = false := by rfl) : JE X E (.Call (.Name x p) (e :: es) [] pos) (dCall m ds) :=
  let ⟨_, _, h1, h2, h3, h4⟩ := h
  je_call h4 (hr.mono hj) hg h1 h2 h3 ha hdb he hpl
theorem je_def0 (h : Has X.prog X.w X.K X.mg X.base k x ps m) (hr : Room j X.A) (hj : k ≤ j := by decide) (hg : Gl X x := by rfl) (hdb : (x == ("__debug__" : Str)) = false := by decide) : JE X E (.Call (.Name x p) [] [] pos) (dCall m dNil) :=
  let ⟨_, _, h1, h2, h3, h4⟩ := h
  je_call0 h4 (hr.mono hj) hg h1 h2 h3 hdb
end
theorem has_mk {P : Program} {w : World} {K : PySem.W.Frag} {mg : MG} {base : Heap} {x : Str} {st : Stmt} {f : Addr} {fd : FuncData} {N ps : List Str} {k : Nat} {s : S} (F : Fun K x x st f fd) (g : mg x = some (.ref f)) (b : Binds K fd ps []) (hS : FnScope N ps (defScope st)) (hN : ps.length ≤ N.length)
    (hb : ∀ (cdv : Value) (A : Around) (outer : List PySem.Env) (sh : Shared) (H : Hp) (E : XK), Room k (A.deeper (PyProof.Rows.envOfC x (defScope st) sh.heap.objs.size f cdv)) → JSs (cxOf CX0 P w K mg base N x (defScope st) f cdv A outer sh H E).nox E0 (defBody st) s) :
    Has P w K mg base (k + 1) x ps (dBody ps.length N.length s) := ⟨f, fd, g, F.kp, b, fn_ok F hS hN hb⟩
end Sh


set_option maxRecDepth 100000
set_option maxHeartbeats 2000000
namespace Sh
open PySem L2 Evl

/-! ### short names -/
abbrev oLt : W → W → M W := oI fun i j => .bl (decide (i < j))
abbrev oLe : W → W → M W := oI fun i j => .bl (decide (i ≤ j))
abbrev oGt : W → W → M W := oI fun i j => .bl (decide (j < i))
abbrev oGe : W → W → M W := oI fun i j => .bl (decide (j ≤ i))
abbrev dAdd (a b : Env → M W) := dOp (oI fun i j => .int (i + j)) a b
abbrev dSub (a b : Env → M W) := dOp (oI fun i j => .int (i - j)) a b
abbrev dMul (a b : Env → M W) := dOp (oIC CMul fun i j => .int (i * j)) a b
abbrev dMod (a b : Env → M W) := dOp (oIC (fun _ j => 0 < j) fun i j => .int (i % j)) a b
abbrev dDiv (a b : Env → M W) := dOp (oIC CDiv fun i j => .int (i / j)) a b
abbrev dLt (a b : Env → M W) := dOp oLt a b
abbrev dLe (a b : Env → M W) := dOp oLe a b
abbrev dGt (a b : Env → M W) := dOp oGt a b
abbrev dGe (a b : Env → M W) := dOp oGe a b
abbrev dEq (a b : Env → M W) := dOp oEq a b
abbrev dNe (a b : Env → M W) := dOp oNe a b
abbrev dIn (a b : Env → M W) := dOp (oIn false) a b
abbrev dNotIn (a b : Env → M W) := dOp (oIn true) a b
abbrev dIsN (a b : Env → M W) := dOp oIsN a b
abbrev dNotN (a b : Env → M W) := dOp oNotN a b
def fuel : Env → Store → Nat := fun _ _ => 1000000
section
variable {K : PySem.W.Frag} {mg : MG} {E : XK}
theorem ok_lt : OpOk K mg E (rI0 fun i j => .bl (decide (i < j))) oLt := ok_I fun i j _ _ => .bl _
theorem ok_le : OpOk K mg E (rI0 fun i j => .bl (decide (i ≤ j))) oLe := ok_I fun i j _ _ => .bl _
theorem ok_gt : OpOk K mg E (rI0 fun i j => .bl (decide (j < i))) oGt := ok_I fun i j _ _ => .bl _
theorem ok_ge : OpOk K mg E (rI0 fun i j => .bl (decide (j ≤ i))) oGe := ok_I fun i j _ _ => .bl _
end
section
variable {X : Cx} {E : XK} {a b c e o : Expr} {es : List Expr} {da db dc d dO : Env → M W} {ds : Env → M (List W)} {p pos apos cpos : Pos}
theorem je_append (ho : JE X E o dO) (ha : JA X E (e :: es) ds) (hbase : attributeBase o "append" X.env (eval o X.env) = eval o X.env := by rfl)
    (hfew : ((backTo cpos (starEach (e :: es) X.env)).all (fun x => !x.1) && (backToKw cpos (keywordEach [] X.env)).all (fun x => x.1.isSome)
      && decide ((e :: es).length + ([] : List Keyword).length + (if ([] : List Keyword).isEmpty then 0 else 1) < 30)) = true := by rfl)
    (hline : (apos.endLine == cpos.line) = true := by rfl) (hs : starEach (e :: es) X.env = (false, eval e X.env) :: starEach es X.env := by rfl) (hplain : (backTo cpos (starEach es X.env)).any (·.1) = false := by rfl) :
    JE X E (.Call (.Attribute o "append" apos) (e :: es) [] cpos) (dBM tyL mAppend dO ds) := je_bm PySem.F.plainAttrs_list PySem.F.slot_list_append PySem.F.type_list_append mt_append tyL_ok ok_append ho ha hbase hfew hline hs hplain
theorem je_popAt (ho : JE X E o dO) (ha : JA X E (e :: es) ds) (hbase : attributeBase o "pop" X.env (eval o X.env) = eval o X.env := by rfl)
    (hfew : ((backTo cpos (starEach (e :: es) X.env)).all (fun x => !x.1) && (backToKw cpos (keywordEach [] X.env)).all (fun x => x.1.isSome)
      && decide ((e :: es).length + ([] : List Keyword).length + (if ([] : List Keyword).isEmpty then 0 else 1) < 30)) = true := by rfl)
    (hline : (apos.endLine == cpos.line) = true := by rfl) (hs : starEach (e :: es) X.env = (false, eval e X.env) :: starEach es X.env := by rfl) (hplain : (backTo cpos (starEach es X.env)).any (·.1) = false := by rfl) :
    JE X E (.Call (.Attribute o "pop" apos) (e :: es) [] cpos) (dBM tyL mPopAt dO ds) := je_bm PySem.F.plainAttrs_list PySem.F.slot_list_pop PySem.F.type_list_pop mt_popAt tyL_ok ok_popAt ho ha hbase hfew hline hs hplain
theorem je_pop (ho : JE X E o dO) (hbase : attributeBase o "pop" X.env (eval o X.env) = eval o X.env := by rfl) (hline : (apos.endLine == cpos.line) = true := by rfl) :
    JE X E (.Call (.Attribute o "pop" apos) [] [] cpos) (dBM0 tyL mPop dO) := je_bm0 PySem.F.plainAttrs_list PySem.F.slot_list_pop PySem.F.type_list_pop mt_pop tyL_ok ok_pop ho hbase hline
theorem je_index (ho : JE X E o dO) (ha : JA X E (e :: es) ds) (hbase : attributeBase o "index" X.env (eval o X.env) = eval o X.env := by rfl)
    (hfew : ((backTo cpos (starEach (e :: es) X.env)).all (fun x => !x.1) && (backToKw cpos (keywordEach [] X.env)).all (fun x => x.1.isSome)
      && decide ((e :: es).length + ([] : List Keyword).length + (if ([] : List Keyword).isEmpty then 0 else 1) < 30)) = true := by rfl)
    (hline : (apos.endLine == cpos.line) = true := by rfl) (hs : starEach (e :: es) X.env = (false, eval e X.env) :: starEach es X.env := by rfl) (hplain : (backTo cpos (starEach es X.env)).any (·.1) = false := by rfl) :
    JE X E (.Call (.Attribute o "index" apos) (e :: es) [] cpos) (dBM tyL mIndex dO ds) := je_bm PySem.F.plainAttrs_list PySem.F.slot_list_index PySem.F.type_list_index mt_index tyL_ok ok_index ho ha hbase hfew hline hs hplain

/-! ### not, chains, truth -/
def oNot : W → M W := fun w st => match w with
  | .bl b => .ok (.bl (!b)) st
  | _ => .stuck
theorem je_not (h : JE X E a da) : JE X E (.UnaryOp .Not a pos) (dUn oNot da) := by
  refine weakE (pe_not h) ?_
  rintro σ H Q ⟨F, G, m, env, st, S, R, P⟩
  refine ⟨F, G, m, env, st, S, R, P.bind.imp fun v H1 ⟨G1, m1, w, st1, e1, S1, r1, P1⟩ => ?_⟩
  unfold oNot at P1
  split at P1
  · cases r1
    exact ⟨_, rfl, P1.ret S1 (.bl _)⟩
  · exact P1.elim
/-- a < b < c -/
def dChain (f g : W → W → M W) (a b c : Env → M W) : Env → M W := fun env st => (a env st).bind fun x st => (b env st).bind fun y st => (f x y st).bind fun z st => match z with
  | .bl true => (c env st).bind fun w st => g y w st
  | .bl false => .ok (.bl false) st
  | _ => .stuck
theorem chain_read {K : PySem.W.Frag} {mg : MG} {r r' : R2} {f g : W → W → M W} (hf : OpOk K mg E r f) (hg : OpOk K mg E r' g) {σ : L2.St} {H : Hp} {Q : VK} (h : tE K mg E (dChain f g da db dc) σ H Q) :
    tE K mg E da σ H fun x H1 => tE K mg E db σ H1 fun y H2 => r x y H2 fun z H3 => ∃ k, z = .bl k ∧ if k = true then tE K mg E dc σ H3 fun w H4 => r' y w H4 Q else Q (.bl false) H3 := by
  obtain ⟨F, G, m, env, st, S, R, P⟩ := h
  refine ⟨F, G, m, env, st, S, R, (P.bind (R := RW)).imp fun v1 H1 ⟨G1, m1, x, st1, e1, S1, r1, P1⟩ => ?_⟩
  refine ⟨F, G1, m1, env, st1, S1, R.mono e1, (P1.bind (R := RW)).imp fun v2 H2 ⟨G2, m2, y, st2, e2, S2, r2, P2⟩ => ?_⟩
  refine hf F G2 m2 st2 H2 x y v1 v2 _ S2 (RW.mono e2 r1) r2 ((P2.bind (R := RW)).imp fun v3 H3 ⟨G3, m3, z, st3, e3, S3, r3, P3⟩ => ?_)
  split at P3
  · cases r3
    refine ⟨true, rfl, ?_⟩
    rw [if_pos rfl]
    exact ⟨F, G3, m3, env, st3, S3, ((R.mono e1).mono e2).mono e3, (P3.bind (R := RW)).imp fun v4 H4 ⟨G4, m4, w, st4, e4, S4, r4, P4⟩ => hg F G4 m4 st4 H4 y w v2 v4 Q S4 (RW.mono e4 (RW.mono e3 r2)) r4 P4⟩
  · cases r3
    exact ⟨false, rfl, P3.ret S3 (.bl false)⟩
  · exact P3.elim
theorem je_chain {op op' : CmpOp} {r r' : R2} {f g : W → W → M W} (ho : OpR X (compareOp op) r) (hf : OpOk X.K X.mg E r f) (ho' : OpR X (compareOp op') r') (hg : OpOk X.K X.mg E r' g) (ha : JE X E a da) (hb : JE X E b db) (hc : JE X E c dc) (hmk : lastMarks [op, op'] [b, c] = false := by rfl) :
    JE X E (.Compare a [op, op'] [b, c] pos) (dChain f g da db dc) := weakE (pe_chain ho ho' ha hb hc hmk) fun σ H Q h => chain_read hf hg h
theorem jt_chain {op op' : CmpOp} {r r' : R2} {f g : W → W → M W} (ho : OpR X (compareOp op) r) (hf : OpOk X.K X.mg E r f) (ho' : OpR X (compareOp op') r') (hg : OpOk X.K X.mg E r' g) (ha : JE X E a da) (hb : JE X E b db) (hc : JE X E c dc) (hmk : lastMarks [op, op'] [b, c] = false := by rfl) :
    JT X E (.Compare a [op, op'] [b, c] pos) (dB (dChain f g da db dc)) := by
  refine weakT (pt_chain ho ho' ha hb hc hmk) ?_
  rintro σ H Q ⟨F, G, m, env, st, S, R, P⟩
  have q : tE X.K X.mg E (dChain f g da db dc) σ H fun x H1 => ∃ k, x = .bl k ∧ Q k H1 := ⟨F, G, m, env, st, S, R, (P.bind (R := RW)).imp fun v H1 ⟨G1, m1, w, st1, e1, S1, r1, P1⟩ => tru_B F G1 m1 st1 H1 w v Q S1 r1 P1⟩
  exact chain_read hf hg q
/-- by truth -/
def asTru : W → M Bool := fun w st => match w with
  | .non => .ok false st
  | .bl b => .ok b st
  | .int i => .ok (i != 0) st
  | w => match sview w st with
    | some xs => .ok (!xs.isEmpty) st
    | none => .stuck
def dTru (d : Env → M W) : Env → M Bool := fun env st => (d env st).bind asTru
theorem empty_of {K : PySem.W.Frag} {G : Hp} {m : List Addr} {xs : List W} {vs : List V} (r : RWs K G m xs vs) : (!xs.isEmpty) = !vs.isEmpty := by
  cases r <;> rfl
theorem tru_W {K : PySem.W.Frag} {mg : MG} : TruOk K mg E (fun x H Q => ∃ k, TruV K x H k ∧ Q k H) asTru := by
  intro F G m st H x v Q S r P
  unfold asTru at P
  split at P
  · cases r
    exact ⟨_, rfl, P.ret S rfl⟩
  · cases r
    exact ⟨_, rfl, P.ret S rfl⟩
  · cases r
    exact ⟨_, rfl, P.ret S rfl⟩
  · split at P
    · rename_i xs q
      obtain ⟨a, vs, rfl, h1, h2⟩ := sview_at S r q
      rw [empty_of h2] at P
      refine ⟨_, ?_, P.ret S rfl⟩
      rcases h1 with h1 | h1
      · exact .inl ⟨_, h1, rfl⟩
      · exact .inr (.inl ⟨_, h1, rfl⟩)
    · exact P.elim
theorem jt_tru (h : JE X E e d) (he : ∀ whole, isTrue e X.env whole = (do let v ← whole; standAt e.pos; holding [v] (truthy v)) := by intro _; rfl) : JT X E e (dTru d) := jt_of (t := fun σ H Q => tE X.K X.mg E d σ H fun x H' => ∃ k, TruV X.K x H' k ∧ Q k H') (r := fun x H' Q => ∃ k, TruV X.K x H' k ∧ Q k H') (pt_truth h he) tru_W

/-! ### enumerate, zip -/
def enW : Nat → List W → List W
  | _, [] => []
  | i, x :: xs => .tup [.int (i : Int), x] :: enW (i + 1) xs
theorem enW_len : ∀ {xs : List W} {i : Nat}, (enW i xs).length = xs.length
  | [], _ => rfl
  | _ :: xs, i => by unfold enW; rw [List.length_cons, List.length_cons, enW_len]
theorem enW_get : ∀ {xs : List W} {i j : Nat} {x : W}, xs[j]? = some x → (enW i xs)[j]? = some (.tup [.int ((i + j : Nat) : Int), x])
  | y :: xs, i, 0, x, h => by
    cases h
    rfl
  | y :: xs, i, j + 1, x, h => by
    unfold enW
    have e : i + 1 + j = i + (j + 1) := by omega
    rw [List.getElem?_cons_succ, enW_get (i := i + 1) (j := j) (by simpa using h), e]
def iEn (ds : Env → M (List W)) : Env → M It' := fun env st => (ds env st).bind fun ws st => match ws with
  | [.lst xs] => .ok ⟨enW 0 xs, fun _ => True⟩ st
  | [.fz xs] => .ok ⟨enW 0 xs, fun _ => True⟩ st
  | [.cell n] => match lcell st n with
    | some xs => .ok ⟨enW 0 xs, fun st => lcell st n = some xs⟩ st
    | none => .stuck
  | _ => .stuck
theorem walks_enum {K : PySem.W.Frag} {mg : MG} {G : Hp} {m : List Addr} {xs : List W} {adr : Addr} {ok : Store → Prop}
    (h : ∀ H F G1 m1 st, Ext G m G1 m1 → Sim K mg F G1 m1 st H → ok st → ∃ vs, SqL K H adr vs ∧ RWs K G1 m1 xs vs) : Walks K mg G m (enW 0 xs) ok (Ite K adr) where
  go := fun i H F G1 m1 st e S k hi => by
    obtain ⟨vs, h1, h2⟩ := h H F G1 m1 st e S k
    rw [enW_len] at hi
    exact ⟨vs, vs[i]'(by rw [← h2.length]; exact hi), h1, List.getElem?_eq_getElem _⟩
  stop := fun i H F G1 m1 st e S k hi => by
    obtain ⟨vs, h1, h2⟩ := h H F G1 m1 st e S k
    rw [enW_len] at hi
    exact ⟨vs, h1, by rw [← h2.length]; exact hi⟩
  yld := fun i H x H' F G1 m1 st e S k hi hy => by
    obtain ⟨vs, h1, h2⟩ := h H F G1 m1 st e S k
    obtain ⟨T, v, rfl, hT, rfl, h3⟩ := hy
    obtain ⟨w, h4, h5⟩ := h2.get' (h3 vs h1)
    have hg := fresh_back S.ex hT
    refine ⟨.tup [.int ((0 + i : Nat) : Int), w], _, enW_get h4, Ex.new hg, S.newG hT, .tup upd_same (.cons ?_ (.cons (h5.mono (Ext.new hg)) .nil))⟩
    rw [Nat.zero_add]
    exact .int _
theorem ji_enum {elts : List Expr} {kk : Nat} {tpos : Pos} (hg : Gl X "enumerate") (hm : X.mg "enumerate" = none) (ha : JA X E [e] ds) (hs : starEach [e] X.env = [(false, eval e X.env)] := by rfl) :
    JI X E (.Tuple elts kk tpos) (.Call (.Name "enumerate" p) [e] [] pos) (iEn ds) := by
  refine weakI (pi_enum hg hm ha hs) ?_
  rintro σ H Q ⟨F, G, m, env, st, S, R, P⟩
  refine ⟨F, G, m, env, st, S, R, (P.bind (R := RA)).imp fun vs H1 ⟨G1, m1, ws, st1, e1, S1, r1, P1⟩ => ?_⟩
  split at P1
  · cases r1 with
    | cons h r =>
      cases r
      cases h with
      | @lst p us _ h1 h2 => exact ⟨p, us, rfl, .inl (.inl (S1.ex _ _ h1)), P1.ret S1 (walks_enum fun H F G1 m1 st e S k => ⟨us, .inl (.inl (S.ex _ _ (e.ex _ _ h1))), h2.mono e⟩)⟩
  · cases r1 with
    | cons h r =>
      cases r
      cases h with
      | @fz p us _ h1 h2 => exact ⟨p, us, rfl, ex_l S1.ex h1, P1.ret S1 (walks_enum fun H F G1 m1 st e S k => ⟨us, ex_l S.ex (ex_l e.ex h1), h2.mono e⟩)⟩
  · rename_i n
    split at P1
    · rename_i xs q
      cases r1 with
      | cons h r =>
        cases r
        cases h with
        | @cell _ adr hm =>
          obtain ⟨g0, us, h2, h3⟩ := S1.ok n _ adr (lcell_some q) hm
          refine ⟨adr, us, rfl, .inl (.inl h2), P1.ret S1 (walks_enum fun H F G1 m1 st e S k => ?_)⟩
          obtain ⟨_, us', h4, h5⟩ := S.ok n _ adr (lcell_some k) (e.mm _ _ hm)
          exact ⟨us', .inl (.inl h4), h5⟩
    · exact P1.elim
  · exact P1.elim

/-! ### sorted, pairs of ints -/
def leP (x y : Int × Int) : Bool := decide (x.1 < y.1 ∨ (x.1 = y.1 ∧ x.2 ≤ y.2))
def pairs? : List W → Option (List (Int × Int))
  | [] => some []
  | .tup [.int i, .int j] :: xs => (pairs? xs).map fun r => (i, j) :: r
  | _ => none
def tupP (x : Int × Int) : W := .tup [.int x.1, .int x.2]
def cSortedP : List W → M (List W) := fun ws st => match ws with
  | [w] => match lview w st with
    | some xs => match pairs? xs with
      | some ps => .ok ((ps.mergeSort leP).map tupP) st
      | none => .stuck
    | none => .stuck
  | _ => .stuck
theorem pairs_map : ∀ {xs : List W} {ps : List (Int × Int)}, pairs? xs = some ps → xs = ps.map tupP
  | [], ps, h => by cases h; rfl
  | x :: xs, ps, h => by
    unfold pairs? at h
    split at h
    · rename_i q
      cases q
    · rename_i i j ys q
      cases q
      cases h2 : pairs? xs with
      | none => rw [h2] at h; cases h
      | some r =>
        rw [h2] at h
        cases h
        rw [pairs_map h2]
        rfl
    · cases h
theorem leP_trans (a b c : Int × Int) (h1 : leP a b = true) (h2 : leP b c = true) : leP a c = true := by
  simp only [leP, decide_eq_true_eq] at *
  omega
theorem leP_total (a b : Int × Int) : (leP a b || leP b a) = true := by
  simp only [leP, Bool.or_eq_true, decide_eq_true_eq]
  omega
theorem leP_anti (a b : Int × Int) (h1 : leP a b = true) (h2 : leP b a = true) : a = b := by
  simp only [leP, decide_eq_true_eq] at *
  exact Prod.ext (by omega) (by omega)
theorem sortP_uniq {xs ys : List (Int × Int)} (hp : ys.Perm xs) (hs : ys.Pairwise fun a b => leP a b = true) : ys = xs.mergeSort leP :=
  List.Perm.eq_of_pairwise (fun a b _ _ h1 h2 => leP_anti a b h1 h2) hs (List.pairwise_mergeSort leP_trans leP_total xs) (hp.trans (List.mergeSort_perm xs leP).symm)
def keyO : Option HO → Int × Int
  | some (.tup [.int i, .int j]) => (i, j)
  | _ => (0, 0)
def keyP (H : Hp) : V → Int × Int
  | .ref t => keyO (H t)
  | _ => (0, 0)
theorem ok_sortedP {K : PySem.W.Frag} {mg : MG} : CallOkF K mg E (rSortedPO K) cSortedP := by
  intro F G m st H ws vs Q S r P
  unfold cSortedP at P
  split at P
  · cases r with
    | cons h r =>
      cases r
      split at P
      · rename_i xs q
        split at P
        · rename_i ps q2
          obtain ⟨a, us, rfl, h1, h2⟩ := lview_at S h q
          have hx := pairs_map q2
          subst hx
          -- what the key says
          have key : ∀ {ps : List (Int × Int)} {us : List V}, RWs K G m (ps.map tupP) us → us.map (keyP H) = ps ∧ ∀ u ∈ us, (∃ t, u = V.ref t ∧ H t = some (.tup [.int (keyP H u).1, .int (keyP H u).2])) ∧ RW K G m (tupP (keyP H u)) u := by
            intro ps
            induction ps with
            | nil =>
              intro us r
              cases r
              exact ⟨rfl, fun u hu => nomatch hu⟩
            | cons p ps ih =>
              intro us r
              rw [List.map_cons] at r
              generalize hx : tupP p = x at r
              cases r with
              | @cons _ u _ us r1 r2 =>
                obtain ⟨ih1, ih2⟩ := ih r2
                subst hx
                have h0 := r1
                unfold tupP at r1
                cases r1 with
                | @tup t ws _ g1 g2 =>
                  cases g2 with
                  | cons a1 g3 =>
                    cases g3 with
                    | cons a2 g4 =>
                      cases g4
                      cases a1
                      cases a2
                      have hk : keyP H (.ref t) = p := by
                        show keyO (H t) = p
                        rw [S.ex _ _ g1]
                        rfl
                      refine ⟨by rw [List.map_cons, hk, ih1], fun u hu => ?_⟩
                      rcases List.mem_cons.mp hu with rfl | hu
                      · rw [hk]
                        exact ⟨⟨t, rfl, S.ex _ _ g1⟩, h0⟩
                      · exact ih2 u hu
          obtain ⟨k1, k2⟩ := key h2
          refine ⟨a, us, keyP H, rfl, h1, fun u hu => (k2 u hu).1, fun ys p hsr hst hp => ?_⟩
          have perm : ys.Perm us := hst.perm
          have e : ys.map (keyP H) = ps.mergeSort leP := by
            refine sortP_uniq ?_ ?_
            · have := perm.map (keyP H)
              rw [k1] at this
              exact this
            · refine List.pairwise_map.mpr (hsr.imp fun {x y} hxy => ?_)
              have z := SrtO.lexB_no.mp hxy
              simp only [leP, decide_eq_true_eq]
              omega
          refine P.ret S hp ?_
          rw [← e]
          have rel : ∀ {ys : List V}, (∀ u ∈ ys, u ∈ us) → RWs K G m ((ys.map (keyP H)).map tupP) ys := by
            intro ys
            induction ys with
            | nil => intro _; exact .nil
            | cons y ys ih => intro hy; exact .cons (k2 y (hy y List.mem_cons_self)).2 (ih fun u hu => hy u (List.mem_cons_of_mem _ hu))
          exact rel fun u hu => perm.mem_iff.mp hu
        · exact P.elim
      · exact P.elim
  · exact P.elim
theorem jf_sortedP (hg : Gl X "sorted") (hm : X.mg "sorted" = none) (ha : JA X E (e :: es) ds) (he : starEach (e :: es) X.env = (false, eval e X.env) :: starEach es X.env := by rfl) (hpl : (backTo pos (starEach es X.env)).any (·.1) = false := by rfl) :
    JF X E (.Call (.Name "sorted" p) (e :: es) [] pos) (dCallF cSortedP ds) := jf_callB cr_sortedPO ok_sortedP hg hm (by decide +kernel) ha (by decide) (by decide) he hpl
end
end Sh


set_option maxRecDepth 100000
set_option maxHeartbeats 4000000
namespace Sh
open PySem L2 Evl

/-! ### to reckon with -/
theorem shaped_int (i : Int) : SeqAt.shaped (.int i) = true := by simp [SeqAt.shaped, PyData.canLay0, PyData.depth]
@[simp] theorem oEq_int (a b : Int) (st : Store) : oEq (.int a) (.int b) st = .ok (.bl (decide (a = b))) st := rfl
@[simp] theorem oNe_int (a b : Int) (st : Store) : oNe (.int a) (.int b) st = .ok (.bl (!decide (a = b))) st := rfl
@[simp] theorem oEq_str (a b : Str) (st : Store) : oEq (.str a) (.str b) st = .ok (.bl (decide (a = b))) st := rfl
@[simp] theorem oNe_str (a b : Str) (st : Store) : oNe (.str a) (.str b) st = .ok (.bl (!decide (a = b))) st := rfl
@[simp] theorem dVar_zero (w : W) (env : Env) (st : Store) : dVar 0 (some w :: env) st = .ok w st := rfl
@[simp] theorem dVar_succ (i : Nat) (o : Option W) (env : Env) (st : Store) : dVar (i + 1) (o :: env) st = dVar i env st := rfl
@[simp] theorem dC_at (w : W) (env : Env) (st : Store) : dC w env st = .ok w st := rfl
@[simp] theorem dNil_at (env : Env) (st : Store) : dNil env st = .ok [] st := rfl
@[simp] theorem oI_at (g : Int → Int → W) (i j : Int) (st : Store) : oI g (.int i) (.int j) st = .ok (g i j) st := rfl
theorem oIC_at {c : Int → Int → Prop} [∀ i j, Decidable (c i j)] {g : Int → Int → W} {i j : Int} {st : Store} (h : c i j) : oIC c g (.int i) (.int j) st = .ok (g i j) st := if_pos h
theorem cmul {i j : Int} (h : -(2 ^ 64) < j ∧ j < 2 ^ 64) : CMul i j := .inr h
@[simp] theorem asB_at (b : Bool) (st : Store) : asB (.bl b) st = .ok b st := rfl
@[simp] theorem cInt_int (i : Int) (st : Store) : cInt [.int i] st = .ok (.int i) st := rfl
@[simp] theorem cInt_bl (b : Bool) (st : Store) : cInt [.bl b] st = .ok (.int (if b then 1 else 0)) st := rfl
@[simp] theorem cAbs_int (i : Int) (st : Store) : cAbs [.int i] st = .ok (.int (if i < 0 then -i else i)) st := rfl
theorem ix_at {w x : W} {xs : List W} {i : Int} {st : Store} (h : sview w st = some xs) (hi : 0 ≤ i) (hx : xs[i.toNat]? = some x) : oIx w (.int i) st = .ok x st := by
  have hl := (List.getElem?_eq_some_iff.mp hx).1
  have e : L2.atI xs i = some x := by
    unfold L2.atI ixN
    rw [if_pos hi, if_pos (by omega)]
    exact hx
  unfold oIx
  rw [h]
  simp only [e]
theorem cLen_at {w : W} {xs : List W} {st : Store} (h : sview w st = some xs) : cLen [w] st = .ok (.int xs.length) st := by
  unfold cLen
  cases w with
  | str x => cases h
  | _ => simp only [h]
@[simp] theorem sview_cell (n : Nat) (st : Store) : sview (.cell n) st = lcell st n := rfl
@[simp] theorem sview_fz (xs : List W) (st : Store) : sview (.fz xs) st = some xs := rfl
@[simp] theorem sview_lst (xs : List W) (st : Store) : sview (.lst xs) st = some xs := rfl
@[simp] theorem sview_tup (xs : List W) (st : Store) : sview (.tup xs) st = some xs := rfl
@[simp] theorem lview_cell (n : Nat) (st : Store) : lview (.cell n) st = lcell st n := rfl
@[simp] theorem lview_fz (xs : List W) (st : Store) : lview (.fz xs) st = some xs := rfl
@[simp] theorem lview_lst (xs : List W) (st : Store) : lview (.lst xs) st = some xs := rfl
@[simp] theorem lviewT_cell (n : Nat) (st : Store) : lviewT (.cell n) st = lcell st n := rfl
@[simp] theorem lviewT_lst (xs : List W) (st : Store) : lviewT (.lst xs) st = some xs := rfl
theorem lcell_lt {st : Store} {n : Nat} {xs : List W} (h : lcell st n = some xs) : n < st.length := (List.getElem?_eq_some_iff.mp (lcell_some h)).1
theorem lcell_set {st : Store} {n : Nat} {xs : List W} (h : n < st.length) : lcell (st.set n (.lst xs)) n = some xs := by
  unfold lcell
  rw [List.getElem?_set_self h]
theorem lcell_set_ne {st : Store} {n k : Nat} {c : C} (h : n ≠ k) : lcell (st.set n c) k = lcell st k := by
  unfold lcell
  rw [List.getElem?_set_ne h]
theorem lcell_app {st r : Store} {n : Nat} (h : n < st.length) : lcell (st ++ r) n = lcell st n := by
  unfold lcell
  rw [List.getElem?_append_left h]
theorem lcell_new {st r : Store} {xs : List W} : lcell (st ++ .lst xs :: r) st.length = some xs := by
  unfold lcell
  rw [List.getElem?_append_right (Nat.le_refl _), Nat.sub_self]
  rfl

theorem cm1 (i : Int) : CMul i 48271 := .inr (by decide)
theorem cm2 (i : Int) : CMul i 69621 := .inr (by decide)
theorem cm3 (i : Int) : CMul i 7919 := .inr (by decide)
theorem cm4 (i : Int) : CMul i 16807 := .inr (by decide)
/-! ### the law's state and its draws -/
noncomputable def b_state : S :=
  (sSeq (sSet 1 (dC (.int 0)))
  (sSeq (sSet 2 (dC (.int 0)))
  (sSeq (sIf (dB (dGt (dCallB cLen (dCons (dVar 0) dNil)) (dC (.int 0))))
  (sSeq (sSet 1 (dMod (dCallB cInt (dCons (dOp oIx (dVar 0) (dC (.int 0))) dNil)) (dC (.int 2))))
  (sSet 2 (dOp oIx (dPure (dLst (dCons (dDiv (dCallB cAbs (dCons (dOp oIx (dVar 0) (dC (.int 0))) dNil)) (dC (.int 2))) (dCons (dC (.int 1)) dNil)))) (dVar 1))))
  sNil)
  (sRet (dCell (dLst (dCons (dVar 0) (dCons (dVar 2) (dCons (dC (.int 1)) (dCons (dVar 1) (dCons (dPure (dLst dNil)) (dCons (dC (.int 0)) (dCons (dC (.int 0)) (dCons (dC (.int 0)) dNil))))))))))))))
noncomputable def m_state : List W → M W := dBody 1 3 b_state
noncomputable def b_take : S :=
  (sSeq (sIf (dB (dEq (dOp oIx (dVar 0) (dC (.int 3))) (dC (.int 1))))
  (sSeq (sSet 2 (dOp oIx (dOp oIx (dVar 0) (dC (.int 0))) (dMod (dCallB cInt (dCons (dOp oIx (dVar 0) (dC (.int 2))) dNil)) (dCallB cLen (dCons (dOp oIx (dVar 0) (dC (.int 0))) dNil)))))
  (sSeq (sAsg (gAt (dVar 0) (dC (.int 1))) (dMod (dCallB cInt (dCons (dAdd (dAdd (dAdd (dMul (dOp oIx (dVar 0) (dC (.int 1))) (dC (.int 48271))) (dMul (dVar 2) (dC (.int 69621)))) (dMul (dOp oIx (dVar 0) (dC (.int 2))) (dC (.int 7919)))) (dC (.int 11))) dNil)) (dC (.int 2147483647))))
  (sSeq (sAsg (gAt (dVar 0) (dC (.int 2))) (dAdd (dOp oIx (dVar 0) (dC (.int 2))) (dC (.int 1))))
  (sRet (dMod (dMod (dCallB cInt (dCons (dAdd (dMul (dOp oIx (dVar 0) (dC (.int 1))) (dC (.int 16807))) (dC (.int 5))) dNil)) (dC (.int 2147483629))) (dVar 1))))))
  sNil)
  (sSeq (sIf (dB (dEq (dOp oIx (dVar 0) (dC (.int 1))) (dC (.int 0))))
  (sSeq (sIf (dB (dGe (dOp oIx (dVar 0) (dC (.int 2))) (dCallB cLen (dCons (dOp oIx (dVar 0) (dC (.int 0))) dNil))))
  (sRet (dC (.int 0)))
  sNil)
  (sSeq (sAsg (gAt (dVar 0) (dC (.int 1))) (dCallB cAbs (dCons (dOp oIx (dOp oIx (dVar 0) (dC (.int 0))) (dOp oIx (dVar 0) (dC (.int 2)))) dNil)))
  (sAsg (gAt (dVar 0) (dC (.int 2))) (dAdd (dOp oIx (dVar 0) (dC (.int 2))) (dC (.int 1))))))
  sNil)
  (sSeq (sSet 3 (dMod (dCallB cInt (dCons (dOp oIx (dVar 0) (dC (.int 1))) dNil)) (dVar 1)))
  (sSeq (sAsg (gAt (dVar 0) (dC (.int 1))) (dDiv (dOp oIx (dVar 0) (dC (.int 1))) (dVar 1)))
  (sRet (dVar 3))))))
noncomputable def m_take : List W → M W := dBody 2 4 b_take

def stL (ns : List Int) (rest pos mixed : Int) : List W := [.fz (ns.map W.int), .int rest, .int pos, .int mixed, .lst [], .int 0, .int 0, .int 0]
/-- the cell holds a state of the script -/
def StOk (ns : List Int) (st : Store) (n : Nat) : Prop := ∃ rest pos mixed, lcell st n = some (stL ns rest pos mixed) ∧ 0 ≤ rest ∧ 1 ≤ pos ∧ ((mixed = 1 ∧ ns ≠ []) ∨ mixed = 0)
theorem StOk.lt {ns : List Int} {st : Store} {n : Nat} (h : StOk ns st n) : n < st.length := let ⟨_, _, _, h, _⟩ := h; lcell_lt h
section
variable {ns : List Int} {rest pos mixed : Int} {st : Store} {n : Nat}
theorem st_0 (h : lcell st n = some (stL ns rest pos mixed)) : oIx (.cell n) (.int 0) st = .ok (.fz (ns.map W.int)) st := ix_at h (by decide) rfl
theorem st_1 (h : lcell st n = some (stL ns rest pos mixed)) : oIx (.cell n) (.int 1) st = .ok (.int rest) st := ix_at h (by decide) rfl
theorem st_2 (h : lcell st n = some (stL ns rest pos mixed)) : oIx (.cell n) (.int 2) st = .ok (.int pos) st := ix_at h (by decide) rfl
theorem st_3 (h : lcell st n = some (stL ns rest pos mixed)) : oIx (.cell n) (.int 3) st = .ok (.int mixed) st := ix_at h (by decide) rfl
theorem gAt_at {o ix : Env → M W} {w : W} {env : Env} {st st1 st2 : Store} {n j : Nat} {xs : List W} {k : Int} (ho : o env st = .ok (.cell n) st1) (hi : ix env st1 = .ok (.int k) st2) (hl : lcell st2 n = some xs) (hk : ixN xs.length k = some j) :
    gAt o ix w env st = .ok env (st2.set n (.lst (xs.set j w))) := by
  unfold gAt
  rw [ho]
  simp only [Out.bind_ok, hi, hl, hk]
theorem put_1 {env : Env} {r : Int} (h : lcell st n = some (stL ns rest pos mixed)) : gAt (dVar 0) (dC (.int 1)) (.int r) (some (.cell n) :: env) st = .ok (some (.cell n) :: env) (st.set n (.lst (stL ns r pos mixed))) := gAt_at (j := 1) rfl rfl h rfl
theorem put_2 {env : Env} {r : Int} (h : lcell st n = some (stL ns rest pos mixed)) : gAt (dVar 0) (dC (.int 2)) (.int r) (some (.cell n) :: env) st = .ok (some (.cell n) :: env) (st.set n (.lst (stL ns rest r mixed))) := gAt_at (j := 2) rfl rfl h rfl
theorem take_mixed {k : Int} (h : lcell st n = some (stL ns rest pos 1)) (hn : ns ≠ []) (hp : 1 ≤ pos) (hk : 0 < k) :
    ∃ v st', m_take [.cell n, .int k] st = .ok (.int v) st' ∧ 0 ≤ v ∧ v < k ∧ StOk ns st' n ∧ ∃ c, st' = st.set n c := by
  have hl : 0 < ns.length := List.length_pos_iff.mpr hn
  have hj : (pos % (ns.length : Int)).toNat < ns.length := by
    have h1 := Int.emod_nonneg pos (show (ns.length : Int) ≠ 0 by omega)
    have h2 := Int.emod_lt_of_pos pos (show (0 : Int) < ns.length by omega)
    omega
  have hl2 : cLen [.fz (ns.map W.int)] st = .ok (.int ns.length) st := by
    rw [cLen_at (w := .fz (ns.map W.int)) rfl, List.length_map]
  have hc : oIx (.fz (ns.map W.int)) (.int (pos % (ns.length : Int))) st = .ok (.int (ns[(pos % (ns.length : Int)).toNat]'hj)) st := by
    refine ix_at (xs := ns.map W.int) rfl (Int.emod_nonneg _ (by omega)) ?_
    rw [List.getElem?_map, List.getElem?_eq_getElem hj]
    rfl
  have lt := lcell_lt h
  have lt2 : ∀ c, n < (st.set n c).length := fun c => by rw [List.length_set]; exact lt
  have h4 : ∀ r p m, lcell (st.set n (.lst (stL ns r p m))) n = some (stL ns r p m) := fun r p m => lcell_set lt
  have hl' : (0 : Int) < ns.length := by omega
  generalize hcell : ns[(pos % (ns.length : Int)).toNat]'hj = cell at hc
  have e : m_take [.cell n, .int k] st = .ok (.int (((rest * 48271 + cell * 69621 + pos * 7919 + 11) % 2147483647 * 16807 + 5) % 2147483629 % k))
      ((st.set n (.lst (stL ns ((rest * 48271 + cell * 69621 + pos * 7919 + 11) % 2147483647) pos 1))).set n (.lst (stL ns ((rest * 48271 + cell * 69621 + pos * 7919 + 11) % 2147483647) (pos + 1) 1))) := by
    simp [m_take, dBody, b_take, sSeq, sIf, dB, dOp, st_3 h, sSet, dCallB, dCons, st_0 h, st_2 h, hl2, oIC_at, hl', hc, Out.bindS, sAsg, st_1 h, put_1 h, Out.nox, st_2 (h4 _ _ _), put_2 (h4 _ _ _), sRet, st_1 (h4 _ _ _), hk, hl, hn, cm1, cm2, cm3, cm4, dCallB]
  exact ⟨_, _, e, Int.emod_nonneg _ (by omega), Int.emod_lt_of_pos _ hk, ⟨_, _, _, lcell_set (lt2 _), Int.emod_nonneg _ (by decide), by omega, .inl ⟨rfl, hn⟩⟩, _, List.set_set ..⟩
theorem take_plain {k : Int} (h : lcell st n = some (stL ns rest pos 0)) (hr : 0 ≤ rest) (hp : 1 ≤ pos) (hk : 0 < k) (hk2 : k < 1073741824) :
    ∃ v st', m_take [.cell n, .int k] st = .ok (.int v) st' ∧ 0 ≤ v ∧ v < k ∧ StOk ns st' n ∧ ∃ c, st' = st.set n c := by
  have lt := lcell_lt h
  have lt2 : ∀ c, n < (st.set n c).length := fun c => by rw [List.length_set]; exact lt
  have hl2 : cLen [.fz (ns.map W.int)] st = .ok (.int ns.length) st := by
    rw [cLen_at (w := .fz (ns.map W.int)) rfl, List.length_map]
  have hcd : CDiv rest k := ⟨hk, hk2⟩
  by_cases hz : rest = 0
  · subst hz
    by_cases hpl : (ns.length : Int) ≤ pos
    · have e : m_take [.cell n, .int k] st = .ok (.int 0) st := by
        simp [m_take, dBody, b_take, sSeq, sIf, dB, dOp, st_3 h, dCallB, dCons, st_0 h, st_1 h, st_2 h, hl2, Out.bindS, sRet, hpl, sNil]
      refine ⟨0, st, e, by omega, hk, ⟨_, _, _, h, by omega, hp, .inr rfl⟩, st[n]'lt, ?_⟩
      rw [List.set_getElem_self]
    · have hj : pos.toNat < ns.length := by omega
      have hc : oIx (.fz (ns.map W.int)) (.int pos) st = .ok (.int (ns[pos.toNat]'hj)) st := by
        refine ix_at (xs := ns.map W.int) rfl (by omega) ?_
        rw [List.getElem?_map, List.getElem?_eq_getElem hj]
        rfl
      generalize ns[pos.toNat]'hj = cell at hc
      generalize hb : (if cell < 0 then -cell else cell) = b
      have hb0 : 0 ≤ b := by
        rw [← hb]
        split <;> omega
      have h4 : ∀ r p m, lcell (st.set n (.lst (stL ns r p m))) n = some (stL ns r p m) := fun r p m => lcell_set lt
      have hcd2 : CDiv b k := ⟨hk, hk2⟩
      have e : m_take [.cell n, .int k] st = .ok (.int (b % k)) (((st.set n (.lst (stL ns b pos 0))).set n (.lst (stL ns b (pos + 1) 0))).set n (.lst (stL ns (b / k) (pos + 1) 0))) := by
        simp [m_take, dBody, b_take, sSeq, sIf, dB, dOp, st_3 h, dCallB, dCons, st_0 h, st_1 h, st_2 h, hl2, Out.bindS, sRet, hpl, sNil, hc, hb, sAsg, put_1 h, Out.nox, st_2 (h4 _ _ _), put_2 (h4 _ _ _), sSet, st_1 (h4 _ _ _), oIC_at, hk, hcd2, put_1 (h4 _ _ _)]
      refine ⟨_, _, e, Int.emod_nonneg _ (by omega), Int.emod_lt_of_pos _ hk, ⟨_, _, _, lcell_set (by simp only [List.length_set]; exact lt), Int.ediv_nonneg hb0 (by omega), by omega, .inr rfl⟩, .lst (stL ns (b / k) (pos + 1) 0), ?_⟩
      rw [List.set_set, List.set_set]
  · have e : m_take [.cell n, .int k] st = .ok (.int (rest % k)) (st.set n (.lst (stL ns (rest / k) pos 0))) := by
      simp [m_take, dBody, b_take, sSeq, sIf, dB, dOp, st_3 h, dCallB, dCons, st_1 h, Out.bindS, sRet, sNil, hz, sAsg, put_1 h, Out.nox, sSet, oIC_at, hk, hcd]
    exact ⟨_, _, e, Int.emod_nonneg _ (by omega), Int.emod_lt_of_pos _ hk, ⟨_, _, _, lcell_set lt, Int.ediv_nonneg hr (by omega), hp, .inr rfl⟩, _, rfl⟩
/-- a draw -/
theorem take_ok {k : Int} (h : StOk ns st n) (hk : 0 < k) (hk2 : k < 1073741824) : ∃ v st', m_take [.cell n, .int k] st = .ok (.int v) st' ∧ 0 ≤ v ∧ v < k ∧ StOk ns st' n ∧ ∃ c, st' = st.set n c := by
  obtain ⟨rest, pos, mixed, h, hr, hp, hm⟩ := h
  rcases hm with ⟨rfl, hn⟩ | rfl
  · exact take_mixed h hn hp hk
  · exact take_plain h hr hp hk hk2
/-- the state, made -/
theorem state_ok (ns : List Int) (st : Store) : ∃ c, m_state [.fz (ns.map W.int)] st = .ok (.cell st.length) (st ++ [c]) ∧ StOk ns (st ++ [c]) st.length := by
  have hl2 : cLen [.fz (ns.map W.int)] st = .ok (.int ns.length) st := by
    rw [cLen_at (w := .fz (ns.map W.int)) rfl, List.length_map]
  cases ns with
  | nil =>
    refine ⟨.lst (stL [] 0 1 0), ?_, _, _, _, lcell_new (r := []), by omega, by omega, .inr rfl⟩
    have hs : (8 : Nat) ≤ sizeLine := by decide
    simp [m_state, dBody, b_state, sSeq, sIf, dB, dOp, sSet, dCallB, dCons, Out.bindS, sRet, sNil, dCell, dLst, dPure, cLen, hs, stL]
  | cons a ns =>
    have h0 : oIx (.fz ((a :: ns).map W.int)) (.int 0) st = .ok (.int a) st := ix_at rfl (by decide) rfl
    have hs : (8 : Nat) ≤ sizeLine := by decide
    have hs2 : (2 : Nat) ≤ sizeLine := by decide
    generalize hb : (if a < 0 then -a else a) = b
    have hb0 : 0 ≤ b := by
      rw [← hb]
      split <;> omega
    have hm : a % 2 = 0 ∨ a % 2 = 1 := by omega
    have hpos : (0 : Int) < (ns.length : Int) + 1 := by omega
    have hl2 : cLen [.fz (W.int a :: ns.map W.int)] st = .ok (.int ((ns.length : Int) + 1)) st := by
      rw [cLen_at (w := .fz (W.int a :: ns.map W.int)) rfl]
      simp
    have h0 : oIx (.fz (W.int a :: ns.map W.int)) (.int 0) st = .ok (.int a) st := ix_at rfl (by decide) rfl
    have i0 : ∀ x y : W, oIx (.lst [x, y]) (.int 0) st = .ok x st := fun x y => ix_at rfl (by decide) rfl
    have i1 : ∀ x y : W, oIx (.lst [x, y]) (.int 1) st = .ok y st := fun x y => ix_at rfl (by decide) rfl
    rcases hm with hm | hm
    · refine ⟨.lst (stL (a :: ns) (b / 2) 1 0), ?_, _, _, _, lcell_new (r := []), Int.ediv_nonneg hb0 (by decide), by omega, .inr rfl⟩
      simp [m_state, dBody, b_state, sSeq, sIf, dB, dOp, sSet, dCallB, dCons, Out.bindS, sRet, sNil, dCell, dLst, dPure, hl2, hs, hs2, stL, h0, oIC_at, (show CDiv b 2 from ⟨by decide, by decide⟩), hb, hm, i0, i1, hpos]
    · refine ⟨.lst (stL (a :: ns) 1 1 1), ?_, _, _, _, lcell_new (r := []), by omega, by omega, .inl ⟨rfl, by simp⟩⟩
      simp [m_state, dBody, b_state, sSeq, sIf, dB, dOp, sSet, dCallB, dCons, Out.bindS, sRet, sNil, dCell, dLst, dPure, hl2, hs, hs2, stL, h0, oIC_at, (show CDiv b 2 from ⟨by decide, by decide⟩), hb, hm, i0, i1, hpos]
end
end Sh


set_option maxRecDepth 100000
set_option maxHeartbeats 2000000
namespace Sh
open PySem L2 Evl

/-! ### data whose text fits -/
mutual
def okD : W → Bool
  | .non => true
  | .bl _ => true
  | .int i => decide (i.natAbs < 1000000000)
  | .str x => PyData.strOk x
  | .tup xs => okDs xs
  | .lst xs => okDs xs
  | .ftp xs => okDs xs
  | .fz xs => okDs xs
  | .cell _ => false
  | .exn _ _ _ _ => false
  | .xob _ _ _ => false
def okDs : List W → Bool
  | [] => true
  | x :: xs => okD x && okDs xs
end
mutual
def wtD : W → Nat
  | .int _ => 31
  | .str x => x.cps.size
  | .tup xs => wtDs xs
  | .lst xs => wtDs xs
  | .ftp xs => wtDs xs
  | .fz xs => wtDs xs
  | _ => 0
def wtDs : List W → Nat
  | [] => 0
  | x :: xs => wtD x + 1 + wtDs xs
end
mutual
def dpD : W → Nat
  | .tup xs => dpDs xs + 1
  | .lst xs => dpDs xs + 1
  | .ftp xs => dpDs xs + 1
  | .fz xs => dpDs xs + 1
  | _ => 0
def dpDs : List W → Nat
  | [] => 0
  | x :: xs => max (dpD x) (dpDs xs)
end
structure Fit (d : PyData) (w : W) : Prop where
  lay : d.canLay0 = true
  nums : d.intsShort 13 = true
  show_ : d.showable = true
  wt : d.weight ≤ wtD w
  dp : d.depth ≤ dpD w
structure Fits (d : List PyData) (w : List W) : Prop where
  lay : PyData.canLayAll0 d = true
  nums : PyData.intsShortAll 13 d = true
  show_ : PyData.showableAll d = true
  wt : PyData.weightAll d ≤ wtDs w
  dp : PyData.depthAll d ≤ dpDs w
theorem int_short {i : Int} (h : i.natAbs < 1000000000) : (PyData.shown (.int i)).length ≤ 13 := by
  have e := int_text_length_le10 (a := i) (k := 9) (by decide) (by omega)
  show (Str.ofString (toString i)).length ≤ 13
  rw [ofString_length]
  omega
theorem log_le {n k : Nat} (h : n < 2 ^ k) : n.log2 < k ∨ n = 0 := by
  by_cases z : n = 0
  · exact .inr z
  · exact .inl ((Nat.log2_lt z).mpr h)
theorem fit_int {i : Int} (h : i.natAbs < 1000000000) : Fit (.int i) (.int i) := by
  have l := log_le (n := i.natAbs) (k := 30) (by omega)
  refine ⟨rfl, ?_, ?_, ?_, Nat.le_refl _⟩
  · show decide ((PyData.shown (.int i)).length ≤ 13) = true
    exact decide_eq_true (int_short h)
  · show decide (i.natAbs.log2 < 1920) = true
    refine decide_eq_true ?_
    rcases l with l | l
    · omega
    · rw [l]
      decide
  · show (if i == 0 then 0 else i.natAbs.log2 + 1) ≤ 31
    split
    · omega
    · rcases l with l | l
      · omega
      · rw [l]
        decide
mutual
theorem dat_fit : ∀ {w : W}, okD w = true → ∃ d, dat w = some d ∧ Fit d w
  | .non, _ => ⟨_, rfl, rfl, rfl, rfl, Nat.le_refl _, Nat.le_refl _⟩
  | .bl b, _ => ⟨_, rfl, rfl, rfl, rfl, Nat.le_refl _, Nat.le_refl _⟩
  | .int i, h => ⟨_, rfl, fit_int (of_decide_eq_true h)⟩
  | .str x, h => ⟨_, rfl, h, rfl, rfl, Nat.le_refl _, Nat.le_refl _⟩
  | .tup xs, h => by
    obtain ⟨ds, q, f⟩ := dats_fit (ws := xs) h
    exact ⟨.tuple ds, by rw [dat, q]; rfl, f.lay, f.nums, f.show_, f.wt, Nat.succ_le_succ f.dp⟩
  | .ftp xs, h => by
    obtain ⟨ds, q, f⟩ := dats_fit (ws := xs) h
    exact ⟨.tuple ds, by rw [dat, q]; rfl, f.lay, f.nums, f.show_, f.wt, Nat.succ_le_succ f.dp⟩
  | .lst xs, h => by
    obtain ⟨ds, q, f⟩ := dats_fit (ws := xs) h
    exact ⟨.list ds, by rw [dat, q]; rfl, f.lay, f.nums, f.show_, f.wt, Nat.succ_le_succ f.dp⟩
  | .fz xs, h => by
    obtain ⟨ds, q, f⟩ := dats_fit (ws := xs) h
    exact ⟨.list ds, by rw [dat, q]; rfl, f.lay, f.nums, f.show_, f.wt, Nat.succ_le_succ f.dp⟩
  | .cell n, h => absurd h Bool.false_ne_true
  | .exn _ _ _ _, h => absurd h Bool.false_ne_true
  | .xob _ _ _, h => absurd h Bool.false_ne_true
theorem dats_fit : ∀ {ws : List W}, okDs ws = true → ∃ ds, dats ws = some ds ∧ Fits ds ws
  | [], _ => ⟨_, rfl, rfl, rfl, rfl, Nat.le_refl _, Nat.le_refl _⟩
  | x :: xs, h => by
    have h : (okD x && okDs xs) = true := h
    rw [Bool.and_eq_true] at h
    obtain ⟨d, q, f⟩ := dat_fit (w := x) h.1
    obtain ⟨ds, q2, f2⟩ := dats_fit (ws := xs) h.2
    refine ⟨d :: ds, by rw [dats, q, q2]; rfl, ?_, ?_, ?_, ?_, ?_⟩
    · show (d.canLay0 && PyData.canLayAll0 ds) = true
      rw [f.lay, f2.lay]; rfl
    · show (d.intsShort 13 && PyData.intsShortAll 13 ds) = true
      rw [f.nums, f2.nums]; rfl
    · show (d.showable && PyData.showableAll ds) = true
      rw [f.show_, f2.show_]; rfl
    · show d.weight + 1 + PyData.weightAll ds ≤ wtD x + 1 + wtDs xs
      have a := f.wt
      have b := f2.wt
      omega
    · show max d.depth (PyData.depthAll ds) ≤ max (dpD x) (dpDs xs)
      have a := f.dp
      have b := f2.dp
      omega
end
theorem shown_line {d : PyData} {w : W} (f : Fit d w) (h : wtD w ≤ 2 ^ 20) (h2 : dpD w ≤ 60) : d.shown.length ≤ sizeLine := by
  have a := f.wt
  have b := f.dp
  have l : PyData.layable0 d = true := by
    show (d.canLay0 && decide (d.depth ≤ 64) && decide (d.weight ≤ 2 ^ 20)) = true
    rw [f.lay, decide_eq_true (show d.depth ≤ 64 by omega), decide_eq_true (show d.weight ≤ 2 ^ 20 by omega)]
    rfl
  have := PyProof.Rows.shown_le13 l f.nums
  rw [sizeLine_eq]
  omega
/-- what repr says of it -/
def shownW (w : W) : Str := match dat w with
  | some d => d.shown
  | none => ""
theorem repr_at {w : W} (st : Store) (h : okD w = true) (hw : wtD w ≤ 2 ^ 20) (hd : dpD w ≤ 60) (hs : (match w with | .lst _ => true | .tup _ => true | _ => false) = true) : cRepr [w] st = .ok (.str (shownW w)) st := by
  obtain ⟨d, q, f⟩ := dat_fit h
  have b := f.dp
  have key : PyProof.Rows.isDisplay d = true ∧ d.showable = true ∧ d.depth ≤ 60 ∧ d.shown.length ≤ sizeLine := by
    refine ⟨?_, f.show_, by omega, shown_line f hw hd⟩
    cases w <;> first
      | (exact absurd hs Bool.false_ne_true)
      | (unfold dat at q; rename_i xs; cases q2 : dats xs with | none => rw [q2] at q; cases q | some ds => rw [q2] at q; cases q; rfl)
  have e : shownW w = d.shown := by
    unfold shownW
    rw [q]
  rw [e]
  cases w with
  | lst xs =>
    have q' : datC (.lst xs) st = some d := q
    unfold cRepr
    simp only [q', key, and_self, if_true]
  | tup xs =>
    have q' : datC (.tup xs) st = some d := q
    unfold cRepr
    simp only [q', key, and_self, if_true]
  | _ => exact absurd hs Bool.false_ne_true
/-! ### data compared -/
theorem deep_of {x y : W} {d e : PyData} {st : Store} (h1 : dat x = some d) (h2 : dat y = some e) (f1 : Fit d x) (f2 : Fit e y) (p1 : dpD x ≤ 60) (p2 : dpD y ≤ 60) (hx : (match x with | .cell _ => false | _ => true) = true) (hy : (match y with | .cell _ => false | _ => true) = true) : eqDeep x y st = some (PyData.eqv d e) := by
  have a := f1.dp
  have b := f2.dp
  have s1 : SeqAt.shaped d = true := by
    show (d.canLay0 && decide (d.depth ≤ 64)) = true
    rw [f1.lay, decide_eq_true (show d.depth ≤ 64 by omega)]
    rfl
  have s2 : SeqAt.shaped e = true := by
    show (e.canLay0 && decide (e.depth ≤ 64)) = true
    rw [f2.lay, decide_eq_true (show e.depth ≤ 64 by omega)]
    rfl
  have c1 : datC x st = some d := by
    cases x <;> first | exact h1 | exact absurd hx Bool.false_ne_true
  have c2 : datC y st = some e := by
    cases y <;> first | exact h2 | exact absurd hy Bool.false_ne_true
  unfold eqDeep
  simp only [c1, c2, s1, s2, and_self, if_true]
mutual
theorem eqv_self : ∀ d : PyData, d.canLay0 = true → PyData.eqv d d = true
  | .none, _ => rfl
  | .bool b, _ => by simp [PyData.eqv]
  | .int i, _ => by simp [PyData.eqv]
  | .str x, _ => by simp [PyData.eqv]
  | .list xs, h => eqvs_self xs h
  | .tuple xs, h => eqvs_self xs h
  | .dict _, h => absurd h Bool.false_ne_true
theorem eqvs_self : ∀ ds : List PyData, PyData.canLayAll0 ds = true → PyData.eqvAll ds ds = true
  | [], _ => rfl
  | x :: xs, h => by
    have h : (x.canLay0 && PyData.canLayAll0 xs) = true := h
    rw [Bool.and_eq_true] at h
    show (PyData.eqv x x && PyData.eqvAll xs xs) = true
    rw [eqv_self x h.1, eqvs_self xs h.2]
    rfl
end
/-- a list is itself -/
theorem eq_self_lst {xs : List W} (st : Store) (h : okDs xs = true) (hd : dpDs xs ≤ 59) : oEq (.lst xs) (.lst xs) st = .ok (.bl true) st := by
  obtain ⟨d, q, f⟩ := dat_fit (w := .lst xs) h
  have e := deep_of (st := st) q q f f (show dpDs xs + 1 ≤ 60 by omega) (show dpDs xs + 1 ≤ 60 by omega) rfl rfl
  rw [eqv_self d f.lay] at e
  unfold oEq eqAny
  simp only [scalW, e]
end Sh


set_option maxRecDepth 100000
set_option maxHeartbeats 2000000
namespace Sh
open PySem L2 Evl

/-! ### one step at a time -/
section
variable {env env1 : Env} {st st1 st2 st3 : Store} {w x y : W} {ws xs : List W} {a b d da db : Env → M W} {ds : Env → M (List W)} {dF eF : Env → M (List W)}
theorem rCons (h : d env st = .ok w st1) (k : ds env st1 = .ok ws st2) : dCons d ds env st = .ok (w :: ws) st2 := by
  unfold dCons
  rw [h, Out.bind_ok, k, Out.bind_ok]
theorem rNil : dNil env st = .ok [] st := rfl
theorem rC : dC w env st = .ok w st := rfl
theorem rV {i : Nat} (h : env[i]? = some (some w)) : dVar i env st = .ok w st := by
  unfold dVar
  rw [h]
theorem rCallB {f : List W → M W} {o : Out W} (h : ds env st = .ok ws st1) (k : f ws st1 = o) : dCallB f ds env st = o := by
  unfold dCallB
  rw [h, Out.bind_ok, k]
theorem rCall {f : List W → M W} (h : ds env st = .ok ws st1) (k : f ws st1 = .ok w st2) : dCall f ds env st = .ok w st2 := by
  unfold dCall
  rw [h, Out.bind_ok, k]
  rfl
theorem rCallF {f : List W → M (List W)} (h : ds env st = .ok ws st1) (k : f ws st1 = .ok xs st2) : dCallF f ds env st = .ok xs st2 := by
  unfold dCallF
  rw [h, Out.bind_ok, k]
theorem rOp {f : W → W → M W} {o : Out W} (h : da env st = .ok x st1) (k : db env st1 = .ok y st2) (j : f x y st2 = o) : dOp f da db env st = o := by
  unfold dOp
  rw [h, Out.bind_ok, k, Out.bind_ok, j]
theorem rOpF {f : W → W → M (List W)} (h : da env st = .ok x st1) (k : db env st1 = .ok y st2) (j : f x y st2 = .ok xs st3) : dOpF f da db env st = .ok xs st3 := by
  unfold dOpF
  rw [h, Out.bind_ok, k, Out.bind_ok, j]
theorem rPure (h : dF env st = .ok xs st1) : dPure dF env st = .ok (.lst xs) st1 := by
  unfold dPure
  rw [h, Out.bind_ok]
theorem rCell (h : dF env st = .ok xs st1) : dCell dF env st = .ok (.cell st1.length) (st1 ++ [.lst xs]) := by
  unfold dCell
  rw [h, Out.bind_ok]
theorem rLst (h : ds env st = .ok ws st1) (l : ws.length ≤ sizeLine) : dLst ds env st = .ok ws st1 := by
  unfold dLst
  rw [h, Out.bind_ok, if_pos l]
theorem rTup (h : ds env st = .ok ws st1) (l : ws.length ≤ sizeLine) : dTup ds env st = .ok (.tup ws) st1 := by
  unfold dTup
  rw [h, Out.bind_ok, if_pos l]
theorem rListR {n : Nat} (h : d env st = .ok (.int (n : Int)) st1) (s : sm (n : Int)) (l : n ≤ 2 ^ 24) : dListR d env st = .ok (rngW 0 n) st1 := by
  unfold dListR
  rw [h, Out.bind_ok]
  have l : (n : Int).toNat ≤ 2 ^ 24 := by rw [Int.toNat_natCast]; exact l
  exact (if_pos ⟨s, l⟩).trans (by rw [Int.toNat_natCast])
theorem rR1 {n : Nat} (h : ds env st = .ok [.int (n : Int)] st1) (s : sm (n : Int)) : iR1 ds env st = .ok ⟨rngW 0 n, fun _ => True⟩ st1 := by
  unfold iR1
  rw [h, Out.bind_ok]
  exact (if_pos s).trans (by rw [Int.toNat_natCast])
theorem rR2 {i j : Int} (h : ds env st = .ok [.int i, .int j] st1) (s : sm i) (t : sm j) : iR2 ds env st = .ok ⟨rngW i (j - i).toNat, fun _ => True⟩ st1 := by
  unfold iR2
  rw [h, Out.bind_ok]
  exact if_pos ⟨s, t⟩
theorem rFor {it : Env → M It'} {i : It'} {g : T} {body : S} {o : SOut} (h : it env st = .ok i st1) (k : forGo i.ok g body i.xs env st1 = o) : sFor it g body env st = o := by
  unfold sFor
  rw [h, Out.bindS_ok, k]
theorem rB {c : Bool} (h : d env st = .ok (.bl c) st1) : dB d env st = .ok c st1 := by
  unfold dB
  rw [h, Out.bind_ok]
  rfl
theorem rNot {t : Env → M Bool} {c : Bool} (h : t env st = .ok c st1) : dNot t env st = .ok (!c) st1 := by
  unfold dNot
  rw [h, Out.bind_ok]
theorem rOrF {t u : Env → M Bool} {c : Bool} (h : t env st = .ok false st1) (k : u env st1 = .ok c st2) : dOr t u env st = .ok c st2 := by
  unfold dOr
  rw [h, Out.bind_ok]
  exact k
theorem rOrT {t u : Env → M Bool} (h : t env st = .ok true st1) : dOr t u env st = .ok true st1 := by
  unfold dOr
  rw [h, Out.bind_ok]
  rfl
theorem rAndT {t u : Env → M Bool} {c : Bool} (h : t env st = .ok true st1) (k : u env st1 = .ok c st2) : dAnd t u env st = .ok c st2 := by
  unfold dAnd
  rw [h, Out.bind_ok]
  exact k
theorem rAndF {t u : Env → M Bool} (h : t env st = .ok false st1) : dAnd t u env st = .ok false st1 := by
  unfold dAnd
  rw [h, Out.bind_ok]
  rfl
theorem rAndVT {o : Out W} (h : da env st = .ok (.bl true) st1) (k : db env st1 = o) : dAndV da db env st = o := by
  unfold dAndV
  rw [h, Out.bind_ok]
  exact k
theorem rOI {g : Int → Int → W} {i j : Int} (h : da env st = .ok (.int i) st1) (k : db env st1 = .ok (.int j) st2) : dOp (oI g) da db env st = .ok (g i j) st2 := rOp h k rfl
theorem rIfT {t : Env → M Bool} {o : Out W} (h : t env st = .ok true st1) (k : da env st1 = o) : dIf t da db env st = o := by
  unfold dIf
  rw [h, Out.bind_ok]
  exact k
theorem rIfF {t : Env → M Bool} {o : Out W} (h : t env st = .ok false st1) (k : db env st1 = o) : dIf t da db env st = o := by
  unfold dIf
  rw [h, Out.bind_ok]
  exact k
theorem rBM {ty : W → Store → Bool} {f : W → List W → M W} {o : Out W} (h : d env st = .ok x st1) (t : ty x st1 = true) (k : ds env st1 = .ok ws st2) (j : f x ws st2 = o) : dBM ty f d ds env st = o := by
  unfold dBM
  rw [h, Out.bind_ok, if_pos t, k, Out.bind_ok, j]
theorem rSome {i : Int} (h : d env st = .ok (.int i) st1) : oSome d env st = .ok (some i) st1 := by
  unfold oSome
  rw [h, Out.bind_ok]
theorem rSl {lo hi : Env → M (Option Int)} {l h : Option Int} (k : d env st = .ok w st) (k1 : lo env st = .ok l st) (k2 : hi env st = .ok h st) (v : lview w st = some xs) : dSl d lo hi env st = .ok (cutW xs l h) st := by
  unfold dSl
  rw [k, Out.bind_ok, k1, Out.bind_ok, k2, Out.bind_ok, v]
theorem rList (h : d env st = .ok (.lst xs) st1) : iL d env st = .ok ⟨xs, fun _ => True⟩ st1 := by
  unfold iL
  rw [h, Out.bind_ok]
theorem tyL_lst : tyL (.lst xs) st = true := rfl
theorem tyL_cell {n : Nat} (h : lcell st n = some xs) : tyL (.cell n) st = true := by
  unfold tyL
  rw [lview_cell, h]
  rfl
/-! statements -/
theorem sDrop_at (h : d env st = .ok w st1) : sDrop d env st = .nx env st1 := by
  unfold sDrop
  rw [h]
  rfl
theorem sAsg_at {g : T} (h : d env st = .ok w st1) (k : g w env st1 = .ok env1 st2) : sAsg g d env st = .nx env1 st2 := by
  unfold sAsg
  rw [h, Out.bindS_ok, k]
  rfl
theorem sSeq_at {s t : S} {o : SOut} (h : s env st = .nx env1 st1) (k : t env1 st1 = o) : sSeq s t env st = o := by
  unfold sSeq
  rw [h]
  exact k
theorem sSeq_rt {s t : S} (h : s env st = .rt w st1) : sSeq s t env st = .rt w st1 := by
  unfold sSeq
  rw [h]
  rfl
theorem sSet_at {i : Nat} (h : d env st = .ok w st1) : sSet i d env st = .nx (env.set i (some w)) st1 := by
  unfold sSet
  rw [h]
  rfl
theorem sIf_t {t : Env → M Bool} {s u : S} {o : SOut} (h : t env st = .ok true st1) (k : s env st1 = o) : sIf t s u env st = o := by
  unfold sIf
  rw [h, Out.bindS_ok]
  exact k
theorem sIf_f {t : Env → M Bool} {s u : S} {o : SOut} (h : t env st = .ok false st1) (k : u env st1 = o) : sIf t s u env st = o := by
  unfold sIf
  rw [h, Out.bindS_ok]
  exact k
theorem sNil_at : sNil env st = .nx env st := rfl
theorem sRet_at (h : d env st = .ok w st1) : sRet d env st = .rt w st1 := by
  unfold sRet
  rw [h]
  rfl
theorem body_rt {n tot : Nat} {s : S} (hl : ws.length = n) (h : s (ws.map some ++ List.replicate (tot - n) none) st = .rt w st1) : dBody n tot s ws st = .ok w st1 := by
  unfold dBody
  rw [if_pos hl, h]
theorem line_ge {k : Nat} (h : k ≤ 1024) : k ≤ sizeLine := Nat.le_trans h (by decide)
theorem sm_lit {i : Int} (h : -4611686018427387904 ≤ i) (h2 : i < 4611686018427387904) : sm i := ⟨h, h2⟩
theorem sm_nat {c : Nat} (h : c ≤ 1000000) : sm (c : Int) := sm_lit (by omega) (by omega)
theorem n24 {c : Nat} (h : c ≤ 1000000) : c ≤ 2 ^ 24 := Nat.le_trans h (by decide)
theorem p63 {i : Int} (h : -9223372036854775808 ≤ i) (h2 : i < 9223372036854775808) : -(2 ^ 63) ≤ i ∧ i < 2 ^ 63 := ⟨h, h2⟩
theorem forGo_nx {ok : Store → Prop} {g : T} {body : S} {env2 : Env} (k : ok st) (h : g w env st = .ok env1 st1) (hb : body env1 st1 = .nx env2 st2) : forGo ok g body (w :: ws) env st = forGo ok g body ws env2 st2 := by
  rw [forGo, if_pos k, h]
  simp only [hb]
theorem forGo_ct {ok : Store → Prop} {g : T} {body : S} {env2 : Env} (k : ok st) (h : g w env st = .ok env1 st1) (hb : body env1 st1 = .ct env2 st2) : forGo ok g body (w :: ws) env st = forGo ok g body ws env2 st2 := by
  rw [forGo, if_pos k, h]
  simp only [hb]
theorem forGo_nil {ok : Store → Prop} {g : T} {body : S} (k : ok st) : forGo ok g body [] env st = .nx env st := by
  rw [forGo, if_pos k]
theorem rLc {it : Env → M It'} {i : It'} {g : T} {tt : Env → M Bool} {te : Env → M W} {vs : List Nat} {o : Out (List W)} (h : it env st = .ok i st1) (k : lcGo i.ok g tt te (wipeW env vs) i.xs [] st1 = o) : dLc it g tt te vs env st = o := by
  unfold dLc
  rw [h, Out.bind_ok, k]
theorem oRep_at {n : Nat} (h : lviewT x st = some xs) (l : xs.length * n ≤ sizeLine) (z : n ≤ 1000000) : oRep x (.int (n : Int)) st = .ok (List.replicate n xs).flatten st := by
  have p := p63 (i := (n : Int)) (by omega) (by omega)
  have q : xs.length * (n : Int).toNat ≤ sizeLine := by
    rw [Int.toNat_natCast]
    exact l
  unfold oRep
  rw [h]
  refine (if_pos ⟨p.1, p.2, q⟩).trans ?_
  rw [Int.toNat_natCast]
end
end Sh


set_option maxRecDepth 100000
set_option maxHeartbeats 2000000
namespace Sh
open PySem L2 Evl

/-! ### defs that errors may leave -/
def spX (K : PySem.W.Frag) (mg : MG) (f : List W → M W) : Sp := fun vs H Q E => ∃ F G m ws st, Sim K mg F G m st H ∧ RWs K G m ws vs ∧ Post RW K mg E F G m (f ws st) Q
/-- errors leave the def as they are -/
abbrev wE (E : XK) : WX := fun cls d _ H => E cls d H
section
variable {P : Program} {w : World} {K : PySem.W.Frag} {mg : MG} {base : Heap} {x qual : Str} {st : Stmt} {f : Addr} {fd : FuncData} {N ps : List Str} {k : Nat}
theorem body_okX {X : Cx} {E : XK} {s : S} {ss : List Stmt} {vs : List V} {H : Hp} {Q : VK} (hK : X.K = K) (hm : X.mg = mg) (hb : JSs X E ss s) (hN : ps.length ≤ N.length)
    (h : spX K mg (dBody ps.length N.length s) vs H Q E) : ∃ t, PSs X ss t ∧ t { nx := fun _ H' => Q .non H', rt := Q } (L2.start N vs) H := by
  subst hK hm
  refine ⟨_, hb, ?_⟩
  obtain ⟨F, G, m, ws, st, S, r, P⟩ := h
  unfold dBody at P
  split at P
  · rename_i hl
    refine ⟨F, G, m, ws.map some ++ List.replicate (N.length - ws.length) none, st, S, start_env r, ?_⟩
    rw [hl]
    cases q : s (ws.map some ++ List.replicate (N.length - ps.length) none) st with
    | stuck => rw [q] at P; exact P
    | bk env st => rw [q] at P; exact P.elim
    | ct env st => rw [q] at P; exact P.elim
    | exc x st => rw [q] at P; exact P
    | rt w st => rw [q] at P; exact P
    | nx env st =>
      rw [q] at P
      exact fun G1 m1 σ1 H1 e1 S1 R1 => P G1 m1 .non H1 e1 S1 .non
  · exact P.elim
theorem spX_len {s : S} {n tot : Nat} {vs : List V} {H : Hp} {Q : VK} {E : XK} (h : spX K mg (dBody n tot s) vs H Q E) : vs.length = n := by
  obtain ⟨F, G, m, ws, st, S, r, P⟩ := h
  unfold dBody at P
  split at P
  · rename_i hl
    rw [← r.length]
    exact hl
  · exact P.elim
/-- a def of the text that errors may leave -/
def HasX (P : Program) (w : World) (K : PySem.W.Frag) (mg : MG) (base : Heap) (k : Nat) (x : Str) (ps : List Str) (m : List W → M W) : Prop :=
  ∃ f fd, mg x = some (.ref f) ∧ PySem.W.keepIn K (.ref f) = true ∧ Binds K fd ps [] ∧ FnOk P w K mg base (CX P w) k f fd ps (spX K mg m)
theorem hasX_mk {s : S} (F : Fun K x x st f fd) (g : mg x = some (.ref f)) (b : Binds K fd ps []) (hS : FnScope N ps (defScope st)) (hN : ps.length ≤ N.length)
    (hb : ∀ (cdv : Value) (A : Around) (outer : List PySem.Env) (sh : Shared) (H : Hp) (E : XK), Room k (A.deeper (PyProof.Rows.envOfC x (defScope st) sh.heap.objs.size f cdv)) →
      Takes (cxOf (CX P w) P w K mg base N x (defScope st) f cdv A outer sh H E) (wE E) → JSs (cxOf (CX P w) P w K mg base N x (defScope st) f cdv A outer sh H E) E (defBody st) s) :
    HasX P w K mg base (k + 1) x ps (dBody ps.length N.length s) :=
  ⟨f, fd, g, F.kp, b, F.okX hS (fun vs H Q E h => spX_len h) fun cdv A outer sh H vs Q E hr h => body_okX rfl rfl (hb cdv A outer sh H E hr (takes_of rfl rfl rfl rfl)) hN h⟩
end
section
variable {X : Cx} {E : XK} {W0 : WX} {a e : Expr} {es : List Expr} {ds : Env → M (List W)} {p pos : Pos} {k j : Nat} {ps : List Str} {x : Str} {m : List W → M W}
/-- as JE, where what is raised is wished for at the slots as they stand -/
abbrev JEp (X : Cx) (W0 : WX) (e : Expr) (d : Env → M W) : Prop := PE X e fun σ H Q => tE X.K X.mg (fun cls d H' => W0 cls d σ H') d σ H Q
abbrev JAp (X : Cx) (W0 : WX) (es : List Expr) (ds : Env → M (List W)) : Prop := PA X es fun σ H Q => tA X.K X.mg (fun cls d H' => W0 cls d σ H') ds σ H Q
theorem jep_of {d : Env → M W} (h : ∀ E, JE X E e d) : JEp X W0 e d := ⟨fun pins s σ H Q I t => (h _).run pins s σ H Q I t⟩
theorem jap_of {ds : Env → M (List W)} (h : ∀ E, JA X E es ds) : JAp X W0 es ds := ⟨fun pl pins s σ H Q I t => (h _).run pl pins s σ H Q I t⟩
theorem jep_defX (h : HasX X.prog X.w X.K X.mg X.base k x ps m) (hr : Room j X.A) (tk : Takes X W0) (ha : JAp X W0 (e :: es) ds) (hj : k ≤ j := by decide) (hg : Gl X x := by rfl) (hdb : (x == ("__debug__" : Str)) = false := by decide) (he : starEach (e :: es) X.env = (false, eval e X.env) :: starEach es X.env := by rfl)
    (hpl : (backTo pos (starEach es X.env)).any (·.1) = false := by rfl) : JEp X W0 (.Call (.Name x p) (e :: es) [] pos) (dCallB m ds) := by
  obtain ⟨f, fd, h1, h2, h3, h4⟩ := h
  refine weakE (pe_callS h4 (hr.mono hj) hg h1 h2 h3 (fun σ => passAt tk σ) ha hdb he hpl) ?_
  rintro σ H Q ⟨F, G, mm, env, st, S, R, P⟩
  exact ⟨F, G, mm, env, st, S, R, (P.bind (R := RA)).imp fun vs H1 ⟨G1, m1, ws, st1, e1, S1, r1, P1⟩ => ⟨F, G1, m1, ws, st1, S1, r1, P1⟩⟩
theorem je_defX (h : HasX X.prog X.w X.K X.mg X.base k x ps m) (hr : Room j X.A) (tk : Takes X (wE E)) (ha : JA X E (e :: es) ds) (hj : k ≤ j := by decide) (hg : Gl X x := by rfl) (hdb : (x == ("__debug__" : Str)) = false := by decide) (he : starEach (e :: es) X.env = (false, eval e X.env) :: starEach es X.env := by rfl)
    (hpl : (backTo pos (starEach es X.env)).any (·.1) = false := by rfl) : JE X E (.Call (.Name x p) (e :: es) [] pos) (dCallB m ds) := jep_defX (W0 := wE E) h hr tk ha hj hg hdb he hpl
theorem jep_tup {x1} (h : JAp X W0 es ds) : JEp X W0 (.Tuple es x1 pos) (dTup ds) := by
  refine weakE (pe_tup h) ?_
  rintro σ H Q ⟨F, G, m, env, st, S, R, P⟩
  refine ⟨F, G, m, env, st, S, R, (P.bind (R := RA)).imp fun vs H1 ⟨G1, m1, xs, st1, e1, S1, r1, P1⟩ => ?_⟩
  split at P1
  · rename_i z
    have hl := RWs.length r1
    refine ⟨by rw [← hl]; exact z, fun p hp => ?_⟩
    have hg := fresh_back S1.ex hp
    exact P1.mono (Ext.new hg) |>.ret (S1.newG hp) (.tup upd_same (RWs.mono (Ext.new hg) r1))
  · exact P1.elim
theorem jap_cons {da : Env → M W} (h1 : JEp X W0 a da) (h2 : JAp X W0 es ds) (hs : starEach (a :: es) X.env = (false, eval a X.env) :: starEach es X.env := by rfl) : JAp X W0 (a :: es) (dCons da ds) := by
  refine weakA (pa_cons h1 h2 hs) ?_
  rintro σ H Q ⟨F, G, m, env, st, S, R, P⟩
  refine ⟨F, G, m, env, st, S, R, P.bind.imp fun v1 H1 ⟨G1, m1, x, st1, e1, S1, r1, P1⟩ => ?_⟩
  refine ⟨F, G1, m1, env, st1, S1, R.mono e1, (P1.bind (R := RA)).imp fun v2 H2 ⟨G2, m2, y, st2, e2, S2, r2, P2⟩ => ?_⟩
  exact P2.ret S2 (RWs.cons (r1.mono e2) r2)
end

/-! ### own errors, made and raised -/
/-- what __init__ leaves: a dict of the fields -/
def spI (Cl : Addr) (fs : List Str) : Sp := fun vs H Q _ => ∃ a us, vs = .ref a :: us ∧ us.length = fs.length ∧ H a = some (exo a Cl none) ∧
  ∀ d H2, H d = none → d ≠ a → H2 a = some (exo a Cl (some d)) → H2 d = some (exd d (fs.zip us).reverse) → (∀ b, b ≠ a → b ≠ d → H2 b = H b) → Q .non H2
structure ExCls (P : Program) (w : World) (K : PySem.W.Frag) (mg : MG) (base : Heap) (k : Nat) (x : Str) (fs : List Str) (Cl : Addr) : Prop where
  g : mg x = some (.ref Cl)
  ox : OexC K Cl
  ini : ∃ fI fd, PySem.W.findIn K (.ref Cl) "__init__" = some (some (.ref fI)) ∧ PySem.W.typeIn K (.ref fI) = some (.type "function") ∧ Binds K fd ("self" :: fs) [] ∧ FnOk P w K mg base CX0 k fI fd ("self" :: fs) (spI Cl fs)
theorem rks_zip {K : PySem.W.Frag} {G : Hp} {m : List Addr} : ∀ {fs : List Str} {ws : List W} {vs : List V}, RWs K G m ws vs → RKs K G m (fs.zip ws) (fs.zip vs)
  | [], _, _, _ => .nil
  | _ :: _, _, _, .nil => .nil
  | f :: fs, _, _, .cons h r => .cons h (rks_zip r)
theorem rks_append {κ : Type} {K : PySem.W.Frag} {G : Hp} {m : List Addr} : ∀ {xs ys : List (κ × W)} {vs us : List (κ × V)}, RKs K G m xs vs → RKs K G m ys us → RKs K G m (xs ++ ys) (vs ++ us)
  | _, _, _, _, .nil, s => s
  | _, _, _, _, .cons h r, s => .cons h (rks_append r s)
theorem rks_rev {κ : Type} {K : PySem.W.Frag} {G : Hp} {m : List Addr} : ∀ {xs : List (κ × W)} {vs : List (κ × V)}, RKs K G m xs vs → RKs K G m xs.reverse vs.reverse
  | _, _, .nil => .nil
  | _, _, .cons h r => by
    rw [List.reverse_cons, List.reverse_cons]
    exact rks_append (rks_rev r) (.cons h .nil)
def sRaise (x : Str) (fs : List Str) (ds : Env → M (List W)) : S := fun env st => (ds env st).bindS fun ws st => if ws.length = fs.length ∧ ws.length ≤ 1000 then .exc ⟨x, (fs.zip ws).reverse⟩ st else .stuck
theorem js_raise {X : Cx} {E : XK} {e : Expr} {es : List Expr} {ds : Env → M (List W)} {p pos pos2 : Pos} {k j : Nat} {x : Str} {fs : List Str} {Cl : Addr} (hc : X.calm = true) (T : ExCls X.prog X.w X.K X.mg X.base k x fs Cl) (hr : Room j X.A) (tk : Takes X (wE E)) (ha : JA X E (e :: es) ds) (hj : k + 1 ≤ j := by decide) (hg : Gl X x := by rfl)
    (hdb : (x == ("__debug__" : Str)) = false := by decide) (he : starEach (e :: es) X.env = (false, eval e X.env) :: starEach es X.env := by rfl) (hpl : (backTo pos (starEach es X.env)).any (·.1) = false := by rfl) :
    JS X E (.Raise (some (.Call (.Name x p) (e :: es) [] pos)) none pos2) (sRaise x fs ds) := by
  obtain ⟨g, ox, fI, fd, i1, i2, i3, i4⟩ := T
  refine weakS (ps_raise hc tk (pmk_oex ox i1 i2 i4 (hr.mono hj) i3 .nil (fun _ _ _ _ _ _ _ h => h.elim) hg g ha hdb he hpl)) ?_
  rintro D σ H ⟨F, G, m, env, st, S, R, P⟩
  refine ⟨F, G, m, env, st, S, R, (P.bindS (R := RA)).imp fun vs H1 ⟨G1, m1, ws, st1, e1, S1, r1, P1⟩ => ?_⟩
  split at P1
  · rename_i z
    have hl := r1.length
    refine ⟨by omega, fun a ha => ⟨a, vs ++ [], rfl, by rw [List.append_nil, ← hl]; exact z.1, upd_same, fun d H2 hd hne h2a h2d h2o => ?_⟩⟩
    rw [List.append_nil] at h2d
    have hd1 : H1 d = none := by rw [upd_ne hne] at hd; exact hd
    refine ⟨rfl, d, _, h2a, h2d, hd1, ?_⟩
    have hh : upd (del H2 a) d (.xd (fs.zip vs).reverse) = upd H1 d (.xd (fs.zip vs).reverse) := by
      funext b
      by_cases b1 : b = d
      · rw [b1, upd_same, upd_same]
      · rw [upd_ne b1, upd_ne b1]
        by_cases b2 : b = a
        · rw [b2, del_same, ha]
        · rw [del_ne b2, h2o b b2 b1, upd_ne b2]
    rw [hh]
    have hg1 := fresh_back S1.ex hd1
    exact P1 _ _ _ _ _ (Ext.new hg1) (S1.newG hd1) ⟨Cl, g, rfl, d, _, rfl, upd_same, rks_rev (rks_zip (RWs.mono (Ext.new hg1) r1))⟩
  · exact P1.elim
end Sh


set_option maxRecDepth 100000
set_option maxHeartbeats 2000000
namespace Sh
open PySem L2 Evl
section
variable {P : Program} {w : World} {K : PySem.W.Frag} {mg : MG} {base : Heap} {qual : Str} {st : Stmt} {fI : Addr} {fd : FuncData} {x f1 f2 : Str} {Cl : Addr}
theorem exCls2 (g : mg x = some (.ref Cl)) (ox : OexC K Cl) (F : Fun K "__init__" qual st fI fd) (i1 : PySem.W.findIn K (.ref Cl) "__init__" = some (some (.ref fI))) (i2 : PySem.W.typeIn K (.ref fI) = some (.type "function")) (b : Binds K fd ["self", f1, f2] [])
    (hS : FnScope ["self", f1, f2] ["self", f1, f2] (defScope st)) {p1 p2 p3 p4 q1 q2 q3 q4 : Pos} (hB : defBody st = [.Assign [.Attribute (.Name "self" p1) f1 p2] (.Name f1 p3) p4, .Assign [.Attribute (.Name "self" q1) f2 q2] (.Name f2 q3) q4])
    (n1 : PySem.W.findIn K (.ref Cl) f1 = some none) (n2 : PySem.W.findIn K (.ref Cl) f2 = some none)
    (hv : Vis (defScope st) "self" ∧ Vis (defScope st) f1 ∧ Vis (defScope st) f2)
    (d1 : (f1 == ("__debug__" : Str)) = false ∧ (f1 == ("__classdict__" : Str)) = false) (d2 : (f2 == ("__debug__" : Str)) = false ∧ (f2 == ("__classdict__" : Str)) = false) : ExCls P w K mg base 1 x [f1, f2] Cl := by
  refine ⟨g, ox, fI, fd, i1, i2, b, F.ok hS (fun vs H Q E ⟨a, us, e, l, _⟩ => by rw [e, List.length_cons, l]; rfl) fun cdv A outer sh H vs Q E hr h => ?_⟩
  obtain ⟨a, us, rfl, l, ha, hq⟩ := h
  obtain ⟨y1, y2, rfl⟩ : ∃ y1 y2, us = [y1, y2] := by
    match us, l with
    | [y1, y2], _ => exact ⟨y1, y2, rfl⟩
  rw [hB]
  refine ⟨_, pss_cons (ps_ost (pe_var (i := 0) rfl hv.1 (by decide) (by decide)) (pe_var (i := 1) rfl hv.2.1 d1.1 d1.2) (by rfl)) (pss_cons (ps_ost (pe_var (i := 0) rfl hv.1 (by decide) (by decide)) (pe_var (i := 2) rfl hv.2.2 d2.1 d2.2) (by rfl)) pss_nil), ?_⟩
  refine ⟨y1, rfl, .ref a, rfl, a, Cl, rfl, ox, n1, .inl ⟨ha, fun d hd hne => ?_⟩⟩
  refine ⟨y2, rfl, .ref a, rfl, a, Cl, rfl, ox, n2, .inr ⟨d, [(f1, y1)], upd_same, by rw [upd_ne hne, upd_same], (by show 1 ≤ 900; decide), ?_⟩⟩
  exact hq d _ hd hne (by rw [upd_ne (Ne.symm hne), upd_same]) upd_same fun b b1 b2 => by rw [upd_ne b2, upd_ne b1, upd_ne b2]
theorem exCls1 (g : mg x = some (.ref Cl)) (ox : OexC K Cl) (F : Fun K "__init__" qual st fI fd) (i1 : PySem.W.findIn K (.ref Cl) "__init__" = some (some (.ref fI))) (i2 : PySem.W.typeIn K (.ref fI) = some (.type "function")) (b : Binds K fd ["self", f1] [])
    (hS : FnScope ["self", f1] ["self", f1] (defScope st)) {p1 p2 p3 p4 : Pos} (hB : defBody st = [.Assign [.Attribute (.Name "self" p1) f1 p2] (.Name f1 p3) p4])
    (n1 : PySem.W.findIn K (.ref Cl) f1 = some none) (hv : Vis (defScope st) "self" ∧ Vis (defScope st) f1)
    (d1 : (f1 == ("__debug__" : Str)) = false ∧ (f1 == ("__classdict__" : Str)) = false) : ExCls P w K mg base 1 x [f1] Cl := by
  refine ⟨g, ox, fI, fd, i1, i2, b, F.ok hS (fun vs H Q E ⟨a, us, e, l, _⟩ => by rw [e, List.length_cons, l]; rfl) fun cdv A outer sh H vs Q E hr h => ?_⟩
  obtain ⟨a, us, rfl, l, ha, hq⟩ := h
  obtain ⟨y1, rfl⟩ : ∃ y1, us = [y1] := by
    match us, l with
    | [y1], _ => exact ⟨y1, rfl⟩
  rw [hB]
  refine ⟨_, pss_cons (ps_ost (pe_var (i := 0) rfl hv.1 (by decide) (by decide)) (pe_var (i := 1) rfl hv.2 d1.1 d1.2) (by rfl)) pss_nil, ?_⟩
  refine ⟨y1, rfl, .ref a, rfl, a, Cl, rfl, ox, n1, .inl ⟨ha, fun d hd hne => ?_⟩⟩
  exact hq d _ hd hne upd_same (by rw [upd_ne hne, upd_same]; rfl) fun b b1 b2 => by rw [upd_ne b1, upd_ne b2]
end

/-! ### return e within a try, its error caught by its own class -/
def resetS (i : Nat) : SOut → SOut
  | .nx env st => .nx (env.set i none) st
  | .bk env st => .bk (env.set i none) st
  | .ct env st => .ct (env.set i none) st
  | o => o
open Classical in
noncomputable def sTryR (x : Str) (i : Nat) (d : Env → M W) (suite : Addr → Addr → S) : S := fun env st => match d env st with
  | .ok w st => .rt w st
  | .stuck => .stuck
  | .exc e st => if e.cls = x ∧ (∀ a dd, resetS i (suite a dd (env.set i (some (.exn a dd (e.fs.map (·.1)) (e.fs.map (·.2))))) st) = resetS i (suite 0 0 (env.set i (some (.exn 0 0 (e.fs.map (·.1)) (e.fs.map (·.2))))) st)) then
      resetS i (suite 0 0 (env.set i (some (.exn 0 0 (e.fs.map (·.1)) (e.fs.map (·.2))))) st) else .stuck
theorem rks_split {κ : Type} {K : PySem.W.Frag} {G : Hp} {m : List Addr} : ∀ {xs : List (κ × W)} {vs : List (κ × V)}, RKs K G m xs vs → vs = (xs.map (·.1)).zip (vs.map (·.2)) ∧ RWs K G m (xs.map (·.2)) (vs.map (·.2))
  | _, _, .nil => ⟨rfl, .nil⟩
  | _, _, .cons h r => by
    obtain ⟨a, b⟩ := rks_split r
    refine ⟨?_, .cons h b⟩
    rw [List.map_cons, List.map_cons, List.zip_cons_cons, ← a]
theorem REnv.setN {K : PySem.W.Frag} {G : Hp} {m : List Addr} {env : Env} {σ : L2.St} (h : REnv K G m env σ) (i : Nat) : REnv K G m (env.set i none) (σ.set i none) := h.wipe [i]
theorem PostS.reset {K : PySem.W.Frag} {mg : MG} {E : XK} {F G : Hp} {m : List Addr} {o : SOut} {D : Ends} {i : Nat} (h : PostS K mg E F G m (resetS i o) D) :
    PostS K mg E F G m o { nx := fun σ' H' => D.nx (List.set σ' i none) H', rt := D.rt, bk := fun σ' H' => D.bk (List.set σ' i none) H', ct := fun σ' H' => D.ct (List.set σ' i none) H' } := by
  cases o with
  | stuck => exact h
  | nx env st => exact fun G' m' σ' H' e S R => h G' m' _ H' e S (R.setN i)
  | bk env st => exact fun G' m' σ' H' e S R => h G' m' _ H' e S (R.setN i)
  | ct env st => exact fun G' m' σ' H' e S R => h G' m' _ H' e S (R.setN i)
  | rt w st => exact h
  | exc x st => exact h
theorem js_tryR {X : Cx} {E : XK} {e : Expr} {d : Env → M W} {suite : Addr → Addr → S} {n x : Str} {i : Nat} {Cl : Addr} {b0 : Stmt} {bs : List Stmt} {np p1 pos pos' : Pos} (hst : X.stack = X.env :: X.outer) (hf : X.env.frame = some X.env.locals) (hN : X.N.Nodup) (hi : X.N[i]? = some n)
    (hk : X.env.kindOf n = some .local) (hnm : Names X x (.ref Cl)) (hg : X.mg x = some (.ref Cl)) (hex : PySem.W.exmOne X.K (.ref Cl) (.ref Cl) = some true)
    (hb : ∀ (W0 : WX) (pn : List (Addr × Obj)) (xe : Value → Shared → Prop), Takes (X.tr pn xe) W0 → JEp (X.tr pn xe) W0 e d)
    (hs : ∀ (a : Addr) (oe : Obj) (dd : Addr) (pn : List (Addr × Obj)), Zc (.ref Cl) (some dd) oe → (∃ vs, oe.data = .fields vs) → JSs (X.suite a ((a, oe) :: pn)) E (b0 :: bs) (suite a dd)) :
    JS X E (.Try [.Return (some e) p1] [.ExceptHandler (some (.Name x np)) (some n) (b0 :: bs) pos'] [] [] pos) (sTryR x i d suite) := by
  refine weakS (ps_try_as (i := i) (tb := fun W0 => tSeq (tRet fun σ H Q => tE X.K X.mg (fun cls d' H' => W0 cls d' σ H') d σ H Q) tNext) (ts := fun a cls d' => fun D σ H => ∃ dd, (cls = .ref Cl ∧ d' = some dd) ∧ tS X.K X.mg E (suite a dd) D σ H) hst hf hN hi hk hnm takes0
    (fun W0 pn xe tk _ => pss_cons (ps_ret (hb W0 pn xe tk)) pss_nil) fun a oe cls d' pn hz hf => ⟨fun pins s σ H D I ⟨dd, ⟨h1, h2⟩, t⟩ => (hs a oe dd pn (by rw [← h1, ← h2]; exact hz) hf).run pins s σ H D I t⟩) ?_
  rintro D σ H ⟨F, G, m, env, st, S, R, P⟩
  refine ⟨F, G, m, env, st, S, R, ?_⟩
  unfold sTryR at P
  cases q : d env st with
  | stuck => rw [q] at P; exact P
  | ok w st1 => rw [q] at P; exact P
  | exc y st1 =>
    rw [q] at P
    intro G1 m1 H1 cls d' e1 S1 hx
    simp only [] at P
    split at P
    · rename_i z
      obtain ⟨C2, g2, rfl, hfs⟩ := hx
      rw [z.1, hg] at g2
      cases g2
      refine ⟨true, hex, fun _ a ha => ?_, fun h => nomatch h⟩
      obtain ⟨da, vs, rfl, hd, rk⟩ := hfs
      obtain ⟨r1, r2⟩ := rks_split rk
      refine ⟨da, ⟨rfl, rfl⟩, F, G1, m1, env.set i (some (.exn a da (y.fs.map (·.1)) (y.fs.map (·.2)))), st1, S1, (R.mono e1).set (.exn (vs := vs.map (·.2)) (by rw [← r1]; exact hd) r2) i, ?_⟩
      refine PostS.reset ?_
      rw [z.2 a da]
      exact PostS.mono e1 P
    · exact P.elim
/-! ### in the except suite -/
/-- a field of the error -/
def dXf (a dd : Addr) (f : Str) (d : Env → M W) : Env → M W := fun env st => (d env st).bind fun w st => match w with
  | .exn a' dd' ns ws => if a' = a ∧ dd' = dd then (match List.lookup f (ns.zip ws) with
    | some u => .ok u st
    | none => .stuck) else .stuck
  | _ => .stuck
theorem lookup_zip {K : PySem.W.Frag} {G : Hp} {m : List Addr} {f : Str} : ∀ {ns : List Str} {ws : List W} {vs : List V} {u : W}, RWs K G m ws vs → List.lookup f (ns.zip ws) = some u → ∃ v, List.lookup f (ns.zip vs) = some v ∧ RW K G m u v
  | [], _, _, _, _, h => by cases h
  | _ :: _, _, _, _, .nil, h => by cases h
  | n :: ns, w :: ws, v :: vs, u, .cons h r, hl => by
    rw [List.zip_cons_cons, List.lookup_cons] at hl ⊢
    by_cases q : (f == n) = true
    · rw [q] at hl ⊢
      cases hl
      exact ⟨v, rfl, h⟩
    · rw [Bool.not_eq_true] at q
      rw [q] at hl ⊢
      exact lookup_zip r hl
section
variable {X : Cx} {E : XK} {e : Expr} {d : Env → M W} {a dd Cl : Addr} {oe : Obj} {pn : List (Addr × Obj)} {pos p : Pos} {f : Str}
theorem je_xf (T : XfC X.K Cl) (hn : PySem.W.findIn X.K (.ref Cl) f = some none) (hz : Zc (.ref Cl) (some dd) oe) (hf : ∃ vs, oe.data = .fields vs) (he : JE (X.suite a ((a, oe) :: pn)) E e d)
    (hb : attributeBase e f X.env (eval e X.env) = eval e X.env := by rfl) : JE (X.suite a ((a, oe) :: pn)) E (.Attribute e f pos) (dXf a dd f d) := by
  refine weakE (pe_xf T hn hz hf he hb) ?_
  rintro σ H Q ⟨F, G, m, env, st, S, R, P⟩
  refine ⟨F, G, m, env, st, S, R, (P.bind (R := RW)).imp fun v H1 ⟨G1, m1, w, st1, e1, S1, r1, P1⟩ => ?_⟩
  split at P1
  · rename_i a' dd' ns ws
    split at P1
    · rename_i z
      obtain ⟨rfl, rfl⟩ := z
      split at P1
      · rename_i u q
        cases r1 with
        | exn hd rs =>
          obtain ⟨v, h1, h2⟩ := lookup_zip rs q
          exact ⟨rfl, rfl, dd', _, v, rfl, S1.ex _ _ hd, h1, P1.ret S1 h2⟩
      · exact P1.elim
    · exact P1.elim
  · exact P1.elim
/-- isinstance of the error: known beforehand -/
def dXi (a dd : Addr) (b : Bool) (d : Env → M W) : Env → M W := fun env st => (d env st).bind fun w st => match w with
  | .exn a' dd' ns ws => if a' = a ∧ dd' = dd then .ok (.bl b) st else .stuck
  | _ => .stuck
def rIsX (K : PySem.W.Frag) (D a dd : Addr) : List V → Hp → VK → Prop := fun xs H Q => ∃ c cv b fs, xs = [V.ref a, c] ∧ (∀ u : Value, RelV c u → u = cv) ∧ PySem.W.kitOne K (.ref D) cv = some b ∧ H dd = some (.xd fs) ∧ Q (.bl b) H
theorem call_isX (T : L2.ExcC X.K Cl) (hc : (PySem.W.clsIn X.K Cl).isSome = true) (hz : Zc (.ref Cl) (some dd) oe) (hf : ∃ vs, oe.data = .fields vs) : CallR (X.suite a ((a, oe) :: pn)) (.builtin "isinstance") (rIsX X.K Cl a dd) := by
  intro pins s σ H xs us Q I r h
  obtain ⟨c, cv, b, fs, rfl, hcv, hk, hd, q⟩ := h
  cases r with
  | cons r1 r =>
    cases r with
    | cons r2 r =>
      cases r
      rename_i u1 u2
      obtain rfl : u1 = Value.ref a := r1
      obtain rfl := hcv _ r2
      obtain ⟨ha, _⟩ := I.pin (a, oe) (List.mem_append_left _ List.mem_cons_self)
      obtain ⟨vs, hfd⟩ := hf
      have hx : ObjOk X.prog X.w H s.heap dd (.xd fs) := I.hok dd _ hd
      obtain ⟨mA, hns, hr⟩ := hx
      obtain ⟨od, ho, hl⟩ := lookIn_ns hns
      have J : PySem.W.InstAt s.heap a oe Cl (some od) := ⟨ha, hz.1, by unfold PySem.W.notCls; rw [hfd] <;> rfl, by rw [hz.2]; exact ho⟩
      refine PySem.W.kia_one (PySem.W.kitx_exc (od := some od) hc T.hg T.hk T.hs T.ha T.hn T.ht T.hm) I.kIn J hk (by intro z; cases z) fun tk => ?_
      exact ⟨.bl b, H, I.tok _, rfl, q⟩
theorem je_isX {T2 : Str} {cv : Value} {c : V} {b : Bool} {p2 : Pos} (T : L2.ExcC X.K Cl) (hc : (PySem.W.clsIn X.K Cl).isSome = true) (hz : Zc (.ref Cl) (some dd) oe) (hf : ∃ vs, oe.data = .fields vs) (hg : Gl (X.suite a ((a, oe) :: pn)) "isinstance") (hm : X.mg "isinstance" = none)
    (hc2 : PE (X.suite a ((a, oe) :: pn)) (.Name T2 p2) (tC c)) (hcv : ∀ u : Value, RelV c u → u = cv) (hk : PySem.W.kitOne X.K (.ref Cl) cv = some b) (he : JE (X.suite a ((a, oe) :: pn)) E e d)
    (he1 : starEach [e, .Name T2 p2] X.env = (false, eval e X.env) :: starEach [.Name T2 p2] X.env := by rfl) (he2 : starEach [.Name T2 p2] X.env = (false, eval (.Name T2 p2) X.env) :: starEach [] X.env := by rfl)
    (hpl : (backTo pos (starEach [.Name T2 p2] X.env)).any (·.1) = false := by rfl) : JE (X.suite a ((a, oe) :: pn)) E (.Call (.Name "isinstance" p) [e, .Name T2 p2] [] pos) (dXi a dd b d) := by
  refine weakE (pe_callB (call_isX T hc hz hf) hg hm (by decide +kernel) (pa_cons he (pa_cons hc2 pa_nil he2) he1) (by decide) (by decide) he1 hpl) ?_
  rintro σ H Q ⟨F, G, m, env, st, S, R, P⟩
  refine ⟨F, G, m, env, st, S, R, (P.bind (R := RW)).imp fun v H1 ⟨G1, m1, w, st1, e1, S1, r1, P1⟩ => ?_⟩
  split at P1
  · rename_i a' dd' ns ws
    split at P1
    · rename_i z
      obtain ⟨rfl, rfl⟩ := z
      cases r1 with
      | exn hd rs => exact ⟨c, cv, b, _, rfl, hcv, hk, S1.ex _ _ hd, P1.ret S1 (.bl b)⟩
    · exact P1.elim
  · exact P1.elim
end
end Sh


set_option maxRecDepth 100000
set_option maxHeartbeats 2000000
namespace Sh
open PySem L2 Evl

/-! ### sum of ints -/
def ints? : List W → Option (List Int)
  | [] => some []
  | .int i :: xs => (ints? xs).map fun r => i :: r
  | _ => none
theorem ints_map : ∀ {xs : List W} {ns : List Int}, ints? xs = some ns → xs = ns.map W.int
  | [], ns, h => by cases h; rfl
  | x :: xs, ns, h => by
    unfold ints? at h
    split at h
    · rename_i q
      cases q
    · rename_i i ys q
      cases q
      cases h2 : ints? xs with
      | none => rw [h2] at h; cases h
      | some r =>
        rw [h2] at h
        cases h
        rw [ints_map h2]
        rfl
    · cases h
theorem ints_at : ∀ ns : List Int, ints? (ns.map W.int) = some ns
  | [] => rfl
  | i :: ns => by
    show (ints? (ns.map W.int)).map _ = _
    rw [ints_at ns]
    rfl
theorem rws_ints {K : PySem.W.Frag} {G : Hp} {m : List Addr} : ∀ {ns : List Int} {vs : List V}, RWs K G m (ns.map W.int) vs → vs = ns.map V.int
  | [], _, .nil => rfl
  | i :: ns, _, .cons h r => by
    cases h
    rw [rws_ints r]
    rfl
def cSum : List W → M W := fun ws st => match ws with
  | [w] => match lview w st with
    | some xs => match ints? xs with
      | some ns => .ok (.int ns.sum) st
      | none => .stuck
    | none => .stuck
  | _ => .stuck
section
variable {K : PySem.W.Frag} {mg : MG} {E : XK}
theorem ok_sum : CallOk K mg E (rSum K) cSum := by
  intro F G m st H ws vs Q S r P
  unfold cSum at P
  split at P
  · cases r with
    | cons h r =>
      cases r
      split at P
      · rename_i xs q
        split at P
        · rename_i ns q2
          obtain ⟨a, us, rfl, h1, h2⟩ := lview_at S h q
          rw [ints_map q2] at h2
          rw [rws_ints h2] at h1
          exact ⟨a, ns, rfl, h1, P.ret S (.int _)⟩
        · exact P.elim
      · exact P.elim
  · exact P.elim
end
section
variable {X : Cx} {E : XK} {a b e : Expr} {es : List Expr} {da db d : Env → M W} {ds : Env → M (List W)} {p pos : Pos} {x : Str}
theorem je_sum (hc : X.calm = true) (hg : Gl X "sum") (hm : X.mg "sum" = none) (ha : JA X E (e :: es) ds) (he : starEach (e :: es) X.env = (false, eval e X.env) :: starEach es X.env := by rfl) (hpl : (backTo pos (starEach es X.env)).any (·.1) = false := by rfl) :
    JE X E (.Call (.Name "sum" p) (e :: es) [] pos) (dCallB cSum ds) := je_callB (cr_sum hc) ok_sum hg hm (by decide +kernel) ha (by decide) (by decide) he hpl
/-! ### a written dict of the module -/
def dTab (tab : List (Str × W)) (d : Env → M W) : Env → M W := fun env st => (d env st).bind fun w st => match w with
  | .str z => match List.lookup z tab with
    | some u => .ok u st
    | none => .stuck
  | _ => .stuck
/-- what the written part says of the dict -/
def TabOk (K : PySem.W.Frag) (w : World) (D : Addr) (tab : List (Str × W)) : Prop := ∀ z u, List.lookup z tab = some u → ∃ v, KDct K w D z v ∧ ∀ G m, RW K G m u v
theorem tab_nil {K : PySem.W.Frag} {w : World} {D : Addr} : TabOk K w D [] := fun z u h => by cases h
theorem tab_int {K : PySem.W.Frag} {w : World} {D : Addr} {es : Array DictEntry} {n : Nat} {k : Str} {i : Int} {u0 : Value} {tab : List (Str × W)} (h1 : K.lookup D = some { cls := .type "dict", data := .dict es n }) (h2 : PySem.W.KeysLit w.params es.toList)
    (h3 : PySem.W.nsIn K D k = some (some u0)) (h4 : ∃ t, u0 = .int i t) (h : TabOk K w D tab) : TabOk K w D ((k, .int i) :: tab) := by
  intro z u hz
  rw [List.lookup_cons] at hz
  by_cases q : (z == k) = true
  · rw [q] at hz
    cases hz
    have e : z = k := by simpa using q
    subst e
    exact ⟨.int i, ⟨es, n, u0, h1, h2, h3, h4⟩, fun G m => .int i⟩
  · rw [Bool.not_eq_true] at q
    rw [q] at hz
    exact h z u hz
theorem kitCls_own {K : PySem.W.Frag} {t : Value} {C : Addr} {b : Bool} (i : PySem.W.isClsIn K C = true) (ty : PySem.W.typeIn K (.ref C) = some (.type "type")) (s : PySem.W.subIn K t (.ref C) = some b) : PySem.W.kitCls K t (.ref C) = some b := by
  have e : ((PySem.W.clsIn K C).isSome && PySem.W.typeIn K (.ref C) == some (.type "type")) = true := by
    rw [show (PySem.W.clsIn K C).isSome = true from i, ty]
    rfl
  exact (if_pos e).trans s
theorem exm_own {K : PySem.W.Frag} {C : Addr} (x : PySem.W.subIn K (.ref C) (.type "BaseException") = some true) (i : PySem.W.isClsIn K C = true) (ty : PySem.W.typeIn K (.ref C) = some (.type "type")) (s : PySem.W.subIn K (.ref C) (.ref C) = some true) : PySem.W.exmOne K (.ref C) (.ref C) = some true := by
  have e : (PySem.W.subIn K (.ref C) (.type "BaseException") == some true) = true := by
    rw [x]
    rfl
  exact (if_pos e).trans (kitCls_own i ty s)
theorem kit_true {K : PySem.W.Frag} {t c : Value} (h : PySem.W.kitCls K t c = some true) : PySem.W.kitOne K t c = some true := by
  unfold PySem.W.kitOne
  split
  · rfl
  · exact h
theorem kit_own {K : PySem.W.Frag} {t : Value} {C : Addr} (i : PySem.W.isClsIn K C = true) (ty : PySem.W.typeIn K (.ref C) = some (.type "type")) (s : PySem.W.subIn K t (.ref C) = some true) : PySem.W.kitOne K t (.ref C) = some true := kit_true (kitCls_own i ty s)
theorem kit_bi {K : PySem.W.Frag} {t : Value} {T : String} (m : PySem.W.kitMeta T = true) (s : PySem.W.subIn K t (.type T) = some true) : PySem.W.kitOne K t (.type T) = some true := kit_true ((if_pos m).trans s)
def clsBody : Stmt → List Stmt
  | .ClassDef _ _ _ b _ _ _ _ _ _ _ => b
  | _ => []
theorem je_tab {D : Addr} {tab : List (Str × W)} (hg : Gl X x) (hm : X.mg x = some (.ref D)) (ht : TabOk X.K X.w D tab) (hb : JE X E b db) (hs : PlainIx b := by exact fun _ _ => rfl) (hdb : (x == ("__debug__" : Str)) = false := by decide) :
    JE X E (.Subscript (.Name x p) b pos) (dTab tab db) := by
  refine weakE (pe_ix ix_kdict (pe_glob (v := .ref D) hg hm rfl hdb) hb hs) ?_
  rintro σ H Q ⟨F, G, m, env, st, S, R, P⟩
  refine ⟨F, G, m, env, st, S, R, (P.bind (R := RW)).imp fun v H1 ⟨G1, m1, w, st1, e1, S1, r1, P1⟩ => ?_⟩
  split at P1
  · rename_i z
    split at P1
    · rename_i u q
      obtain ⟨v, k, r⟩ := ht z u q
      cases r1
      exact ⟨D, z, v, rfl, rfl, k, P1.ret S1 (r _ _)⟩
    · exact P1.elim
  · exact P1.elim
end
end Sh


set_option maxRecDepth 100000
set_option maxHeartbeats 4000000
namespace Sh
open PySem L2 Evl

/-! ### the laws' charts, drawn -/
noncomputable def b_yarn : S :=
  (sRet (dOp oIx (dPure (dLst (dCons (dC (.str "b")) (dCons (dC (.str "ab")) (dCons (dC (.str "abzzzzzy")) (dCons (dC (.str "abzzzzzz")) dNil)))))) (dCall m_take (dCons (dVar 0) (dCons (dC (.int 4)) dNil)))))
noncomputable def m_yarn : List W → M W := dBody 1 1 b_yarn
noncomputable def b_join : S :=
  (sSeq (sSet 2 (dAdd (dC (.int 2)) (dCall m_take (dCons (dVar 0) (dCons (dCallB cMin2 (dCons (dC (.int 3)) (dCons (dSub (dVar 1) (dC (.int 1))) dNil))) dNil)))))
  (sSeq (sSet 3 (dOp oIx (dPure (dLst (dCons (dC (.str "left")) (dCons (dC (.str "right")) dNil)))) (dCall m_take (dCons (dVar 0) (dCons (dC (.int 2)) dNil)))))
  (sRet (dTup (dCons (dC (.str "join")) (dCons (dVar 2) (dCons (dVar 3) (dCons (dOp oIx (dPure (dLst (dCons (dC (.str "knit")) (dCons (dC (.str "purl")) dNil)))) (dCall m_take (dCons (dVar 0) (dCons (dC (.int 2)) dNil)))) (dCons (dCall m_yarn (dCons (dVar 0) dNil)) dNil)))))))))
noncomputable def m_join : List W → M W := dBody 2 4 b_join
noncomputable def b_commands : S :=
  (sSeq (sSet 3 (dCell (dLst dNil)))
  (sSeq (sSet 4 (dVar 1))
  (sSeq (sSet 5 (dSub (dVar 2) (dVar 1)))
  (sSeq (sFor (iR1 (dCons (dAdd (dVar 1) (dC (.int 7))) dNil)) (gN 6)
  (sSeq (sSet 7 (dCall m_take (dCons (dVar 0) (dCons (dC (.int 9)) dNil))))
  (sIf (dAnd (dB (dGt (dVar 5) (dC (.int 0)))) (dOr (dB (dEq (dVar 7) (dC (.int 0)))) (dAnd (dB (dEq (dVar 4) (dC (.int 0)))) (dB (dLt (dVar 7) (dC (.int 5)))))))
  (sSeq (sDrop (dBM tyL mAppend (dVar 3) (dCons (dTup (dCons (dC (.str "tuck")) (dCons (dCall m_yarn (dCons (dVar 0) dNil)) dNil))) dNil)))
  (sSet 5 (dSub (dVar 5) (dC (.int 1)))))
  (sIf (dAnd (dB (dEq (dVar 7) (dC (.int 1)))) (dB (dGt (dVar 4) (dC (.int 1)))))
  (sSeq (sDrop (dBM tyL mAppend (dVar 3) (dCons (dCall m_join (dCons (dVar 0) (dCons (dVar 4) dNil))) dNil)))
  (sSet 4 (dSub (dVar 4) (dOp oIx (dOp oIx (dVar 3) (dUn oNeg (dC (.int 1)))) (dC (.int 1))))))
  (sIf (dAnd (dB (dEq (dVar 7) (dC (.int 2)))) (dB (dGt (dVar 4) (dC (.int 0)))))
  (sSeq (sDrop (dBM tyL mAppend (dVar 3) (dCons (dTup (dCons (dC (.str "pass")) dNil)) dNil)))
  (sSet 4 (dSub (dVar 4) (dC (.int 1)))))
  (sIf (dAnd (dB (dEq (dVar 7) (dC (.int 3)))) (dB (dGt (dVar 4) (dC (.int 1)))))
  (sSeq (sDrop (dBM tyL mAppend (dVar 3) (dCons (dTup (dCons (dC (.str "drop")) dNil)) dNil)))
  (sSet 4 (dSub (dVar 4) (dC (.int 1)))))
  (sIf (dB (dGt (dVar 4) (dC (.int 0))))
  (sSeq (sDrop (dBM tyL mAppend (dVar 3) (dCons (dTup (dCons (dOp oIx (dPure (dLst (dCons (dC (.str "knit")) (dCons (dC (.str "purl")) dNil)))) (dMod (dCallB cInt (dCons (dVar 7) dNil)) (dC (.int 2)))) (dCons (dCall m_yarn (dCons (dVar 0) dNil)) dNil))) dNil)))
  (sSet 4 (dSub (dVar 4) (dC (.int 1)))))
  sNil)))))))
  (sRet (dPure (dOpF oCat (dVar 3) (dPure (dOpF oRep (dPure (dLst (dCons (dTup (dCons (dC (.str "knit")) (dCons (dC (.str "a")) dNil))) dNil))) (dVar 4))))))))))
noncomputable def m_commands : List W → M W := dBody 3 8 b_commands
noncomputable def b_count : S :=
  (sRet (dCallB cSum (dCons (dPure (dLc (iL (dVar 0)) (gN 1) tYesW (dCallB cInt (dCons (dNe (dOp oIx (dVar 1) (dC (.int 0))) (dC (.str "drop"))) dNil)) [1])) dNil)))
noncomputable def m_count : List W → M W := dBody 1 2 b_count
noncomputable def b_chart : S :=
  (sSeq (sSet 3 (dCell (dLst (dCons (dTup (dCons (dC (.str "work")) (dCons (dC (.str "right")) (dCons (dPure (dLc (iR1 (dCons (dAdd (dCall m_take (dCons (dVar 0) (dCons (dVar 1) dNil))) (dC (.int 1))) dNil)) (gN 4) tYesW (dTup (dCons (dC (.str "tuck")) (dCons (dCall m_yarn (dCons (dVar 0) dNil)) dNil))) [4])) dNil)))) dNil))))
  (sSeq (sSet 5 (dCallB cLen (dCons (dOp oIx (dOp oIx (dVar 3) (dC (.int 0))) (dC (.int 2))) dNil)))
  (sSeq (sFor (iR1 (dCons (dCall m_take (dCons (dVar 0) (dCons (dVar 2) dNil))) dNil)) (gN 4)
  (sIf (dAnd (dB (dGt (dVar 5) (dC (.int 1)))) (dB (dEq (dCall m_take (dCons (dVar 0) (dCons (dC (.int 3)) dNil))) (dC (.int 1)))))
  (sSeq (sSet 6 (dCell (dLst dNil)))
  (sSeq (sFor (iR1 (dCons (dCall m_take (dCons (dVar 0) (dCons (dC (.int 4)) dNil))) dNil)) (gN 7)
  (sDrop (dBM tyL mAppend (dVar 6) (dCons (dTup (dCons (dCall m_take (dCons (dVar 0) (dCons (dSub (dVar 5) (dC (.int 1))) dNil))) (dCons (dOp oIx (dPure (dLst (dCons (dC (.str "left")) (dCons (dC (.str "right")) dNil)))) (dCall m_take (dCons (dVar 0) (dCons (dC (.int 2)) dNil)))) dNil))) dNil))))
  (sDrop (dBM tyL mAppend (dVar 3) (dCons (dTup (dCons (dC (.str "move")) (dCons (dFz (dVar 6)) dNil))) dNil)))))
  (sSeq (sSet 8 (dCall m_commands (dCons (dVar 0) (dCons (dVar 5) (dCons (dVar 1) dNil)))))
  (sSeq (sDrop (dBM tyL mAppend (dVar 3) (dCons (dTup (dCons (dC (.str "work")) (dCons (dOp oIx (dPure (dLst (dCons (dC (.str "right")) (dCons (dC (.str "left")) dNil)))) (dCall m_take (dCons (dVar 0) (dCons (dC (.int 2)) dNil)))) (dCons (dVar 8) dNil)))) dNil)))
  (sSet 5 (dCall m_count (dCons (dVar 8) dNil)))))))
  (sRet (dFz (dVar 3))))))
noncomputable def m_chart : List W → M W := dBody 3 9 b_chart

/-- all but the cell s stays -/
structure Fr (s : Nat) (st st' : Store) : Prop where
  len : st.length ≤ st'.length
  keep : ∀ n, n ≠ s → n < st.length → st'[n]? = st[n]?
theorem Fr.refl (s : Nat) (st : Store) : Fr s st st := ⟨Nat.le_refl _, fun _ _ _ => rfl⟩
theorem Fr.trans {s : Nat} {st st1 st2 : Store} (a : Fr s st st1) (b : Fr s st1 st2) : Fr s st st2 := ⟨Nat.le_trans a.len b.len, fun n h l => (b.keep n h (Nat.lt_of_lt_of_le l a.len)).trans (a.keep n h l)⟩
theorem Fr.set {s : Nat} {st : Store} {c : C} : Fr s st (st.set s c) := ⟨by rw [List.length_set]; exact Nat.le_refl _, fun n h _ => List.getElem?_set_ne (Ne.symm h)⟩
theorem Fr.app {s : Nat} {st r : Store} : Fr s st (st ++ r) := ⟨by rw [List.length_append]; omega, fun n _ l => List.getElem?_append_left l⟩
theorem Fr.cell {s n : Nat} {st st' : Store} (f : Fr s st st') (h : n ≠ s) (l : n < st.length) : lcell st' n = lcell st n := by
  unfold lcell
  rw [f.keep n h l]
/-- a later cell is written -/
theorem Fr.write {s n : Nat} {st st1 : Store} {c : C} (f : Fr s st st1) (h : st.length ≤ n) : Fr s st (st1.set n c) := ⟨by rw [List.length_set]; exact f.len, fun k h1 l => by rw [List.getElem?_set_ne (by omega)]; exact f.keep k h1 l⟩
theorem StOk.write {ns : List Int} {s n : Nat} {st : Store} {c : C} (h : StOk ns st s) (ne : n ≠ s) : StOk ns (st.set n c) s := by
  obtain ⟨a, b, d, e, f⟩ := h
  exact ⟨a, b, d, by rw [lcell_set_ne ne, e], f⟩
theorem StOk.app {ns : List Int} {s : Nat} {st r : Store} (h : StOk ns st s) : StOk ns (st ++ r) s := by
  have l := h.lt
  obtain ⟨a, b, d, e, f⟩ := h
  exact ⟨a, b, d, by rw [lcell_app l, e], f⟩
section
variable {ns : List Int} {s : Nat} {st : Store} {env : Env}
theorem take_fr {k : Int} (h : StOk ns st s) (hk : 0 < k) (hk2 : k < 1073741824) : ∃ v st', m_take [.cell s, .int k] st = .ok (.int v) st' ∧ 0 ≤ v ∧ v < k ∧ StOk ns st' s ∧ Fr s st st' := by
  obtain ⟨v, st', a, b, c, d, e, rfl⟩ := take_ok h hk hk2
  exact ⟨v, _, a, b, c, d, Fr.set⟩
/-- a draw within a def: state stands in slot 0 -/
theorem tk_run {e : Env → M W} {k : Int} (h0 : env[0]? = some (some (.cell s))) (he : e env st = .ok (.int k) st) (h : StOk ns st s) (hk : 0 < k) (hk2 : k < 1073741824) :
    ∃ v st', dCall m_take (dCons (dVar 0) (dCons e dNil)) env st = .ok (.int v) st' ∧ 0 ≤ v ∧ v < k ∧ StOk ns st' s ∧ Fr s st st' := by
  obtain ⟨v, st', a, b⟩ := take_fr h hk hk2
  exact ⟨v, st', rCall (rCons (rV h0) (rCons he rNil)) a, b⟩
theorem pick_run {dl : Env → M (List W)} {xs : List W} {e : Env → M W} (h0 : env[0]? = some (some (.cell s))) (hd : dl env st = .ok xs st) (he : e env st = .ok (.int (xs.length : Int)) st) (h : StOk ns st s) (hk : 0 < xs.length) (hk2 : xs.length ≤ 1000) :
    ∃ w st', w ∈ xs ∧ dOp oIx (dPure (dLst dl)) (dCall m_take (dCons (dVar 0) (dCons e dNil))) env st = .ok w st' ∧ StOk ns st' s ∧ Fr s st st' := by
  obtain ⟨v, st', a, b, c, d, f⟩ := tk_run h0 he h (k := (xs.length : Int)) (by omega) (by omega)
  have l : v.toNat < xs.length := by omega
  exact ⟨xs[v.toNat], st', List.getElem_mem l, rOp (x := .lst xs) (rPure (rLst hd (line_ge (by omega)))) a (ix_at rfl b (List.getElem?_eq_getElem l)), d, f⟩
def YOk (y : Str) : Prop := okD (.str y) = true ∧ wtD (.str y) ≤ 8
theorem yarn_run (h : StOk ns st s) : ∃ y st', m_yarn [.cell s] st = .ok (.str y) st' ∧ YOk y ∧ StOk ns st' s ∧ Fr s st st' := by
  obtain ⟨w, st', a, b, c, d⟩ := pick_run (env := [some (.cell s)]) (dl := dCons (dC (.str "b")) (dCons (dC (.str "ab")) (dCons (dC (.str "abzzzzzy")) (dCons (dC (.str "abzzzzzz")) dNil)))) (xs := [.str "b", .str "ab", .str "abzzzzzy", .str "abzzzzzz"]) (e := dC (.int 4)) rfl (rCons rC (rCons rC (rCons rC (rCons rC rNil)))) rC h (by decide) (by decide)
  obtain ⟨y, rfl, hy⟩ : ∃ y, w = .str y ∧ YOk y := by
    simp only [List.mem_cons, List.not_mem_nil, or_false] at a
    rcases a with rfl | rfl | rfl | rfl
    · exact ⟨_, rfl, by decide +kernel, by decide +kernel⟩
    · exact ⟨_, rfl, by decide +kernel, by decide +kernel⟩
    · exact ⟨_, rfl, by decide +kernel, by decide +kernel⟩
    · exact ⟨_, rfl, by decide +kernel, by decide +kernel⟩
  exact ⟨y, st', body_rt rfl (sRet_at b), hy, c, d⟩
/-- commands of a chart -/
inductive Cmd where
  | join (n : Int) (lean side y : Str) | two (k y : Str) | one (k : Str)
def cW : Cmd → W
  | .join n lean side y => .tup [.str "join", .int n, .str lean, .str side, .str y]
  | .two k y => .tup [.str k, .str y]
  | .one k => .tup [.str k]
def Cmd.ok : Cmd → Prop
  | .join n lean side y => (-1000 ≤ n ∧ n ≤ 1000) ∧ (lean = "left" ∨ lean = "right") ∧ (side = "knit" ∨ side = "purl") ∧ YOk y
  | .two k y => (k = "knit" ∨ k = "purl" ∨ k = "tuck") ∧ YOk y
  | .one k => k = "pass" ∨ k = "drop"
def Cmd.aft : Cmd → Nat
  | .one k => if k = "drop" then 0 else 1
  | _ => 1
def aft (cs : List Cmd) : Nat := (cs.map Cmd.aft).sum
theorem join_run {left : Int} (h : StOk ns st s) (hl : 2 ≤ left) : ∃ n lean side y st', m_join [.cell s, .int left] st = .ok (cW (.join n lean side y)) st' ∧ (2 ≤ n ∧ n ≤ 4 ∧ n ≤ left) ∧ (lean = "left" ∨ lean = "right") ∧ (side = "knit" ∨ side = "purl") ∧ YOk y ∧ StOk ns st' s ∧ Fr s st st' := by
  have mn : cMin2 [.int 3, .int (left - 1)] st = .ok (.int (if left - 1 < 3 then left - 1 else 3)) st := rfl
  obtain ⟨v, st1, a1, a2, a3, a4, a5⟩ := tk_run (env := [some (.cell s), some (.int left), none, none]) (e := dCallB cMin2 (dCons (dC (.int 3)) (dCons (dSub (dVar 1) (dC (.int 1))) dNil))) rfl (rCallB (rCons rC (rCons (rOp (rV rfl) rC rfl) rNil)) mn) h (by split <;> omega) (by split <;> omega)
  obtain ⟨w2, st2, b1, b2, b3, b4⟩ := pick_run (env := [some (.cell s), some (.int left), some (.int (2 + v)), none]) (dl := dCons (dC (.str "left")) (dCons (dC (.str "right")) dNil)) (xs := [.str "left", .str "right"]) (e := dC (.int 2)) rfl (rCons rC (rCons rC rNil)) rC a4 (by decide) (by decide)
  obtain ⟨lean, rfl, hlean⟩ : ∃ y : Str, w2 = .str y ∧ (y = "left" ∨ y = "right") := by
    simp only [List.mem_cons, List.not_mem_nil, or_false] at b1
    rcases b1 with rfl | rfl
    · exact ⟨_, rfl, .inl rfl⟩
    · exact ⟨_, rfl, .inr rfl⟩
  obtain ⟨w3, st3, c1, c2, c3, c4⟩ := pick_run (env := [some (.cell s), some (.int left), some (.int (2 + v)), some (.str lean)]) (dl := dCons (dC (.str "knit")) (dCons (dC (.str "purl")) dNil)) (xs := [.str "knit", .str "purl"]) (e := dC (.int 2)) rfl (rCons rC (rCons rC rNil)) rC b3 (by decide) (by decide)
  obtain ⟨side, rfl, hside⟩ : ∃ y : Str, w3 = .str y ∧ (y = "knit" ∨ y = "purl") := by
    simp only [List.mem_cons, List.not_mem_nil, or_false] at c1
    rcases c1 with rfl | rfl
    · exact ⟨_, rfl, .inl rfl⟩
    · exact ⟨_, rfl, .inr rfl⟩
  obtain ⟨y, st4, d1, d2, d3, d4⟩ := yarn_run c3
  refine ⟨2 + v, lean, side, y, st4, body_rt rfl ?_, ⟨by omega, by split at a3 <;> omega, by split at a3 <;> omega⟩, hlean, hside, d2, d3, ((a5.trans b4).trans c4).trans d4⟩
  refine sSeq_at (sSet_at (rOp rC a1 rfl)) (sSeq_at (sSet_at b2) (sRet_at (rTup (rCons rC (rCons (rV rfl) (rCons (rV rfl) (rCons c2 (rCons (rCall (rCons (rV rfl) rNil) d1) rNil))))) (line_ge (by show 5 ≤ 1024; decide)))))
end
end Sh


set_option maxRecDepth 100000
set_option maxHeartbeats 4000000
namespace Sh
open PySem L2 Evl
section
variable {env env1 : Env} {st st1 st2 : Store} {t u : Env → M Bool} {a b : Bool} {d : Env → M W} {w : W} {xs : List W} {r i : Nat}
theorem pAnd (h : t env st = .ok a st) (k : u env st = .ok b st) : dAnd t u env st = .ok (a && b) st := by
  cases a with
  | true => exact rAndT h k
  | false => exact rAndF h
theorem pOr (h : t env st = .ok a st) (k : u env st = .ok b st) : dOr t u env st = .ok (a || b) st := by
  cases a with
  | true => exact rOrT h
  | false => exact rOrF h k
theorem mAppend_at (h : lcell st r = some xs) (l : xs.length ≤ 1023) : mAppend (.cell r) [w] st = .ok .non (st.set r (.lst (xs ++ [w]))) := by
  unfold mAppend
  simp only [h]
  exact if_pos (Nat.lt_of_lt_of_le (show xs.length < 1024 by omega) (line_ge (Nat.le_refl _)))
theorem app_run (h3 : env[i]? = some (some (.cell r))) (e : d env st = .ok w st1) (hr : lcell st r = some xs) (hr1 : lcell st1 r = some xs) (l : xs.length ≤ 1023) :
    sDrop (dBM tyL mAppend (dVar i) (dCons d dNil)) env st = .nx env (st1.set r (.lst (xs ++ [w]))) :=
  sDrop_at (rBM (rV h3) (tyL_cell hr) (rCons e rNil) (mAppend_at hr1 l))
theorem ix_last {x w : W} (h : sview w st = some (xs ++ [x])) : oIx w (.int (-1)) st = .ok x st := by
  have e : L2.atI (xs ++ [x]) (-1) = some x := by
    unfold L2.atI L2.ixN
    rw [List.length_append, List.length_singleton]
    rw [if_neg (by decide), if_pos (by omega)]
    have q : ((-1 : Int) + ((xs.length + 1 : Nat) : Int)).toNat = xs.length := by omega
    have q2 : (((xs.length + 1 : Nat) : Int) + (-1 : Int)).toNat = xs.length := by omega
    first
      | (simp only [q]; simp)
      | (simp only [q2]; simp)
  unfold oIx
  rw [h]
  simp only [e]
end
/-- how many columns a command takes -/
def Cmd.tks : Cmd → Int
  | .join n _ _ _ => n
  | .two k _ => if k = "tuck" then 0 else 1
  | .one _ => 1
def tks (cs : List Cmd) : Int := (cs.map Cmd.tks).sum
theorem tks_snoc (cs : List Cmd) (c : Cmd) : tks (cs ++ [c]) = tks cs + c.tks := by
  unfold tks
  rw [List.map_append, List.sum_append]
  simp
noncomputable abbrev cmdBody : S :=
  (sSeq (sSet 7 (dCall m_take (dCons (dVar 0) (dCons (dC (.int 9)) dNil))))
  (sIf (dAnd (dB (dGt (dVar 5) (dC (.int 0)))) (dOr (dB (dEq (dVar 7) (dC (.int 0)))) (dAnd (dB (dEq (dVar 4) (dC (.int 0)))) (dB (dLt (dVar 7) (dC (.int 5)))))))
  (sSeq (sDrop (dBM tyL mAppend (dVar 3) (dCons (dTup (dCons (dC (.str "tuck")) (dCons (dCall m_yarn (dCons (dVar 0) dNil)) dNil))) dNil)))
  (sSet 5 (dSub (dVar 5) (dC (.int 1)))))
  (sIf (dAnd (dB (dEq (dVar 7) (dC (.int 1)))) (dB (dGt (dVar 4) (dC (.int 1)))))
  (sSeq (sDrop (dBM tyL mAppend (dVar 3) (dCons (dCall m_join (dCons (dVar 0) (dCons (dVar 4) dNil))) dNil)))
  (sSet 4 (dSub (dVar 4) (dOp oIx (dOp oIx (dVar 3) (dUn oNeg (dC (.int 1)))) (dC (.int 1))))))
  (sIf (dAnd (dB (dEq (dVar 7) (dC (.int 2)))) (dB (dGt (dVar 4) (dC (.int 0)))))
  (sSeq (sDrop (dBM tyL mAppend (dVar 3) (dCons (dTup (dCons (dC (.str "pass")) dNil)) dNil)))
  (sSet 4 (dSub (dVar 4) (dC (.int 1)))))
  (sIf (dAnd (dB (dEq (dVar 7) (dC (.int 3)))) (dB (dGt (dVar 4) (dC (.int 1)))))
  (sSeq (sDrop (dBM tyL mAppend (dVar 3) (dCons (dTup (dCons (dC (.str "drop")) dNil)) dNil)))
  (sSet 4 (dSub (dVar 4) (dC (.int 1)))))
  (sIf (dB (dGt (dVar 4) (dC (.int 0))))
  (sSeq (sDrop (dBM tyL mAppend (dVar 3) (dCons (dTup (dCons (dOp oIx (dPure (dLst (dCons (dC (.str "knit")) (dCons (dC (.str "purl")) dNil)))) (dMod (dCallB cInt (dCons (dVar 7) dNil)) (dC (.int 2)))) (dCons (dCall m_yarn (dCons (dVar 0) dNil)) dNil))) dNil)))
  (sSet 4 (dSub (dVar 4) (dC (.int 1)))))
  sNil))))))
abbrev cEnv (s r : Nat) (count most left room : Int) (e6 e7 : Option W) : Env := [some (.cell s), some (.int count), some (.int most), some (.cell r), some (.int left), some (.int room), e6, e7]
section
variable {ns : List Int} {s r : Nat} {st : Store} {count most left room : Int} {e6 e7 : Option W} {cs : List Cmd}
theorem cmd_turn (ok : StOk ns st s) (hr : lcell st r = some (cs.map cW)) (ne : r ≠ s) (hok : ∀ c ∈ cs, c.ok) (hl : 0 ≤ left) (hm : 0 ≤ room) (hz : cs.length ≤ 1000) {st0 : Store} (f : Fr s st0 st) (h0 : st0.length ≤ r) :
    ∃ (cs' : List Cmd) (left' room' : Int) (e7' : Option W) (st' : Store), cmdBody (cEnv s r count most left room e6 e7) st = .nx (cEnv s r count most left' room' e6 e7') st' ∧ lcell st' r = some (cs'.map cW) ∧ (∀ c ∈ cs', c.ok) ∧ StOk ns st' s ∧ Fr s st0 st' ∧
      (aft cs' : Int) + left' + room' ≤ (aft cs : Int) + left + room ∧ cs'.length ≤ cs.length + 1 ∧ 0 ≤ left' ∧ left' ≤ left ∧ 0 ≤ room' ∧ tks cs' + left' = tks cs + left := by
  obtain ⟨kind, st1, k1, k2, k3, k4, k5⟩ := tk_run (env := cEnv s r count most left room e6 e7) (e := dC (.int 9)) rfl rC ok (by decide) (by decide)
  have lr := lcell_lt hr
  have hr1 : lcell st1 r = some (cs.map cW) := by rw [k5.cell ne lr, hr]
  have lz : (cs.map cW).length ≤ 1023 := by rw [List.length_map]; omega
  have more : ∀ {c : Cmd} {st2 : Store}, c.ok → StOk ns st2 s → Fr s st1 st2 → lcell (st2.set r (.lst (cs.map cW ++ [cW c]))) r = some ((cs ++ [c]).map cW) ∧ (∀ x ∈ cs ++ [c], x.ok) ∧ StOk ns (st2.set r (.lst (cs.map cW ++ [cW c]))) s ∧ Fr s st0 (st2.set r (.lst (cs.map cW ++ [cW c]))) := by
    intro c st2 hc o2 f2
    refine ⟨?_, ?_, o2.write ne, ((f.trans k5).trans f2).write h0⟩
    · rw [lcell_set (Nat.lt_of_lt_of_le (Nat.lt_of_lt_of_le lr k5.len) f2.len), List.map_append]
      rfl
    · intro x hx
      rcases List.mem_append.mp hx with hx | hx
      · exact hok x hx
      · rw [List.mem_singleton.mp hx]
        exact hc
  have aft1 : ∀ c : Cmd, aft (cs ++ [c]) = aft cs + c.aft := by
    intro c
    unfold aft
    rw [List.map_append, List.sum_append]
    simp
  have len1 : ∀ c : Cmd, (cs ++ [c]).length = cs.length + 1 := fun c => by simp
  have t1 : ∀ st, dAnd (dB (dGt (dVar 5) (dC (.int 0)))) (dOr (dB (dEq (dVar 7) (dC (.int 0)))) (dAnd (dB (dEq (dVar 4) (dC (.int 0)))) (dB (dLt (dVar 7) (dC (.int 5)))))) (cEnv s r count most left room e6 (some (.int kind))) st =
      .ok (decide (0 < room) && (decide (kind = 0) || (decide (left = 0) && decide (kind < 5)))) st := fun st => pAnd (rB (rOp (rV rfl) rC rfl)) (pOr (rB (rOp (rV rfl) rC rfl)) (pAnd (rB (rOp (rV rfl) rC rfl)) (rB (rOp (rV rfl) rC rfl))))
  have t2 : ∀ st, dAnd (dB (dEq (dVar 7) (dC (.int 1)))) (dB (dGt (dVar 4) (dC (.int 1)))) (cEnv s r count most left room e6 (some (.int kind))) st = .ok (decide (kind = 1) && decide (1 < left)) st := fun st => pAnd (rB (rOp (rV rfl) rC rfl)) (rB (rOp (rV rfl) rC rfl))
  have t3 : ∀ st, dAnd (dB (dEq (dVar 7) (dC (.int 2)))) (dB (dGt (dVar 4) (dC (.int 0)))) (cEnv s r count most left room e6 (some (.int kind))) st = .ok (decide (kind = 2) && decide (0 < left)) st := fun st => pAnd (rB (rOp (rV rfl) rC rfl)) (rB (rOp (rV rfl) rC rfl))
  have t4 : ∀ st, dAnd (dB (dEq (dVar 7) (dC (.int 3)))) (dB (dGt (dVar 4) (dC (.int 1)))) (cEnv s r count most left room e6 (some (.int kind))) st = .ok (decide (kind = 3) && decide (1 < left)) st := fun st => pAnd (rB (rOp (rV rfl) rC rfl)) (rB (rOp (rV rfl) rC rfl))
  have t5 : ∀ st, dB (dGt (dVar 4) (dC (.int 0))) (cEnv s r count most left room e6 (some (.int kind))) st = .ok (decide (0 < left)) st := fun st => rB (rOp (rV rfl) rC rfl)
  have l2 : (2 : Nat) ≤ sizeLine := line_ge (by decide)
  have l1 : (1 : Nat) ≤ sizeLine := line_ge (by decide)
  have b0 : sSet 7 (dCall m_take (dCons (dVar 0) (dCons (dC (.int 9)) dNil))) (cEnv s r count most left room e6 e7) st = .nx (cEnv s r count most left room e6 (some (.int kind))) st1 := sSet_at k1
  cases q1 : (decide (0 < room) && (decide (kind = 0) || (decide (left = 0) && decide (kind < 5)))) with
  | true =>
    have hroom : 0 < room := by simp only [Bool.and_eq_true, decide_eq_true_eq] at q1; exact q1.1
    obtain ⟨y, st2, y1, y2, y3, y4⟩ := yarn_run k4
    obtain ⟨m1, m2, m3, m4⟩ := more (c := .two "tuck" y) ⟨.inr (.inr rfl), y2⟩ y3 y4
    refine ⟨cs ++ [.two "tuck" y], left, room - 1, some (.int kind), _, ?_, m1, m2, m3, m4, ?_, by rw [len1]; exact Nat.le_refl _, hl, Int.le_refl _, by omega, by rw [tks_snoc, show Cmd.tks (.two "tuck" y) = 0 from rfl]; omega⟩
    · exact sSeq_at b0 (sIf_t ((t1 st1).trans (by rw [q1])) (sSeq_at (app_run rfl (rTup (rCons rC (rCons (rCall (rCons (rV rfl) rNil) y1) rNil)) l2) hr1 (by rw [y4.cell ne (lcell_lt hr1), hr1]) lz) (sSet_at (rOp (rV rfl) rC rfl))))
    · rw [aft1]
      have : Cmd.aft (.two "tuck" y) = 1 := rfl
      omega
  | false =>
  cases q2 : (decide (kind = 1) && decide (1 < left)) with
  | true =>
    have hleft : 1 < left := by simp only [Bool.and_eq_true, decide_eq_true_eq] at q2; exact q2.2
    obtain ⟨n, lean, side, y, st2, y1, y2, y3, y4, y5, y6, y7⟩ := join_run (left := left) k4 (by omega)
    obtain ⟨m1, m2, m3, m4⟩ := more (c := .join n lean side y) ⟨⟨by omega, by omega⟩, y3, y4, y5⟩ y6 y7
    refine ⟨cs ++ [.join n lean side y], left - n, room, some (.int kind), _, ?_, m1, m2, m3, m4, ?_, by rw [len1]; exact Nat.le_refl _, by omega, by omega, hm, by rw [tks_snoc, show Cmd.tks (.join n lean side y) = n from rfl]; omega⟩
    · refine sSeq_at b0 (sIf_f ((t1 st1).trans (by rw [q1])) (sIf_t ((t2 st1).trans (by rw [q2])) (sSeq_at (app_run rfl (rCall (rCons (rV rfl) (rCons (rV rfl) rNil)) y1) hr1 (by rw [y7.cell ne (lcell_lt hr1), hr1]) lz) ?_)))
      have mm : lcell (st2.set r (.lst (cs.map cW ++ [cW (.join n lean side y)]))) r = some (cs.map cW ++ [cW (.join n lean side y)]) := by rw [m1, List.map_append]; rfl
      exact sSet_at (rOp (rV rfl) (rOp (x := cW (.join n lean side y)) (y := .int 1) (rOp (x := .cell r) (y := .int (-1)) (rV rfl) rfl (ix_last (w := .cell r) mm)) rC (ix_at rfl (by decide) rfl)) rfl)
    · rw [aft1]
      have : Cmd.aft (.join n lean side y) = 1 := rfl
      omega
  | false =>
  cases q3 : (decide (kind = 2) && decide (0 < left)) with
  | true =>
    have hleft : 0 < left := by simp only [Bool.and_eq_true, decide_eq_true_eq] at q3; exact q3.2
    obtain ⟨m1, m2, m3, m4⟩ := more (c := .one "pass") (.inl rfl) k4 (Fr.refl s st1)
    refine ⟨cs ++ [.one "pass"], left - 1, room, some (.int kind), _, ?_, m1, m2, m3, m4, ?_, by rw [len1]; exact Nat.le_refl _, by omega, by omega, hm, by rw [tks_snoc, show Cmd.tks (.one "pass") = 1 from rfl]; omega⟩
    · exact sSeq_at b0 (sIf_f ((t1 st1).trans (by rw [q1])) (sIf_f ((t2 st1).trans (by rw [q2])) (sIf_t ((t3 st1).trans (by rw [q3])) (sSeq_at (app_run rfl (rTup (rCons rC rNil) l1) hr1 hr1 lz) (sSet_at (rOp (rV rfl) rC rfl))))))
    · rw [aft1]
      have : Cmd.aft (.one "pass") = 1 := by decide +kernel
      omega
  | false =>
  cases q4 : (decide (kind = 3) && decide (1 < left)) with
  | true =>
    have hleft : 1 < left := by simp only [Bool.and_eq_true, decide_eq_true_eq] at q4; exact q4.2
    obtain ⟨m1, m2, m3, m4⟩ := more (c := .one "drop") (.inr rfl) k4 (Fr.refl s st1)
    refine ⟨cs ++ [.one "drop"], left - 1, room, some (.int kind), _, ?_, m1, m2, m3, m4, ?_, by rw [len1]; exact Nat.le_refl _, by omega, by omega, hm, by rw [tks_snoc, show Cmd.tks (.one "drop") = 1 from rfl]; omega⟩
    · exact sSeq_at b0 (sIf_f ((t1 st1).trans (by rw [q1])) (sIf_f ((t2 st1).trans (by rw [q2])) (sIf_f ((t3 st1).trans (by rw [q3])) (sIf_t ((t4 st1).trans (by rw [q4])) (sSeq_at (app_run rfl (rTup (rCons rC rNil) l1) hr1 hr1 lz) (sSet_at (rOp (rV rfl) rC rfl)))))))
    · rw [aft1]
      have : Cmd.aft (.one "drop") = 0 := by decide +kernel
      omega
  | false =>
  by_cases hleft : 0 < left
  · obtain ⟨y, st2, y1, y2, y3, y4⟩ := yarn_run k4
    have hk : kind % 2 = 0 ∨ kind % 2 = 1 := by omega
    obtain ⟨sd, hsd, hix⟩ : ∃ sd : Str, (sd = "knit" ∨ sd = "purl") ∧ ∀ st, oIx (.lst [.str "knit", .str "purl"]) (.int (kind % 2)) st = .ok (.str sd) st := by
      rcases hk with h | h
      · exact ⟨"knit", .inl rfl, fun st => by rw [h]; exact ix_at rfl (by decide) rfl⟩
      · exact ⟨"purl", .inr rfl, fun st => by rw [h]; exact ix_at rfl (by decide) rfl⟩
    obtain ⟨m1, m2, m3, m4⟩ := more (c := .two sd y) ⟨by rcases hsd with h | h; exact .inl h; exact .inr (.inl h), y2⟩ y3 y4
    refine ⟨cs ++ [.two sd y], left - 1, room, some (.int kind), _, ?_, m1, m2, m3, m4, ?_, by rw [len1]; exact Nat.le_refl _, by omega, by omega, hm, by rw [tks_snoc, show Cmd.tks (.two sd y) = 1 from by rcases hsd with h | h <;> (rw [h]; rfl)]; omega⟩
    · refine sSeq_at b0 (sIf_f ((t1 st1).trans (by rw [q1])) (sIf_f ((t2 st1).trans (by rw [q2])) (sIf_f ((t3 st1).trans (by rw [q3])) (sIf_f ((t4 st1).trans (by rw [q4])) (sIf_t ((t5 st1).trans (by rw [decide_eq_true hleft])) (sSeq_at (app_run rfl (rTup (rCons ?_ (rCons (rCall (rCons (rV rfl) rNil) y1) rNil)) l2) hr1 (by rw [y4.cell ne (lcell_lt hr1), hr1]) lz) (sSet_at (rOp (rV rfl) rC rfl))))))))
      exact rOp (x := .lst [.str "knit", .str "purl"]) (y := .int (kind % 2)) (rPure (rLst (rCons rC (rCons rC rNil)) l2)) (rOp (x := .int kind) (y := .int 2) (rCallB (rCons (rV rfl) rNil) rfl) rC (oIC_at (show (0 : Int) < 2 by decide))) (hix st1)
    · rw [aft1]
      have : Cmd.aft (.two sd y) = 1 := rfl
      omega
  · refine ⟨cs, left, room, some (.int kind), st1, ?_, hr1, hok, k4, f.trans k5, Int.le_refl _, by omega, hl, Int.le_refl _, hm, rfl⟩
    exact sSeq_at b0 (sIf_f ((t1 st1).trans (by rw [q1])) (sIf_f ((t2 st1).trans (by rw [q2])) (sIf_f ((t3 st1).trans (by rw [q3])) (sIf_f ((t4 st1).trans (by rw [q4])) (sIf_f ((t5 st1).trans (by rw [decide_eq_false hleft])) sNil_at)))))
theorem cmds_loop : ∀ (n : Nat) (k : Int) (cs : List Cmd) (left room : Int) (e6 e7 : Option W) (st st0 : Store), StOk ns st s → lcell st r = some (cs.map cW) → r ≠ s → (∀ c ∈ cs, c.ok) → 0 ≤ left → 0 ≤ room → cs.length + n ≤ 1000 → Fr s st0 st → st0.length ≤ r →
    ∃ (cs' : List Cmd) (left' room' : Int) (e6' e7' : Option W) (st' : Store), forGo (fun _ => True) (gN 6) cmdBody (rngW k n) (cEnv s r count most left room e6 e7) st = .nx (cEnv s r count most left' room' e6' e7') st' ∧ lcell st' r = some (cs'.map cW) ∧ (∀ c ∈ cs', c.ok) ∧ StOk ns st' s ∧ Fr s st0 st' ∧
      (aft cs' : Int) + left' + room' ≤ (aft cs : Int) + left + room ∧ cs'.length ≤ cs.length + n ∧ 0 ≤ left' ∧ left' ≤ left ∧ 0 ≤ room' ∧ tks cs' + left' = tks cs + left
  | 0, k, cs, left, room, e6, e7, st, st0, ok, hr, ne, hok, hl, hm, hz, f, h0 => ⟨cs, left, room, e6, e7, st, forGo_nil True.intro, hr, hok, ok, f, Int.le_refl _, Nat.le_refl _, hl, Int.le_refl _, hm, rfl⟩
  | n + 1, k, cs, left, room, e6, e7, st, st0, ok, hr, ne, hok, hl, hm, hz, f, h0 => by
    obtain ⟨cs1, left1, room1, f7, st1, a1, a2, a3, a4, a5, a6, a7, a8, a9, a10, a11⟩ := cmd_turn (count := count) (most := most) (e6 := some (.int k)) (e7 := e7) ok hr ne hok hl hm (by omega) f h0
    obtain ⟨cs2, left2, room2, g6, g7, st2, b1, b2, b3, b4, b5, b6, b7, b8, b9, b10, b11⟩ := cmds_loop n (k + 1) cs1 left1 room1 (some (.int k)) f7 st1 st0 a4 a2 ne a3 a8 a10 (by omega) a5 h0
    refine ⟨cs2, left2, room2, g6, g7, st2, ?_, b2, b3, b4, b5, by omega, by omega, b8, by omega, b10, by omega⟩
    have e : rngW k (n + 1) = .int k :: rngW (k + 1) n := by
      unfold rngW
      rw [List.range_succ_eq_map, List.map_cons, List.map_map]
      simp only [Int.natCast_zero, Int.add_zero]
      congr 1
      refine List.map_congr_left fun i _ => ?_
      simp only [Function.comp]
      congr 1
      omega
    rw [e, forGo_nx (env1 := cEnv s r count most left room (some (.int k)) e7) (st1 := st) True.intro rfl a1]
    exact b1
end
end Sh


set_option maxRecDepth 100000
set_option maxHeartbeats 4000000
namespace Sh
open PySem L2 Evl
theorem oCat_at {x y : W} {xs ys : List W} {st : Store} (h1 : lviewT x st = some xs) (h2 : lviewT y st = some ys) (l : xs.length + ys.length ≤ 1024) : oCat x y st = .ok (xs ++ ys) st := by
  unfold oCat
  rw [h1, h2]
  exact if_pos (line_ge l)
theorem lc_pure {g : T} {tt : Env → M Bool} {te : Env → M W} {env : Env} {st : Store} {α : Type} {u : α → W} {e2 : α → Env} {p : α → Bool} {f : α → W} : ∀ (ws : List α) (acc : List W),
    (∀ w ∈ ws, g (u w) env st = .ok (e2 w) st ∧ tt (e2 w) st = .ok (p w) st ∧ te (e2 w) st = .ok (f w) st) → acc.length + ws.length ≤ 1024 →
    lcGo (fun _ => True) g tt te env (ws.map u) acc st = .ok (acc ++ (ws.filter p).map f) st
  | [], acc, h, hz => by simp [lcGo]
  | w :: ws, acc, h, hz => by
    obtain ⟨h1, h2, h3⟩ := h w List.mem_cons_self
    rw [List.length_cons] at hz
    have l : acc.length < sizeLine := Nat.lt_of_lt_of_le (show acc.length < 1024 by omega) (line_ge (Nat.le_refl _))
    rw [List.map_cons, lcGo, if_pos True.intro, h1]
    show (tt (e2 w) st).nox.bind _ = _
    rw [h2]
    rw [show (Out.ok (p w) st).nox = .ok (p w) st from rfl, Out.bind_ok]
    by_cases q : p w = true
    · rw [if_pos q, h3, show (Out.ok (f w) st).nox = .ok (f w) st from rfl, Out.bind_ok, if_pos l, lc_pure ws (acc ++ [f w]) (fun w hw => h w (List.mem_cons_of_mem _ hw)) (by rw [List.length_append, List.length_singleton]; omega),
        List.filter_cons, if_pos q, List.map_cons, List.append_assoc]
      rfl
    · rw [if_neg q, lc_pure ws acc (fun w hw => h w (List.mem_cons_of_mem _ hw)) (by omega), List.filter_cons, if_neg q]
theorem rep_cmd (c : Cmd) : ∀ l : Nat, (List.replicate l c).map cW = (List.replicate l [cW c]).flatten
  | 0 => rfl
  | l + 1 => by
    rw [List.replicate_succ, List.replicate_succ, List.map_cons, List.flatten_cons, rep_cmd c l]
    rfl
theorem sum_cast : ∀ cs : List Cmd, (cs.map fun c => (c.aft : Int)).sum = (aft cs : Int)
  | [] => rfl
  | c :: cs => by
    have ih := sum_cast cs
    unfold aft at ih ⊢
    rw [List.map_cons, List.map_cons, List.sum_cons, List.sum_cons, ih, Int.natCast_add]
theorem tks_rep (cs : List Cmd) : ∀ l : Nat, tks (cs ++ List.replicate l (.two "knit" "a")) = tks cs + l
  | 0 => by simp
  | l + 1 => by
    rw [List.replicate_succ', ← List.append_assoc, tks_snoc, tks_rep cs l, show Cmd.tks (.two "knit" "a") = 1 from rfl]
    omega
theorem yok_a : YOk "a" := ⟨by decide +kernel, by decide +kernel⟩
section
variable {ns : List Int} {s r : Nat} {st : Store} {count most : Int}
theorem commands_run (ok : StOk ns st s) (h0 : 0 ≤ count) (h1 : count ≤ most) (h2 : most ≤ 100) :
    ∃ (cs : List Cmd) (st' : Store), m_commands [.cell s, .int count, .int most] st = .ok (.lst (cs.map cW)) st' ∧ (∀ c ∈ cs, c.ok) ∧ (aft cs : Int) ≤ most ∧ cs.length ≤ 300 ∧ StOk ns st' s ∧ Fr s st st' ∧ tks cs = count := by
  have ls := ok.lt
  have l0 : (0 : Nat) ≤ sizeLine := Nat.zero_le _
  have l1 : (1 : Nat) ≤ sizeLine := line_ge (by decide)
  have l2 : (2 : Nat) ≤ sizeLine := line_ge (by decide)
  obtain ⟨n, hn⟩ : ∃ n : Nat, (n : Int) = count + 7 := ⟨(count + 7).toNat, by omega⟩
  obtain ⟨cs, left', room', e6, e7, st2, a1, a2, a3, a4, a5, a6, a7, a8, a9, a10, a11⟩ := cmds_loop (count := count) (most := most) n 0 [] count (most - count) none none (st ++ [.lst []]) st ok.app (r := st.length) lcell_new (by omega) (fun c hc => by cases hc) h0 (by omega) (by simp; omega) Fr.app (Nat.le_refl _)
  obtain ⟨l, rfl⟩ : ∃ l : Nat, left' = (l : Int) := ⟨left'.toNat, by omega⟩
  have af0 : aft ([] : List Cmd) = 0 := rfl
  rw [af0] at a6
  rw [List.length_nil, Nat.zero_add] at a7
  refine ⟨cs ++ List.replicate l (.two "knit" "a"), st2, body_rt rfl ?_, ?_, ?_, ?_, a4, a5, ?_⟩
  · have tot : (cs ++ List.replicate l (Cmd.two "knit" "a")).map cW = cs.map cW ++ (List.replicate l [cW (.two "knit" "a")]).flatten := by
      rw [List.map_append, rep_cmd]
    rw [tot]
    unfold b_commands
    refine sSeq_at (sSet_at (rCell (rLst rNil l0))) ?_
    refine sSeq_at (sSet_at (rV rfl)) ?_
    refine sSeq_at (sSet_at (rOp (rV rfl) (rV rfl) rfl)) ?_
    refine sSeq_at (rFor (rR1 (n := n) (rCons (rOp (x := .int count) (y := .int 7) (rV rfl) rC (by rw [hn]; rfl)) rNil) (sm_nat (by omega))) a1) ?_
    have lz : (List.replicate l [cW (.two "knit" "a")]).flatten.length = l := by simp
    refine sRet_at (rPure (rOpF (st1 := st2) (st2 := st2) (x := .cell st.length) (y := .lst (List.replicate l [cW (.two "knit" "a")]).flatten) (rV rfl) (rPure (rOpF (st1 := st2) (st2 := st2) (x := .lst [cW (.two "knit" "a")]) (y := .int (l : Int)) (rPure (rLst (rCons (rTup (rCons rC (rCons rC rNil)) l2) rNil) l1)) (rV rfl) (oRep_at rfl ?_ (by omega)))) (oCat_at a2 rfl ?_)))
    · rw [List.length_singleton, Nat.one_mul]
      exact line_ge (by omega)
    · rw [lz, List.length_map]
      omega
  · intro c hc
    rcases List.mem_append.mp hc with hc | hc
    · exact a3 c hc
    · rw [List.eq_of_mem_replicate hc]
      exact ⟨.inl rfl, yok_a⟩
  · have : aft (cs ++ List.replicate l (Cmd.two "knit" "a")) = aft cs + l := by
      unfold aft
      rw [List.map_append, List.sum_append, List.map_replicate, List.sum_replicate_nat]
      show _ + l * 1 = _
      omega
    rw [this]
    omega
  · rw [List.length_append, List.length_replicate]
    omega
  · rw [tks_rep]
    have t0 : tks ([] : List Cmd) = 0 := rfl
    omega
def Cmd.kind : Cmd → Str
  | .join _ _ _ _ => "join"
  | .two k _ => k
  | .one k => k
theorem cW_kind (c : Cmd) : ∃ rest, cW c = .tup (.str c.kind :: rest) := by
  cases c <;> exact ⟨_, rfl⟩
theorem aft_kind {c : Cmd} (h : c.ok) : (if (!decide (c.kind = "drop")) = true then (1 : Int) else 0) = (c.aft : Int) := by
  cases c with
  | join n lean side y =>
    show (if (!decide (("join" : Str) = "drop")) = true then (1 : Int) else 0) = 1
    decide +kernel
  | one k =>
    rcases h with rfl | rfl <;> decide +kernel
  | two k y =>
    show (if (!decide (k = "drop")) = true then (1 : Int) else 0) = 1
    rcases h.1 with h | h | h <;> (rw [h]; decide +kernel)
theorem count_run {cs : List Cmd} (hok : ∀ c ∈ cs, c.ok) (hz : cs.length ≤ 1000) : m_count [.lst (cs.map cW)] st = .ok (.int (aft cs : Int)) st := by
  have lc : dLc (iL (dVar 0)) (gN 1) tYesW (dCallB cInt (dCons (dNe (dOp oIx (dVar 1) (dC (.int 0))) (dC (.str "drop"))) dNil)) [1] [some (.lst (cs.map cW)), none] st = .ok (cs.map fun c => W.int (c.aft : Int)) st := by
    refine rLc (rList (rV rfl)) ?_
    refine (lc_pure (u := cW) (e2 := fun c => [some (.lst (cs.map cW)), some (cW c)]) (p := fun _ => true) (f := fun c => W.int (c.aft : Int)) cs [] (fun c hc => ⟨rfl, rfl, ?_⟩) (by rw [List.length_nil]; omega)).trans ?_
    · obtain ⟨rest, hr⟩ := cW_kind c
      refine rCallB (rCons (w := .bl (!decide (c.kind = "drop"))) (rOp (x := .str c.kind) (y := .str "drop") (rOp (x := cW c) (y := .int 0) (rV rfl) rC (by rw [hr]; exact ix_at rfl (by decide) rfl)) rC (oNe_str _ _ _)) rNil) ?_
      rw [cInt_bl, aft_kind (hok c hc)]
    · rw [List.nil_append, List.filter_eq_self.mpr fun _ _ => rfl]
  have sm : cSum [.lst (cs.map fun c => W.int (c.aft : Int))] st = .ok (.int (aft cs : Int)) st := by
    have e : (cs.map fun c => W.int (c.aft : Int)) = ((cs.map fun c => (c.aft : Int)).map W.int) := by rw [List.map_map]; rfl
    unfold cSum
    simp only [lview_lst]
    rw [e, ints_at]
    have : (cs.map fun c => (c.aft : Int)).sum = (aft cs : Int) := sum_cast cs
    simp only [this]
  exact body_rt rfl (sRet_at (rCallB (rCons (rPure lc) rNil) sm))
end
end Sh


set_option maxRecDepth 100000
set_option maxHeartbeats 4000000
namespace Sh
open PySem L2 Evl
theorem lcGo_nx {ok : Store → Prop} {g : T} {tt : Env → M Bool} {te : Env → M W} {env e2 : Env} {w y : W} {ws acc : List W} {st st1 st2 : Store} (k : ok st) (h : g w env st = .ok e2 st1) (t : tt e2 st1 = .ok true st1) (e : te e2 st1 = .ok y st2) (l : acc.length ≤ 1023) :
    lcGo ok g tt te env (w :: ws) acc st = lcGo ok g tt te env ws (acc ++ [y]) st2 := by
  have lz : acc.length < sizeLine := Nat.lt_of_lt_of_le (show acc.length < 1024 by omega) (line_ge (Nat.le_refl _))
  rw [lcGo, if_pos k, h]
  show (tt e2 st1).nox.bind _ = _
  rw [t, show (Out.ok true st1).nox = .ok true st1 from rfl, Out.bind_ok, if_pos rfl, e, show (Out.ok y st2).nox = .ok y st2 from rfl, Out.bind_ok, if_pos lz]
theorem rngW_succ (lo : Int) (n : Nat) : rngW lo (n + 1) = .int lo :: rngW (lo + 1) n := by
  unfold rngW
  rw [List.range_succ_eq_map, List.map_cons, List.map_map]
  simp only [Int.natCast_zero, Int.add_zero]
  congr 1
  refine List.map_congr_left fun i _ => ?_
  simp only [Function.comp]
  congr 1
  omega
/-- lines of a chart -/
inductive Line where
  | work (d : Str) (cs : List Cmd) | move (ex : List (Int × Str))
def eW (e : Int × Str) : W := .tup [.int e.1, .str e.2]
def lW : Line → W
  | .work d cs => .tup [.str "work", .str d, .lst (cs.map cW)]
  | .move ex => .tup [.str "move", .lst (ex.map eW)]
def eOk (e : Int × Str) : Prop := (-1000 ≤ e.1 ∧ e.1 ≤ 1000) ∧ (e.2 = "left" ∨ e.2 = "right")
def Line.ok : Line → Prop
  | .work d cs => (d = "left" ∨ d = "right") ∧ (∀ c ∈ cs, c.ok) ∧ cs.length ≤ 320
  | .move ex => (∀ e ∈ ex, eOk e) ∧ ex.length ≤ 40
/-- the columns behind a line that fits -/
def Line.fits (c : Int) : Line → Int → Prop
  | .work _ cs, c' => tks cs = c ∧ c' = (aft cs : Int)
  | .move ex, c' => (∀ e ∈ ex, 0 ≤ e.1 ∧ e.1 + 1 < c) ∧ c' = c
inductive Fits' : Int → List Line → Int → Prop
  | nil (c : Int) : Fits' c [] c
  | snoc {c c1 c2 : Int} {ls : List Line} {l : Line} : Fits' c ls c1 → l.fits c1 c2 → Fits' c (ls ++ [l]) c2
section
variable {ns : List Int} {s r : Nat}
theorem tucks_run {te : Env → M W} (hte : te = dTup (dCons (dC (.str "tuck")) (dCons (dCall m_yarn (dCons (dVar 0) dNil)) dNil)) ) {env : Env} (h0 : env[0]? = some (some (.cell s))) : ∀ (n : Nat) (k : Int) (acc : List Cmd) (st st0 : Store), StOk ns st s → Fr s st0 st → acc.length + n ≤ 1000 → (∀ c ∈ acc, c.ok ∧ c.tks = 0 ∧ c.aft = 1) →
    ∃ (cs : List Cmd) (st' : Store), lcGo (fun _ => True) (gN 4) tYesW te env (rngW k n) (acc.map cW) st = .ok (cs.map cW) st' ∧ (∀ c ∈ cs, c.ok ∧ c.tks = 0 ∧ c.aft = 1) ∧ cs.length = acc.length + n ∧ StOk ns st' s ∧ Fr s st0 st'
  | 0, k, acc, st, st0, ok, f, hz, ha => ⟨acc, st, by simp [rngW, lcGo], ha, rfl, ok, f⟩
  | n + 1, k, acc, st, st0, ok, f, hz, ha => by
    obtain ⟨y, st1, y1, y2, y3, y4⟩ := yarn_run ok
    obtain ⟨cs, st2, b1, b2, b3, b4, b5⟩ := tucks_run hte h0 n (k + 1) (acc ++ [.two "tuck" y]) st1 st0 y3 (f.trans y4) (by rw [List.length_append, List.length_singleton]; omega) (fun c hc => by
      rcases List.mem_append.mp hc with hc | hc
      · exact ha c hc
      · rw [List.mem_singleton.mp hc]
        exact ⟨⟨.inr (.inr rfl), y2⟩, rfl, rfl⟩)
    refine ⟨cs, st2, ?_, b2, by rw [b3, List.length_append, List.length_singleton]; omega, b4, b5⟩
    have h0' : (env.set 4 (some (.int k)))[0]? = some (some (.cell s)) := by rw [List.getElem?_set_ne (by decide), h0]
    have l2 : (2 : Nat) ≤ sizeLine := line_ge (by decide)
    rw [rngW_succ, lcGo_nx (e2 := env.set 4 (some (.int k))) (st1 := st) (y := cW (.two "tuck" y)) (st2 := st1) True.intro rfl rfl (by rw [hte]; exact rTup (rCons rC (rCons (rCall (rCons (rV h0') rNil) y1) rNil)) l2) (by rw [List.length_map]; omega)]
    rw [List.map_append] at b1
    exact b1
noncomputable abbrev exBody : S := (sDrop (dBM tyL mAppend (dVar 6) (dCons (dTup (dCons (dCall m_take (dCons (dVar 0) (dCons (dSub (dVar 5) (dC (.int 1))) dNil))) (dCons (dOp oIx (dPure (dLst (dCons (dC (.str "left")) (dCons (dC (.str "right")) dNil)))) (dCall m_take (dCons (dVar 0) (dCons (dC (.int 2)) dNil)))) dNil))) dNil)))
abbrev hEnv (s r : Nat) (most lines : Int) (e4 : Option W) (count : Int) (e6 e7 e8 : Option W) : Env := [some (.cell s), some (.int most), some (.int lines), some (.cell r), e4, some (.int count), e6, e7, e8]
theorem ex_loop {x : Nat} {most lines count : Int} {e4 e8 : Option W} (hc : 1 < count) (hc2 : count ≤ 1000) (ne : x ≠ s) : ∀ (n : Nat) (k : Int) (acc : List (Int × Str)) (e7 : Option W) (st st0 : Store), StOk ns st s → Fr s st0 st → st0.length ≤ x → lcell st x = some (acc.map eW) → acc.length + n ≤ 40 → (∀ e ∈ acc, eOk e ∧ 0 ≤ e.1 ∧ e.1 + 1 < count) →
    ∃ (ex : List (Int × Str)) (e7' : Option W) (st' : Store), forGo (fun _ => True) (gN 7) exBody (rngW k n) (hEnv s r most lines e4 count (some (.cell x)) e7 e8) st = .nx (hEnv s r most lines e4 count (some (.cell x)) e7' e8) st' ∧ lcell st' x = some (ex.map eW) ∧ (∀ e ∈ ex, eOk e ∧ 0 ≤ e.1 ∧ e.1 + 1 < count) ∧ ex.length = acc.length + n ∧ StOk ns st' s ∧ Fr s st0 st' ∧ st.length ≤ st'.length
  | 0, k, acc, e7, st, st0, ok, f, h0, hx, hz, ha => ⟨acc, e7, st, forGo_nil True.intro, hx, ha, rfl, ok, f, Nat.le_refl _⟩
  | n + 1, k, acc, e7, st, st0, ok, f, h0, hx, hz, ha => by
    have lx := lcell_lt hx
    obtain ⟨v, st1, a1, a2, a3, a4, a5⟩ := tk_run (env := hEnv s r most lines e4 count (some (.cell x)) (some (.int k)) e8) (e := dSub (dVar 5) (dC (.int 1))) (k := count - 1) (st := st) rfl (rOp (rV rfl) rC rfl) ok (by omega) (by omega)
    obtain ⟨w2, st2, b1, b2, b3, b4⟩ := pick_run (env := hEnv s r most lines e4 count (some (.cell x)) (some (.int k)) e8) (dl := dCons (dC (.str "left")) (dCons (dC (.str "right")) dNil)) (xs := [.str "left", .str "right"]) (e := dC (.int 2)) rfl (rCons rC (rCons rC rNil)) rC a4 (by decide) (by decide)
    obtain ⟨o, rfl, ho⟩ : ∃ y : Str, w2 = .str y ∧ (y = "left" ∨ y = "right") := by
      simp only [List.mem_cons, List.not_mem_nil, or_false] at b1
      rcases b1 with rfl | rfl
      · exact ⟨_, rfl, .inl rfl⟩
      · exact ⟨_, rfl, .inr rfl⟩
    have f2 := a5.trans b4
    have hx2 : lcell st2 x = some (acc.map eW) := by rw [f2.cell ne lx, hx]
    have l2 : (2 : Nat) ≤ sizeLine := line_ge (by decide)
    have tb : exBody (hEnv s r most lines e4 count (some (.cell x)) (some (.int k)) e8) st = .nx (hEnv s r most lines e4 count (some (.cell x)) (some (.int k)) e8) (st2.set x (.lst (acc.map eW ++ [eW (v, o)]))) :=
      app_run rfl (rTup (rCons a1 (rCons b2 rNil)) l2) hx hx2 (by rw [List.length_map]; omega)
    obtain ⟨ex, g7, st3, c1, c2, c3, c4, c5, c6, c7⟩ := ex_loop hc hc2 ne n (k + 1) (acc ++ [(v, o)]) (some (.int k)) (st2.set x (.lst (acc.map eW ++ [eW (v, o)]))) st0 (b3.write ne) ((f.trans f2).write h0) h0 (by rw [lcell_set (Nat.lt_of_lt_of_le lx f2.len), List.map_append]; rfl) (by rw [List.length_append, List.length_singleton]; omega) (fun e he => by
      rcases List.mem_append.mp he with he | he
      · exact ha e he
      · rw [List.mem_singleton.mp he]
        exact ⟨⟨⟨by show -1000 ≤ v; omega, by show v ≤ 1000; omega⟩, ho⟩, a2, by show v + 1 < count; omega⟩)
    refine ⟨ex, g7, st3, ?_, c2, c3, by rw [c4, List.length_append, List.length_singleton]; omega, c5, c6, Nat.le_trans (by rw [List.length_set]; exact f2.len) c7⟩
    rw [rngW_succ, forGo_nx (env1 := hEnv s r most lines e4 count (some (.cell x)) (some (.int k)) e8) (st1 := st) True.intro rfl tb]
    exact c1
end
end Sh


set_option maxRecDepth 100000
set_option maxHeartbeats 4000000
namespace Sh
open PySem L2 Evl
theorem rFz {d : Env → M W} {env : Env} {st st1 : Store} {n : Nat} {xs : List W} (h : d env st = .ok (.cell n) st1) (k : lcell st1 n = some xs) : dFz d env st = .ok (.lst xs) (st1.set n .dead) := by
  unfold dFz
  rw [h, Out.bind_ok]
  unfold fz
  simp only [k]
noncomputable abbrev lineBody : S :=
  (sIf (dAnd (dB (dGt (dVar 5) (dC (.int 1)))) (dB (dEq (dCall m_take (dCons (dVar 0) (dCons (dC (.int 3)) dNil))) (dC (.int 1)))))
  (sSeq (sSet 6 (dCell (dLst dNil)))
  (sSeq (sFor (iR1 (dCons (dCall m_take (dCons (dVar 0) (dCons (dC (.int 4)) dNil))) dNil)) (gN 7)
  exBody)
  (sDrop (dBM tyL mAppend (dVar 3) (dCons (dTup (dCons (dC (.str "move")) (dCons (dFz (dVar 6)) dNil))) dNil)))))
  (sSeq (sSet 8 (dCall m_commands (dCons (dVar 0) (dCons (dVar 5) (dCons (dVar 1) dNil)))))
  (sSeq (sDrop (dBM tyL mAppend (dVar 3) (dCons (dTup (dCons (dC (.str "work")) (dCons (dOp oIx (dPure (dLst (dCons (dC (.str "right")) (dCons (dC (.str "left")) dNil)))) (dCall m_take (dCons (dVar 0) (dCons (dC (.int 2)) dNil)))) (dCons (dVar 8) dNil)))) dNil)))
  (sSet 5 (dCall m_count (dCons (dVar 8) dNil))))))
section
variable {ns : List Int} {s r : Nat} {st : Store} {most lines count : Int} {e4 e6 e7 e8 : Option W} {ls : List Line}
theorem line_turn (ok : StOk ns st s) (hr : lcell st r = some (ls.map lW)) (ne : r ≠ s) (h0 : 0 ≤ count) (h1 : count ≤ most) (h2 : most ≤ 100) (hz : ls.length ≤ 100) {st0 : Store} (f : Fr s st0 st) (hb : st0.length ≤ r) :
    ∃ (l : Line) (count' : Int) (e6' e7' e8' : Option W) (st' : Store), lineBody (hEnv s r most lines e4 count e6 e7 e8) st = .nx (hEnv s r most lines e4 count' e6' e7' e8') st' ∧ l.ok ∧ l.fits count count' ∧ lcell st' r = some ((ls ++ [l]).map lW) ∧ StOk ns st' s ∧ Fr s st0 st' ∧ 0 ≤ count' ∧ count' ≤ most := by
  have lr := lcell_lt hr
  have l0 : (0 : Nat) ≤ sizeLine := Nat.zero_le _
  have l2 : (2 : Nat) ≤ sizeLine := line_ge (by decide)
  have l3 : (3 : Nat) ≤ sizeLine := line_ge (by decide)
  -- a line of exchanges
  have mv : ∀ st1, StOk ns st1 s → Fr s st st1 → 1 < count → ∃ (l : Line) (e6' e7' : Option W) (st' : Store),
      (sSeq (sSet 6 (dCell (dLst dNil))) (sSeq (sFor (iR1 (dCons (dCall m_take (dCons (dVar 0) (dCons (dC (.int 4)) dNil))) dNil)) (gN 7) exBody) (sDrop (dBM tyL mAppend (dVar 3) (dCons (dTup (dCons (dC (.str "move")) (dCons (dFz (dVar 6)) dNil))) dNil))))) (hEnv s r most lines e4 count e6 e7 e8) st1 =
        .nx (hEnv s r most lines e4 count e6' e7' e8) st' ∧ l.ok ∧ l.fits count count ∧ lcell st' r = some ((ls ++ [l]).map lW) ∧ StOk ns st' s ∧ Fr s st0 st' := by
    intro st1 ok1 f1 hc
    have lr1 : r < st1.length := Nat.lt_of_lt_of_le lr f1.len
    have ls1 := ok1.lt
    obtain ⟨v, st3, a1, a2, a3, a4, a5⟩ := tk_run (env := hEnv s r most lines e4 count (some (.cell st1.length)) e7 e8) (e := dC (.int 4)) (st := st1 ++ [.lst []]) rfl rC ok1.app (by decide) (by decide)
    obtain ⟨n, rfl⟩ : ∃ n : Nat, v = (n : Int) := ⟨v.toNat, by omega⟩
    have fa : Fr s st1 st3 := Fr.trans Fr.app a5
    have hx3 : lcell st3 st1.length = some (([] : List (Int × Str)).map eW) := by rw [a5.cell (by omega) (by simp), lcell_new]; rfl
    obtain ⟨ex, g7, st4, b1, b2, b3, b4, b5, b6, b7⟩ := ex_loop (r := r) (most := most) (lines := lines) (e4 := e4) (e8 := e8) hc (by omega) (x := st1.length) (by omega) n 0 [] e7 st3 st1 a4 fa (Nat.le_refl _) hx3 (by simp; omega) (fun e he => by cases he)
    have nx : st1.length ≠ r := by omega
    have hr4 : lcell st4 r = some (ls.map lW) := by rw [b6.cell ne lr1, f1.cell ne lr, hr]
    have hr5 : lcell (st4.set st1.length .dead) r = some (ls.map lW) := by rw [lcell_set_ne nx, hr4]
    have lb : ls.length ≤ 1023 := by omega
    refine ⟨.move ex, some (.cell st1.length), g7, (st4.set st1.length .dead).set r (.lst (ls.map lW ++ [lW (.move ex)])), ?_, ⟨fun e he => (b3 e he).1, by rw [b4, List.length_nil]; omega⟩, ⟨fun e he => (b3 e he).2, rfl⟩, ?_, ?_, ?_⟩
    · refine sSeq_at (sSet_at (rCell (rLst rNil l0))) ?_
      refine sSeq_at (rFor (rR1 (n := n) (rCons a1 rNil) (sm_nat (by omega))) b1) ?_
      exact app_run rfl (rTup (rCons rC (rCons (rFz (rV rfl) b2) rNil)) l2) hr4 hr5 (by rw [List.length_map]; omega)
    · rw [lcell_set (by rw [List.length_set]; exact lcell_lt hr4), List.map_append]
      rfl
    · exact (b5.write (by omega)).write ne
    · exact (((f.trans f1).trans b6).write (by have := (f.trans f1).len; omega)).write hb
  -- a line of commands
  have wk : ∀ st1, StOk ns st1 s → Fr s st st1 → ∃ (l : Line) (count' : Int) (e8' : Option W) (st' : Store),
      (sSeq (sSet 8 (dCall m_commands (dCons (dVar 0) (dCons (dVar 5) (dCons (dVar 1) dNil)))))
        (sSeq (sDrop (dBM tyL mAppend (dVar 3) (dCons (dTup (dCons (dC (.str "work")) (dCons (dOp oIx (dPure (dLst (dCons (dC (.str "right")) (dCons (dC (.str "left")) dNil)))) (dCall m_take (dCons (dVar 0) (dCons (dC (.int 2)) dNil)))) (dCons (dVar 8) dNil)))) dNil)))
        (sSet 5 (dCall m_count (dCons (dVar 8) dNil))))) (hEnv s r most lines e4 count e6 e7 e8) st1 =
        .nx (hEnv s r most lines e4 count' e6 e7 e8') st' ∧ l.ok ∧ l.fits count count' ∧ lcell st' r = some ((ls ++ [l]).map lW) ∧ StOk ns st' s ∧ Fr s st0 st' ∧ 0 ≤ count' ∧ count' ≤ most := by
    intro st1 ok1 f1
    obtain ⟨cs, st2, a1, a2, a3, a4, a5, a6, a7⟩ := commands_run ok1 h0 h1 h2
    obtain ⟨w2, st3, b1, b2, b3, b4⟩ := pick_run (env := hEnv s r most lines e4 count e6 e7 (some (.lst (cs.map cW)))) (dl := dCons (dC (.str "right")) (dCons (dC (.str "left")) dNil)) (xs := [.str "right", .str "left"]) (e := dC (.int 2)) rfl (rCons rC (rCons rC rNil)) rC a5 (by decide) (by decide)
    obtain ⟨o, rfl, ho⟩ : ∃ y : Str, w2 = .str y ∧ (y = "left" ∨ y = "right") := by
      simp only [List.mem_cons, List.not_mem_nil, or_false] at b1
      rcases b1 with rfl | rfl
      · exact ⟨_, rfl, .inr rfl⟩
      · exact ⟨_, rfl, .inl rfl⟩
    have hr2 : lcell st2 r = some (ls.map lW) := by rw [(f1.trans a6).cell ne lr, hr]
    have hr3 : lcell st3 r = some (ls.map lW) := by rw [b4.cell ne (lcell_lt hr2), hr2]
    refine ⟨.work o cs, (aft cs : Int), some (.lst (cs.map cW)), st3.set r (.lst (ls.map lW ++ [lW (.work o cs)])), ?_, ⟨ho, a2, by omega⟩, ⟨a7, rfl⟩, ?_, b3.write ne, (((f.trans f1).trans a6).trans b4).write hb, by omega, a3⟩
    · refine sSeq_at (sSet_at (rCall (rCons (rV rfl) (rCons (rV rfl) (rCons (rV rfl) rNil))) a1)) ?_
      refine sSeq_at (app_run rfl (rTup (rCons rC (rCons b2 (rCons (rV rfl) rNil))) l3) hr2 hr3 (by rw [List.length_map]; omega)) ?_
      exact sSet_at (rCall (rCons (rV rfl) rNil) (count_run a2 (by omega)))
    · rw [lcell_set (lcell_lt hr3), List.map_append]
      rfl
  have gt1 : ∀ st, oGt (.int count) (.int 1) st = .ok (.bl (decide (1 < count))) st := fun st => rfl
  by_cases hc : 1 < count
  · obtain ⟨v, st1, a1, a2, a3, a4, a5⟩ := tk_run (env := hEnv s r most lines e4 count e6 e7 e8) (e := dC (.int 3)) (st := st) rfl rC ok (by decide) (by decide)
    have t : dAnd (dB (dGt (dVar 5) (dC (.int 1)))) (dB (dEq (dCall m_take (dCons (dVar 0) (dCons (dC (.int 3)) dNil))) (dC (.int 1)))) (hEnv s r most lines e4 count e6 e7 e8) st = .ok (decide (v = 1)) st1 :=
      rAndT (rB (rOp (rV rfl) rC ((gt1 st).trans (by rw [decide_eq_true hc])))) (rB (rOp a1 rC rfl))
    by_cases hv : v = 1
    · obtain ⟨l, e6', e7', st', b1, b2, b3, b4, b5, b6⟩ := mv st1 a4 a5 hc
      exact ⟨l, count, e6', e7', e8, st', sIf_t (t.trans (by rw [decide_eq_true hv])) b1, b2, b3, b4, b5, b6, h0, h1⟩
    · obtain ⟨l, count', e8', st', b1, b2, b3, b4, b5, b6, b7, b8⟩ := wk st1 a4 a5
      exact ⟨l, count', e6, e7, e8', st', sIf_f (t.trans (by rw [decide_eq_false hv])) b1, b2, b3, b4, b5, b6, b7, b8⟩
  · obtain ⟨l, count', e8', st', b1, b2, b3, b4, b5, b6, b7, b8⟩ := wk st ok (Fr.refl s st)
    exact ⟨l, count', e6, e7, e8', st', sIf_f (rAndF (rB (rOp (rV rfl) rC ((gt1 st).trans (by rw [decide_eq_false hc]))))) b1, b2, b3, b4, b5, b6, b7, b8⟩
theorem lines_loop : ∀ (n : Nat) (k : Int) (ls : List Line) (count : Int) (e4 e6 e7 e8 : Option W) (st st0 : Store), StOk ns st s → lcell st r = some (ls.map lW) → r ≠ s → 0 ≤ count → count ≤ most → most ≤ 100 → ls.length + n ≤ 100 → Fr s st0 st → st0.length ≤ r → (∀ l ∈ ls, l.ok) → Fits' 0 ls count →
    ∃ (ls' : List Line) (count' : Int) (e4' e6' e7' e8' : Option W) (st' : Store), forGo (fun _ => True) (gN 4) lineBody (rngW k n) (hEnv s r most lines e4 count e6 e7 e8) st = .nx (hEnv s r most lines e4' count' e6' e7' e8') st' ∧ lcell st' r = some (ls'.map lW) ∧ (∀ l ∈ ls', l.ok) ∧ Fits' 0 ls' count' ∧ ls'.length = ls.length + n ∧
      StOk ns st' s ∧ Fr s st0 st' ∧ 0 ≤ count' ∧ count' ≤ most
  | 0, k, ls, count, e4, e6, e7, e8, st, st0, ok, hr, ne, h0, h1, h2, hz, f, hb, hl, hf => ⟨ls, count, e4, e6, e7, e8, st, forGo_nil True.intro, hr, hl, hf, rfl, ok, f, h0, h1⟩
  | n + 1, k, ls, count, e4, e6, e7, e8, st, st0, ok, hr, ne, h0, h1, h2, hz, f, hb, hl, hf => by
    obtain ⟨l, c1, f6, f7, f8, st1, a1, a2, a3, a4, a5, a6, a7, a8⟩ := line_turn (lines := lines) (e4 := some (.int k)) (e6 := e6) (e7 := e7) (e8 := e8) ok hr ne h0 h1 h2 (by omega) f hb
    obtain ⟨ls2, c2, g4, g6, g7, g8, st2, b1, b2, b3, b4, b5, b6, b7, b8, b9⟩ := lines_loop n (k + 1) (ls ++ [l]) c1 (some (.int k)) f6 f7 f8 st1 st0 a5 a4 ne a7 a8 h2 (by rw [List.length_append, List.length_singleton]; omega) a6 hb (fun x hx => by
      rcases List.mem_append.mp hx with hx | hx
      · exact hl x hx
      · rw [List.mem_singleton.mp hx]
        exact a2) (hf.snoc a3)
    refine ⟨ls2, c2, g4, g6, g7, g8, st2, ?_, b2, b3, b4, by rw [b5, List.length_append, List.length_singleton]; omega, b6, b7, b8, b9⟩
    rw [rngW_succ, forGo_nx (env1 := hEnv s r most lines (some (.int k)) count e6 e7 e8) (st1 := st) True.intro rfl a1]
    exact b1
theorem tks_zero : ∀ {cs : List Cmd}, (∀ c ∈ cs, c.ok ∧ c.tks = 0 ∧ c.aft = 1) → tks cs = 0 ∧ aft cs = cs.length
  | [], _ => ⟨rfl, rfl⟩
  | c :: cs, h => by
    obtain ⟨a, b⟩ := tks_zero fun x hx => h x (List.mem_cons_of_mem _ hx)
    obtain ⟨_, h1, h2⟩ := h c List.mem_cons_self
    unfold tks aft at *
    rw [List.map_cons, List.sum_cons, List.map_cons, List.sum_cons, List.length_cons, h1, h2]
    exact ⟨by omega, by omega⟩
/-- a chart drawn: its lines fit -/
theorem chart_run (ok : StOk ns st s) (hm : 1 ≤ most) (hm2 : most ≤ 60) (hl : 1 ≤ lines) (hl2 : lines ≤ 60) :
    ∃ (ls : List Line) (c : Int) (st' : Store), m_chart [.cell s, .int most, .int lines] st = .ok (.lst (ls.map lW)) st' ∧ (∀ l ∈ ls, l.ok) ∧ Fits' 0 ls c ∧ 1 ≤ ls.length ∧ (ls.length : Int) ≤ lines ∧ StOk ns st' s ∧ Fr s st st' := by
  have ls0 := ok.lt
  have l1 : (1 : Nat) ≤ sizeLine := line_ge (by decide)
  have l3 : (3 : Nat) ≤ sizeLine := line_ge (by decide)
  obtain ⟨v, st1, a1, a2, a3, a4, a5⟩ := tk_run (env := [some (.cell s), some (.int most), some (.int lines), none, none, none, none, none, none]) (e := dVar 1) (st := st) rfl (rV rfl) ok (by omega) (by omega)
  obtain ⟨n, hn⟩ : ∃ n : Nat, (n : Int) = v + 1 := ⟨(v + 1).toNat, by omega⟩
  obtain ⟨cs, st2, b1, b2, b3, b4, b5⟩ := tucks_run (te := dTup (dCons (dC (.str "tuck")) (dCons (dCall m_yarn (dCons (dVar 0) dNil)) dNil))) rfl (env := [some (.cell s), some (.int most), some (.int lines), none, none, none, none, none, none]) rfl n 0 [] st1 st a4 a5 (by simp; omega) (fun c hc => by cases hc)
  rw [List.length_nil, Nat.zero_add] at b3
  obtain ⟨z1, z2⟩ := tks_zero b2
  generalize hl0 : Line.work "right" cs = l0
  have f0 : Fits' 0 [l0] (n : Int) := by
    have q : l0.fits 0 (n : Int) := by
      rw [← hl0]
      exact ⟨z1, by rw [z2, b3]⟩
    exact (Fits'.nil 0).snoc q
  have k0 : l0.ok := by
    rw [← hl0]
    exact ⟨.inr rfl, fun c hc => (b2 c hc).1, by omega⟩
  have lw : lW l0 = .tup [.str "work", .str "right", .lst (cs.map cW)] := by rw [← hl0]; rfl
  have hr : lcell (st2 ++ [.lst [lW l0]]) st2.length = some ([l0].map lW) := lcell_new
  have fr2 : Fr s st (st2 ++ [.lst [lW l0]]) := b5.trans Fr.app
  have ls2 := b4.lt
  obtain ⟨u, st3, c1, c2, c3, c4, c5⟩ := tk_run (env := hEnv s st2.length most lines none (n : Int) none none none) (e := dVar 2) (st := st2 ++ [.lst [lW l0]]) rfl (rV rfl) b4.app (by omega) (by omega)
  obtain ⟨k, rfl⟩ : ∃ k : Nat, u = (k : Int) := ⟨u.toNat, by omega⟩
  have hr3 : lcell st3 st2.length = some ([l0].map lW) := by rw [c5.cell (by omega) (by simp), hr]
  obtain ⟨ls, c', g4, g6, g7, g8, st4, d1, d2, d3, d4, d5, d6, d7, d8, d9⟩ := lines_loop (most := most) (lines := lines) k 0 [l0] (n : Int) none none none none st3 st c4 hr3 (by omega) (by omega) (by omega) (by omega) (by simp; omega) (fr2.trans c5) b5.len (fun l hl => by rw [List.mem_singleton.mp hl]; exact k0) f0
  rw [List.length_singleton] at d5
  have ln : ∀ st, cLen [.lst (cs.map cW)] st = .ok (.int (n : Int)) st := fun st => by rw [cLen_at (w := .lst (cs.map cW)) rfl, List.length_map, b3]
  refine ⟨ls, c', st4.set st2.length .dead, body_rt rfl ?_, d3, d4, by omega, by omega, d6.write (by omega), d7.write b5.len⟩
  have e3 : sSet 3 (dCell (dLst (dCons (dTup (dCons (dC (.str "work")) (dCons (dC (.str "right")) (dCons (dPure (dLc (iR1 (dCons (dAdd (dCall m_take (dCons (dVar 0) (dCons (dVar 1) dNil))) (dC (.int 1))) dNil)) (gN 4) tYesW (dTup (dCons (dC (.str "tuck")) (dCons (dCall m_yarn (dCons (dVar 0) dNil)) dNil))) [4])) dNil)))) dNil)))
      [some (.cell s), some (.int most), some (.int lines), none, none, none, none, none, none] st = .nx [some (.cell s), some (.int most), some (.int lines), some (.cell st2.length), none, none, none, none, none] (st2 ++ [.lst [lW l0]]) := by
    rw [lw]
    exact sSet_at (rCell (rLst (rCons (rTup (rCons rC (rCons rC (rCons (rPure (rLc (rR1 (n := n) (rCons (rOp (x := .int v) (y := .int 1) a1 rC (by rw [hn]; rfl)) rNil) (sm_nat (by omega))) b1)) rNil))) l3) rNil) l1))
  have i0 : oIx (.cell st2.length) (.int 0) (st2 ++ [.lst [lW l0]]) = .ok (lW l0) (st2 ++ [.lst [lW l0]]) := ix_at (w := .cell st2.length) hr (by decide) rfl
  have i2 : oIx (lW l0) (.int 2) (st2 ++ [.lst [lW l0]]) = .ok (.lst (cs.map cW)) (st2 ++ [.lst [lW l0]]) := by
    generalize st2 ++ [C.lst [lW l0]] = sx
    rw [lw]
    exact ix_at rfl (by decide) rfl
  have e5 : sSet 5 (dCallB cLen (dCons (dOp oIx (dOp oIx (dVar 3) (dC (.int 0))) (dC (.int 2))) dNil)) [some (.cell s), some (.int most), some (.int lines), some (.cell st2.length), none, none, none, none, none] (st2 ++ [.lst [lW l0]]) =
      .nx (hEnv s st2.length most lines none (n : Int) none none none) (st2 ++ [.lst [lW l0]]) := sSet_at (rCallB (rCons (rOp (rOp (rV rfl) rC i0) rC i2) rNil) (ln _))
  unfold b_chart
  refine sSeq_at e3 (sSeq_at e5 ?_)
  refine sSeq_at (rFor (rR1 (n := k) (rCons c1 rNil) (sm_nat (by omega))) d1) ?_
  exact sRet_at (rFz (rV rfl) d2)
end
end Sh


set_option maxRecDepth 100000
set_option maxHeartbeats 2000000
/-! globals that are numbers or texts -/
namespace Sh
open PySem L2 Evl
section
variable {X : Cx} {E : XK}
theorem je_gint {x : Str} {i : Int} {p : Pos} (hg : Gl X x) (hm : ∃ t, X.mg x = some (.int i t)) (hd : (x == ("__debug__" : Str)) = false := by decide) : JE X E (.Name x p) (dC (.int i)) := by
  obtain ⟨t, hm⟩ := hm
  exact je_const (pe_glob (v := .int i) hg hm ⟨t, rfl⟩ hd) fun _ _ => .int i
theorem je_gstr {x : Str} {i : Str} {p : Pos} (hg : Gl X x) (hm : ∃ t, X.mg x = some (.str i t)) (hd : (x == ("__debug__" : Str)) = false := by decide) : JE X E (.Name x p) (dC (.str i)) := by
  obtain ⟨t, hm⟩ := hm
  exact je_const (pe_glob (v := .str i) hg hm ⟨t, rfl⟩ hd) fun _ _ => .str i
end
theorem gint_mk {K : PySem.W.Frag} {h : Heap} {mg : MG} {x : Str} {u : Value} {i : Int} (X : K.In h) (G : h.Ns mainGlobals mg) (a : PySem.W.nsIn K mainGlobals x = some (some u)) (v : ∃ t, u = .int i t) : ∃ t, mg x = some (.int i t) := by
  obtain ⟨t, rfl⟩ := v
  exact ⟨t, PySem.W.mg_of X G a⟩
theorem gstr_mk {K : PySem.W.Frag} {h : Heap} {mg : MG} {x : Str} {u : Value} {i : Str} (X : K.In h) (G : h.Ns mainGlobals mg) (a : PySem.W.nsIn K mainGlobals x = some (some u)) (v : ∃ t, u = .str i t) : ∃ t, mg x = some (.str i t) := by
  obtain ⟨t, rfl⟩ := v
  exact ⟨t, PySem.W.mg_of X G a⟩
end Sh


set_option maxRecDepth 100000
set_option maxHeartbeats 4000000
namespace K01
open PySem L2 Evl Sh
abbrev tab_COLUMNS_TAKEN : List (Str × W) := [("knit", .int 1), ("purl", .int 1), ("tuck", .int 0), ("pass", .int 1), ("drop", .int 1)]
def topS (i : Nat) : Stmt := PySem.Challenge.pw_heldloops_k01_checked_charts.main.body.getD i (.Pass ⟨0, 0, 0, 0⟩)
abbrev S_columns_taken : Stmt := topS 9
abbrev N_columns_taken : List Str := ["command"]
theorem sc_columns_taken : FnScope N_columns_taken ["command"] (defScope S_columns_taken) := ⟨rfl, rfl, rfl, by decide +kernel, rfl, by decide +kernel, by decide +kernel⟩
noncomputable def b_columns_taken : S :=
  (sRet (dIf (dB (dEq (dOp oIx (dVar 0) (dC (.int 0))) (dC (.str "join")))) (dOp oIx (dVar 0) (dC (.int 1))) (dTab tab_COLUMNS_TAKEN (dOp oIx (dVar 0) (dC (.int 0))))))
noncomputable def m_columns_taken : List W → M W := dBody 1 1 b_columns_taken
abbrev S_width_behind : Stmt := topS 7
abbrev N_width_behind : List Str := ["commands", "width", "line", "taken", "left", "item", "command", "many"]
theorem sc_width_behind : FnScope N_width_behind ["commands", "width", "line"] (defScope S_width_behind) := ⟨rfl, rfl, rfl, by decide +kernel, rfl, by decide +kernel, by decide +kernel⟩
noncomputable def b_width_behind : S :=
  (sSeq (sSet 3 (dC (.int 0)))
  (sSeq (sSet 4 (dC (.int 0)))
  (sSeq (sFor (iEn (dCons (dVar 0) dNil)) (gTu (gsCons (gN 5) (gsCons (gN 6) gsNil)))
  (sSeq (sSet 7 (dCall m_columns_taken (dCons (dVar 6) dNil)))
  (sSeq (sIf (dOr (dB (dGt (dVar 7) (dSub (dVar 1) (dVar 3)))) (dAnd (dB (dEq (dOp oIx (dVar 6) (dC (.int 0))) (dC (.str "join")))) (dNot (dB (dChain oLe oLe (dC (.int 2)) (dVar 7) (dC (.int 4)))))))
  (sRaise "WrongChart" ["line", "item"] (dCons (dVar 2) (dCons (dVar 5) dNil)))
  sNil)
  (sSeq (sAug 3 (fun i j => i + j) (dVar 7))
  (sIf (dB (dNe (dOp oIx (dVar 6) (dC (.int 0))) (dC (.str "drop"))))
  (sAug 4 (fun i j => i + j) (dC (.int 1)))
  sNil)))))
  (sSeq (sIf (dB (dLt (dVar 3) (dVar 1)))
  (sRaise "WrongChart" ["line", "item"] (dCons (dVar 2) (dCons (dCallB cLen (dCons (dVar 0) dNil)) dNil)))
  sNil)
  (sRet (dVar 4))))))
noncomputable def m_width_behind : List W → M W := dBody 3 8 b_width_behind
abbrev S_check_exchanges : Stmt := topS 8
abbrev N_check_exchanges : List Str := ["exchanges", "width", "line", "item", "column", "_"]
theorem sc_check_exchanges : FnScope N_check_exchanges ["exchanges", "width", "line"] (defScope S_check_exchanges) := ⟨rfl, rfl, rfl, by decide +kernel, rfl, by decide +kernel, by decide +kernel⟩
noncomputable def b_check_exchanges : S :=
  (sFor (iEn (dCons (dVar 0) dNil)) (gTu (gsCons (gN 3) (gsCons (gTu (gsCons (gN 4) (gsCons (gN 5) gsNil))) gsNil)))
  (sIf (dNot (dB (dChain oLe oLt (dC (.int 0)) (dVar 4) (dSub (dVar 1) (dC (.int 1))))))
  (sRaise "WrongChart" ["line", "item"] (dCons (dVar 2) (dCons (dVar 3) dNil)))
  sNil))
noncomputable def m_check_exchanges : List W → M W := dBody 3 6 b_check_exchanges
abbrev S_check_chart : Stmt := topS 6
abbrev N_check_chart : List Str := ["chart", "widths", "line", "parts", "width"]
theorem sc_check_chart : FnScope N_check_chart ["chart"] (defScope S_check_chart) := ⟨rfl, rfl, rfl, by decide +kernel, rfl, by decide +kernel, by decide +kernel⟩
noncomputable def b_check_chart : S :=
  (sSeq (sSet 1 (dCell (dLst (dCons (dC (.int 0)) dNil))))
  (sSeq (sFor (iEn (dCons (dVar 0) dNil)) (gTu (gsCons (gN 2) (gsCons (gN 3) gsNil)))
  (sSeq (sSet 4 (dOp oIx (dVar 1) (dUn oNeg (dC (.int 1)))))
  (sSeq (sIf (dB (dEq (dOp oIx (dVar 3) (dC (.int 0))) (dC (.str "work"))))
  (sSet 4 (dCallB m_width_behind (dCons (dOp oIx (dVar 3) (dC (.int 2))) (dCons (dVar 4) (dCons (dVar 2) dNil)))))
  (sDrop (dCallB m_check_exchanges (dCons (dOp oIx (dVar 3) (dC (.int 1))) (dCons (dVar 4) (dCons (dVar 2) dNil))))))
  (sDrop (dBM tyL mAppend (dVar 1) (dCons (dVar 4) dNil))))))
  (sRet (dFz (dVar 1)))))
noncomputable def m_check_chart : List W → M W := dBody 1 5 b_check_chart
abbrev S_state : Stmt := topS 11
abbrev N_state : List Str := ["script", "mixed", "rest"]
theorem sc_state : FnScope N_state ["script"] (defScope S_state) := ⟨rfl, rfl, rfl, by decide +kernel, rfl, by decide +kernel, by decide +kernel⟩
abbrev S_take : Stmt := topS 12
abbrev N_take : List Str := ["state", "many", "cell", "drawn"]
theorem sc_take : FnScope N_take ["state", "many"] (defScope S_take) := ⟨rfl, rfl, rfl, by decide +kernel, rfl, by decide +kernel, by decide +kernel⟩
abbrev S_yarn : Stmt := topS 13
abbrev N_yarn : List Str := ["state"]
theorem sc_yarn : FnScope N_yarn ["state"] (defScope S_yarn) := ⟨rfl, rfl, rfl, by decide +kernel, rfl, by decide +kernel, by decide +kernel⟩
abbrev S_join : Stmt := topS 14
abbrev N_join : List Str := ["state", "left", "count", "lean"]
theorem sc_join : FnScope N_join ["state", "left"] (defScope S_join) := ⟨rfl, rfl, rfl, by decide +kernel, rfl, by decide +kernel, by decide +kernel⟩
abbrev S_commands : Stmt := topS 15
abbrev N_commands : List Str := ["state", "count", "most", "commands", "left", "room", "n", "kind"]
theorem sc_commands : FnScope N_commands ["state", "count", "most"] (defScope S_commands) := ⟨rfl, rfl, rfl, by decide +kernel, rfl, by decide +kernel, by decide +kernel⟩
abbrev S_count : Stmt := topS 16
abbrev N_count : List Str := ["commands", "command"]
theorem sc_count : FnScope N_count ["commands"] (defScope S_count) := ⟨rfl, rfl, rfl, by decide +kernel, rfl, by decide +kernel, by decide +kernel⟩
abbrev S_chart : Stmt := topS 17
abbrev N_chart : List Str := ["state", "most", "lines", "chart", "n", "count", "exchanges", "k", "commands"]
theorem sc_chart : FnScope N_chart ["state", "most", "lines"] (defScope S_chart) := ⟨rfl, rfl, rfl, by decide +kernel, rfl, by decide +kernel, by decide +kernel⟩
abbrev S_wide : Stmt := topS 18
abbrev N_wide : List Str := ["state", "most", "count", "chart", "n", "kind", "at", "yarn", "exchanges", "k", "commands"]
theorem sc_wide : FnScope N_wide ["state", "most"] (defScope S_wide) := ⟨rfl, rfl, rfl, by decide +kernel, rfl, by decide +kernel, by decide +kernel⟩
noncomputable def b_wide : S :=
  (sSeq (sSet 2 (dAdd (dC (.int 8)) (dCall m_take (dCons (dVar 0) (dCons (dSub (dVar 1) (dC (.int 7))) dNil)))))
  (sSeq (sSet 3 (dCell (dLst (dCons (dTup (dCons (dC (.str "work")) (dCons (dC (.str "right")) (dCons (dPure (dLc (iR1 (dCons (dVar 2) dNil)) (gN 4) tYesW (dTup (dCons (dC (.str "tuck")) (dCons (dCall m_yarn (dCons (dVar 0) dNil)) dNil))) [4])) dNil)))) dNil))))
  (sSeq (sFor (iR1 (dCons (dCall m_take (dCons (dVar 0) (dCons (dC (.int 13)) dNil))) dNil)) (gN 4)
  (sSeq (sSet 5 (dCall m_take (dCons (dVar 0) (dCons (dC (.int 3)) dNil))))
  (sSeq (sSet 6 (dCall m_take (dCons (dVar 0) (dCons (dSub (dVar 2) (dC (.int 1))) dNil))))
  (sSeq (sSet 7 (dCall m_yarn (dCons (dVar 0) dNil)))
  (sIf (dB (dEq (dVar 5) (dC (.int 1))))
  (sSeq (sSet 8 (dCell (dLst dNil)))
  (sSeq (sFor (iR1 (dCons (dCall m_take (dCons (dVar 0) (dCons (dC (.int 13)) dNil))) dNil)) (gN 9)
  (sDrop (dBM tyL mAppend (dVar 8) (dCons (dTup (dCons (dCall m_take (dCons (dVar 0) (dCons (dSub (dVar 2) (dC (.int 1))) dNil))) (dCons (dOp oIx (dPure (dLst (dCons (dC (.str "left")) (dCons (dC (.str "right")) dNil)))) (dCall m_take (dCons (dVar 0) (dCons (dC (.int 2)) dNil)))) dNil))) dNil))))
  (sDrop (dBM tyL mAppend (dVar 3) (dCons (dTup (dCons (dC (.str "move")) (dCons (dFz (dVar 8)) dNil))) dNil)))))
  (sIf (dAnd (dB (dEq (dVar 5) (dC (.int 2)))) (dB (dGt (dVar 2) (dC (.int 4)))))
  (sSeq (sSet 10 (dPure (dOpF oCat (dPure (dOpF oCat (dPure (dOpF oRep (dPure (dLst (dCons (dTup (dCons (dC (.str "knit")) (dCons (dVar 7) dNil))) dNil))) (dVar 6))) (dPure (dLst (dCons (dCall m_join (dCons (dVar 0) (dCons (dC (.int 2)) dNil))) dNil))))) (dPure (dOpF oRep (dPure (dLst (dCons (dTup (dCons (dC (.str "purl")) (dCons (dVar 7) dNil))) dNil))) (dSub (dSub (dVar 2) (dVar 6)) (dC (.int 2))))))))
  (sSeq (sDrop (dBM tyL mAppend (dVar 3) (dCons (dTup (dCons (dC (.str "work")) (dCons (dOp oIx (dPure (dLst (dCons (dC (.str "right")) (dCons (dC (.str "left")) dNil)))) (dCall m_take (dCons (dVar 0) (dCons (dC (.int 2)) dNil)))) (dCons (dVar 10) dNil)))) dNil)))
  (sSet 2 (dSub (dVar 2) (dC (.int 1))))))
  (sSeq (sSet 10 (dPure (dOpF oCat (dPure (dOpF oCat (dPure (dOpF oRep (dPure (dLst (dCons (dTup (dCons (dC (.str "knit")) (dCons (dVar 7) dNil))) dNil))) (dVar 6))) (dPure (dLst (dCons (dTup (dCons (dC (.str "pass")) dNil)) dNil))))) (dPure (dOpF oRep (dPure (dLst (dCons (dTup (dCons (dC (.str "purl")) (dCons (dVar 7) dNil))) dNil))) (dSub (dSub (dVar 2) (dVar 6)) (dC (.int 1))))))))
  (sDrop (dBM tyL mAppend (dVar 3) (dCons (dTup (dCons (dC (.str "work")) (dCons (dOp oIx (dPure (dLst (dCons (dC (.str "right")) (dCons (dC (.str "left")) dNil)))) (dCall m_take (dCons (dVar 0) (dCons (dC (.int 2)) dNil)))) (dCons (dVar 10) dNil)))) dNil))))))))))
  (sRet (dFz (dVar 3))))))
noncomputable def m_wide : List W → M W := dBody 2 11 b_wide
abbrev S_odd_join : Stmt := topS 19
abbrev N_odd_join : List Str := ["state", "count", "lean"]
theorem sc_odd_join : FnScope N_odd_join ["state"] (defScope S_odd_join) := ⟨rfl, rfl, rfl, by decide +kernel, rfl, by decide +kernel, by decide +kernel⟩
noncomputable def b_odd_join : S :=
  (sSeq (sSet 1 (dOp oIx (dPure (dLst (dCons (dC (.int 0)) (dCons (dC (.int 1)) (dCons (dC (.int 5)) (dCons (dUn oNeg (dC (.int 1))) (dCons (dSub (dCall m_take (dCons (dVar 0) (dCons (dC (.int 16)) dNil))) (dC (.int 3))) (dCons (dSub (dCall m_take (dCons (dVar 0) (dCons (dC (.int 40)) dNil))) (dC (.int 9))) dNil)))))))) (dCall m_take (dCons (dVar 0) (dCons (dC (.int 6)) dNil)))))
  (sSeq (sSet 2 (dOp oIx (dPure (dLst (dCons (dC (.str "left")) (dCons (dC (.str "right")) dNil)))) (dCall m_take (dCons (dVar 0) (dCons (dC (.int 2)) dNil)))))
  (sRet (dTup (dCons (dC (.str "join")) (dCons (dVar 1) (dCons (dVar 2) (dCons (dOp oIx (dPure (dLst (dCons (dC (.str "knit")) (dCons (dC (.str "purl")) dNil)))) (dCall m_take (dCons (dVar 0) (dCons (dC (.int 2)) dNil)))) (dCons (dCall m_yarn (dCons (dVar 0) dNil)) dNil)))))))))
noncomputable def m_odd_join : List W → M W := dBody 1 3 b_odd_join
abbrev S_spoilt : Stmt := topS 20
abbrev N_spoilt : List Str := ["state", "chart", "at", "line", "kind", "column", "exchange", "k", "commands"]
theorem sc_spoilt : FnScope N_spoilt ["state", "chart"] (defScope S_spoilt) := ⟨rfl, rfl, rfl, by decide +kernel, rfl, by decide +kernel, by decide +kernel⟩
noncomputable def b_spoilt : S :=
  (sSeq (sSet 2 (dCall m_take (dCons (dVar 0) (dCons (dCallB cLen (dCons (dVar 1) dNil)) dNil))))
  (sSeq (sSet 3 (dOp oIx (dVar 1) (dVar 2)))
  (sSeq (sSet 4 (dCall m_take (dCons (dVar 0) (dCons (dC (.int 5)) dNil))))
  (sSeq (sIf (dB (dEq (dOp oIx (dVar 3) (dC (.int 0))) (dC (.str "move"))))
  (sSeq (sSet 5 (dOp oIx (dPure (dLst (dCons (dSub (dCall m_take (dCons (dVar 0) (dCons (dC (.int 11)) dNil))) (dC (.int 2))) (dCons (dSub (dCall m_take (dCons (dVar 0) (dCons (dC (.int 80)) dNil))) (dC (.int 9))) dNil)))) (dCall m_take (dCons (dVar 0) (dCons (dC (.int 2)) dNil)))))
  (sSeq (sSet 6 (dTup (dCons (dVar 5) (dCons (dOp oIx (dPure (dLst (dCons (dC (.str "left")) (dCons (dC (.str "right")) dNil)))) (dCall m_take (dCons (dVar 0) (dCons (dC (.int 2)) dNil)))) dNil))))
  (sSeq (sSet 7 (dCall m_take (dCons (dVar 0) (dCons (dAdd (dCallB cLen (dCons (dOp oIx (dVar 3) (dC (.int 1))) dNil)) (dC (.int 1))) dNil))))
  (sSet 3 (dTup (dCons (dC (.str "move")) (dCons (dPure (dOpF oCat (dPure (dOpF oCat (dPure (dSl (dOp oIx (dVar 3) (dC (.int 1))) oNone (oSome (dVar 7)))) (dPure (dLst (dCons (dVar 6) dNil))))) (dPure (dSl (dOp oIx (dVar 3) (dC (.int 1))) (oSome (dVar 7)) oNone)))) dNil)))))))
  (sSeq (sSet 8 (dPure (dCallF cList (dCons (dOp oIx (dVar 3) (dC (.int 2))) dNil))))
  (sSeq (sSet 7 (dCall m_take (dCons (dVar 0) (dCons (dAdd (dCallB cLen (dCons (dVar 8) dNil)) (dC (.int 1))) dNil))))
  (sSeq (sIf (dB (dEq (dVar 4) (dC (.int 0))))
  (sSet 8 (dPure (dOpF oCat (dPure (dSl (dVar 8) oNone (oSome (dVar 7)))) (dPure (dSl (dVar 8) (oSome (dAdd (dVar 7) (dC (.int 1)))) oNone)))))
  (sIf (dB (dEq (dVar 4) (dC (.int 1))))
  (sSet 8 (dPure (dOpF oCat (dPure (dOpF oCat (dPure (dSl (dVar 8) oNone (oSome (dVar 7)))) (dPure (dLst (dCons (dCall m_odd_join (dCons (dVar 0) dNil)) dNil))))) (dPure (dSl (dVar 8) (oSome (dAdd (dVar 7) (dC (.int 1)))) oNone)))))
  (sIf (dB (dEq (dVar 4) (dC (.int 2))))
  (sSet 8 (dPure (dOpF oCat (dPure (dOpF oCat (dPure (dSl (dVar 8) oNone (oSome (dVar 7)))) (dPure (dLst (dCons (dTup (dCons (dC (.str "purl")) (dCons (dC (.str "b")) dNil))) dNil))))) (dPure (dSl (dVar 8) (oSome (dVar 7)) oNone)))))
  (sSet 8 (dPure (dOpF oCat (dPure (dOpF oCat (dPure (dSl (dVar 8) oNone (oSome (dVar 7)))) (dPure (dLst (dCons (dTup (dCons (dC (.str "tuck")) (dCons (dC (.str "b")) dNil))) dNil))))) (dPure (dSl (dVar 8) (oSome (dVar 7)) oNone))))))))
  (sSet 3 (dTup (dCons (dC (.str "work")) (dCons (dOp oIx (dVar 3) (dC (.int 1))) (dCons (dVar 8) dNil)))))))))
  (sRet (dPure (dOpF oCat (dPure (dOpF oCat (dPure (dSl (dVar 1) oNone (oSome (dVar 2)))) (dPure (dLst (dCons (dVar 3) dNil))))) (dPure (dSl (dVar 1) (oSome (dAdd (dVar 2) (dC (.int 1)))) oNone)))))))))
noncomputable def m_spoilt : List W → M W := dBody 2 9 b_spoilt
abbrev S_takes : Stmt := topS 21
abbrev N_takes : List Str := ["command"]
theorem sc_takes : FnScope N_takes ["command"] (defScope S_takes) := ⟨rfl, rfl, rfl, by decide +kernel, rfl, by decide +kernel, by decide +kernel⟩
noncomputable def b_takes : S :=
  (sSeq (sIf (dB (dEq (dOp oIx (dVar 0) (dC (.int 0))) (dC (.str "join"))))
  (sRet (dOp oIx (dVar 0) (dC (.int 1))))
  sNil)
  (sRet (dCallB cInt (dCons (dNe (dOp oIx (dVar 0) (dC (.int 0))) (dC (.str "tuck"))) dNil))))
noncomputable def m_takes : List W → M W := dBody 1 1 b_takes
abbrev S_work : Stmt := topS 22
abbrev N_work : List Str := ["commands", "count", "left", "after", "n", "takes"]
theorem sc_work : FnScope N_work ["commands", "count"] (defScope S_work) := ⟨rfl, rfl, rfl, by decide +kernel, rfl, by decide +kernel, by decide +kernel⟩
noncomputable def b_work : S :=
  (sSeq (sSet 2 (dVar 1))
  (sSeq (sSet 3 (dC (.int 0)))
  (sSeq (sFor (iR1 (dCons (dCallB cLen (dCons (dVar 0) dNil)) dNil)) (gN 4)
  (sSeq (sSet 5 (dCall m_takes (dCons (dOp oIx (dVar 0) (dVar 4)) dNil)))
  (sSeq (sIf (dOr (dB (dGt (dVar 5) (dVar 2))) (dAnd (dB (dEq (dOp oIx (dOp oIx (dVar 0) (dVar 4)) (dC (.int 0))) (dC (.str "join")))) (dOr (dB (dLt (dVar 5) (dC (.int 2)))) (dB (dGt (dVar 5) (dC (.int 4)))))))
  (sRet (dTup (dCons (dVar 4) (dCons (dC (.int 0)) dNil))))
  sNil)
  (sSeq (sSet 2 (dSub (dVar 2) (dVar 5)))
  (sSet 3 (dAdd (dVar 3) (dCallB cInt (dCons (dNe (dOp oIx (dOp oIx (dVar 0) (dVar 4)) (dC (.int 0))) (dC (.str "drop"))) dNil))))))))
  (sSeq (sIf (dB (dGt (dVar 2) (dC (.int 0))))
  (sRet (dTup (dCons (dCallB cLen (dCons (dVar 0) dNil)) (dCons (dC (.int 0)) dNil))))
  sNil)
  (sRet (dTup (dCons (dUn oNeg (dC (.int 1))) (dCons (dVar 3) dNil))))))))
noncomputable def m_work : List W → M W := dBody 2 6 b_work
abbrev S_due : Stmt := topS 23
abbrev N_due : List Str := ["chart", "counts", "n", "k", "column", "item", "after"]
theorem sc_due : FnScope N_due ["chart"] (defScope S_due) := ⟨rfl, rfl, rfl, by decide +kernel, rfl, by decide +kernel, by decide +kernel⟩
noncomputable def b_due : S :=
  (sSeq (sSet 1 (dCell (dLst (dCons (dC (.int 0)) dNil))))
  (sSeq (sFor (iR1 (dCons (dCallB cLen (dCons (dVar 0) dNil)) dNil)) (gN 2)
  (sIf (dB (dEq (dOp oIx (dOp oIx (dVar 0) (dVar 2)) (dC (.int 0))) (dC (.str "move"))))
  (sSeq (sFor (iR1 (dCons (dCallB cLen (dCons (dOp oIx (dOp oIx (dVar 0) (dVar 2)) (dC (.int 1))) dNil)) dNil)) (gN 3)
  (sSeq (sSet 4 (dOp oIx (dOp oIx (dOp oIx (dOp oIx (dVar 0) (dVar 2)) (dC (.int 1))) (dVar 3)) (dC (.int 0))))
  (sIf (dOr (dB (dLt (dVar 4) (dC (.int 0)))) (dB (dGe (dAdd (dVar 4) (dC (.int 1))) (dOp oIx (dVar 1) (dVar 2)))))
  (sRet (dTup (dCons (dVar 2) (dCons (dVar 3) dNil))))
  sNil)))
  (sDrop (dBM tyL mAppend (dVar 1) (dCons (dOp oIx (dVar 1) (dVar 2)) dNil))))
  (sSeq (sAsg (gTu (gsCons (gN 5) (gsCons (gN 6) gsNil))) (dCall m_work (dCons (dOp oIx (dOp oIx (dVar 0) (dVar 2)) (dC (.int 2))) (dCons (dOp oIx (dVar 1) (dVar 2)) dNil))))
  (sSeq (sIf (dB (dGe (dVar 5) (dC (.int 0))))
  (sRet (dTup (dCons (dVar 2) (dCons (dVar 5) dNil))))
  sNil)
  (sDrop (dBM tyL mAppend (dVar 1) (dCons (dVar 6) dNil)))))))
  (sRet (dTup (dCons (dC (.str "counts")) (dCons (dFz (dVar 1)) dNil))))))
noncomputable def m_due : List W → M W := dBody 1 7 b_due
abbrev S_told : Stmt := topS 24
abbrev N_told : List Str := ["chart", "e"]
theorem sc_told : FnScope N_told ["chart"] (defScope S_told) := ⟨rfl, rfl, rfl, by decide +kernel, rfl, by decide +kernel, by decide +kernel⟩
noncomputable def b_told : S :=
  (sTryR "WrongChart" 1 (dTup (dCons (dC (.str "counts")) (dCons (dCallB m_check_chart (dCons (dVar 0) dNil)) dNil))) (fun a dd =>
  (sSeq (sIf (dOr (dNot (dB (dXi a dd true (dVar 1)))) (dNot (dB (dXi a dd true (dVar 1)))))
  (sRet (dC .non))
  sNil)
  (sRet (dTup (dCons (dXf a dd "line" (dVar 1)) (dCons (dXf a dd "item" (dVar 1)) dNil)))))))
noncomputable def m_told : List W → M W := dBody 1 2 b_told
abbrev S_law : Stmt := topS 25
abbrev N_law : List Str := ["script", "state", "chart", "before"]
theorem sc_law : FnScope N_law ["script"] (defScope S_law) := ⟨rfl, rfl, rfl, by decide +kernel, rfl, by decide +kernel, by decide +kernel⟩
noncomputable def b_law : S :=
  (sSeq (sSet 1 (dCall m_state (dCons (dVar 0) dNil)))
  (sSeq (sSet 2 (dCall m_chart (dCons (dVar 1) (dCons (dC (.int 7)) (dCons (dC (.int 6)) dNil)))))
  (sSeq (sIf (dB (dEq (dCall m_take (dCons (dVar 1) (dCons (dC (.int 8)) dNil))) (dC (.int 1))))
  (sSet 2 (dCall m_wide (dCons (dVar 1) (dCons (dC (.int 60)) dNil))))
  sNil)
  (sSeq (sIf (dB (dEq (dCall m_take (dCons (dVar 1) (dCons (dC (.int 2)) dNil))) (dC (.int 1))))
  (sSet 2 (dCall m_spoilt (dCons (dVar 1) (dCons (dVar 2) dNil))))
  sNil)
  (sSeq (sIf (dB (dEq (dCall m_take (dCons (dVar 1) (dCons (dC (.int 9)) dNil))) (dC (.int 1))))
  (sSet 2 (dPure (dOpF oCat (dPure (dSl (dVar 2) (oSome (dC (.int 1))) oNone)) (dPure (dSl (dVar 2) oNone (oSome (dC (.int 1))))))))
  sNil)
  (sSeq (sIf (dB (dNe (dCallB m_check_chart (dCons (dPure (dLst dNil)) dNil)) (dPure (dLst (dCons (dC (.int 0)) dNil)))))
  (sRet (dC (.bl false)))
  sNil)
  (sSeq (sSet 3 (dCallB cRepr (dCons (dVar 2) dNil)))
  (sRet (dAndV (dEq (dCallB cRepr (dCons (dCall m_told (dCons (dVar 2) dNil)) dNil)) (dCallB cRepr (dCons (dCall m_due (dCons (dVar 2) dNil)) dNil))) (dEq (dCallB cRepr (dCons (dVar 2) dNil)) (dVar 3)))))))))))
noncomputable def m_law : List W → M W := dBody 1 4 b_law
section
variable {P : Program} {w : World} {K : PySem.W.Frag} {mg : MG} {base : Heap} {f : Addr} {fd : FuncData}
theorem has_columns_taken (F : Fun K "columns_taken" "columns_taken" S_columns_taken f fd) (g : mg "columns_taken" = some (.ref f)) (b : Binds K fd ["command"] []) {d_COLUMNS_TAKEN : Addr} (g_COLUMNS_TAKEN : mg "COLUMNS_TAKEN" = some (.ref d_COLUMNS_TAKEN)) (t_COLUMNS_TAKEN : TabOk K w d_COLUMNS_TAKEN tab_COLUMNS_TAKEN) :
    Has P w K mg base 1 "columns_taken" ["command"] m_columns_taken :=
  has_mk F g b sc_columns_taken (by decide) fun cdv A outer sh H E hr =>
  (jss_one (js_ret (je_if (jt_eq hr.units (je_at (je_var 0) je_int) je_str) (je_at (je_var 0) je_int) (je_tab (by rfl) g_COLUMNS_TAKEN t_COLUMNS_TAKEN (je_at (je_var 0) je_int)))))
theorem has_width_behind (F : Fun K "width_behind" "width_behind" S_width_behind f fd) (g : mg "width_behind" = some (.ref f)) (b : Binds K fd ["commands", "width", "line"] []) {c_WrongChart : Addr} (h_columns_taken : Has P w K mg base 1 "columns_taken" ["command"] m_columns_taken) (z_enumerate : mg "enumerate" = none) (z_len : mg "len" = none) (gc_MOST_JOINED : ∃ t, mg "MOST_JOINED" = some (.int 4 t)) (T_WrongChart : ExCls P w K mg base 1 "WrongChart" ["line", "item"] c_WrongChart) :
    HasX P w K mg base 3 "width_behind" ["commands", "width", "line"] m_width_behind :=
  hasX_mk F g b sc_width_behind (by decide) fun cdv A outer sh H E hr tk =>
  (jss_cons (js_set (i := 3) sc_width_behind.nd rfl je_int)
  (jss_cons (js_set (i := 4) sc_width_behind.nd rfl je_int)
  (jss_cons (js_for PassesOwn.leaving rfl (ji_enum (by rfl) z_enumerate (ja_cons (je_var 0) ja_nil)) (jg_tup rfl (jgs_cons (jg_name (i := 5) sc_width_behind.nd rfl) (jgs_cons (jg_name (i := 6) sc_width_behind.nd rfl) jgs_nil)) (gs_len (gs_len gs_len0)))
  (jss_cons (js_set (i := 7) sc_width_behind.nd rfl (je_def h_columns_taken hr (ja_cons (je_var 6) ja_nil)))
  (jss_cons (js_if (jt_w (jw_or (jt_gt (je_var 7) (je_sub (je_var 1) (je_var 3))) (jw_or1 (jt_w (jw_and (jt_eq hr.units (je_at (je_var 6) je_int) je_str) (jw_and1 (jt_not (jt_chain op_le ok_le op_le ok_le je_int (je_var 7) (je_gint (by rfl) gc_MOST_JOINED)))))))))
  (jss_one (js_raise rfl T_WrongChart hr tk (ja_cons (je_var 2) (ja_cons (je_var 5) ja_nil))))
  jss_nil)
  (jss_cons (js_aug (i := 3) sc_width_behind.nd rfl (je_var 7) ip_add)
  (jss_one (js_if (jt_ne hr.units (je_at (je_var 6) je_int) je_str)
  (jss_one (js_aug (i := 4) sc_width_behind.nd rfl je_int ip_add))
  jss_nil))))))
  (jss_cons (js_if (jt_lt (je_var 3) (je_var 1))
  (jss_one (js_raise rfl T_WrongChart hr tk (ja_cons (je_var 2) (ja_cons (je_len (by rfl) z_len (ja_cons (je_var 0) ja_nil)) ja_nil))))
  jss_nil)
  (jss_one (js_ret (je_var 4)))))))
theorem has_check_exchanges (F : Fun K "check_exchanges" "check_exchanges" S_check_exchanges f fd) (g : mg "check_exchanges" = some (.ref f)) (b : Binds K fd ["exchanges", "width", "line"] []) {c_WrongChart : Addr} (z_enumerate : mg "enumerate" = none) (T_WrongChart : ExCls P w K mg base 1 "WrongChart" ["line", "item"] c_WrongChart) :
    HasX P w K mg base 3 "check_exchanges" ["exchanges", "width", "line"] m_check_exchanges :=
  hasX_mk F g b sc_check_exchanges (by decide) fun cdv A outer sh H E hr tk =>
  (jss_one (js_for PassesOwn.leaving rfl (ji_enum (by rfl) z_enumerate (ja_cons (je_var 0) ja_nil)) (jg_tup rfl (jgs_cons (jg_name (i := 3) sc_check_exchanges.nd rfl) (jgs_cons (jg_tup rfl (jgs_cons (jg_name (i := 4) sc_check_exchanges.nd rfl) (jgs_cons (jg_name (i := 5) sc_check_exchanges.nd rfl) jgs_nil)) (gs_len (gs_len gs_len0))) jgs_nil)) (gs_len (gs_len gs_len0)))
  (jss_one (js_if (jt_not (jt_chain op_le ok_le op_lt ok_lt je_int (je_var 4) (je_sub (je_var 1) je_int)))
  (jss_one (js_raise rfl T_WrongChart hr tk (ja_cons (je_var 2) (ja_cons (je_var 3) ja_nil))))
  jss_nil))))
theorem has_check_chart (F : Fun K "check_chart" "check_chart" S_check_chart f fd) (g : mg "check_chart" = some (.ref f)) (b : Binds K fd ["chart"] []) (h_width_behind : HasX P w K mg base 3 "width_behind" ["commands", "width", "line"] m_width_behind) (h_check_exchanges : HasX P w K mg base 3 "check_exchanges" ["exchanges", "width", "line"] m_check_exchanges) (z_enumerate : mg "enumerate" = none) :
    HasX P w K mg base 4 "check_chart" ["chart"] m_check_chart :=
  hasX_mk F g b sc_check_chart (by decide) fun cdv A outer sh H E hr tk =>
  (jss_cons (js_set (i := 1) sc_check_chart.nd rfl (je_cell (jf_lst (ja_cons je_int ja_nil))))
  (jss_cons (js_for PassesOwn.leaving rfl (ji_enum (by rfl) z_enumerate (ja_cons (je_var 0) ja_nil)) (jg_tup rfl (jgs_cons (jg_name (i := 2) sc_check_chart.nd rfl) (jgs_cons (jg_name (i := 3) sc_check_chart.nd rfl) jgs_nil)) (gs_len (gs_len gs_len0)))
  (jss_cons (js_set (i := 4) sc_check_chart.nd rfl (je_at (je_var 1) (je_neg je_int)))
  (jss_cons (js_if (jt_eq hr.units (je_at (je_var 3) je_int) je_str)
  (jss_one (js_set (i := 4) sc_check_chart.nd rfl (je_defX h_width_behind hr tk (ja_cons (je_at (je_var 3) je_int) (ja_cons (je_var 4) (ja_cons (je_var 2) ja_nil))))))
  (jss_one (js_expr (je_defX h_check_exchanges hr tk (ja_cons (je_at (je_var 3) je_int) (ja_cons (je_var 4) (ja_cons (je_var 2) ja_nil)))))))
  (jss_one (js_expr (je_append (je_var 1) (ja_cons (je_var 4) ja_nil)))))))
  (jss_one (js_ret (je_fz (je_var 1))))))
theorem has_state (F : Fun K "_law_state" "_law_state" S_state f fd) (g : mg "_law_state" = some (.ref f)) (b : Binds K fd ["script"] []) (z_abs : mg "abs" = none) (z_int : mg "int" = none) (z_len : mg "len" = none) :
    Has P w K mg base 1 "_law_state" ["script"] m_state :=
  has_mk F g b sc_state (by decide) fun cdv A outer sh H E hr =>
  (jss_cons (js_set (i := 1) sc_state.nd rfl je_int)
  (jss_cons (js_set (i := 2) sc_state.nd rfl je_int)
  (jss_cons (js_if (jt_gt (je_len (by rfl) z_len (ja_cons (je_var 0) ja_nil)) je_int)
  (jss_cons (js_set (i := 1) sc_state.nd rfl (je_mod (je_int1 (by rfl) z_int (ja_cons (je_at (je_var 0) je_int) ja_nil)) je_int))
  (jss_one (js_set (i := 2) sc_state.nd rfl (je_at (je_pure (jf_lst (ja_cons (je_fdiv (je_abs (by rfl) z_abs (ja_cons (je_at (je_var 0) je_int) ja_nil)) je_int) (ja_cons je_int ja_nil)))) (je_var 1)))))
  jss_nil)
  (jss_one (js_ret (je_cell (jf_lst (ja_cons (je_var 0) (ja_cons (je_var 2) (ja_cons je_int (ja_cons (je_var 1) (ja_cons (je_pure (jf_lst ja_nil)) (ja_cons je_int (ja_cons je_int (ja_cons je_int ja_nil)))))))))))))))
theorem has_take (F : Fun K "_law_take" "_law_take" S_take f fd) (g : mg "_law_take" = some (.ref f)) (b : Binds K fd ["state", "many"] []) (z_abs : mg "abs" = none) (z_int : mg "int" = none) (z_len : mg "len" = none) :
    Has P w K mg base 1 "_law_take" ["state", "many"] m_take :=
  has_mk F g b sc_take (by decide) fun cdv A outer sh H E hr =>
  (jss_cons (js_if (jt_eq hr.units (je_at (je_var 0) je_int) je_int)
  (jss_cons (js_set (i := 2) sc_take.nd rfl (je_at (je_at (je_var 0) je_int) (je_mod (je_int1 (by rfl) z_int (ja_cons (je_at (je_var 0) je_int) ja_nil)) (je_len (by rfl) z_len (ja_cons (je_at (je_var 0) je_int) ja_nil)))))
  (jss_cons (js_asg (je_mod (je_int1 (by rfl) z_int (ja_cons (je_add (je_add (je_add (je_mul (je_at (je_var 0) je_int) je_int) (je_mul (je_var 2) je_int)) (je_mul (je_at (je_var 0) je_int) je_int)) je_int) ja_nil)) je_int) (jg_at (je_var 0) je_int))
  (jss_cons (js_asg (je_add (je_at (je_var 0) je_int) je_int) (jg_at (je_var 0) je_int))
  (jss_one (js_ret (je_mod (je_mod (je_int1 (by rfl) z_int (ja_cons (je_add (je_mul (je_at (je_var 0) je_int) je_int) je_int) ja_nil)) je_int) (je_var 1)))))))
  jss_nil)
  (jss_cons (js_if (jt_eq hr.units (je_at (je_var 0) je_int) je_int)
  (jss_cons (js_if (jt_ge (je_at (je_var 0) je_int) (je_len (by rfl) z_len (ja_cons (je_at (je_var 0) je_int) ja_nil)))
  (jss_one (js_ret je_int))
  jss_nil)
  (jss_cons (js_asg (je_abs (by rfl) z_abs (ja_cons (je_at (je_at (je_var 0) je_int) (je_at (je_var 0) je_int)) ja_nil)) (jg_at (je_var 0) je_int))
  (jss_one (js_asg (je_add (je_at (je_var 0) je_int) je_int) (jg_at (je_var 0) je_int)))))
  jss_nil)
  (jss_cons (js_set (i := 3) sc_take.nd rfl (je_mod (je_int1 (by rfl) z_int (ja_cons (je_at (je_var 0) je_int) ja_nil)) (je_var 1)))
  (jss_cons (js_asg (je_fdiv (je_at (je_var 0) je_int) (je_var 1)) (jg_at (je_var 0) je_int))
  (jss_one (js_ret (je_var 3)))))))
theorem has_yarn (F : Fun K "_law_yarn" "_law_yarn" S_yarn f fd) (g : mg "_law_yarn" = some (.ref f)) (b : Binds K fd ["state"] []) (h_take : Has P w K mg base 1 "_law_take" ["state", "many"] m_take) :
    Has P w K mg base 2 "_law_yarn" ["state"] m_yarn :=
  has_mk F g b sc_yarn (by decide) fun cdv A outer sh H E hr =>
  (jss_one (js_ret (je_at (je_pure (jf_lst (ja_cons je_str (ja_cons je_str (ja_cons je_str (ja_cons je_str ja_nil)))))) (je_def h_take hr (ja_cons (je_var 0) (ja_cons je_int ja_nil))))))
theorem has_join (F : Fun K "_law_join" "_law_join" S_join f fd) (g : mg "_law_join" = some (.ref f)) (b : Binds K fd ["state", "left"] []) (h_take : Has P w K mg base 1 "_law_take" ["state", "many"] m_take) (h_yarn : Has P w K mg base 2 "_law_yarn" ["state"] m_yarn) (z_min : mg "min" = none) :
    Has P w K mg base 3 "_law_join" ["state", "left"] m_join :=
  has_mk F g b sc_join (by decide) fun cdv A outer sh H E hr =>
  (jss_cons (js_set (i := 2) sc_join.nd rfl (je_add je_int (je_def h_take hr (ja_cons (je_var 0) (ja_cons (je_min2 rfl (by rfl) z_min (ja_cons je_int (ja_cons (je_sub (je_var 1) je_int) ja_nil))) ja_nil)))))
  (jss_cons (js_set (i := 3) sc_join.nd rfl (je_at (je_pure (jf_lst (ja_cons je_str (ja_cons je_str ja_nil)))) (je_def h_take hr (ja_cons (je_var 0) (ja_cons je_int ja_nil)))))
  (jss_one (js_ret (je_tup (ja_cons je_str (ja_cons (je_var 2) (ja_cons (je_var 3) (ja_cons (je_at (je_pure (jf_lst (ja_cons je_str (ja_cons je_str ja_nil)))) (je_def h_take hr (ja_cons (je_var 0) (ja_cons je_int ja_nil)))) (ja_cons (je_def h_yarn hr (ja_cons (je_var 0) ja_nil)) ja_nil))))))))))
theorem has_commands (F : Fun K "_law_commands" "_law_commands" S_commands f fd) (g : mg "_law_commands" = some (.ref f)) (b : Binds K fd ["state", "count", "most"] []) (h_take : Has P w K mg base 1 "_law_take" ["state", "many"] m_take) (h_yarn : Has P w K mg base 2 "_law_yarn" ["state"] m_yarn) (h_join : Has P w K mg base 3 "_law_join" ["state", "left"] m_join) (z_int : mg "int" = none) (z_range : mg "range" = none) :
    Has P w K mg base 4 "_law_commands" ["state", "count", "most"] m_commands :=
  has_mk F g b sc_commands (by decide) fun cdv A outer sh H E hr =>
  (jss_cons (js_set (i := 3) sc_commands.nd rfl (je_cell (jf_lst ja_nil)))
  (jss_cons (js_set (i := 4) sc_commands.nd rfl (je_var 1))
  (jss_cons (js_set (i := 5) sc_commands.nd rfl (je_sub (je_var 2) (je_var 1)))
  (jss_cons (js_for PassesOwn.never rfl (ji_range1 (by rfl) z_range (ja_cons (je_add (je_var 1) je_int) ja_nil)) (jg_name (i := 6) sc_commands.nd rfl)
  (jss_cons (js_set (i := 7) sc_commands.nd rfl (je_def h_take hr (ja_cons (je_var 0) (ja_cons je_int ja_nil))))
  (jss_one (js_if (jt_w (jw_and (jt_gt (je_var 5) je_int) (jw_and1 (jt_w (jw_or (jt_eq hr.units (je_var 7) je_int) (jw_or1 (jt_w (jw_and (jt_eq hr.units (je_var 4) je_int) (jw_and1 (jt_lt (je_var 7) je_int))))))))))
  (jss_cons (js_expr (je_append (je_var 3) (ja_cons (je_tup (ja_cons je_str (ja_cons (je_def h_yarn hr (ja_cons (je_var 0) ja_nil)) ja_nil))) ja_nil)))
  (jss_one (js_set (i := 5) sc_commands.nd rfl (je_sub (je_var 5) je_int))))
  (jss_one (js_if (jt_w (jw_and (jt_eq hr.units (je_var 7) je_int) (jw_and1 (jt_gt (je_var 4) je_int))))
  (jss_cons (js_expr (je_append (je_var 3) (ja_cons (je_def h_join hr (ja_cons (je_var 0) (ja_cons (je_var 4) ja_nil))) ja_nil)))
  (jss_one (js_set (i := 4) sc_commands.nd rfl (je_sub (je_var 4) (je_at (je_at (je_var 3) (je_neg je_int)) je_int)))))
  (jss_one (js_if (jt_w (jw_and (jt_eq hr.units (je_var 7) je_int) (jw_and1 (jt_gt (je_var 4) je_int))))
  (jss_cons (js_expr (je_append (je_var 3) (ja_cons (je_tup (ja_cons je_str ja_nil)) ja_nil)))
  (jss_one (js_set (i := 4) sc_commands.nd rfl (je_sub (je_var 4) je_int))))
  (jss_one (js_if (jt_w (jw_and (jt_eq hr.units (je_var 7) je_int) (jw_and1 (jt_gt (je_var 4) je_int))))
  (jss_cons (js_expr (je_append (je_var 3) (ja_cons (je_tup (ja_cons je_str ja_nil)) ja_nil)))
  (jss_one (js_set (i := 4) sc_commands.nd rfl (je_sub (je_var 4) je_int))))
  (jss_one (js_if (jt_gt (je_var 4) je_int)
  (jss_cons (js_expr (je_append (je_var 3) (ja_cons (je_tup (ja_cons (je_at (je_pure (jf_lst (ja_cons je_str (ja_cons je_str ja_nil)))) (je_mod (je_int1 (by rfl) z_int (ja_cons (je_var 7) ja_nil)) je_int)) (ja_cons (je_def h_yarn hr (ja_cons (je_var 0) ja_nil)) ja_nil))) ja_nil)))
  (jss_one (js_set (i := 4) sc_commands.nd rfl (je_sub (je_var 4) je_int))))
  jss_nil))))))))))))
  (jss_one (js_ret (je_pure (jf_cat (je_var 3) (je_pure (jf_rep (je_pure (jf_lst (ja_cons (je_tup (ja_cons je_str (ja_cons je_str ja_nil))) ja_nil))) (je_var 4)))))))))))
theorem has_count (F : Fun K "_law_count" "_law_count" S_count f fd) (g : mg "_law_count" = some (.ref f)) (b : Binds K fd ["commands"] []) (z_int : mg "int" = none) (z_sum : mg "sum" = none) :
    Has P w K mg base 1 "_law_count" ["commands"] m_count :=
  has_mk F g b sc_count (by decide) fun cdv A outer sh H E hr =>
  (jss_one (js_ret (je_sum rfl (by rfl) z_sum (ja_cons (je_pure (jf_lc (own := [("command", 1)]) rfl sc_count.nd (ji_list (je_var 0)) (blkOk_by (own := [("command", 1)]) (N := N_count) (sc := defScope S_count) (by decide +kernel)) (fun _ _ _ _ _ => (jg_name (i := 1) sc_count.nd rfl)) (fun _ _ _ _ _ => jts_nil) (fun _ _ _ _ _ => (je_int1 (by rfl) z_int (ja_cons (je_ne hr.units (je_at (je_var 1) je_int) je_str) ja_nil))))) ja_nil))))
theorem has_chart (F : Fun K "_law_chart" "_law_chart" S_chart f fd) (g : mg "_law_chart" = some (.ref f)) (b : Binds K fd ["state", "most", "lines"] []) (h_take : Has P w K mg base 1 "_law_take" ["state", "many"] m_take) (h_yarn : Has P w K mg base 2 "_law_yarn" ["state"] m_yarn) (h_commands : Has P w K mg base 4 "_law_commands" ["state", "count", "most"] m_commands) (h_count : Has P w K mg base 1 "_law_count" ["commands"] m_count) (z_len : mg "len" = none) (z_range : mg "range" = none) :
    Has P w K mg base 5 "_law_chart" ["state", "most", "lines"] m_chart :=
  has_mk F g b sc_chart (by decide) fun cdv A outer sh H E hr =>
  (jss_cons (js_set (i := 3) sc_chart.nd rfl (je_cell (jf_lst (ja_cons (je_tup (ja_cons je_str (ja_cons je_str (ja_cons (je_pure (jf_lc (own := [("n", 4)]) rfl sc_chart.nd (ji_range1 (by rfl) z_range (ja_cons (je_add (je_def h_take hr (ja_cons (je_var 0) (ja_cons (je_var 1) ja_nil))) je_int) ja_nil)) (blkOk_by (own := [("n", 4)]) (N := N_chart) (sc := defScope S_chart) (by decide +kernel)) (fun _ _ _ _ _ => (jg_name (i := 4) sc_chart.nd rfl)) (fun _ _ _ _ _ => jts_nil) (fun _ _ _ _ _ => (je_tup (ja_cons je_str (ja_cons (je_def h_yarn hr (ja_cons (je_var 0) ja_nil)) ja_nil)))))) ja_nil)))) ja_nil))))
  (jss_cons (js_set (i := 5) sc_chart.nd rfl (je_len (by rfl) z_len (ja_cons (je_at (je_at (je_var 3) je_int) je_int) ja_nil)))
  (jss_cons (js_for PassesOwn.never rfl (ji_range1 (by rfl) z_range (ja_cons (je_def h_take hr (ja_cons (je_var 0) (ja_cons (je_var 2) ja_nil))) ja_nil)) (jg_name (i := 4) sc_chart.nd rfl)
  (jss_one (js_if (jt_w (jw_and (jt_gt (je_var 5) je_int) (jw_and1 (jt_eq hr.units (je_def h_take hr (ja_cons (je_var 0) (ja_cons je_int ja_nil))) je_int))))
  (jss_cons (js_set (i := 6) sc_chart.nd rfl (je_cell (jf_lst ja_nil)))
  (jss_cons (js_for PassesOwn.never rfl (ji_range1 (by rfl) z_range (ja_cons (je_def h_take hr (ja_cons (je_var 0) (ja_cons je_int ja_nil))) ja_nil)) (jg_name (i := 7) sc_chart.nd rfl)
  (jss_one (js_expr (je_append (je_var 6) (ja_cons (je_tup (ja_cons (je_def h_take hr (ja_cons (je_var 0) (ja_cons (je_sub (je_var 5) je_int) ja_nil))) (ja_cons (je_at (je_pure (jf_lst (ja_cons je_str (ja_cons je_str ja_nil)))) (je_def h_take hr (ja_cons (je_var 0) (ja_cons je_int ja_nil)))) ja_nil))) ja_nil)))))
  (jss_one (js_expr (je_append (je_var 3) (ja_cons (je_tup (ja_cons je_str (ja_cons (je_fz (je_var 6)) ja_nil))) ja_nil))))))
  (jss_cons (js_set (i := 8) sc_chart.nd rfl (je_def h_commands hr (ja_cons (je_var 0) (ja_cons (je_var 5) (ja_cons (je_var 1) ja_nil)))))
  (jss_cons (js_expr (je_append (je_var 3) (ja_cons (je_tup (ja_cons je_str (ja_cons (je_at (je_pure (jf_lst (ja_cons je_str (ja_cons je_str ja_nil)))) (je_def h_take hr (ja_cons (je_var 0) (ja_cons je_int ja_nil)))) (ja_cons (je_var 8) ja_nil)))) ja_nil)))
  (jss_one (js_set (i := 5) sc_chart.nd rfl (je_def h_count hr (ja_cons (je_var 8) ja_nil)))))))))
  (jss_one (js_ret (je_fz (je_var 3)))))))
theorem has_wide (F : Fun K "_law_wide" "_law_wide" S_wide f fd) (g : mg "_law_wide" = some (.ref f)) (b : Binds K fd ["state", "most"] []) (h_take : Has P w K mg base 1 "_law_take" ["state", "many"] m_take) (h_yarn : Has P w K mg base 2 "_law_yarn" ["state"] m_yarn) (h_join : Has P w K mg base 3 "_law_join" ["state", "left"] m_join) (z_range : mg "range" = none) :
    Has P w K mg base 4 "_law_wide" ["state", "most"] m_wide :=
  has_mk F g b sc_wide (by decide) fun cdv A outer sh H E hr =>
  (jss_cons (js_set (i := 2) sc_wide.nd rfl (je_add je_int (je_def h_take hr (ja_cons (je_var 0) (ja_cons (je_sub (je_var 1) je_int) ja_nil)))))
  (jss_cons (js_set (i := 3) sc_wide.nd rfl (je_cell (jf_lst (ja_cons (je_tup (ja_cons je_str (ja_cons je_str (ja_cons (je_pure (jf_lc (own := [("n", 4)]) rfl sc_wide.nd (ji_range1 (by rfl) z_range (ja_cons (je_var 2) ja_nil)) (blkOk_by (own := [("n", 4)]) (N := N_wide) (sc := defScope S_wide) (by decide +kernel)) (fun _ _ _ _ _ => (jg_name (i := 4) sc_wide.nd rfl)) (fun _ _ _ _ _ => jts_nil) (fun _ _ _ _ _ => (je_tup (ja_cons je_str (ja_cons (je_def h_yarn hr (ja_cons (je_var 0) ja_nil)) ja_nil)))))) ja_nil)))) ja_nil))))
  (jss_cons (js_for PassesOwn.never rfl (ji_range1 (by rfl) z_range (ja_cons (je_def h_take hr (ja_cons (je_var 0) (ja_cons je_int ja_nil))) ja_nil)) (jg_name (i := 4) sc_wide.nd rfl)
  (jss_cons (js_set (i := 5) sc_wide.nd rfl (je_def h_take hr (ja_cons (je_var 0) (ja_cons je_int ja_nil))))
  (jss_cons (js_set (i := 6) sc_wide.nd rfl (je_def h_take hr (ja_cons (je_var 0) (ja_cons (je_sub (je_var 2) je_int) ja_nil))))
  (jss_cons (js_set (i := 7) sc_wide.nd rfl (je_def h_yarn hr (ja_cons (je_var 0) ja_nil)))
  (jss_one (js_if (jt_eq hr.units (je_var 5) je_int)
  (jss_cons (js_set (i := 8) sc_wide.nd rfl (je_cell (jf_lst ja_nil)))
  (jss_cons (js_for PassesOwn.never rfl (ji_range1 (by rfl) z_range (ja_cons (je_def h_take hr (ja_cons (je_var 0) (ja_cons je_int ja_nil))) ja_nil)) (jg_name (i := 9) sc_wide.nd rfl)
  (jss_one (js_expr (je_append (je_var 8) (ja_cons (je_tup (ja_cons (je_def h_take hr (ja_cons (je_var 0) (ja_cons (je_sub (je_var 2) je_int) ja_nil))) (ja_cons (je_at (je_pure (jf_lst (ja_cons je_str (ja_cons je_str ja_nil)))) (je_def h_take hr (ja_cons (je_var 0) (ja_cons je_int ja_nil)))) ja_nil))) ja_nil)))))
  (jss_one (js_expr (je_append (je_var 3) (ja_cons (je_tup (ja_cons je_str (ja_cons (je_fz (je_var 8)) ja_nil))) ja_nil))))))
  (jss_one (js_if (jt_w (jw_and (jt_eq hr.units (je_var 5) je_int) (jw_and1 (jt_gt (je_var 2) je_int))))
  (jss_cons (js_set (i := 10) sc_wide.nd rfl (je_pure (jf_cat (je_pure (jf_cat (je_pure (jf_rep (je_pure (jf_lst (ja_cons (je_tup (ja_cons je_str (ja_cons (je_var 7) ja_nil))) ja_nil))) (je_var 6))) (je_pure (jf_lst (ja_cons (je_def h_join hr (ja_cons (je_var 0) (ja_cons je_int ja_nil))) ja_nil))))) (je_pure (jf_rep (je_pure (jf_lst (ja_cons (je_tup (ja_cons je_str (ja_cons (je_var 7) ja_nil))) ja_nil))) (je_sub (je_sub (je_var 2) (je_var 6)) je_int))))))
  (jss_cons (js_expr (je_append (je_var 3) (ja_cons (je_tup (ja_cons je_str (ja_cons (je_at (je_pure (jf_lst (ja_cons je_str (ja_cons je_str ja_nil)))) (je_def h_take hr (ja_cons (je_var 0) (ja_cons je_int ja_nil)))) (ja_cons (je_var 10) ja_nil)))) ja_nil)))
  (jss_one (js_set (i := 2) sc_wide.nd rfl (je_sub (je_var 2) je_int)))))
  (jss_cons (js_set (i := 10) sc_wide.nd rfl (je_pure (jf_cat (je_pure (jf_cat (je_pure (jf_rep (je_pure (jf_lst (ja_cons (je_tup (ja_cons je_str (ja_cons (je_var 7) ja_nil))) ja_nil))) (je_var 6))) (je_pure (jf_lst (ja_cons (je_tup (ja_cons je_str ja_nil)) ja_nil))))) (je_pure (jf_rep (je_pure (jf_lst (ja_cons (je_tup (ja_cons je_str (ja_cons (je_var 7) ja_nil))) ja_nil))) (je_sub (je_sub (je_var 2) (je_var 6)) je_int))))))
  (jss_one (js_expr (je_append (je_var 3) (ja_cons (je_tup (ja_cons je_str (ja_cons (je_at (je_pure (jf_lst (ja_cons je_str (ja_cons je_str ja_nil)))) (je_def h_take hr (ja_cons (je_var 0) (ja_cons je_int ja_nil)))) (ja_cons (je_var 10) ja_nil)))) ja_nil)))))))))))))
  (jss_one (js_ret (je_fz (je_var 3)))))))
theorem has_odd_join (F : Fun K "_law_odd_join" "_law_odd_join" S_odd_join f fd) (g : mg "_law_odd_join" = some (.ref f)) (b : Binds K fd ["state"] []) (h_take : Has P w K mg base 1 "_law_take" ["state", "many"] m_take) (h_yarn : Has P w K mg base 2 "_law_yarn" ["state"] m_yarn) :
    Has P w K mg base 3 "_law_odd_join" ["state"] m_odd_join :=
  has_mk F g b sc_odd_join (by decide) fun cdv A outer sh H E hr =>
  (jss_cons (js_set (i := 1) sc_odd_join.nd rfl (je_at (je_pure (jf_lst (ja_cons je_int (ja_cons je_int (ja_cons je_int (ja_cons (je_neg je_int) (ja_cons (je_sub (je_def h_take hr (ja_cons (je_var 0) (ja_cons je_int ja_nil))) je_int) (ja_cons (je_sub (je_def h_take hr (ja_cons (je_var 0) (ja_cons je_int ja_nil))) je_int) ja_nil)))))))) (je_def h_take hr (ja_cons (je_var 0) (ja_cons je_int ja_nil)))))
  (jss_cons (js_set (i := 2) sc_odd_join.nd rfl (je_at (je_pure (jf_lst (ja_cons je_str (ja_cons je_str ja_nil)))) (je_def h_take hr (ja_cons (je_var 0) (ja_cons je_int ja_nil)))))
  (jss_one (js_ret (je_tup (ja_cons je_str (ja_cons (je_var 1) (ja_cons (je_var 2) (ja_cons (je_at (je_pure (jf_lst (ja_cons je_str (ja_cons je_str ja_nil)))) (je_def h_take hr (ja_cons (je_var 0) (ja_cons je_int ja_nil)))) (ja_cons (je_def h_yarn hr (ja_cons (je_var 0) ja_nil)) ja_nil))))))))))
theorem has_spoilt (F : Fun K "_law_spoilt" "_law_spoilt" S_spoilt f fd) (g : mg "_law_spoilt" = some (.ref f)) (b : Binds K fd ["state", "chart"] []) (h_take : Has P w K mg base 1 "_law_take" ["state", "many"] m_take) (h_odd_join : Has P w K mg base 3 "_law_odd_join" ["state"] m_odd_join) (z_len : mg "len" = none) (z_list : mg "list" = none) :
    Has P w K mg base 4 "_law_spoilt" ["state", "chart"] m_spoilt :=
  has_mk F g b sc_spoilt (by decide) fun cdv A outer sh H E hr =>
  (jss_cons (js_set (i := 2) sc_spoilt.nd rfl (je_def h_take hr (ja_cons (je_var 0) (ja_cons (je_len (by rfl) z_len (ja_cons (je_var 1) ja_nil)) ja_nil))))
  (jss_cons (js_set (i := 3) sc_spoilt.nd rfl (je_at (je_var 1) (je_var 2)))
  (jss_cons (js_set (i := 4) sc_spoilt.nd rfl (je_def h_take hr (ja_cons (je_var 0) (ja_cons je_int ja_nil))))
  (jss_cons (js_if (jt_eq hr.units (je_at (je_var 3) je_int) je_str)
  (jss_cons (js_set (i := 5) sc_spoilt.nd rfl (je_at (je_pure (jf_lst (ja_cons (je_sub (je_def h_take hr (ja_cons (je_var 0) (ja_cons je_int ja_nil))) je_int) (ja_cons (je_sub (je_def h_take hr (ja_cons (je_var 0) (ja_cons je_int ja_nil))) je_int) ja_nil)))) (je_def h_take hr (ja_cons (je_var 0) (ja_cons je_int ja_nil)))))
  (jss_cons (js_set (i := 6) sc_spoilt.nd rfl (je_tup (ja_cons (je_var 5) (ja_cons (je_at (je_pure (jf_lst (ja_cons je_str (ja_cons je_str ja_nil)))) (je_def h_take hr (ja_cons (je_var 0) (ja_cons je_int ja_nil)))) ja_nil))))
  (jss_cons (js_set (i := 7) sc_spoilt.nd rfl (je_def h_take hr (ja_cons (je_var 0) (ja_cons (je_add (je_len (by rfl) z_len (ja_cons (je_at (je_var 3) je_int) ja_nil)) je_int) ja_nil))))
  (jss_one (js_set (i := 3) sc_spoilt.nd rfl (je_tup (ja_cons je_str (ja_cons (je_pure (jf_cat (je_pure (jf_cat (je_pure (jf_slice (je_at (je_var 3) je_int) jo_none (jo_some (je_var 7)))) (je_pure (jf_lst (ja_cons (je_var 6) ja_nil))))) (je_pure (jf_slice (je_at (je_var 3) je_int) (jo_some (je_var 7)) jo_none)))) ja_nil))))))))
  (jss_cons (js_set (i := 8) sc_spoilt.nd rfl (je_pure (jf_list (by rfl) z_list (ja_cons (je_at (je_var 3) je_int) ja_nil))))
  (jss_cons (js_set (i := 7) sc_spoilt.nd rfl (je_def h_take hr (ja_cons (je_var 0) (ja_cons (je_add (je_len (by rfl) z_len (ja_cons (je_var 8) ja_nil)) je_int) ja_nil))))
  (jss_cons (js_if (jt_eq hr.units (je_var 4) je_int)
  (jss_one (js_set (i := 8) sc_spoilt.nd rfl (je_pure (jf_cat (je_pure (jf_slice (je_var 8) jo_none (jo_some (je_var 7)))) (je_pure (jf_slice (je_var 8) (jo_some (je_add (je_var 7) je_int)) jo_none))))))
  (jss_one (js_if (jt_eq hr.units (je_var 4) je_int)
  (jss_one (js_set (i := 8) sc_spoilt.nd rfl (je_pure (jf_cat (je_pure (jf_cat (je_pure (jf_slice (je_var 8) jo_none (jo_some (je_var 7)))) (je_pure (jf_lst (ja_cons (je_def h_odd_join hr (ja_cons (je_var 0) ja_nil)) ja_nil))))) (je_pure (jf_slice (je_var 8) (jo_some (je_add (je_var 7) je_int)) jo_none))))))
  (jss_one (js_if (jt_eq hr.units (je_var 4) je_int)
  (jss_one (js_set (i := 8) sc_spoilt.nd rfl (je_pure (jf_cat (je_pure (jf_cat (je_pure (jf_slice (je_var 8) jo_none (jo_some (je_var 7)))) (je_pure (jf_lst (ja_cons (je_tup (ja_cons je_str (ja_cons je_str ja_nil))) ja_nil))))) (je_pure (jf_slice (je_var 8) (jo_some (je_var 7)) jo_none))))))
  (jss_one (js_set (i := 8) sc_spoilt.nd rfl (je_pure (jf_cat (je_pure (jf_cat (je_pure (jf_slice (je_var 8) jo_none (jo_some (je_var 7)))) (je_pure (jf_lst (ja_cons (je_tup (ja_cons je_str (ja_cons je_str ja_nil))) ja_nil))))) (je_pure (jf_slice (je_var 8) (jo_some (je_var 7)) jo_none)))))))))))
  (jss_one (js_set (i := 3) sc_spoilt.nd rfl (je_tup (ja_cons je_str (ja_cons (je_at (je_var 3) je_int) (ja_cons (je_var 8) ja_nil))))))))))
  (jss_one (js_ret (je_pure (jf_cat (je_pure (jf_cat (je_pure (jf_slice (je_var 1) jo_none (jo_some (je_var 2)))) (je_pure (jf_lst (ja_cons (je_var 3) ja_nil))))) (je_pure (jf_slice (je_var 1) (jo_some (je_add (je_var 2) je_int)) jo_none))))))))))
theorem has_takes (F : Fun K "_law_takes" "_law_takes" S_takes f fd) (g : mg "_law_takes" = some (.ref f)) (b : Binds K fd ["command"] []) (z_int : mg "int" = none) :
    Has P w K mg base 1 "_law_takes" ["command"] m_takes :=
  has_mk F g b sc_takes (by decide) fun cdv A outer sh H E hr =>
  (jss_cons (js_if (jt_eq hr.units (je_at (je_var 0) je_int) je_str)
  (jss_one (js_ret (je_at (je_var 0) je_int)))
  jss_nil)
  (jss_one (js_ret (je_int1 (by rfl) z_int (ja_cons (je_ne hr.units (je_at (je_var 0) je_int) je_str) ja_nil)))))
theorem has_work (F : Fun K "_law_work" "_law_work" S_work f fd) (g : mg "_law_work" = some (.ref f)) (b : Binds K fd ["commands", "count"] []) (h_takes : Has P w K mg base 1 "_law_takes" ["command"] m_takes) (z_int : mg "int" = none) (z_len : mg "len" = none) (z_range : mg "range" = none) :
    Has P w K mg base 2 "_law_work" ["commands", "count"] m_work :=
  has_mk F g b sc_work (by decide) fun cdv A outer sh H E hr =>
  (jss_cons (js_set (i := 2) sc_work.nd rfl (je_var 1))
  (jss_cons (js_set (i := 3) sc_work.nd rfl je_int)
  (jss_cons (js_for PassesOwn.never rfl (ji_range1 (by rfl) z_range (ja_cons (je_len (by rfl) z_len (ja_cons (je_var 0) ja_nil)) ja_nil)) (jg_name (i := 4) sc_work.nd rfl)
  (jss_cons (js_set (i := 5) sc_work.nd rfl (je_def h_takes hr (ja_cons (je_at (je_var 0) (je_var 4)) ja_nil)))
  (jss_cons (js_if (jt_w (jw_or (jt_gt (je_var 5) (je_var 2)) (jw_or1 (jt_w (jw_and (jt_eq hr.units (je_at (je_at (je_var 0) (je_var 4)) je_int) je_str) (jw_and1 (jt_w (jw_or (jt_lt (je_var 5) je_int) (jw_or1 (jt_gt (je_var 5) je_int))))))))))
  (jss_one (js_ret (je_tup (ja_cons (je_var 4) (ja_cons je_int ja_nil)))))
  jss_nil)
  (jss_cons (js_set (i := 2) sc_work.nd rfl (je_sub (je_var 2) (je_var 5)))
  (jss_one (js_set (i := 3) sc_work.nd rfl (je_add (je_var 3) (je_int1 (by rfl) z_int (ja_cons (je_ne hr.units (je_at (je_at (je_var 0) (je_var 4)) je_int) je_str) ja_nil)))))))))
  (jss_cons (js_if (jt_gt (je_var 2) je_int)
  (jss_one (js_ret (je_tup (ja_cons (je_len (by rfl) z_len (ja_cons (je_var 0) ja_nil)) (ja_cons je_int ja_nil)))))
  jss_nil)
  (jss_one (js_ret (je_tup (ja_cons (je_neg je_int) (ja_cons (je_var 3) ja_nil)))))))))
theorem has_due (F : Fun K "_law_due" "_law_due" S_due f fd) (g : mg "_law_due" = some (.ref f)) (b : Binds K fd ["chart"] []) (h_work : Has P w K mg base 2 "_law_work" ["commands", "count"] m_work) (z_len : mg "len" = none) (z_range : mg "range" = none) :
    Has P w K mg base 3 "_law_due" ["chart"] m_due :=
  has_mk F g b sc_due (by decide) fun cdv A outer sh H E hr =>
  (jss_cons (js_set (i := 1) sc_due.nd rfl (je_cell (jf_lst (ja_cons je_int ja_nil))))
  (jss_cons (js_for PassesOwn.never rfl (ji_range1 (by rfl) z_range (ja_cons (je_len (by rfl) z_len (ja_cons (je_var 0) ja_nil)) ja_nil)) (jg_name (i := 2) sc_due.nd rfl)
  (jss_one (js_if (jt_eq hr.units (je_at (je_at (je_var 0) (je_var 2)) je_int) je_str)
  (jss_cons (js_for PassesOwn.never rfl (ji_range1 (by rfl) z_range (ja_cons (je_len (by rfl) z_len (ja_cons (je_at (je_at (je_var 0) (je_var 2)) je_int) ja_nil)) ja_nil)) (jg_name (i := 3) sc_due.nd rfl)
  (jss_cons (js_set (i := 4) sc_due.nd rfl (je_at (je_at (je_at (je_at (je_var 0) (je_var 2)) je_int) (je_var 3)) je_int))
  (jss_one (js_if (jt_w (jw_or (jt_lt (je_var 4) je_int) (jw_or1 (jt_ge (je_add (je_var 4) je_int) (je_at (je_var 1) (je_var 2))))))
  (jss_one (js_ret (je_tup (ja_cons (je_var 2) (ja_cons (je_var 3) ja_nil)))))
  jss_nil))))
  (jss_one (js_expr (je_append (je_var 1) (ja_cons (je_at (je_var 1) (je_var 2)) ja_nil)))))
  (jss_cons (js_asg (je_def h_work hr (ja_cons (je_at (je_at (je_var 0) (je_var 2)) je_int) (ja_cons (je_at (je_var 1) (je_var 2)) ja_nil))) (jg_tup rfl (jgs_cons (jg_name (i := 5) sc_due.nd rfl) (jgs_cons (jg_name (i := 6) sc_due.nd rfl) jgs_nil)) (gs_len (gs_len gs_len0))))
  (jss_cons (js_if (jt_ge (je_var 5) je_int)
  (jss_one (js_ret (je_tup (ja_cons (je_var 2) (ja_cons (je_var 5) ja_nil)))))
  jss_nil)
  (jss_one (js_expr (je_append (je_var 1) (ja_cons (je_var 6) ja_nil)))))))))
  (jss_one (js_ret (je_tup (ja_cons je_str (ja_cons (je_fz (je_var 1)) ja_nil)))))))
theorem has_told (F : Fun K "_law_told" "_law_told" S_told f fd) (g : mg "_law_told" = some (.ref f)) (b : Binds K fd ["chart"] []) {c_KnitError : Addr} {c_WrongChart : Addr} (h_check_chart : HasX P w K mg base 4 "check_chart" ["chart"] m_check_chart) (z_ValueError : mg "ValueError" = none) (z_isinstance : mg "isinstance" = none) (g_WrongChart : mg "WrongChart" = some (.ref c_WrongChart)) (em_WrongChart : PySem.W.exmOne K (.ref c_WrongChart) (.ref c_WrongChart) = some true) (ex_WrongChart : L2.ExcC K c_WrongChart) (ic_WrongChart : (PySem.W.clsIn K c_WrongChart).isSome = true) (g_KnitError : mg "KnitError" = some (.ref c_KnitError)) (ki_WrongChart_KnitError : PySem.W.kitOne K (.ref c_WrongChart) (.ref c_KnitError) = some true) (ki_WrongChart_ValueError : PySem.W.kitOne K (.ref c_WrongChart) (.type "ValueError") = some true) (xf_WrongChart : XfC K c_WrongChart) (n_WrongChart_line : PySem.W.findIn K (.ref c_WrongChart) "line" = some none) (n_WrongChart_item : PySem.W.findIn K (.ref c_WrongChart) "item" = some none) :
    Has P w K mg base 5 "_law_told" ["chart"] m_told :=
  has_mk F g b sc_told (by decide) fun cdv A outer sh H E hr =>
  (jss_one (js_tryR (i := 1) rfl rfl sc_told.nd rfl (by rfl) ⟨by rfl, by decide, .inl g_WrongChart⟩ g_WrongChart em_WrongChart (fun W0 pn xe tk => (jep_tup (jap_cons (jep_of fun _ => je_str) (jap_cons (jep_defX h_check_chart hr tk (jap_cons (jep_of fun _ => (je_var 0)) (jap_of fun _ => ja_nil))) (jap_of fun _ => ja_nil))))) fun a oe dd pn hz hf =>
  (jss_cons (js_if (jt_w (jw_or (jt_not (jt_val (je_isX ex_WrongChart ic_WrongChart hz hf (by rfl) z_isinstance (pe_glob (v := .ref c_KnitError) (by rfl) g_KnitError rfl) (fun u h => h) ki_WrongChart_KnitError (je_var 1)))) (jw_or1 (jt_not (jt_val (je_isX ex_WrongChart ic_WrongChart hz hf (by rfl) z_isinstance (pe_bltn (v := .ty "ValueError") (by rfl) z_ValueError (by decide +kernel) rfl (by decide) (by decide)) (fun u h => h) ki_WrongChart_ValueError (je_var 1)))))))
  (jss_one (js_ret je_non))
  jss_nil)
  (jss_one (js_ret (je_tup (ja_cons (je_xf xf_WrongChart n_WrongChart_line hz hf (je_var 1)) (ja_cons (je_xf xf_WrongChart n_WrongChart_item hz hf (je_var 1)) ja_nil))))))))
theorem run_law (F : Fun K "law" "law" S_law f fd) (h_check_chart : HasX P w K mg base 4 "check_chart" ["chart"] m_check_chart) (h_state : Has P w K mg base 1 "_law_state" ["script"] m_state) (h_take : Has P w K mg base 1 "_law_take" ["state", "many"] m_take) (h_chart : Has P w K mg base 5 "_law_chart" ["state", "most", "lines"] m_chart) (h_wide : Has P w K mg base 4 "_law_wide" ["state", "most"] m_wide) (h_spoilt : Has P w K mg base 4 "_law_spoilt" ["state", "chart"] m_spoilt) (h_due : Has P w K mg base 3 "_law_due" ["chart"] m_due) (h_told : Has P w K mg base 5 "_law_told" ["chart"] m_told) (z_repr : mg "repr" = none) :
    RunAt callerA P w K mg base f fd ["script"] (spM K mg m_law) :=
  fn_at (k := 5) F sc_law (by decide) ⟨rfl, by decide, by decide⟩ fun cdv outer sh H hr =>
  (jss_cons (js_set (i := 1) sc_law.nd rfl (je_def h_state hr (ja_cons (je_var 0) ja_nil)))
  (jss_cons (js_set (i := 2) sc_law.nd rfl (je_def h_chart hr (ja_cons (je_var 1) (ja_cons je_int (ja_cons je_int ja_nil)))))
  (jss_cons (js_if (jt_eq hr.units (je_def h_take hr (ja_cons (je_var 1) (ja_cons je_int ja_nil))) je_int)
  (jss_one (js_set (i := 2) sc_law.nd rfl (je_def h_wide hr (ja_cons (je_var 1) (ja_cons je_int ja_nil)))))
  jss_nil)
  (jss_cons (js_if (jt_eq hr.units (je_def h_take hr (ja_cons (je_var 1) (ja_cons je_int ja_nil))) je_int)
  (jss_one (js_set (i := 2) sc_law.nd rfl (je_def h_spoilt hr (ja_cons (je_var 1) (ja_cons (je_var 2) ja_nil)))))
  jss_nil)
  (jss_cons (js_if (jt_eq hr.units (je_def h_take hr (ja_cons (je_var 1) (ja_cons je_int ja_nil))) je_int)
  (jss_one (js_set (i := 2) sc_law.nd rfl (je_pure (jf_cat (je_pure (jf_slice (je_var 2) (jo_some je_int) jo_none)) (je_pure (jf_slice (je_var 2) jo_none (jo_some je_int)))))))
  jss_nil)
  (jss_cons (js_if (jt_ne hr.units (je_defX h_check_chart hr takes0 (ja_cons (je_pure (jf_lst ja_nil)) ja_nil)) (je_pure (jf_lst (ja_cons je_int ja_nil))))
  (jss_one (js_ret je_bl))
  jss_nil)
  (jss_cons (js_set (i := 3) sc_law.nd rfl (je_repr rfl hr.units (by rfl) z_repr (ja_cons (je_var 2) ja_nil)))
  (jss_one (js_ret (je_and (je_eq hr.units (je_repr rfl hr.units (by rfl) z_repr (ja_cons (je_def h_told hr (ja_cons (je_var 2) ja_nil)) ja_nil)) (je_repr rfl hr.units (by rfl) z_repr (ja_cons (je_def h_due hr (ja_cons (je_var 2) ja_nil)) ja_nil))) (je_one (je_eq hr.units (je_repr rfl hr.units (by rfl) z_repr (ja_cons (je_var 2) ja_nil)) (je_var 3)))))))))))))
end
end K01


set_option maxRecDepth 100000
set_option maxHeartbeats 4000000
namespace K01
open PySem L2 Evl Sh
section
variable {env env1 env2 : Sh.Env} {st st1 st2 : Store} {w u : W} {ws : List W} {g : T} {body : S} {ok : Store → Prop} {x : Exn}
theorem forGo_rt (k : ok st) (h : g w env st = .ok env1 st1) (hb : body env1 st1 = .rt u st2) : forGo ok g body (w :: ws) env st = .rt u st2 := by
  rw [forGo, if_pos k, h]
  simp only [hb]
theorem forGo_exc (k : ok st) (h : g w env st = .ok env1 st1) (hb : body env1 st1 = .exc x st2) : forGo ok g body (w :: ws) env st = .exc x st2 := by
  rw [forGo, if_pos k, h]
  simp only [hb]
theorem sSeq_exc {s t : S} (h : s env st = .exc x st1) : sSeq s t env st = .exc x st1 := by
  unfold sSeq
  rw [h]
  rfl
theorem body_exc {n tot : Nat} {s : S} (hl : ws.length = n) (h : s (ws.map some ++ List.replicate (tot - n) none) st = .exc x st1) : dBody n tot s ws st = .exc x st1 := by
  unfold dBody
  rw [if_pos hl, h]
theorem body_nx {n tot : Nat} {s : S} (hl : ws.length = n) (h : s (ws.map some ++ List.replicate (tot - n) none) st = .nx env1 st1) : dBody n tot s ws st = .ok .non st1 := by
  unfold dBody
  rw [if_pos hl, h]
theorem sRaise_at {c : Str} {fs : List Str} {ds : Sh.Env → M (List W)} (h : ds env st = .ok ws st1) (l : ws.length = fs.length) (l2 : ws.length ≤ 1000) : sRaise c fs ds env st = .exc ⟨c, (fs.zip ws).reverse⟩ st1 := by
  unfold sRaise
  rw [h, Out.bindS_ok, if_pos ⟨l, l2⟩]
end
/-- the columns that a command takes -/
def isJ : Cmd → Bool
  | .join _ _ _ _ => true
  | _ => false
theorem kind_join {c : Cmd} (h : c.ok) : decide (c.kind = "join") = isJ c := by
  cases c with
  | join n lean side y =>
    show decide (("join" : Str) = "join") = true
    decide +kernel
  | one k => rcases h with rfl | rfl <;> decide +kernel
  | two k y =>
    show decide (k = "join") = false
    rcases h.1 with h | h | h <;> (rw [h]; decide +kernel)
theorem kind_drop {c : Cmd} (h : c.ok) : (if decide (c.kind = "drop") = true then (0 : Int) else 1) = (c.aft : Int) := by
  have := aft_kind h
  rw [← this]
  cases decide (c.kind = "drop") <;> rfl
theorem cW_ix0 (c : Cmd) (st : Store) : oIx (cW c) (.int 0) st = .ok (.str c.kind) st := by
  obtain ⟨rest, hr⟩ := cW_kind c
  rw [hr]
  exact ix_at rfl (by decide) rfl
theorem taken_run {c : Cmd} (h : c.ok) (st : Store) : m_columns_taken [cW c] st = .ok (.int c.tks) st := by
  refine body_rt rfl (sRet_at ?_)
  have t : dB (dEq (dOp oIx (dVar 0) (dC (.int 0))) (dC (.str "join"))) [some (cW c)] st = .ok (isJ c) st :=
    rB (rOp (rOp (rV rfl) rC (cW_ix0 c st)) rC (by rw [oEq_str, kind_join h]))
  cases c with
  | join n lean side y => exact rIfT t (rOp (rV rfl) rC (ix_at rfl (by decide) rfl))
  | one k =>
    refine rIfF t ?_
    unfold dTab
    rw [rOp (rV rfl) rC (cW_ix0 (.one k) st), Out.bind_ok]
    rcases h with rfl | rfl <;> rfl
  | two k y =>
    refine rIfF t ?_
    unfold dTab
    rw [rOp (rV rfl) rC (cW_ix0 (.two k y) st), Out.bind_ok]
    rcases h.1 with h | h | h <;> (rw [show Cmd.kind (.two k y) = k from rfl, show Cmd.tks (.two k y) = if k = "tuck" then 0 else 1 from rfl, h]; rfl)
theorem takes_run {c : Cmd} (h : c.ok) (st : Store) : m_takes [cW c] st = .ok (.int c.tks) st := by
  refine body_rt rfl ?_
  have t : dB (dEq (dOp oIx (dVar 0) (dC (.int 0))) (dC (.str "join"))) [some (cW c)] st = .ok (isJ c) st :=
    rB (rOp (rOp (rV rfl) rC (cW_ix0 c st)) rC (by rw [oEq_str, kind_join h]))
  have t2 : dCallB cInt (dCons (dNe (dOp oIx (dVar 0) (dC (.int 0))) (dC (.str "tuck"))) dNil) [some (cW c)] st = .ok (.int (if (!decide (c.kind = "tuck")) = true then 1 else 0)) st :=
    rCallB (rCons (rOp (rOp (rV rfl) rC (cW_ix0 c st)) rC (oNe_str _ _ _)) rNil) (cInt_bl _ _)
  cases c with
  | join n lean side y => exact sSeq_rt (sIf_t t (sRet_at (rOp (rV rfl) rC (ix_at rfl (by decide) rfl))))
  | one k =>
    refine sSeq_at (sIf_f t sNil_at) (sRet_at (t2.trans ?_))
    rcases h with rfl | rfl <;> rfl
  | two k y =>
    refine sSeq_at (sIf_f t sNil_at) (sRet_at (t2.trans ?_))
    rcases h.1 with h | h | h <;> (rw [show Cmd.kind (.two k y) = k from rfl, show Cmd.tks (.two k y) = if k = "tuck" then 0 else 1 from rfl, h]; rfl)
/-- a work line's commands: the first mistake, or the columns left -/
def badC (w t : Int) (c : Cmd) : Bool := decide (w - t < c.tks) || (isJ c && !(decide (2 ≤ c.tks) && decide (c.tks ≤ 4)))
def goL (w : Int) : List Cmd → Nat → Int → Int → Sum Nat (Int × Int)
  | [], _, t, l => .inr (t, l)
  | c :: cs, i, t, l => if badC w t c = true then .inl i else goL w cs (i + 1) (t + c.tks) (l + (c.aft : Int))
def wrong (line : Int) (item : Nat) : Exn := ⟨"WrongChart", [("item", .int (item : Int)), ("line", .int line)]⟩
noncomputable abbrev wbBody : S :=
  (sSeq (sSet 7 (dCall m_columns_taken (dCons (dVar 6) dNil)))
  (sSeq (sIf (dOr (dB (dGt (dVar 7) (dSub (dVar 1) (dVar 3)))) (dAnd (dB (dEq (dOp oIx (dVar 6) (dC (.int 0))) (dC (.str "join")))) (dNot (dB (dChain oLe oLe (dC (.int 2)) (dVar 7) (dC (.int 4)))))))
  (sRaise "WrongChart" ["line", "item"] (dCons (dVar 2) (dCons (dVar 5) dNil)))
  sNil)
  (sSeq (sAug 3 (fun i j => i + j) (dVar 7))
  (sIf (dB (dNe (dOp oIx (dVar 6) (dC (.int 0))) (dC (.str "drop"))))
  (sAug 4 (fun i j => i + j) (dC (.int 1)))
  sNil))))
theorem chain_run {a b c : Int} {env : Sh.Env} {st : Store} {da db dc : Sh.Env → M W} (h1 : da env st = .ok (.int a) st) (h2 : db env st = .ok (.int b) st) (h3 : dc env st = .ok (.int c) st) : dChain oLe oLe da db dc env st = .ok (.bl (decide (a ≤ b) && decide (b ≤ c))) st := by
  unfold dChain
  rw [h1, Out.bind_ok, h2, Out.bind_ok]
  show (Out.ok (W.bl (decide (a ≤ b))) st).bind _ = _
  rw [Out.bind_ok]
  cases decide (a ≤ b) with
  | false => rfl
  | true =>
    show (dc env st).bind _ = _
    rw [h3, Out.bind_ok]
    rfl
theorem wb_loop {w line : Int} {o0 : Option W} {st : Store} : ∀ (cs : List Cmd) (i : Nat) (t l : Int) (e5 e6 e7 : Option W), (∀ c ∈ cs, c.ok) →
    ∃ e5' e6' e7', forGo (fun _ => True) (gTu (gsCons (gN 5) (gsCons (gN 6) gsNil))) wbBody (enW i (cs.map cW)) [o0, some (.int w), some (.int line), some (.int t), some (.int l), e5, e6, e7] st =
      (match goL w cs i t l with
      | .inl j => .exc (wrong line j) st
      | .inr (t', l') => .nx [o0, some (.int w), some (.int line), some (.int t'), some (.int l'), e5', e6', e7'] st)
  | [], i, t, l, e5, e6, e7, h => ⟨e5, e6, e7, forGo_nil True.intro⟩
  | c :: cs, i, t, l, e5, e6, e7, h => by
    have hc := h c List.mem_cons_self
    have g1 : (gTu (gsCons (gN 5) (gsCons (gN 6) gsNil))) (.tup [.int (i : Int), cW c]) [o0, some (.int w), some (.int line), some (.int t), some (.int l), e5, e6, e7] st = .ok [o0, some (.int w), some (.int line), some (.int t), some (.int l), some (.int (i : Int)), some (cW c), e7] st := rfl
    have b1 : sSet 7 (dCall m_columns_taken (dCons (dVar 6) dNil)) [o0, some (.int w), some (.int line), some (.int t), some (.int l), some (.int (i : Int)), some (cW c), e7] st = .nx [o0, some (.int w), some (.int line), some (.int t), some (.int l), some (.int (i : Int)), some (cW c), some (.int c.tks)] st :=
      sSet_at (rCall (rCons (rV rfl) rNil) (taken_run hc st))
    have t1 : dOr (dB (dGt (dVar 7) (dSub (dVar 1) (dVar 3)))) (dAnd (dB (dEq (dOp oIx (dVar 6) (dC (.int 0))) (dC (.str "join")))) (dNot (dB (dChain oLe oLe (dC (.int 2)) (dVar 7) (dC (.int 4)))))) [o0, some (.int w), some (.int line), some (.int t), some (.int l), some (.int (i : Int)), some (cW c), some (.int c.tks)] st = .ok (badC w t c) st :=
      pOr (rB (rOp (x := .int c.tks) (y := .int (w - t)) (rV rfl) (rOp (rV rfl) (rV rfl) rfl) rfl)) (pAnd (rB (rOp (rOp (rV rfl) rC (cW_ix0 c st)) rC (by rw [oEq_str, kind_join hc]))) (rNot (rB (chain_run rC (rV rfl) rC))))
    rw [List.map_cons, enW, goL]
    cases q : badC w t c with
    | true =>
      refine ⟨none, none, none, ?_⟩
      rw [if_pos rfl]
      exact forGo_exc True.intro g1 (sSeq_at b1 (sSeq_exc (sIf_t (t1.trans (by rw [q])) (sRaise_at (rCons (rV rfl) (rCons (rV rfl) rNil)) rfl (by show 2 ≤ 1000; decide)))))
    | false =>
      obtain ⟨f5, f6, f7, ih⟩ := wb_loop cs (i + 1) (t + c.tks) (l + (c.aft : Int)) (some (.int (i : Int))) (some (cW c)) (some (.int c.tks)) fun x hx => h x (List.mem_cons_of_mem _ hx)
      refine ⟨f5, f6, f7, ?_⟩
      rw [if_neg (by simp)]
      have t2 : dB (dNe (dOp oIx (dVar 6) (dC (.int 0))) (dC (.str "drop"))) [o0, some (.int w), some (.int line), some (.int (t + c.tks)), some (.int l), some (.int (i : Int)), some (cW c), some (.int c.tks)] st = .ok (!decide (c.kind = "drop")) st :=
        rB (rOp (rOp (rV rfl) rC (cW_ix0 c st)) rC (oNe_str _ _ _))
      have b3 : sAug 3 (fun i j => i + j) (dVar 7) [o0, some (.int w), some (.int line), some (.int t), some (.int l), some (.int (i : Int)), some (cW c), some (.int c.tks)] st = .nx [o0, some (.int w), some (.int line), some (.int (t + c.tks)), some (.int l), some (.int (i : Int)), some (cW c), some (.int c.tks)] st := rfl
      have b4 : sIf (dB (dNe (dOp oIx (dVar 6) (dC (.int 0))) (dC (.str "drop")))) (sAug 4 (fun i j => i + j) (dC (.int 1))) sNil [o0, some (.int w), some (.int line), some (.int (t + c.tks)), some (.int l), some (.int (i : Int)), some (cW c), some (.int c.tks)] st =
          .nx [o0, some (.int w), some (.int line), some (.int (t + c.tks)), some (.int (l + (c.aft : Int))), some (.int (i : Int)), some (cW c), some (.int c.tks)] st := by
        have ak := kind_drop hc
        cases hk : decide (c.kind = "drop") with
        | true =>
          rw [hk] at ak
          have e0 : (c.aft : Int) = 0 := by rw [← ak]; rfl
          rw [e0, Int.add_zero]
          exact sIf_f (t2.trans (by rw [hk]; rfl)) sNil_at
        | false =>
          rw [hk] at ak
          have e0 : (c.aft : Int) = 1 := by rw [← ak]; rfl
          rw [e0]
          exact sIf_t (t2.trans (by rw [hk]; rfl)) rfl
      rw [forGo_nx True.intro g1 (sSeq_at b1 (sSeq_at (sIf_f (t1.trans (by rw [q])) sNil_at) (sSeq_at b3 b4)))]
      exact ih
theorem width_run {cs : List Cmd} (hok : ∀ c ∈ cs, c.ok) (w line : Int) (st : Store) : m_width_behind [.lst (cs.map cW), .int w, .int line] st =
    (match goL w cs 0 0 0 with
    | .inl j => .exc (wrong line j) st
    | .inr (t, l) => if t < w then .exc (wrong line cs.length) st else .ok (.int l) st) := by
  obtain ⟨e5, e6, e7, h⟩ := wb_loop (w := w) (line := line) (o0 := some (.lst (cs.map cW))) (st := st) cs 0 0 0 none none none hok
  have fr : ∀ o, forGo (fun _ => True) (gTu (gsCons (gN 5) (gsCons (gN 6) gsNil))) wbBody (enW 0 (cs.map cW)) [some (.lst (cs.map cW)), some (.int w), some (.int line), some (.int 0), some (.int 0), none, none, none] st = o →
      sFor (iEn (dCons (dVar 0) dNil)) (gTu (gsCons (gN 5) (gsCons (gN 6) gsNil))) wbBody [some (.lst (cs.map cW)), some (.int w), some (.int line), some (.int 0), some (.int 0), none, none, none] st = o := by
    intro o k
    unfold sFor iEn
    simp only [dCons, dVar_zero, dNil_at, Out.bind_ok, Out.bindS_ok]
    exact k
  cases q : goL w cs 0 0 0 with
  | inl j =>
    rw [q] at h
    exact body_exc rfl (sSeq_at (sSet_at rC) (sSeq_at (sSet_at rC) (sSeq_exc (fr _ h))))
  | inr p =>
    obtain ⟨t, l⟩ := p
    rw [q] at h
    have t3 : dB (dLt (dVar 3) (dVar 1)) [some (.lst (cs.map cW)), some (.int w), some (.int line), some (.int t), some (.int l), e5, e6, e7] st = .ok (decide (t < w)) st := rB (rOp (x := .int t) (y := .int w) (rV rfl) (rV rfl) rfl)
    have ln : cLen [.lst (cs.map cW)] st = .ok (.int (cs.length : Int)) st := by rw [cLen_at (w := .lst (cs.map cW)) rfl, List.length_map]
    by_cases z : t < w
    · show _ = if t < w then _ else _
      rw [if_pos z]
      exact body_exc rfl (sSeq_at (sSet_at rC) (sSeq_at (sSet_at rC) (sSeq_at (fr _ h) (sSeq_exc (sIf_t (t3.trans (by rw [decide_eq_true z])) (sRaise_at (rCons (rV rfl) (rCons (rCallB (rCons (rV rfl) rNil) ln) rNil)) rfl (by show 2 ≤ 1000; decide)))))))
    · show _ = if t < w then _ else _
      rw [if_neg z]
      exact body_rt rfl (sSeq_at (sSet_at rC) (sSeq_at (sSet_at rC) (sSeq_at (fr _ h) (sSeq_at (sIf_f (t3.trans (by rw [decide_eq_false z])) sNil_at) (sRet_at (rV rfl))))))
end K01


set_option maxRecDepth 100000
set_option maxHeartbeats 4000000
namespace K01
open PySem L2 Evl Sh
noncomputable abbrev wkBody : S :=
  (sSeq (sSet 5 (dCall m_takes (dCons (dOp oIx (dVar 0) (dVar 4)) dNil)))
  (sSeq (sIf (dOr (dB (dGt (dVar 5) (dVar 2))) (dAnd (dB (dEq (dOp oIx (dOp oIx (dVar 0) (dVar 4)) (dC (.int 0))) (dC (.str "join")))) (dOr (dB (dLt (dVar 5) (dC (.int 2)))) (dB (dGt (dVar 5) (dC (.int 4)))))))
  (sRet (dTup (dCons (dVar 4) (dCons (dC (.int 0)) dNil))))
  sNil)
  (sSeq (sSet 2 (dSub (dVar 2) (dVar 5)))
  (sSet 3 (dAdd (dVar 3) (dCallB cInt (dCons (dNe (dOp oIx (dOp oIx (dVar 0) (dVar 4)) (dC (.int 0))) (dC (.str "drop"))) dNil)))))))
theorem ix_mid (done : List Cmd) (c : Cmd) (rest : List Cmd) (st : Store) : oIx (.lst ((done ++ c :: rest).map cW)) (.int (done.length : Int)) st = .ok (cW c) st := ix_at rfl (by omega) (by simp)
theorem badC_eq (w t : Int) (c : Cmd) : (decide (w - t < c.tks) || (isJ c && (decide (c.tks < 2) || decide (4 < c.tks)))) = badC w t c := by
  unfold badC
  congr 2
  by_cases h1 : c.tks < 2
  · rw [decide_eq_true h1, decide_eq_false (show ¬ 2 ≤ c.tks by omega)]
    rfl
  · rw [decide_eq_false h1, decide_eq_true (show 2 ≤ c.tks by omega)]
    by_cases h2 : 4 < c.tks
    · rw [decide_eq_true h2, decide_eq_false (show ¬ c.tks ≤ 4 by omega)]
      rfl
    · rw [decide_eq_false h2, decide_eq_true (show c.tks ≤ 4 by omega)]
      rfl
theorem wk_loop {w : Int} {st : Store} : ∀ (rest done : List Cmd) (t l : Int) (e4 e5 : Option W), (∀ c ∈ done ++ rest, c.ok) →
    ∃ e4' e5', forGo (fun _ => True) (gN 4) wkBody (rngW (done.length : Int) rest.length) [some (.lst ((done ++ rest).map cW)), some (.int w), some (.int (w - t)), some (.int l), e4, e5] st =
      (match goL w rest done.length t l with
      | .inl j => .rt (.tup [.int (j : Int), .int 0]) st
      | .inr (t', l') => .nx [some (.lst ((done ++ rest).map cW)), some (.int w), some (.int (w - t')), some (.int l'), e4', e5'] st)
  | [], done, t, l, e4, e5, h => ⟨e4, e5, forGo_nil True.intro⟩
  | c :: rest, done, t, l, e4, e5, h => by
    have hc : c.ok := h c (by simp)
    have l2 : (2 : Nat) ≤ sizeLine := line_ge (by decide)
    have ic := ix_mid done c rest
    have b1 : sSet 5 (dCall m_takes (dCons (dOp oIx (dVar 0) (dVar 4)) dNil)) [some (.lst ((done ++ c :: rest).map cW)), some (.int w), some (.int (w - t)), some (.int l), some (.int (done.length : Int)), e5] st =
        .nx [some (.lst ((done ++ c :: rest).map cW)), some (.int w), some (.int (w - t)), some (.int l), some (.int (done.length : Int)), some (.int c.tks)] st :=
      sSet_at (rCall (rCons (rOp (rV rfl) (rV rfl) (ic st)) rNil) (takes_run hc st))
    have t1 : dOr (dB (dGt (dVar 5) (dVar 2))) (dAnd (dB (dEq (dOp oIx (dOp oIx (dVar 0) (dVar 4)) (dC (.int 0))) (dC (.str "join")))) (dOr (dB (dLt (dVar 5) (dC (.int 2)))) (dB (dGt (dVar 5) (dC (.int 4)))))) [some (.lst ((done ++ c :: rest).map cW)), some (.int w), some (.int (w - t)), some (.int l), some (.int (done.length : Int)), some (.int c.tks)] st = .ok (badC w t c) st := by
      rw [← badC_eq]
      exact pOr (rB (rOp (x := .int c.tks) (y := .int (w - t)) (rV rfl) (rV rfl) rfl)) (pAnd (rB (rOp (rOp (rOp (rV rfl) (rV rfl) (ic st)) rC (cW_ix0 c st)) rC (by rw [oEq_str, kind_join hc]))) (pOr (rB (rOp (x := .int c.tks) (y := .int 2) (rV rfl) rC rfl)) (rB (rOp (x := .int c.tks) (y := .int 4) (rV rfl) rC rfl))))
    rw [List.length_cons, rngW_succ, goL]
    cases q : badC w t c with
    | true =>
      refine ⟨none, none, ?_⟩
      rw [if_pos rfl]
      exact forGo_rt (env1 := [some (.lst ((done ++ c :: rest).map cW)), some (.int w), some (.int (w - t)), some (.int l), some (.int (done.length : Int)), e5]) (st1 := st) True.intro rfl (sSeq_at b1 (sSeq_rt (sIf_t (t1.trans (by rw [q])) (sRet_at (rTup (rCons (rV rfl) (rCons rC rNil)) l2)))))
    | false =>
      have ed : done ++ c :: rest = (done ++ [c]) ++ rest := by simp
      obtain ⟨f4, f5, ih⟩ := wk_loop rest (done ++ [c]) (t + c.tks) (l + (c.aft : Int)) (some (.int (done.length : Int))) (some (.int c.tks)) (by rw [← ed]; exact h)
      refine ⟨f4, f5, ?_⟩
      rw [if_neg (by simp)]
      have a3 : dAdd (dVar 3) (dCallB cInt (dCons (dNe (dOp oIx (dOp oIx (dVar 0) (dVar 4)) (dC (.int 0))) (dC (.str "drop"))) dNil)) [some (.lst ((done ++ c :: rest).map cW)), some (.int w), some (.int (w - t - c.tks)), some (.int l), some (.int (done.length : Int)), some (.int c.tks)] st = .ok (.int (l + (c.aft : Int))) st := by
        rw [← aft_kind hc]
        exact rOp (rV rfl) (rCallB (rCons (rOp (rOp (rOp (rV rfl) (rV rfl) (ic st)) rC (cW_ix0 c st)) rC (oNe_str _ _ _)) rNil) (cInt_bl _ _)) rfl
      have b3 : (sSeq (sSet 2 (dSub (dVar 2) (dVar 5))) (sSet 3 (dAdd (dVar 3) (dCallB cInt (dCons (dNe (dOp oIx (dOp oIx (dVar 0) (dVar 4)) (dC (.int 0))) (dC (.str "drop"))) dNil)))))
          [some (.lst ((done ++ c :: rest).map cW)), some (.int w), some (.int (w - t)), some (.int l), some (.int (done.length : Int)), some (.int c.tks)] st = .nx [some (.lst ((done ++ c :: rest).map cW)), some (.int w), some (.int (w - t - c.tks)), some (.int (l + (c.aft : Int))), some (.int (done.length : Int)), some (.int c.tks)] st :=
        sSeq_at (sSet_at (rOp (rV rfl) (rV rfl) rfl)) (sSet_at a3)
      rw [forGo_nx (env1 := [some (.lst ((done ++ c :: rest).map cW)), some (.int w), some (.int (w - t)), some (.int l), some (.int (done.length : Int)), e5]) (st1 := st) True.intro rfl (sSeq_at b1 (sSeq_at (sIf_f (t1.trans (by rw [q])) sNil_at) b3))]
      have e1 : w - t - c.tks = w - (t + c.tks) := by omega
      have e2 : (done.length : Int) + 1 = ((done ++ [c]).length : Int) := by simp
      have e3 : done.length + 1 = (done ++ [c]).length := by simp
      rw [e1, e2, e3, ed]
      exact ih
theorem work_run {cs : List Cmd} (hok : ∀ c ∈ cs, c.ok) (hz : cs.length ≤ 1000) (w : Int) (st : Store) : m_work [.lst (cs.map cW), .int w] st =
    (match goL w cs 0 0 0 with
    | .inl j => .ok (.tup [.int (j : Int), .int 0]) st
    | .inr (t, l) => if t < w then .ok (.tup [.int (cs.length : Int), .int 0]) st else .ok (.tup [.int (-1), .int l]) st) := by
  obtain ⟨e4, e5, h⟩ := wk_loop (w := w) (st := st) cs [] 0 0 none none hok
  have l2 : (2 : Nat) ≤ sizeLine := line_ge (by decide)
  have ln : cLen [.lst (cs.map cW)] st = .ok (.int (cs.length : Int)) st := by rw [cLen_at (w := .lst (cs.map cW)) rfl, List.length_map]
  rw [Int.sub_zero] at h
  have fr : ∀ o, forGo (fun _ => True) (gN 4) wkBody (rngW 0 cs.length) [some (.lst (cs.map cW)), some (.int w), some (.int w), some (.int 0), none, none] st = o →
      sFor (iR1 (dCons (dCallB cLen (dCons (dVar 0) dNil)) dNil)) (gN 4) wkBody [some (.lst (cs.map cW)), some (.int w), some (.int w), some (.int 0), none, none] st = o :=
    fun o k => rFor (rR1 (n := cs.length) (rCons (rCallB (rCons (rV rfl) rNil) ln) rNil) (sm_nat (by omega))) k
  cases q : goL w cs 0 0 0 with
  | inl j =>
    rw [show ([] : List Cmd).length = 0 from rfl, q] at h
    exact body_rt rfl (sSeq_at (sSet_at (rV rfl)) (sSeq_at (sSet_at rC) (sSeq_rt (fr _ h))))
  | inr p =>
    obtain ⟨t, l⟩ := p
    rw [show ([] : List Cmd).length = 0 from rfl, q] at h
    have t3 : dB (dGt (dVar 2) (dC (.int 0))) [some (.lst (cs.map cW)), some (.int w), some (.int (w - t)), some (.int l), e4, e5] st = .ok (decide (0 < w - t)) st := rB (rOp (x := .int (w - t)) (y := .int 0) (rV rfl) rC rfl)
    by_cases z : t < w
    · show _ = if t < w then _ else _
      rw [if_pos z]
      exact body_rt rfl (sSeq_at (sSet_at (rV rfl)) (sSeq_at (sSet_at rC) (sSeq_at (fr _ h) (sSeq_rt (sIf_t (t3.trans (by rw [decide_eq_true (show 0 < w - t by omega)])) (sRet_at (rTup (rCons (rCallB (rCons (rV rfl) rNil) ln) (rCons rC rNil)) l2)))))))
    · show _ = if t < w then _ else _
      rw [if_neg z]
      exact body_rt rfl (sSeq_at (sSet_at (rV rfl)) (sSeq_at (sSet_at rC) (sSeq_at (fr _ h) (sSeq_at (sIf_f (t3.trans (by rw [decide_eq_false (show ¬ 0 < w - t by omega)])) sNil_at) (sRet_at (rTup (rCons rfl (rCons (rV rfl) rNil)) l2))))))
/-- exchanges: the first that can't be done -/
def badE (w : Int) (e : Int × Str) : Bool := !(decide (0 ≤ e.1) && decide (e.1 < w - 1))
def goE (w : Int) : List (Int × Str) → Nat → Option Nat
  | [], _ => none
  | e :: es, i => if badE w e = true then some i else goE w es (i + 1)
theorem chain_lt {a b c : Int} {env : Sh.Env} {st : Store} {da db dc : Sh.Env → M W} (h1 : da env st = .ok (.int a) st) (h2 : db env st = .ok (.int b) st) (h3 : dc env st = .ok (.int c) st) : dChain oLe oLt da db dc env st = .ok (.bl (decide (a ≤ b) && decide (b < c))) st := by
  unfold dChain
  rw [h1, Out.bind_ok, h2, Out.bind_ok]
  show (Out.ok (W.bl (decide (a ≤ b))) st).bind _ = _
  rw [Out.bind_ok]
  cases decide (a ≤ b) with
  | false => rfl
  | true =>
    show (dc env st).bind _ = _
    rw [h3, Out.bind_ok]
    rfl
theorem ex_loop' {w line : Int} {o0 : Option W} {st : Store} : ∀ (es : List (Int × Str)) (i : Nat) (e3 e4 e5 : Option W),
    ∃ e3' e4' e5', forGo (fun _ => True) (gTu (gsCons (gN 3) (gsCons (gTu (gsCons (gN 4) (gsCons (gN 5) gsNil))) gsNil))) (sIf (dNot (dB (dChain oLe oLt (dC (.int 0)) (dVar 4) (dSub (dVar 1) (dC (.int 1)))))) (sRaise "WrongChart" ["line", "item"] (dCons (dVar 2) (dCons (dVar 3) dNil))) sNil) (enW i (es.map eW)) [o0, some (.int w), some (.int line), e3, e4, e5] st =
      (match goE w es i with
      | some j => .exc (wrong line j) st
      | none => .nx [o0, some (.int w), some (.int line), e3', e4', e5'] st)
  | [], i, e3, e4, e5 => ⟨e3, e4, e5, forGo_nil True.intro⟩
  | e :: es, i, e3, e4, e5 => by
    have g1 : (gTu (gsCons (gN 3) (gsCons (gTu (gsCons (gN 4) (gsCons (gN 5) gsNil))) gsNil))) (.tup [.int (i : Int), eW e]) [o0, some (.int w), some (.int line), e3, e4, e5] st = .ok [o0, some (.int w), some (.int line), some (.int (i : Int)), some (.int e.1), some (.str e.2)] st := rfl
    have t1 : dNot (dB (dChain oLe oLt (dC (.int 0)) (dVar 4) (dSub (dVar 1) (dC (.int 1))))) [o0, some (.int w), some (.int line), some (.int (i : Int)), some (.int e.1), some (.str e.2)] st = .ok (badE w e) st := rNot (rB (chain_lt rC (rV rfl) (rOp (rV rfl) rC rfl)))
    rw [List.map_cons, enW, goE]
    cases q : badE w e with
    | true =>
      refine ⟨none, none, none, ?_⟩
      rw [if_pos rfl]
      exact forGo_exc True.intro g1 (sIf_t (t1.trans (by rw [q])) (sRaise_at (rCons (rV rfl) (rCons (rV rfl) rNil)) rfl (by show 2 ≤ 1000; decide)))
    | false =>
      obtain ⟨f3, f4, f5, ih⟩ := ex_loop' es (i + 1) (some (.int (i : Int))) (some (.int e.1)) (some (.str e.2))
      refine ⟨f3, f4, f5, ?_⟩
      rw [if_neg (by simp), forGo_nx True.intro g1 (sIf_f (t1.trans (by rw [q])) sNil_at)]
      exact ih
theorem exch_run (es : List (Int × Str)) (w line : Int) (st : Store) : m_check_exchanges [.lst (es.map eW), .int w, .int line] st =
    (match goE w es 0 with
    | some j => .exc (wrong line j) st
    | none => .ok .non st) := by
  obtain ⟨e3, e4, e5, h⟩ := ex_loop' (w := w) (line := line) (o0 := some (.lst (es.map eW))) (st := st) es 0 none none none
  have fr : ∀ o, forGo (fun _ => True) (gTu (gsCons (gN 3) (gsCons (gTu (gsCons (gN 4) (gsCons (gN 5) gsNil))) gsNil))) (sIf (dNot (dB (dChain oLe oLt (dC (.int 0)) (dVar 4) (dSub (dVar 1) (dC (.int 1)))))) (sRaise "WrongChart" ["line", "item"] (dCons (dVar 2) (dCons (dVar 3) dNil))) sNil) (enW 0 (es.map eW)) [some (.lst (es.map eW)), some (.int w), some (.int line), none, none, none] st = o →
      b_check_exchanges [some (.lst (es.map eW)), some (.int w), some (.int line), none, none, none] st = o := by
    intro o k
    unfold b_check_exchanges sFor iEn
    simp only [dCons, dVar_zero, dNil_at, Out.bind_ok, Out.bindS_ok]
    exact k
  cases q : goE w es 0 with
  | some j =>
    rw [q] at h
    exact body_exc rfl (fr _ h)
  | none =>
    rw [q] at h
    exact body_nx rfl (fr _ h)
end K01


set_option maxRecDepth 100000
set_option maxHeartbeats 4000000
namespace K01
open PySem L2 Evl Sh
/-- a line of a chart, spoilt or not -/
def Wk : Line → Prop
  | .work d cs => (d = "left" ∨ d = "right") ∧ (∀ c ∈ cs, c.ok) ∧ cs.length ≤ 400
  | .move ex => (∀ e ∈ ex, eOk e) ∧ ex.length ≤ 60
theorem Wk.of {l : Line} (h : Line.ok l) : Wk l := by
  cases l with
  | work d cs => exact ⟨h.1, h.2.1, by have := h.2.2; omega⟩
  | move ex => exact ⟨h.1, by have := h.2; omega⟩
def lineR (w : Int) : Line → Sum Nat Int
  | .work _ cs => match goL w cs 0 0 0 with
    | .inl j => .inl j
    | .inr (t, l) => if t < w then .inl cs.length else .inr l
  | .move ex => match goE w ex 0 with
    | some j => .inl j
    | none => .inr w
def goC : List Line → Nat → List Int → Int → Sum (Nat × Nat) (List Int)
  | [], _, ws, _ => .inr ws
  | l :: ls, i, ws, w => match lineR w l with
    | .inl j => .inl (i, j)
    | .inr w' => goC ls (i + 1) (ws ++ [w']) w'
noncomputable abbrev ckBody : S :=
  (sSeq (sSet 4 (dOp oIx (dVar 1) (dUn oNeg (dC (.int 1)))))
  (sSeq (sIf (dB (dEq (dOp oIx (dVar 3) (dC (.int 0))) (dC (.str "work"))))
  (sSet 4 (dCallB m_width_behind (dCons (dOp oIx (dVar 3) (dC (.int 2))) (dCons (dVar 4) (dCons (dVar 2) dNil)))))
  (sDrop (dCallB m_check_exchanges (dCons (dOp oIx (dVar 3) (dC (.int 1))) (dCons (dVar 4) (dCons (dVar 2) dNil))))))
  (sDrop (dBM tyL mAppend (dVar 1) (dCons (dVar 4) dNil)))))
theorem sSet_exc {i : Nat} {d : Sh.Env → M W} {env : Sh.Env} {st st1 : Store} {x : Exn} (h : d env st = .exc x st1) : sSet i d env st = .exc x st1 := by
  unfold sSet
  rw [h]
  rfl
theorem sDrop_exc {d : Sh.Env → M W} {env : Sh.Env} {st st1 : Store} {x : Exn} (h : d env st = .exc x st1) : sDrop d env st = .exc x st1 := by
  unfold sDrop
  rw [h]
  rfl
/-- a turn over a line -/
theorem ck_turn {r i : Nat} {o0 e4 : Option W} {st : Store} {ws : List Int} {w : Int} {l : Line} (hl : Wk l) (hr : lcell st r = some ((ws ++ [w]).map W.int)) (hz : ws.length ≤ 900) :
    (match lineR w l with
    | .inl j => ckBody [o0, some (.cell r), some (.int (i : Int)), some (lW l), e4] st = .exc (wrong (i : Int) j) st
    | .inr w' => ckBody [o0, some (.cell r), some (.int (i : Int)), some (lW l), e4] st = .nx [o0, some (.cell r), some (.int (i : Int)), some (lW l), some (.int w')] (st.set r (.lst ((ws ++ [w] ++ [w']).map W.int)))) := by
  have b1 : sSet 4 (dOp oIx (dVar 1) (dUn oNeg (dC (.int 1)))) [o0, some (.cell r), some (.int (i : Int)), some (lW l), e4] st = .nx [o0, some (.cell r), some (.int (i : Int)), some (lW l), some (.int w)] st :=
    sSet_at (rOp (x := .cell r) (y := .int (-1)) (rV rfl) rfl (ix_last (w := .cell r) (xs := ws.map W.int) (by show lcell st r = _; rw [hr, List.map_append]; rfl)))
  have ap : ∀ w' : Int, sDrop (dBM tyL mAppend (dVar 1) (dCons (dVar 4) dNil)) [o0, some (.cell r), some (.int (i : Int)), some (lW l), some (.int w')] st = .nx [o0, some (.cell r), some (.int (i : Int)), some (lW l), some (.int w')] (st.set r (.lst ((ws ++ [w] ++ [w']).map W.int))) := by
    intro w'
    have := app_run (i := 1) (d := dVar 4) (env := [o0, some (.cell r), some (.int (i : Int)), some (lW l), some (.int w')]) (w := .int w') (st := st) (st1 := st) rfl (rV rfl) hr hr (by rw [List.length_map, List.length_append, List.length_singleton]; omega)
    rw [List.map_append (l₁ := ws ++ [w])]
    exact this
  cases l with
  | work d cs =>
    have t1 : dB (dEq (dOp oIx (dVar 3) (dC (.int 0))) (dC (.str "work"))) [o0, some (.cell r), some (.int (i : Int)), some (lW (.work d cs)), some (.int w)] st = .ok true st := rB (rOp (rOp (rV rfl) rC (ix_at rfl (by decide) rfl)) rC (by rw [oEq_str, decide_eq_true rfl]))
    have cl : dCallB m_width_behind (dCons (dOp oIx (dVar 3) (dC (.int 2))) (dCons (dVar 4) (dCons (dVar 2) dNil))) [o0, some (.cell r), some (.int (i : Int)), some (lW (.work d cs)), some (.int w)] st = m_width_behind [.lst (cs.map cW), .int w, .int (i : Int)] st :=
      rCallB (rCons (rOp (rV rfl) rC (ix_at rfl (by decide) rfl)) (rCons (rV rfl) (rCons (rV rfl) rNil))) rfl
    rw [width_run hl.2.1] at cl
    cases q : goL w cs 0 0 0 with
    | inl j =>
      rw [q] at cl
      have e : lineR w (.work d cs) = .inl j := by
        unfold lineR
        simp only [q]
      rw [e]
      exact sSeq_at b1 (sSeq_exc (sIf_t t1 (sSet_exc cl)))
    | inr p =>
      obtain ⟨t, a⟩ := p
      rw [q] at cl
      simp only [] at cl
      by_cases z : t < w
      · rw [if_pos z] at cl
        have e : lineR w (.work d cs) = .inl cs.length := by
          unfold lineR
          simp only [q, if_pos z]
        rw [e]
        exact sSeq_at b1 (sSeq_exc (sIf_t t1 (sSet_exc cl)))
      · rw [if_neg z] at cl
        have e : lineR w (.work d cs) = .inr a := by
          unfold lineR
          simp only [q, if_neg z]
        rw [e]
        exact sSeq_at b1 (sSeq_at (sIf_t t1 (sSet_at cl)) (ap a))
  | move ex =>
    have t1 : dB (dEq (dOp oIx (dVar 3) (dC (.int 0))) (dC (.str "work"))) [o0, some (.cell r), some (.int (i : Int)), some (lW (.move ex)), some (.int w)] st = .ok false st := rB (rOp (rOp (rV rfl) rC (ix_at rfl (by decide) rfl)) rC (by rw [oEq_str, show decide (("move" : Str) = "work") = false by decide +kernel]))
    have cl : dCallB m_check_exchanges (dCons (dOp oIx (dVar 3) (dC (.int 1))) (dCons (dVar 4) (dCons (dVar 2) dNil))) [o0, some (.cell r), some (.int (i : Int)), some (lW (.move ex)), some (.int w)] st = m_check_exchanges [.lst (ex.map eW), .int w, .int (i : Int)] st :=
      rCallB (rCons (rOp (rV rfl) rC (ix_at rfl (by decide) rfl)) (rCons (rV rfl) (rCons (rV rfl) rNil))) rfl
    rw [exch_run] at cl
    cases q : goE w ex 0 with
    | some j =>
      rw [q] at cl
      have e : lineR w (.move ex) = .inl j := by
        unfold lineR
        simp only [q]
      rw [e]
      exact sSeq_at b1 (sSeq_exc (sIf_f t1 (sDrop_exc cl)))
    | none =>
      rw [q] at cl
      have e : lineR w (.move ex) = .inr w := by
        unfold lineR
        simp only [q]
      rw [e]
      exact sSeq_at b1 (sSeq_at (sIf_f t1 (sDrop_at cl)) (ap w))
theorem ck_loop {r : Nat} {o0 : Option W} : ∀ (ls : List Line) (i : Nat) (ws : List Int) (w : Int) (e2 e3 e4 : Option W) (st : Store), (∀ l ∈ ls, Wk l) → lcell st r = some ((ws ++ [w]).map W.int) → ws.length + ls.length ≤ 900 →
    ∃ e2' e3' e4' st', (match goC ls i (ws ++ [w]) w with
      | .inl (n, j) => forGo (fun _ => True) (gTu (gsCons (gN 2) (gsCons (gN 3) gsNil))) ckBody (enW i (ls.map lW)) [o0, some (.cell r), e2, e3, e4] st = .exc (wrong (n : Int) j) st'
      | .inr ws' => forGo (fun _ => True) (gTu (gsCons (gN 2) (gsCons (gN 3) gsNil))) ckBody (enW i (ls.map lW)) [o0, some (.cell r), e2, e3, e4] st = .nx [o0, some (.cell r), e2', e3', e4'] st' ∧ lcell st' r = some (ws'.map W.int))
  | [], i, ws, w, e2, e3, e4, st, hl, hr, hz => ⟨e2, e3, e4, st, forGo_nil True.intro, hr⟩
  | l :: ls, i, ws, w, e2, e3, e4, st, hl, hr, hz => by
    rw [List.length_cons] at hz
    have k := ck_turn (i := i) (o0 := o0) (e4 := e4) (hl l List.mem_cons_self) hr (by omega)
    have g1 : (gTu (gsCons (gN 2) (gsCons (gN 3) gsNil))) (.tup [.int (i : Int), lW l]) [o0, some (.cell r), e2, e3, e4] st = .ok [o0, some (.cell r), some (.int (i : Int)), some (lW l), e4] st := rfl
    rw [List.map_cons, enW, goC]
    cases q : lineR w l with
    | inl j =>
      rw [q] at k
      exact ⟨none, none, none, st, forGo_exc True.intro g1 k⟩
    | inr w' =>
      rw [q] at k
      obtain ⟨f2, f3, f4, st', ih⟩ := ck_loop ls (i + 1) (ws ++ [w]) w' (some (.int (i : Int))) (some (lW l)) (some (.int w')) _ (fun x hx => hl x (List.mem_cons_of_mem _ hx)) (lcell_set (lcell_lt hr)) (by rw [List.length_append, List.length_singleton]; omega)
      refine ⟨f2, f3, f4, st', ?_⟩
      rw [forGo_nx True.intro g1 k]
      exact ih
theorem check_run {ls : List Line} (hok : ∀ l ∈ ls, Wk l) (hz : ls.length ≤ 900) (st : Store) : ∃ st', m_check_chart [.lst (ls.map lW)] st =
    (match goC ls 0 [0] 0 with
    | .inl (n, j) => .exc (wrong (n : Int) j) st'
    | .inr ws => .ok (.lst (ws.map W.int)) st') := by
  have l1 : (1 : Nat) ≤ sizeLine := line_ge (by decide)
  obtain ⟨e2, e3, e4, st', h⟩ := ck_loop (r := st.length) (o0 := some (.lst (ls.map lW))) ls 0 [] 0 none none none (st ++ [.lst [.int 0]]) hok lcell_new (by simp; omega)
  rw [List.nil_append] at h
  have fr : ∀ o, forGo (fun _ => True) (gTu (gsCons (gN 2) (gsCons (gN 3) gsNil))) ckBody (enW 0 (ls.map lW)) [some (.lst (ls.map lW)), some (.cell st.length), none, none, none] (st ++ [.lst [.int 0]]) = o →
      sFor (iEn (dCons (dVar 0) dNil)) (gTu (gsCons (gN 2) (gsCons (gN 3) gsNil))) ckBody [some (.lst (ls.map lW)), some (.cell st.length), none, none, none] (st ++ [.lst [.int 0]]) = o := by
    intro o k
    unfold sFor iEn
    simp only [dCons, dVar_zero, dNil_at, Out.bind_ok, Out.bindS_ok]
    exact k
  have b1 : sSet 1 (dCell (dLst (dCons (dC (.int 0)) dNil))) [some (.lst (ls.map lW)), none, none, none, none] st = .nx [some (.lst (ls.map lW)), some (.cell st.length), none, none, none] (st ++ [.lst [.int 0]]) := sSet_at (rCell (rLst (rCons rC rNil) l1))
  cases q : goC ls 0 [0] 0 with
  | inl p =>
    obtain ⟨n, j⟩ := p
    rw [q] at h
    exact ⟨st', body_exc rfl (sSeq_at b1 (sSeq_exc (fr _ h)))⟩
  | inr ws =>
    rw [q] at h
    exact ⟨st'.set st.length .dead, body_rt rfl (sSeq_at b1 (sSeq_at (fr _ h.1) (sRet_at (rFz (rV rfl) h.2))))⟩
end K01


set_option maxRecDepth 100000
set_option maxHeartbeats 4000000
namespace K01
open PySem L2 Evl Sh
theorem badE_eq (w : Int) (e : Int × Str) : (decide (e.1 < 0) || decide (w ≤ e.1 + 1)) = badE w e := by
  unfold badE
  by_cases h1 : e.1 < 0
  · rw [decide_eq_true h1, decide_eq_false (show ¬ 0 ≤ e.1 by omega)]
    rfl
  · rw [decide_eq_false h1, decide_eq_true (show 0 ≤ e.1 by omega)]
    by_cases h2 : w ≤ e.1 + 1
    · rw [decide_eq_true h2, decide_eq_false (show ¬ e.1 < w - 1 by omega)]
      rfl
    · rw [decide_eq_false h2, decide_eq_true (show e.1 < w - 1 by omega)]
      rfl
noncomputable abbrev deBody : S :=
  (sSeq (sSet 4 (dOp oIx (dOp oIx (dOp oIx (dOp oIx (dVar 0) (dVar 2)) (dC (.int 1))) (dVar 3)) (dC (.int 0))))
  (sIf (dOr (dB (dLt (dVar 4) (dC (.int 0)))) (dB (dGe (dAdd (dVar 4) (dC (.int 1))) (dOp oIx (dVar 1) (dVar 2)))))
  (sRet (dTup (dCons (dVar 2) (dCons (dVar 3) dNil))))
  sNil))
noncomputable abbrev duBody : S :=
  (sIf (dB (dEq (dOp oIx (dOp oIx (dVar 0) (dVar 2)) (dC (.int 0))) (dC (.str "move"))))
  (sSeq (sFor (iR1 (dCons (dCallB cLen (dCons (dOp oIx (dOp oIx (dVar 0) (dVar 2)) (dC (.int 1))) dNil)) dNil)) (gN 3)
  deBody)
  (sDrop (dBM tyL mAppend (dVar 1) (dCons (dOp oIx (dVar 1) (dVar 2)) dNil))))
  (sSeq (sAsg (gTu (gsCons (gN 5) (gsCons (gN 6) gsNil))) (dCall m_work (dCons (dOp oIx (dOp oIx (dVar 0) (dVar 2)) (dC (.int 2))) (dCons (dOp oIx (dVar 1) (dVar 2)) dNil))))
  (sSeq (sIf (dB (dGe (dVar 5) (dC (.int 0))))
  (sRet (dTup (dCons (dVar 2) (dCons (dVar 5) dNil))))
  sNil)
  (sDrop (dBM tyL mAppend (dVar 1) (dCons (dVar 6) dNil))))))
section
variable {r n : Nat} {ch : W} {st : Store} {w : Int} {e5 e6 : Option W}
theorem de_loop {exa : List (Int × Str)} (hch : oIx ch (.int (n : Int)) st = .ok (lW (.move exa)) st) (hw : oIx (.cell r) (.int (n : Int)) st = .ok (.int w) st) : ∀ (rest done : List (Int × Str)) (e3 e4 : Option W), done ++ rest = exa →
    ∃ e3' e4', forGo (fun _ => True) (gN 3) deBody (rngW (done.length : Int) rest.length) [some ch, some (.cell r), some (.int (n : Int)), e3, e4, e5, e6] st =
      (match goE w rest done.length with
      | some j => .rt (.tup [.int (n : Int), .int (j : Int)]) st
      | none => .nx [some ch, some (.cell r), some (.int (n : Int)), e3', e4', e5, e6] st)
  | [], done, e3, e4, h => ⟨e3, e4, forGo_nil True.intro⟩
  | e :: rest, done, e3, e4, h => by
    have l2 : (2 : Nat) ≤ sizeLine := line_ge (by decide)
    have ie : oIx (.lst (exa.map eW)) (.int (done.length : Int)) st = .ok (eW e) st := by
      rw [← h]
      exact ix_at rfl (by omega) (by simp)
    have b1 : sSet 4 (dOp oIx (dOp oIx (dOp oIx (dOp oIx (dVar 0) (dVar 2)) (dC (.int 1))) (dVar 3)) (dC (.int 0))) [some ch, some (.cell r), some (.int (n : Int)), some (.int (done.length : Int)), e4, e5, e6] st =
        .nx [some ch, some (.cell r), some (.int (n : Int)), some (.int (done.length : Int)), some (.int e.1), e5, e6] st :=
      sSet_at (rOp (rOp (x := .lst (exa.map eW)) (rOp (rOp (rV rfl) (rV rfl) hch) rC (ix_at rfl (by decide) rfl)) (rV rfl) ie) rC (ix_at rfl (by decide) rfl))
    have t1 : dOr (dB (dLt (dVar 4) (dC (.int 0)))) (dB (dGe (dAdd (dVar 4) (dC (.int 1))) (dOp oIx (dVar 1) (dVar 2)))) [some ch, some (.cell r), some (.int (n : Int)), some (.int (done.length : Int)), some (.int e.1), e5, e6] st = .ok (badE w e) st := by
      rw [← badE_eq]
      exact pOr (rB (rOp (x := .int e.1) (y := .int 0) (rV rfl) rC rfl)) (rB (rOp (x := .int (e.1 + 1)) (y := .int w) (rOp (rV rfl) rC rfl) (rOp (rV rfl) (rV rfl) hw) rfl))
    rw [List.length_cons, rngW_succ, goE]
    cases q : badE w e with
    | true =>
      refine ⟨none, none, ?_⟩
      rw [if_pos rfl]
      exact forGo_rt (env1 := [some ch, some (.cell r), some (.int (n : Int)), some (.int (done.length : Int)), e4, e5, e6]) (st1 := st) True.intro rfl (sSeq_at b1 (sIf_t (t1.trans (by rw [q])) (sRet_at (rTup (rCons (rV rfl) (rCons (rV rfl) rNil)) l2))))
    | false =>
      obtain ⟨f3, f4, ih⟩ := de_loop hch hw rest (done ++ [e]) (some (.int (done.length : Int))) (some (.int e.1)) (by rw [← h]; simp)
      refine ⟨f3, f4, ?_⟩
      rw [if_neg (by simp), forGo_nx (env1 := [some ch, some (.cell r), some (.int (n : Int)), some (.int (done.length : Int)), e4, e5, e6]) (st1 := st) True.intro rfl (sSeq_at b1 (sIf_f (t1.trans (by rw [q])) sNil_at))]
      have e2 : (done.length : Int) + 1 = ((done ++ [e]).length : Int) := by simp
      have e3 : done.length + 1 = (done ++ [e]).length := by simp
      rw [e2, e3]
      exact ih
theorem du_turn {e3 e4 : Option W} {ws : List Int} {l : Line} (hl : Wk l) (hch : ∀ st, oIx ch (.int (n : Int)) st = .ok (lW l) st) (hr : lcell st r = some ((ws ++ [w]).map W.int)) (hn : ws.length = n) (hz : ws.length ≤ 900) :
    ∃ e3' e4' e5' e6', (match lineR w l with
    | .inl j => duBody [some ch, some (.cell r), some (.int (n : Int)), e3, e4, e5, e6] st = .rt (.tup [.int (n : Int), .int (j : Int)]) st
    | .inr w' => duBody [some ch, some (.cell r), some (.int (n : Int)), e3, e4, e5, e6] st = .nx [some ch, some (.cell r), some (.int (n : Int)), e3', e4', e5', e6'] (st.set r (.lst ((ws ++ [w] ++ [w']).map W.int)))) := by
  have l2 : (2 : Nat) ≤ sizeLine := line_ge (by decide)
  have hw : oIx (.cell r) (.int (n : Int)) st = .ok (.int w) st := by
    refine ix_at (w := .cell r) hr (by omega) ?_
    rw [Int.toNat_natCast, ← hn]
    simp
  have lz : ((ws ++ [w]).map W.int).length ≤ 1023 := by rw [List.length_map, List.length_append, List.length_singleton]; omega
  have ap : ∀ (w' : Int) (env : Sh.Env) (d : Sh.Env → M W), env[1]? = some (some (.cell r)) → d env st = .ok (.int w') st → sDrop (dBM tyL mAppend (dVar 1) (dCons d dNil)) env st = .nx env (st.set r (.lst ((ws ++ [w] ++ [w']).map W.int))) := by
    intro w' env d h1 h2
    rw [List.map_append (l₁ := ws ++ [w])]
    exact app_run h1 h2 hr hr lz
  cases l with
  | move ex =>
    have t1 : dB (dEq (dOp oIx (dOp oIx (dVar 0) (dVar 2)) (dC (.int 0))) (dC (.str "move"))) [some ch, some (.cell r), some (.int (n : Int)), e3, e4, e5, e6] st = .ok true st := rB (rOp (rOp (rOp (rV rfl) (rV rfl) (hch st)) rC (ix_at rfl (by decide) rfl)) rC (by rw [oEq_str, decide_eq_true rfl]))
    obtain ⟨f3, f4, h⟩ := de_loop (r := r) (st := st) (e5 := e5) (e6 := e6) (hch st) hw ex [] e3 e4 rfl
    have ln : cLen [.lst (ex.map eW)] st = .ok (.int (ex.length : Int)) st := by rw [cLen_at (w := .lst (ex.map eW)) rfl, List.length_map]
    have hx : ex.length ≤ 60 := hl.2
    have fr : ∀ o, forGo (fun _ => True) (gN 3) deBody (rngW 0 ex.length) [some ch, some (.cell r), some (.int (n : Int)), e3, e4, e5, e6] st = o →
        sFor (iR1 (dCons (dCallB cLen (dCons (dOp oIx (dOp oIx (dVar 0) (dVar 2)) (dC (.int 1))) dNil)) dNil)) (gN 3) deBody [some ch, some (.cell r), some (.int (n : Int)), e3, e4, e5, e6] st = o :=
      fun o k => rFor (rR1 (n := ex.length) (rCons (rCallB (rCons (rOp (rOp (rV rfl) (rV rfl) (hch st)) rC (ix_at rfl (by decide) rfl)) rNil) ln) rNil) (sm_nat (by omega))) k
    cases q : goE w ex 0 with
    | some j =>
      have e : lineR w (.move ex) = .inl j := by
        unfold lineR
        simp only [q]
      rw [show ([] : List (Int × Str)).length = 0 from rfl, q] at h
      rw [e]
      exact ⟨none, none, none, none, sIf_t t1 (sSeq_rt (fr _ h))⟩
    | none =>
      have e : lineR w (.move ex) = .inr w := by
        unfold lineR
        simp only [q]
      rw [show ([] : List (Int × Str)).length = 0 from rfl, q] at h
      rw [e]
      exact ⟨f3, f4, e5, e6, sIf_t t1 (sSeq_at (fr _ h) (ap w _ _ rfl (rOp (rV rfl) (rV rfl) hw)))⟩
  | work d cs =>
    have t1 : dB (dEq (dOp oIx (dOp oIx (dVar 0) (dVar 2)) (dC (.int 0))) (dC (.str "move"))) [some ch, some (.cell r), some (.int (n : Int)), e3, e4, e5, e6] st = .ok false st := rB (rOp (rOp (rOp (rV rfl) (rV rfl) (hch st)) rC (ix_at rfl (by decide) rfl)) rC (by rw [oEq_str, show decide (("work" : Str) = "move") = false by decide +kernel]))
    have cl : ∀ {v : W}, m_work [.lst (cs.map cW), .int w] st = .ok v st → dCall m_work (dCons (dOp oIx (dOp oIx (dVar 0) (dVar 2)) (dC (.int 2))) (dCons (dOp oIx (dVar 1) (dVar 2)) dNil)) [some ch, some (.cell r), some (.int (n : Int)), e3, e4, e5, e6] st = .ok v st :=
      fun h => rCall (rCons (rOp (rOp (rV rfl) (rV rfl) (hch st)) rC (ix_at rfl (by decide) rfl)) (rCons (rOp (rV rfl) (rV rfl) hw) rNil)) h
    have wr := work_run hl.2.1 (by have := hl.2.2; omega) w st
    have as : ∀ (i a : Int), m_work [.lst (cs.map cW), .int w] st = .ok (.tup [.int i, .int a]) st → sAsg (gTu (gsCons (gN 5) (gsCons (gN 6) gsNil))) (dCall m_work (dCons (dOp oIx (dOp oIx (dVar 0) (dVar 2)) (dC (.int 2))) (dCons (dOp oIx (dVar 1) (dVar 2)) dNil))) [some ch, some (.cell r), some (.int (n : Int)), e3, e4, e5, e6] st =
        .nx [some ch, some (.cell r), some (.int (n : Int)), e3, e4, some (.int i), some (.int a)] st := fun i a h => sAsg_at (cl h) rfl
    have t2 : ∀ (i a : Int), dB (dGe (dVar 5) (dC (.int 0))) [some ch, some (.cell r), some (.int (n : Int)), e3, e4, some (.int i), some (.int a)] st = .ok (decide (0 ≤ i)) st := fun i a => rB (rOp (x := .int i) (y := .int 0) (rV rfl) rC rfl)
    have bad : ∀ j : Nat, m_work [.lst (cs.map cW), .int w] st = .ok (.tup [.int (j : Int), .int 0]) st → duBody [some ch, some (.cell r), some (.int (n : Int)), e3, e4, e5, e6] st = .rt (.tup [.int (n : Int), .int (j : Int)]) st :=
      fun j h => sIf_f t1 (sSeq_at (as _ _ h) (sSeq_rt (sIf_t ((t2 _ _).trans (by rw [decide_eq_true (show (0 : Int) ≤ (j : Int) by omega)])) (sRet_at (rTup (rCons (rV rfl) (rCons (rV rfl) rNil)) l2)))))
    cases q : goL w cs 0 0 0 with
    | inl j =>
      rw [q] at wr
      have e : lineR w (.work d cs) = .inl j := by
        unfold lineR
        simp only [q]
      rw [e]
      exact ⟨none, none, none, none, bad j wr⟩
    | inr p =>
      obtain ⟨t, a⟩ := p
      rw [q] at wr
      simp only [] at wr
      by_cases z : t < w
      · rw [if_pos z] at wr
        have e : lineR w (.work d cs) = .inl cs.length := by
          unfold lineR
          simp only [q, if_pos z]
        rw [e]
        exact ⟨none, none, none, none, bad cs.length wr⟩
      · rw [if_neg z] at wr
        have e : lineR w (.work d cs) = .inr a := by
          unfold lineR
          simp only [q, if_neg z]
        rw [e]
        exact ⟨e3, e4, some (.int (-1)), some (.int a), sIf_f t1 (sSeq_at (as _ _ wr) (sSeq_at (sIf_f ((t2 _ _).trans (by rw [decide_eq_false (show ¬ (0 : Int) ≤ -1 by decide)])) sNil_at) (ap a _ _ rfl (rV rfl))))⟩
end
end K01


set_option maxRecDepth 100000
set_option maxHeartbeats 4000000
namespace K01
open PySem L2 Evl Sh
def dueW : Sum (Nat × Nat) (List Int) → W
  | .inl (n, j) => .tup [.int (n : Int), .int (j : Int)]
  | .inr ws => .tup [.str "counts", .lst (ws.map W.int)]
theorem du_loop {r : Nat} {all : List Line} : ∀ (rest done : List Line) (ws : List Int) (w : Int) (e2 e3 e4 e5 e6 : Option W) (st : Store), done ++ rest = all → (∀ l ∈ rest, Wk l) → lcell st r = some ((ws ++ [w]).map W.int) → ws.length = done.length → ws.length + rest.length ≤ 900 →
    ∃ e2' e3' e4' e5' e6' st', (match goC rest done.length (ws ++ [w]) w with
      | .inl (n, j) => forGo (fun _ => True) (gN 2) duBody (rngW (done.length : Int) rest.length) [some (.lst (all.map lW)), some (.cell r), e2, e3, e4, e5, e6] st = .rt (.tup [.int (n : Int), .int (j : Int)]) st'
      | .inr ws' => forGo (fun _ => True) (gN 2) duBody (rngW (done.length : Int) rest.length) [some (.lst (all.map lW)), some (.cell r), e2, e3, e4, e5, e6] st = .nx [some (.lst (all.map lW)), some (.cell r), e2', e3', e4', e5', e6'] st' ∧ lcell st' r = some (ws'.map W.int))
  | [], done, ws, w, e2, e3, e4, e5, e6, st, ha, hl, hr, hn, hz => ⟨e2, e3, e4, e5, e6, st, forGo_nil True.intro, hr⟩
  | l :: rest, done, ws, w, e2, e3, e4, e5, e6, st, ha, hl, hr, hn, hz => by
    rw [List.length_cons] at hz
    have hch : ∀ st, oIx (.lst (all.map lW)) (.int (done.length : Int)) st = .ok (lW l) st := by
      intro st
      rw [← ha]
      exact ix_at rfl (by omega) (by simp)
    obtain ⟨f3, f4, f5, f6, k⟩ := du_turn (e3 := e3) (e4 := e4) (e5 := e5) (e6 := e6) (hl l List.mem_cons_self) hch hr hn (by omega)
    rw [List.length_cons, rngW_succ, goC]
    cases q : lineR w l with
    | inl j =>
      rw [q] at k
      exact ⟨none, none, none, none, none, st, forGo_rt (env1 := [some (.lst (all.map lW)), some (.cell r), some (.int (done.length : Int)), e3, e4, e5, e6]) (st1 := st) True.intro rfl k⟩
    | inr w' =>
      rw [q] at k
      obtain ⟨g2, g3, g4, g5, g6, st', ih⟩ := du_loop (all := all) rest (done ++ [l]) (ws ++ [w]) w' (some (.int (done.length : Int))) f3 f4 f5 f6 _ (by rw [← ha]; simp) (fun x hx => hl x (List.mem_cons_of_mem _ hx)) (lcell_set (lcell_lt hr)) (by simp [hn]) (by rw [List.length_append, List.length_singleton]; omega)
      refine ⟨g2, g3, g4, g5, g6, st', ?_⟩
      rw [forGo_nx (env1 := [some (.lst (all.map lW)), some (.cell r), some (.int (done.length : Int)), e3, e4, e5, e6]) (st1 := st) True.intro rfl k]
      have e2 : (done.length : Int) + 1 = ((done ++ [l]).length : Int) := by simp
      have e3 : done.length + 1 = (done ++ [l]).length := by simp
      rw [e2, e3]
      exact ih
theorem due_run {ls : List Line} (hok : ∀ l ∈ ls, Wk l) (hz : ls.length ≤ 900) (st : Store) : ∃ st', m_due [.lst (ls.map lW)] st = .ok (dueW (goC ls 0 [0] 0)) st' := by
  have l1 : (1 : Nat) ≤ sizeLine := line_ge (by decide)
  have l2 : (2 : Nat) ≤ sizeLine := line_ge (by decide)
  obtain ⟨e2, e3, e4, e5, e6, st', h⟩ := du_loop (r := st.length) (all := ls) ls [] [] 0 none none none none none (st ++ [.lst [.int 0]]) rfl hok lcell_new rfl (by simp; omega)
  rw [List.nil_append, show ([] : List Line).length = 0 from rfl] at h
  have ln : ∀ st, cLen [.lst (ls.map lW)] st = .ok (.int (ls.length : Int)) st := fun st => by rw [cLen_at (w := .lst (ls.map lW)) rfl, List.length_map]
  have fr : ∀ o, forGo (fun _ => True) (gN 2) duBody (rngW 0 ls.length) [some (.lst (ls.map lW)), some (.cell st.length), none, none, none, none, none] (st ++ [.lst [.int 0]]) = o →
      sFor (iR1 (dCons (dCallB cLen (dCons (dVar 0) dNil)) dNil)) (gN 2) duBody [some (.lst (ls.map lW)), some (.cell st.length), none, none, none, none, none] (st ++ [.lst [.int 0]]) = o :=
    fun o k => rFor (rR1 (n := ls.length) (rCons (rCallB (rCons (rV rfl) rNil) (ln _)) rNil) (sm_nat (by omega))) k
  have b1 : sSet 1 (dCell (dLst (dCons (dC (.int 0)) dNil))) [some (.lst (ls.map lW)), none, none, none, none, none, none] st = .nx [some (.lst (ls.map lW)), some (.cell st.length), none, none, none, none, none] (st ++ [.lst [.int 0]]) := sSet_at (rCell (rLst (rCons rC rNil) l1))
  cases q : goC ls 0 [0] 0 with
  | inl p =>
    obtain ⟨n, j⟩ := p
    rw [q] at h
    exact ⟨st', body_rt rfl (sSeq_at b1 (sSeq_rt (fr _ h)))⟩
  | inr ws =>
    rw [q] at h
    exact ⟨st'.set st.length .dead, body_rt rfl (sSeq_at b1 (sSeq_at (fr _ h.1) (sRet_at (rTup (rCons rC (rCons (rFz (rV rfl) h.2) rNil)) l2))))⟩
/-- the except suite -/
noncomputable abbrev toSuite (a dd : Addr) : S :=
  (sSeq (sIf (dOr (dNot (dB (dXi a dd true (dVar 1)))) (dNot (dB (dXi a dd true (dVar 1)))))
  (sRet (dC .non))
  sNil)
  (sRet (dTup (dCons (dXf a dd "line" (dVar 1)) (dCons (dXf a dd "item" (dVar 1)) dNil)))))
theorem rXf {a dd : Addr} {f : Str} {ns : List Str} {ws : List W} {u : W} {d : Sh.Env → M W} {env : Sh.Env} {st : Store} (h : d env st = .ok (.exn a dd ns ws) st) (l : List.lookup f (ns.zip ws) = some u) : dXf a dd f d env st = .ok u st := by
  unfold dXf
  rw [h, Out.bind_ok]
  simp only [and_self, if_true, l]
theorem rXi {a dd : Addr} {b : Bool} {ns : List Str} {ws : List W} {d : Sh.Env → M W} {env : Sh.Env} {st : Store} (h : d env st = .ok (.exn a dd ns ws) st) : dXi a dd b d env st = .ok (.bl b) st := by
  unfold dXi
  rw [h, Out.bind_ok]
  simp only [and_self, if_true]
theorem suite_run (a dd : Addr) (o0 : Option W) (n j : Int) (st : Store) : toSuite a dd [o0, some (.exn a dd ["item", "line"] [.int j, .int n])] st = .rt (.tup [.int n, .int j]) st := by
  have l2 : (2 : Nat) ≤ sizeLine := line_ge (by decide)
  have t1 : dOr (dNot (dB (dXi a dd true (dVar 1)))) (dNot (dB (dXi a dd true (dVar 1)))) [o0, some (.exn a dd ["item", "line"] [.int j, .int n])] st = .ok (false || false) st := pOr (rNot (rB (rXi (rV rfl)))) (rNot (rB (rXi (rV rfl))))
  have f1 : List.lookup ("line" : Str) ((["item", "line"] : List Str).zip [W.int j, W.int n]) = some (.int n) := by
    simp only [List.zip_cons_cons, List.zip_nil_right, List.lookup_cons]
    rw [show (("line" : Str) == ("item" : Str)) = false by decide +kernel, show (("line" : Str) == ("line" : Str)) = true by decide +kernel]
  have f2 : List.lookup ("item" : Str) ((["item", "line"] : List Str).zip [W.int j, W.int n]) = some (.int j) := by
    simp only [List.zip_cons_cons, List.zip_nil_right, List.lookup_cons]
    rw [show (("item" : Str) == ("item" : Str)) = true by decide +kernel]
  exact sSeq_at (sIf_f t1 sNil_at) (sRet_at (rTup (rCons (rXf (rV rfl) f1) (rCons (rXf (rV rfl) f2) rNil)) l2))
section
variable {env : Sh.Env} {st st1 st2 : Store} {x : Exn} {w : W} {d : Sh.Env → M W} {ds : Sh.Env → M (List W)}
theorem rCons_exc (h : d env st = .exc x st1) : dCons d ds env st = .exc x st1 := by
  unfold dCons
  rw [h, Out.bind_exc]
theorem rCons_exc2 (h : d env st = .ok w st1) (k : ds env st1 = .exc x st2) : dCons d ds env st = .exc x st2 := by
  unfold dCons
  rw [h, Out.bind_ok, k, Out.bind_exc]
theorem rTup_exc (h : ds env st = .exc x st1) : dTup ds env st = .exc x st1 := by
  unfold dTup
  rw [h, Out.bind_exc]
theorem tryR_ok {c : Str} {i : Nat} {suite : Addr → Addr → S} (h : d env st = .ok w st1) : sTryR c i d suite env st = .rt w st1 := by
  unfold sTryR
  rw [h]
theorem tryR_exc {c : Str} {i : Nat} {suite : Addr → Addr → S} {o : SOut} (h : d env st = .exc x st1) (hx : x.cls = c) (s : ∀ a dd, resetS i (suite a dd (env.set i (some (.exn a dd (x.fs.map (·.1)) (x.fs.map (·.2))))) st1) = o) : sTryR c i d suite env st = o := by
  unfold sTryR
  rw [h]
  exact (if_pos ⟨hx, fun a dd => (s a dd).trans (s 0 0).symm⟩).trans (s 0 0)
end
theorem told_run {ls : List Line} (hok : ∀ l ∈ ls, Wk l) (hz : ls.length ≤ 900) (st : Store) : ∃ st', m_told [.lst (ls.map lW)] st = .ok (dueW (goC ls 0 [0] 0)) st' := by
  have l2 : (2 : Nat) ≤ sizeLine := line_ge (by decide)
  obtain ⟨st', h⟩ := check_run hok hz st
  cases q : goC ls 0 [0] 0 with
  | inr ws =>
    rw [q] at h
    refine ⟨st', body_rt rfl ?_⟩
    have d : dTup (dCons (dC (.str "counts")) (dCons (dCallB m_check_chart (dCons (dVar 0) dNil)) dNil)) [some (.lst (ls.map lW)), none] st = .ok (.tup [.str "counts", .lst (ws.map W.int)]) st' :=
      rTup (rCons rC (rCons (rCallB (rCons (rV rfl) rNil) h) rNil)) l2
    exact tryR_ok d
  | inl p =>
    obtain ⟨n, j⟩ := p
    rw [q] at h
    refine ⟨st', body_rt rfl ?_⟩
    have d : dTup (dCons (dC (.str "counts")) (dCons (dCallB m_check_chart (dCons (dVar 0) dNil)) dNil)) [some (.lst (ls.map lW)), none] st = .exc (wrong (n : Int) j) st' := by
      have c : dCallB m_check_chart (dCons (dVar 0) dNil) [some (.lst (ls.map lW)), none] st = .exc (wrong (n : Int) j) st' := rCallB (rCons (rV rfl) rNil) h
      exact rTup_exc (rCons_exc2 rC (rCons_exc c))
    refine tryR_exc (o := .rt (.tup [.int (n : Int), .int (j : Int)]) st') d rfl fun a dd => ?_
    have s := suite_run a dd (some (.lst (ls.map lW))) (n : Int) (j : Int) st'
    exact congrArg (resetS 1) s
end K01


set_option maxRecDepth 100000
set_option maxHeartbeats 4000000
namespace K01
open PySem L2 Evl Sh
theorem cut_to {xs : List W} {k : Nat} (h : k ≤ xs.length) : cutW xs none (some (k : Int)) = xs.take k := by
  have z : ¬ (k : Int) < 0 := by omega
  have e : HT.sIx xs.length xs.length (some (k : Int)) = k := by
    simp only [HT.sIx, if_neg z, Int.toNat_natCast, Nat.min_eq_left h]
  unfold cutW
  rw [e]
  rfl
theorem cut_from {xs : List W} {k : Nat} : cutW xs (some (k : Int)) none = xs.drop k := by
  have z : ¬ (k : Int) < 0 := by omega
  have e : HT.sIx xs.length 0 (some (k : Int)) = min k xs.length := by
    simp only [HT.sIx, if_neg z, Int.toNat_natCast]
  unfold cutW
  rw [e]
  show (xs.drop (min k xs.length)).take (xs.length - min k xs.length) = xs.drop k
  by_cases h : k ≤ xs.length
  · rw [Nat.min_eq_left h, ← List.length_drop, List.take_length]
  · rw [Nat.min_eq_right (by omega), List.drop_eq_nil_of_le (Nat.le_refl _), List.drop_eq_nil_of_le (by omega)]
    exact List.take_nil
section
variable {ns : List Int} {s : Nat} {st : Store}
theorem pick_lr {env : Sh.Env} {a b : Str} (h0 : env[0]? = some (some (.cell s))) (h : StOk ns st s) : ∃ (o : Str) (st' : Store), dOp oIx (dPure (dLst (dCons (dC (.str a)) (dCons (dC (.str b)) dNil)))) (dCall m_take (dCons (dVar 0) (dCons (dC (.int 2)) dNil))) env st = .ok (.str o) st' ∧ (o = a ∨ o = b) ∧ StOk ns st' s ∧ Fr s st st' := by
  obtain ⟨w, st', a1, a2, a3, a4⟩ := pick_run (env := env) (dl := dCons (dC (.str a)) (dCons (dC (.str b)) dNil)) (xs := [.str a, .str b]) (e := dC (.int 2)) h0 (rCons rC (rCons rC rNil)) rC h (by show 0 < 2; decide) (by show 2 ≤ 1000; decide)
  simp only [List.mem_cons, List.not_mem_nil, or_false] at a1
  rcases a1 with rfl | rfl
  · exact ⟨a, st', a2, .inl rfl, a3, a4⟩
  · exact ⟨b, st', a2, .inr rfl, a3, a4⟩
theorem odd_run (ok : StOk ns st s) : ∃ (c : Cmd) (st' : Store), m_odd_join [.cell s] st = .ok (cW c) st' ∧ c.ok ∧ StOk ns st' s ∧ Fr s st st' := by
  obtain ⟨u, st1, a1, a2, a3, a4, a5⟩ := tk_run (env := [some (.cell s), none, none]) (e := dC (.int 16)) rfl rC ok (by decide) (by decide)
  obtain ⟨v, st2, b1, b2, b3, b4, b5⟩ := tk_run (env := [some (.cell s), none, none]) (e := dC (.int 40)) rfl rC a4 (by decide) (by decide)
  obtain ⟨k, st3, c1, c2, c3, c4, c5⟩ := tk_run (env := [some (.cell s), none, none]) (e := dC (.int 6)) rfl rC b4 (by decide) (by decide)
  obtain ⟨n, hn, hb⟩ : ∃ n : Int, ([W.int 0, .int 1, .int 5, .int (-1), .int (u - 3), .int (v - 9)] : List W)[k.toNat]? = some (.int n) ∧ (-1000 ≤ n ∧ n ≤ 1000) := by
    have : k.toNat = 0 ∨ k.toNat = 1 ∨ k.toNat = 2 ∨ k.toNat = 3 ∨ k.toNat = 4 ∨ k.toNat = 5 := by omega
    rcases this with h | h | h | h | h | h <;> rw [h]
    · exact ⟨_, rfl, by omega⟩
    · exact ⟨_, rfl, by omega⟩
    · exact ⟨_, rfl, by omega⟩
    · exact ⟨_, rfl, by omega⟩
    · exact ⟨_, rfl, by omega⟩
    · exact ⟨_, rfl, by omega⟩
  have l6 : (6 : Nat) ≤ sizeLine := line_ge (by decide)
  have l5 : (5 : Nat) ≤ sizeLine := line_ge (by decide)
  obtain ⟨lean, st4, d1, d2, d3, d4⟩ := pick_lr (env := [some (.cell s), some (.int n), none]) (a := "left") (b := "right") rfl c4
  obtain ⟨side, st5, e1, e2, e3, e4⟩ := pick_lr (env := [some (.cell s), some (.int n), some (.str lean)]) (a := "knit") (b := "purl") rfl d3
  obtain ⟨y, st6, f1, f2, f3, f4⟩ := yarn_run e3
  refine ⟨.join n lean side y, st6, body_rt rfl ?_, ⟨hb, d2, e2, f2⟩, f3, (((a5.trans b5).trans c5).trans d4).trans (e4.trans f4)⟩
  refine sSeq_at (sSet_at (w := .int n) (st1 := st3) (rOp (x := .lst [.int 0, .int 1, .int 5, .int (-1), .int (u - 3), .int (v - 9)]) (rPure (rLst (rCons rC (rCons rC (rCons rC (rCons rfl (rCons (rOp a1 rC rfl) (rCons (rOp b1 rC rfl) rNil)))))) l6)) c1 (ix_at rfl c2 hn))) ?_
  refine sSeq_at (sSet_at d1) ?_
  exact sRet_at (rTup (rCons rC (rCons (rV rfl) (rCons (rV rfl) (rCons e1 (rCons (rCall (rCons (rV rfl) rNil) f1) rNil))))) l5)
/-- a list cut at a place, with something put in -/
theorem put_run {env : Sh.Env} {dx dk dk2 dm : Sh.Env → M W} {xs : List W} {w : W} {k k2 : Nat} {st1 : Store} (hx : dx env st = .ok (.lst xs) st) (hk : dk env st = .ok (.int (k : Int)) st) (hm : dm env st = .ok w st1) (hx1 : dx env st1 = .ok (.lst xs) st1) (hk2 : dk2 env st1 = .ok (.int (k2 : Int)) st1) (h1 : k ≤ xs.length) (hz : xs.length ≤ 500) :
    dPure (dOpF oCat (dPure (dOpF oCat (dPure (dSl dx oNone (oSome dk))) (dPure (dLst (dCons dm dNil))))) (dPure (dSl dx (oSome dk2) oNone))) env st = .ok (.lst (xs.take k ++ [w] ++ xs.drop k2)) st1 := by
  have l1 : (1 : Nat) ≤ sizeLine := line_ge (by decide)
  have c1 : dSl dx oNone (oSome dk) env st = .ok (xs.take k) st := by
    rw [← cut_to h1]
    exact rSl hx rfl (rSome hk) rfl
  have c2 : dSl dx (oSome dk2) oNone env st1 = .ok (xs.drop k2) st1 := by
    rw [← cut_from]
    exact rSl hx1 (rSome hk2) rfl rfl
  have t1 : (xs.take k).length ≤ 500 := by rw [List.length_take]; omega
  have t2 : (xs.drop k2).length ≤ 500 := by rw [List.length_drop]; omega
  exact rPure (rOpF (st1 := st1) (st2 := st1) (x := .lst (xs.take k ++ [w])) (y := .lst (xs.drop k2)) (rPure (rOpF (x := .lst (xs.take k)) (y := .lst [w]) (rPure c1) (rPure (rLst (rCons hm rNil) l1)) (oCat_at rfl rfl (by simp only [List.length_singleton]; omega)))) (rPure c2) (oCat_at rfl rfl (by simp only [List.length_append, List.length_singleton]; omega)))
end
end K01


set_option maxRecDepth 100000
set_option maxHeartbeats 4000000
namespace K01
open PySem L2 Evl Sh
noncomputable abbrev spCmd : S :=
  (sIf (dB (dEq (dVar 4) (dC (.int 0))))
  (sSet 8 (dPure (dOpF oCat (dPure (dSl (dVar 8) oNone (oSome (dVar 7)))) (dPure (dSl (dVar 8) (oSome (dAdd (dVar 7) (dC (.int 1)))) oNone)))))
  (sIf (dB (dEq (dVar 4) (dC (.int 1))))
  (sSet 8 (dPure (dOpF oCat (dPure (dOpF oCat (dPure (dSl (dVar 8) oNone (oSome (dVar 7)))) (dPure (dLst (dCons (dCall m_odd_join (dCons (dVar 0) dNil)) dNil))))) (dPure (dSl (dVar 8) (oSome (dAdd (dVar 7) (dC (.int 1)))) oNone)))))
  (sIf (dB (dEq (dVar 4) (dC (.int 2))))
  (sSet 8 (dPure (dOpF oCat (dPure (dOpF oCat (dPure (dSl (dVar 8) oNone (oSome (dVar 7)))) (dPure (dLst (dCons (dTup (dCons (dC (.str "purl")) (dCons (dC (.str "b")) dNil))) dNil))))) (dPure (dSl (dVar 8) (oSome (dVar 7)) oNone)))))
  (sSet 8 (dPure (dOpF oCat (dPure (dOpF oCat (dPure (dSl (dVar 8) oNone (oSome (dVar 7)))) (dPure (dLst (dCons (dTup (dCons (dC (.str "tuck")) (dCons (dC (.str "b")) dNil))) dNil))))) (dPure (dSl (dVar 8) (oSome (dVar 7)) oNone))))))))
noncomputable abbrev spLine : S :=
  (sIf (dB (dEq (dOp oIx (dVar 3) (dC (.int 0))) (dC (.str "move"))))
  (sSeq (sSet 5 (dOp oIx (dPure (dLst (dCons (dSub (dCall m_take (dCons (dVar 0) (dCons (dC (.int 11)) dNil))) (dC (.int 2))) (dCons (dSub (dCall m_take (dCons (dVar 0) (dCons (dC (.int 80)) dNil))) (dC (.int 9))) dNil)))) (dCall m_take (dCons (dVar 0) (dCons (dC (.int 2)) dNil)))))
  (sSeq (sSet 6 (dTup (dCons (dVar 5) (dCons (dOp oIx (dPure (dLst (dCons (dC (.str "left")) (dCons (dC (.str "right")) dNil)))) (dCall m_take (dCons (dVar 0) (dCons (dC (.int 2)) dNil)))) dNil))))
  (sSeq (sSet 7 (dCall m_take (dCons (dVar 0) (dCons (dAdd (dCallB cLen (dCons (dOp oIx (dVar 3) (dC (.int 1))) dNil)) (dC (.int 1))) dNil))))
  (sSet 3 (dTup (dCons (dC (.str "move")) (dCons (dPure (dOpF oCat (dPure (dOpF oCat (dPure (dSl (dOp oIx (dVar 3) (dC (.int 1))) oNone (oSome (dVar 7)))) (dPure (dLst (dCons (dVar 6) dNil))))) (dPure (dSl (dOp oIx (dVar 3) (dC (.int 1))) (oSome (dVar 7)) oNone)))) dNil)))))))
  (sSeq (sSet 8 (dPure (dCallF cList (dCons (dOp oIx (dVar 3) (dC (.int 2))) dNil))))
  (sSeq (sSet 7 (dCall m_take (dCons (dVar 0) (dCons (dAdd (dCallB cLen (dCons (dVar 8) dNil)) (dC (.int 1))) dNil))))
  (sSeq spCmd
  (sSet 3 (dTup (dCons (dC (.str "work")) (dCons (dOp oIx (dVar 3) (dC (.int 1))) (dCons (dVar 8) dNil)))))))))
section
variable {ns : List Int} {s : Nat} {st : Store}
theorem yok_b : YOk "b" := ⟨by decide +kernel, by decide +kernel⟩
theorem clist_run {xs : List W} {d : Sh.Env → M W} {env : Sh.Env} (h : d env st = .ok (.lst xs) st) : dPure (dCallF cList (dCons d dNil)) env st = .ok (.lst xs) st := rPure (rCallF (rCons h rNil) rfl)
theorem spoilt_run {ls : List Line} (ok : StOk ns st s) (hl : ∀ l ∈ ls, Line.ok l) (h1 : 1 ≤ ls.length) (hz : ls.length ≤ 100) :
    ∃ (ls' : List Line) (st' : Store), m_spoilt [.cell s, .lst (ls.map lW)] st = .ok (.lst (ls'.map lW)) st' ∧ (∀ l ∈ ls', Wk l) ∧ ls'.length = ls.length ∧ StOk ns st' s := by
  have l2 : (2 : Nat) ≤ sizeLine := line_ge (by decide)
  have l3 : (3 : Nat) ≤ sizeLine := line_ge (by decide)
  have ln : ∀ st, cLen [.lst (ls.map lW)] st = .ok (.int (ls.length : Int)) st := fun st => by rw [cLen_at (w := .lst (ls.map lW)) rfl, List.length_map]
  obtain ⟨v, st1, a1, a2, a3, a4, _⟩ := tk_run (env := [some (.cell s), some (.lst (ls.map lW)), none, none, none, none, none, none, none]) (e := dCallB cLen (dCons (dVar 1) dNil)) (k := (ls.length : Int)) rfl (rCallB (rCons (rV rfl) rNil) (ln st)) ok (by omega) (by omega)
  obtain ⟨n, rfl⟩ : ∃ n : Nat, v = (n : Int) := ⟨v.toNat, by omega⟩
  have ln' : n < ls.length := by omega
  have hln : ls[n]? = some ls[n] := List.getElem?_eq_getElem ln'
  generalize hel : ls[n] = l at hln
  have okl : Line.ok l := by rw [← hel]; exact hl _ (List.getElem_mem ln')
  have il : oIx (.lst (ls.map lW)) (.int (n : Int)) st1 = .ok (lW l) st1 := ix_at rfl (by omega) (by rw [Int.toNat_natCast, List.getElem?_map, hln]; rfl)
  obtain ⟨kind, st2, b1, b2, b3, b4, _⟩ := tk_run (env := [some (.cell s), some (.lst (ls.map lW)), some (.int (n : Int)), some (lW l), none, none, none, none, none]) (e := dC (.int 5)) rfl rC a4 (by decide) (by decide)
  -- the line, spoilt
  have main : ∃ (l' : Line) (o5 o6 o7 o8 : Option W) (st3 : Store), Wk l' ∧ StOk ns st3 s ∧
      spLine
        [some (.cell s), some (.lst (ls.map lW)), some (.int (n : Int)), some (lW l), some (.int kind), none, none, none, none] st2 = .nx [some (.cell s), some (.lst (ls.map lW)), some (.int (n : Int)), some (lW l'), some (.int kind), o5, o6, o7, o8] st3 := by
    cases l with
    | move ex =>
      have t1 : dB (dEq (dOp oIx (dVar 3) (dC (.int 0))) (dC (.str "move"))) [some (.cell s), some (.lst (ls.map lW)), some (.int (n : Int)), some (lW (.move ex)), some (.int kind), none, none, none, none] st2 = .ok true st2 := rB (rOp (rOp (rV rfl) rC (ix_at rfl (by decide) rfl)) rC (by rw [oEq_str, decide_eq_true rfl]))
      obtain ⟨u, s1, c1, c2, c3, c4, _⟩ := tk_run (env := [some (.cell s), some (.lst (ls.map lW)), some (.int (n : Int)), some (lW (.move ex)), some (.int kind), none, none, none, none]) (e := dC (.int 11)) rfl rC b4 (by decide) (by decide)
      obtain ⟨w, s2, d1, d2, d3, d4, _⟩ := tk_run (env := [some (.cell s), some (.lst (ls.map lW)), some (.int (n : Int)), some (lW (.move ex)), some (.int kind), none, none, none, none]) (e := dC (.int 80)) rfl rC c4 (by decide) (by decide)
      obtain ⟨q, s3, e1, e2, e3, e4, _⟩ := tk_run (env := [some (.cell s), some (.lst (ls.map lW)), some (.int (n : Int)), some (lW (.move ex)), some (.int kind), none, none, none, none]) (e := dC (.int 2)) rfl rC d4 (by decide) (by decide)
      obtain ⟨c, hc, hcb⟩ : ∃ c : Int, ([W.int (u - 2), .int (w - 9)] : List W)[q.toNat]? = some (.int c) ∧ (-1000 ≤ c ∧ c ≤ 1000) := by
        have : q.toNat = 0 ∨ q.toNat = 1 := by omega
        rcases this with h | h <;> rw [h]
        · exact ⟨_, rfl, by omega⟩
        · exact ⟨_, rfl, by omega⟩
      obtain ⟨o, s4, f1, f2, f3, _⟩ := pick_lr (env := [some (.cell s), some (.lst (ls.map lW)), some (.int (n : Int)), some (lW (.move ex)), some (.int kind), some (.int c), none, none, none]) (a := "left") (b := "right") rfl e4
      have le : cLen [.lst (ex.map eW)] s4 = .ok (.int (ex.length : Int)) s4 := by rw [cLen_at (w := .lst (ex.map eW)) rfl, List.length_map]
      have hx : ex.length ≤ 40 := okl.2
      obtain ⟨k, s5, g1, g2, g3, g4, _⟩ := tk_run (env := [some (.cell s), some (.lst (ls.map lW)), some (.int (n : Int)), some (lW (.move ex)), some (.int kind), some (.int c), some (eW (c, o)), none, none]) (e := dAdd (dCallB cLen (dCons (dOp oIx (dVar 3) (dC (.int 1))) dNil)) (dC (.int 1))) (k := (ex.length : Int) + 1) rfl (rOp (rCallB (rCons (rOp (rV rfl) rC (ix_at rfl (by decide) rfl)) rNil) le) rC rfl) f3 (by omega) (by omega)
      obtain ⟨k, rfl⟩ : ∃ m : Nat, k = (m : Int) := ⟨k.toNat, by omega⟩
      refine ⟨.move (ex.take k ++ [(c, o)] ++ ex.drop k), some (.int c), some (eW (c, o)), some (.int (k : Int)), none, s5, ⟨?_, ?_⟩, g4, sIf_t t1 ?_⟩
      · intro e he
        simp only [List.mem_append, List.mem_singleton] at he
        rcases he with (he | he) | he
        · exact okl.1 e (List.mem_of_mem_take he)
        · rw [he]
          exact ⟨hcb, f2⟩
        · exact okl.1 e (List.mem_of_mem_drop he)
      · simp only [List.length_append, List.length_take, List.length_drop, List.length_singleton]
        omega
      · refine sSeq_at (sSet_at (w := .int c) (st1 := s3) (rOp (x := .lst [.int (u - 2), .int (w - 9)]) (rPure (rLst (rCons (rOp c1 rC rfl) (rCons (rOp d1 rC rfl) rNil)) l2)) e1 (ix_at rfl e2 hc))) ?_
        refine sSeq_at (sSet_at (w := eW (c, o)) (st1 := s4) (rTup (rCons (rV rfl) (rCons f1 rNil)) l2)) ?_
        refine sSeq_at (sSet_at g1) ?_
        have ix1 : dOp oIx (dVar 3) (dC (.int 1)) [some (.cell s), some (.lst (ls.map lW)), some (.int (n : Int)), some (lW (.move ex)), some (.int kind), some (.int c), some (eW (c, o)), some (.int (k : Int)), none] s5 = .ok (.lst (ex.map eW)) s5 := rOp (rV rfl) rC (ix_at rfl (by decide) rfl)
        have pr := put_run (dm := dVar 6) (w := eW (c, o)) ix1 (rV (i := 7) rfl) (rV rfl) ix1 (rV (i := 7) rfl) (by rw [List.length_map]; omega) (by rw [List.length_map]; omega)
        have em : (ex.map eW).take k ++ [eW (c, o)] ++ (ex.map eW).drop k = (ex.take k ++ [(c, o)] ++ ex.drop k).map eW := by simp
        rw [em] at pr
        exact sSet_at (rTup (rCons rC (rCons pr rNil)) l2)
    | work d cs =>
      have t1 : dB (dEq (dOp oIx (dVar 3) (dC (.int 0))) (dC (.str "move"))) [some (.cell s), some (.lst (ls.map lW)), some (.int (n : Int)), some (lW (.work d cs)), some (.int kind), none, none, none, none] st2 = .ok false st2 := rB (rOp (rOp (rV rfl) rC (ix_at rfl (by decide) rfl)) rC (by rw [oEq_str, show decide (("work" : Str) = "move") = false by decide +kernel]))
      have hc : cs.length ≤ 320 := okl.2.2
      have le : ∀ st, cLen [.lst (cs.map cW)] st = .ok (.int (cs.length : Int)) st := fun st => by rw [cLen_at (w := .lst (cs.map cW)) rfl, List.length_map]
      obtain ⟨k, s5, g1, g2, g3, g4, _⟩ := tk_run (env := [some (.cell s), some (.lst (ls.map lW)), some (.int (n : Int)), some (lW (.work d cs)), some (.int kind), none, none, none, some (.lst (cs.map cW))]) (e := dAdd (dCallB cLen (dCons (dVar 8) dNil)) (dC (.int 1))) (k := (cs.length : Int) + 1) rfl (rOp (rCallB (rCons (rV rfl) rNil) (le st2)) rC rfl) b4 (by omega) (by omega)
      obtain ⟨k, rfl⟩ : ∃ m : Nat, k = (m : Int) := ⟨k.toNat, by omega⟩
      have fin : ∀ (cs' : List Cmd) (s6 : Store), (∀ c ∈ cs', c.ok) → cs'.length ≤ 400 → StOk ns s6 s →
          spCmd
            [some (.cell s), some (.lst (ls.map lW)), some (.int (n : Int)), some (lW (.work d cs)), some (.int kind), none, none, some (.int (k : Int)), some (.lst (cs.map cW))] s5 = .nx [some (.cell s), some (.lst (ls.map lW)), some (.int (n : Int)), some (lW (.work d cs)), some (.int kind), none, none, some (.int (k : Int)), some (.lst (cs'.map cW))] s6 →
          ∃ (l' : Line) (o5 o6 o7 o8 : Option W) (st3 : Store), Wk l' ∧ StOk ns st3 s ∧ spLine [some (.cell s), some (.lst (ls.map lW)), some (.int (n : Int)), some (lW (.work d cs)), some (.int kind), none, none, none, none] st2 = SOut.nx [some (.cell s), some (.lst (ls.map lW)), some (.int (n : Int)), some (lW l'), some (.int kind), o5, o6, o7, o8] st3 := by
        intro cs' s6 h1 h2 h3 h4
        exact ⟨.work d cs', none, none, some (.int (k : Int)), some (.lst (cs'.map cW)), s6, ⟨okl.1, h1, h2⟩, h3, sIf_f t1 (sSeq_at (sSet_at (clist_run (rOp (rV rfl) rC (ix_at rfl (by decide) rfl)))) (sSeq_at (sSet_at g1) (sSeq_at h4 (sSet_at (rTup (rCons rC (rCons (rOp (rV rfl) rC (ix_at rfl (by decide) rfl)) (rCons (rV rfl) rNil))) l3)))))⟩
      have mem : ∀ (k2 : Nat) (c : Cmd), c.ok → ∀ x ∈ cs.take k ++ [c] ++ cs.drop k2, x.ok := by
        intro k2 c hc x hx
        simp only [List.mem_append, List.mem_singleton] at hx
        rcases hx with (hx | hx) | hx
        · exact okl.2.1 x (List.mem_of_mem_take hx)
        · rw [hx]; exact hc
        · exact okl.2.1 x (List.mem_of_mem_drop hx)
      have em : ∀ (k2 : Nat) (c : Cmd), (cs.map cW).take k ++ [cW c] ++ (cs.map cW).drop k2 = (cs.take k ++ [c] ++ cs.drop k2).map cW := fun k2 c => by simp
      have lz : (cs.map cW).length ≤ 500 := by rw [List.length_map]; omega
      have lk : k ≤ (cs.map cW).length := by rw [List.length_map]; omega
      have tk0 : ∀ (j : Int) st, dB (dEq (dVar 4) (dC (.int j))) [some (.cell s), some (.lst (ls.map lW)), some (.int (n : Int)), some (lW (.work d cs)), some (.int kind), none, none, some (.int (k : Int)), some (.lst (cs.map cW))] st = .ok (decide (kind = j)) st := fun j st => rB (rOp (rV rfl) rC rfl)
      have kp : ∀ st, dAdd (dVar 7) (dC (.int 1)) [some (.cell s), some (.lst (ls.map lW)), some (.int (n : Int)), some (lW (.work d cs)), some (.int kind), none, none, some (.int (k : Int)), some (.lst (cs.map cW))] st = .ok (.int ((k + 1 : Nat) : Int)) st := fun st => rOp (rV rfl) rC rfl
      by_cases q0 : kind = 0
      · refine fin (cs.take k ++ cs.drop (k + 1)) s5 (fun c hc => ?_) (by simp only [List.length_append, List.length_take, List.length_drop]; omega) g4 (sIf_t ((tk0 0 _).trans (by rw [decide_eq_true q0])) ?_)
        · rcases List.mem_append.mp hc with h | h
          · exact okl.2.1 c (List.mem_of_mem_take h)
          · exact okl.2.1 c (List.mem_of_mem_drop h)
        · have c1 : dSl (dVar 8) oNone (oSome (dVar 7)) [some (.cell s), some (.lst (ls.map lW)), some (.int (n : Int)), some (lW (.work d cs)), some (.int kind), none, none, some (.int (k : Int)), some (.lst (cs.map cW))] s5 = .ok ((cs.map cW).take k) s5 := by
            rw [← cut_to lk]
            exact rSl (rV rfl) rfl (rSome (rV rfl)) rfl
          have c2 : dSl (dVar 8) (oSome (dAdd (dVar 7) (dC (.int 1)))) oNone [some (.cell s), some (.lst (ls.map lW)), some (.int (n : Int)), some (lW (.work d cs)), some (.int kind), none, none, some (.int (k : Int)), some (.lst (cs.map cW))] s5 = .ok ((cs.map cW).drop (k + 1)) s5 := by
            rw [← cut_from]
            exact rSl (rV rfl) (rSome (kp s5)) rfl rfl
          rw [List.map_append, List.map_take, List.map_drop]
          exact sSet_at (rPure (rOpF (rPure c1) (rPure c2) (oCat_at rfl rfl (by simp only [List.length_take, List.length_drop]; omega))))
      by_cases q1 : kind = 1
      · obtain ⟨c, s6, o1, o2, o3, _⟩ := odd_run g4
        refine fin (cs.take k ++ [c] ++ cs.drop (k + 1)) s6 (mem _ c o2) (by simp only [List.length_append, List.length_take, List.length_drop, List.length_singleton]; omega) o3 (sIf_f ((tk0 0 _).trans (by rw [decide_eq_false q0])) (sIf_t ((tk0 1 _).trans (by rw [decide_eq_true q1])) ?_))
        rw [← em]
        exact sSet_at (put_run (rV rfl) (rV rfl) (rCall (rCons (rV rfl) rNil) o1) (rV rfl) (kp s6) lk lz)
      by_cases q2 : kind = 2
      · refine fin (cs.take k ++ [.two "purl" "b"] ++ cs.drop k) s5 (mem _ (.two "purl" "b") ⟨.inr (.inl rfl), yok_b⟩) (by simp only [List.length_append, List.length_take, List.length_drop, List.length_singleton]; omega) g4 (sIf_f ((tk0 0 _).trans (by rw [decide_eq_false q0])) (sIf_f ((tk0 1 _).trans (by rw [decide_eq_false q1])) (sIf_t ((tk0 2 _).trans (by rw [decide_eq_true q2])) ?_)))
        rw [← em]
        exact sSet_at (put_run (rV rfl) (rV rfl) (rTup (rCons rC (rCons rC rNil)) l2) (rV rfl) (rV rfl) lk lz)
      · refine fin (cs.take k ++ [.two "tuck" "b"] ++ cs.drop k) s5 (mem _ (.two "tuck" "b") ⟨.inr (.inr rfl), yok_b⟩) (by simp only [List.length_append, List.length_take, List.length_drop, List.length_singleton]; omega) g4 (sIf_f ((tk0 0 _).trans (by rw [decide_eq_false q0])) (sIf_f ((tk0 1 _).trans (by rw [decide_eq_false q1])) (sIf_f ((tk0 2 _).trans (by rw [decide_eq_false q2])) ?_)))
        rw [← em]
        exact sSet_at (put_run (rV rfl) (rV rfl) (rTup (rCons rC (rCons rC rNil)) l2) (rV rfl) (rV rfl) lk lz)
  obtain ⟨l', o5, o6, o7, o8, st3, m1, m2, m3⟩ := main
  refine ⟨ls.take n ++ [l'] ++ ls.drop (n + 1), st3, body_rt rfl ?_, fun x hx => ?_, ?_, m2⟩
  · refine sSeq_at (sSet_at a1) (sSeq_at (sSet_at (rOp (rV rfl) (rV rfl) il)) (sSeq_at (sSet_at b1) (sSeq_at m3 (sRet_at ?_))))
    have em : (ls.map lW).take n ++ [lW l'] ++ (ls.map lW).drop (n + 1) = (ls.take n ++ [l'] ++ ls.drop (n + 1)).map lW := by simp
    rw [← em]
    exact put_run (rV rfl) (rV rfl) (rV rfl) (rV rfl) (rOp (rV rfl) rC rfl) (by rw [List.length_map]; omega) (by rw [List.length_map]; omega)
  · simp only [List.mem_append, List.mem_singleton] at hx
    rcases hx with (hx | hx) | hx
    · exact Wk.of (hl x (List.mem_of_mem_take hx))
    · rw [hx]; exact m1
    · exact Wk.of (hl x (List.mem_of_mem_drop hx))
  · simp only [List.length_append, List.length_take, List.length_drop, List.length_singleton]
    omega
end
end K01


set_option maxRecDepth 100000
set_option maxHeartbeats 4000000
namespace K01
open PySem L2 Evl Sh
abbrev iEnv (s r : Nat) (most count : Int) (e4 e5 e6 e7 e8 e9 e10 : Option W) : Sh.Env := [some (.cell s), some (.int most), some (.int count), some (.cell r), e4, e5, e6, e7, e8, e9, e10]
noncomputable abbrev wxBody : S := (sDrop (dBM tyL mAppend (dVar 8) (dCons (dTup (dCons (dCall m_take (dCons (dVar 0) (dCons (dSub (dVar 2) (dC (.int 1))) dNil))) (dCons (dOp oIx (dPure (dLst (dCons (dC (.str "left")) (dCons (dC (.str "right")) dNil)))) (dCall m_take (dCons (dVar 0) (dCons (dC (.int 2)) dNil)))) dNil))) dNil)))
noncomputable abbrev wiBody : S :=
  (sSeq (sSet 5 (dCall m_take (dCons (dVar 0) (dCons (dC (.int 3)) dNil))))
  (sSeq (sSet 6 (dCall m_take (dCons (dVar 0) (dCons (dSub (dVar 2) (dC (.int 1))) dNil))))
  (sSeq (sSet 7 (dCall m_yarn (dCons (dVar 0) dNil)))
  (sIf (dB (dEq (dVar 5) (dC (.int 1))))
  (sSeq (sSet 8 (dCell (dLst dNil)))
  (sSeq (sFor (iR1 (dCons (dCall m_take (dCons (dVar 0) (dCons (dC (.int 13)) dNil))) dNil)) (gN 9)
  wxBody)
  (sDrop (dBM tyL mAppend (dVar 3) (dCons (dTup (dCons (dC (.str "move")) (dCons (dFz (dVar 8)) dNil))) dNil)))))
  (sIf (dAnd (dB (dEq (dVar 5) (dC (.int 2)))) (dB (dGt (dVar 2) (dC (.int 4)))))
  (sSeq (sSet 10 (dPure (dOpF oCat (dPure (dOpF oCat (dPure (dOpF oRep (dPure (dLst (dCons (dTup (dCons (dC (.str "knit")) (dCons (dVar 7) dNil))) dNil))) (dVar 6))) (dPure (dLst (dCons (dCall m_join (dCons (dVar 0) (dCons (dC (.int 2)) dNil))) dNil))))) (dPure (dOpF oRep (dPure (dLst (dCons (dTup (dCons (dC (.str "purl")) (dCons (dVar 7) dNil))) dNil))) (dSub (dSub (dVar 2) (dVar 6)) (dC (.int 2))))))))
  (sSeq (sDrop (dBM tyL mAppend (dVar 3) (dCons (dTup (dCons (dC (.str "work")) (dCons (dOp oIx (dPure (dLst (dCons (dC (.str "right")) (dCons (dC (.str "left")) dNil)))) (dCall m_take (dCons (dVar 0) (dCons (dC (.int 2)) dNil)))) (dCons (dVar 10) dNil)))) dNil)))
  (sSet 2 (dSub (dVar 2) (dC (.int 1))))))
  (sSeq (sSet 10 (dPure (dOpF oCat (dPure (dOpF oCat (dPure (dOpF oRep (dPure (dLst (dCons (dTup (dCons (dC (.str "knit")) (dCons (dVar 7) dNil))) dNil))) (dVar 6))) (dPure (dLst (dCons (dTup (dCons (dC (.str "pass")) dNil)) dNil))))) (dPure (dOpF oRep (dPure (dLst (dCons (dTup (dCons (dC (.str "purl")) (dCons (dVar 7) dNil))) dNil))) (dSub (dSub (dVar 2) (dVar 6)) (dC (.int 1))))))))
  (sDrop (dBM tyL mAppend (dVar 3) (dCons (dTup (dCons (dC (.str "work")) (dCons (dOp oIx (dPure (dLst (dCons (dC (.str "right")) (dCons (dC (.str "left")) dNil)))) (dCall m_take (dCons (dVar 0) (dCons (dC (.int 2)) dNil)))) (dCons (dVar 10) dNil)))) dNil)))))))))
section
variable {ns : List Int} {s r : Nat}
/-- knits, one between, purls -/
theorem row_run {st st1 : Store} {env : Sh.Env} {y : Str} {a b : Nat} {dm db : Sh.Env → M W} {c : Cmd} (h7 : env[7]? = some (some (.str y))) (h6 : env[6]? = some (some (.int (a : Int)))) (hm : dm env st = .ok (cW c) st1) (hb : db env st1 = .ok (.int (b : Int)) st1) (ha : a ≤ 100) (hb2 : b ≤ 100) :
    dPure (dOpF oCat (dPure (dOpF oCat (dPure (dOpF oRep (dPure (dLst (dCons (dTup (dCons (dC (.str "knit")) (dCons (dVar 7) dNil))) dNil))) (dVar 6))) (dPure (dLst (dCons dm dNil))))) (dPure (dOpF oRep (dPure (dLst (dCons (dTup (dCons (dC (.str "purl")) (dCons (dVar 7) dNil))) dNil))) db))) env st =
      .ok (.lst ((List.replicate a (Cmd.two "knit" y) ++ [c] ++ List.replicate b (Cmd.two "purl" y)).map cW)) st1 := by
  have l1 : (1 : Nat) ≤ sizeLine := line_ge (by decide)
  have l2 : (2 : Nat) ≤ sizeLine := line_ge (by decide)
  have e1 : (List.replicate a (Cmd.two "knit" y) ++ [c] ++ List.replicate b (Cmd.two "purl" y)).map cW = (List.replicate a [cW (.two "knit" y)]).flatten ++ [cW c] ++ (List.replicate b [cW (.two "purl" y)]).flatten := by
    rw [List.map_append, List.map_append, rep_cmd, rep_cmd]
    rfl
  rw [e1]
  have z1 : (List.replicate a [cW (.two "knit" y)]).flatten.length = a := by simp
  have z2 : (List.replicate b [cW (.two "purl" y)]).flatten.length = b := by simp
  have o1 : [cW (.two "knit" y)].length * a ≤ sizeLine := by rw [List.length_singleton, Nat.one_mul]; exact line_ge (by omega)
  have o2 : [cW (.two "purl" y)].length * b ≤ sizeLine := by rw [List.length_singleton, Nat.one_mul]; exact line_ge (by omega)
  exact rPure (rOpF (st1 := st1) (st2 := st1) (x := .lst ((List.replicate a [cW (.two "knit" y)]).flatten ++ [cW c])) (y := .lst (List.replicate b [cW (.two "purl" y)]).flatten)
    (rPure (rOpF (st1 := st) (st2 := st1) (x := .lst (List.replicate a [cW (.two "knit" y)]).flatten) (y := .lst [cW c])
      (rPure (rOpF (x := .lst [cW (.two "knit" y)]) (y := .int (a : Int)) (rPure (rLst (rCons (rTup (rCons rC (rCons (rV h7) rNil)) l2) rNil) l1)) (rV h6) (oRep_at rfl o1 (by omega))))
      (rPure (rLst (rCons hm rNil) l1)) (oCat_at rfl rfl (by rw [z1, List.length_singleton]; omega))))
    (rPure (rOpF (x := .lst [cW (.two "purl" y)]) (y := .int (b : Int)) (rPure (rLst (rCons (rTup (rCons rC (rCons (rV h7) rNil)) l2) rNil) l1)) hb (oRep_at rfl o2 (by omega))))
    (oCat_at rfl rfl (by rw [List.length_append, z1, z2, List.length_singleton]; omega)))
theorem wx_loop {x : Nat} {most count : Int} {e4 e5 e6 e7 e10 : Option W} (hc : 1 < count) (hc2 : count ≤ 1000) (ne : x ≠ s) : ∀ (n : Nat) (k : Int) (acc : List (Int × Str)) (e9 : Option W) (st st0 : Store), StOk ns st s → Fr s st0 st → st0.length ≤ x → lcell st x = some (acc.map eW) → acc.length + n ≤ 40 → (∀ e ∈ acc, eOk e) →
    ∃ (ex : List (Int × Str)) (e9' : Option W) (st' : Store), forGo (fun _ => True) (gN 9) wxBody (rngW k n) (iEnv s r most count e4 e5 e6 e7 (some (.cell x)) e9 e10) st = .nx (iEnv s r most count e4 e5 e6 e7 (some (.cell x)) e9' e10) st' ∧ lcell st' x = some (ex.map eW) ∧ (∀ e ∈ ex, eOk e) ∧ ex.length = acc.length + n ∧ StOk ns st' s ∧ Fr s st0 st'
  | 0, k, acc, e9, st, st0, ok, f, h0, hx, hz, ha => ⟨acc, e9, st, forGo_nil True.intro, hx, ha, rfl, ok, f⟩
  | n + 1, k, acc, e9, st, st0, ok, f, h0, hx, hz, ha => by
    have lx := lcell_lt hx
    obtain ⟨v, st1, a1, a2, a3, a4, a5⟩ := tk_run (env := iEnv s r most count e4 e5 e6 e7 (some (.cell x)) (some (.int k)) e10) (e := dSub (dVar 2) (dC (.int 1))) (k := count - 1) (st := st) rfl (rOp (rV rfl) rC rfl) ok (by omega) (by omega)
    obtain ⟨o, st2, b1, ho, b3, b4⟩ := pick_lr (env := iEnv s r most count e4 e5 e6 e7 (some (.cell x)) (some (.int k)) e10) (a := "left") (b := "right") rfl a4
    have f2 := a5.trans b4
    have hx2 : lcell st2 x = some (acc.map eW) := by rw [f2.cell ne lx, hx]
    have l2 : (2 : Nat) ≤ sizeLine := line_ge (by decide)
    have tb : wxBody (iEnv s r most count e4 e5 e6 e7 (some (.cell x)) (some (.int k)) e10) st = .nx (iEnv s r most count e4 e5 e6 e7 (some (.cell x)) (some (.int k)) e10) (st2.set x (.lst (acc.map eW ++ [eW (v, o)]))) :=
      app_run rfl (rTup (rCons a1 (rCons b1 rNil)) l2) hx hx2 (by rw [List.length_map]; omega)
    obtain ⟨ex, g9, st3, c1, c2, c3, c4, c5, c6⟩ := wx_loop hc hc2 ne n (k + 1) (acc ++ [(v, o)]) (some (.int k)) (st2.set x (.lst (acc.map eW ++ [eW (v, o)]))) st0 (b3.write ne) ((f.trans f2).write h0) h0 (by rw [lcell_set (Nat.lt_of_lt_of_le lx f2.len), List.map_append]; rfl) (by rw [List.length_append, List.length_singleton]; omega) (fun e he => by
      rcases List.mem_append.mp he with he | he
      · exact ha e he
      · rw [List.mem_singleton.mp he]
        exact ⟨⟨by show -1000 ≤ v; omega, by show v ≤ 1000; omega⟩, ho⟩)
    refine ⟨ex, g9, st3, ?_, c2, c3, by rw [c4, List.length_append, List.length_singleton]; omega, c5, c6⟩
    rw [rngW_succ, forGo_nx (env1 := iEnv s r most count e4 e5 e6 e7 (some (.cell x)) (some (.int k)) e10) (st1 := st) True.intro rfl tb]
    exact c1
theorem wi_turn {st st0 : Store} {most count : Int} {e4 e5 e6 e7 e8 e9 e10 : Option W} {ls : List Line} (ok : StOk ns st s) (hr : lcell st r = some (ls.map lW)) (ne : r ≠ s) (h0 : 3 ≤ count) (h1 : count ≤ 60) (hz : ls.length ≤ 100) (f : Fr s st0 st) (hb : st0.length ≤ r) :
    ∃ (l : Line) (count' : Int) (e5' e6' e7' e8' e9' e10' : Option W) (st' : Store), wiBody (iEnv s r most count e4 e5 e6 e7 e8 e9 e10) st = .nx (iEnv s r most count' e4 e5' e6' e7' e8' e9' e10') st' ∧ Line.ok l ∧ lcell st' r = some ((ls ++ [l]).map lW) ∧ StOk ns st' s ∧ Fr s st0 st' ∧ 3 ≤ count' ∧ count' ≤ 60 := by
  have lr := lcell_lt hr
  have l0 : (0 : Nat) ≤ sizeLine := Nat.zero_le _
  have l1 : (1 : Nat) ≤ sizeLine := line_ge (by decide)
  have l2 : (2 : Nat) ≤ sizeLine := line_ge (by decide)
  have l3 : (3 : Nat) ≤ sizeLine := line_ge (by decide)
  obtain ⟨kind, s1, a1, a2, a3, a4, a5⟩ := tk_run (env := iEnv s r most count e4 e5 e6 e7 e8 e9 e10) (e := dC (.int 3)) rfl rC ok (by decide) (by decide)
  obtain ⟨at', s2, b1, b2, b3, b4, b5⟩ := tk_run (env := iEnv s r most count e4 (some (.int kind)) e6 e7 e8 e9 e10) (e := dSub (dVar 2) (dC (.int 1))) (k := count - 1) rfl (rOp (rV rfl) rC rfl) a4 (by omega) (by omega)
  obtain ⟨a, rfl⟩ : ∃ a : Nat, at' = (a : Int) := ⟨at'.toNat, by omega⟩
  obtain ⟨y, s3, c1, c2, c3, c4⟩ := yarn_run b4
  have f3 : Fr s st s3 := (a5.trans b5).trans c4
  have lr3 : r < s3.length := Nat.lt_of_lt_of_le lr f3.len
  have pre : ∀ {o : SOut} {rest : S}, rest (iEnv s r most count e4 (some (.int kind)) (some (.int (a : Int))) (some (.str y)) e8 e9 e10) s3 = o →
      (sSeq (sSet 5 (dCall m_take (dCons (dVar 0) (dCons (dC (.int 3)) dNil)))) (sSeq (sSet 6 (dCall m_take (dCons (dVar 0) (dCons (dSub (dVar 2) (dC (.int 1))) dNil)))) (sSeq (sSet 7 (dCall m_yarn (dCons (dVar 0) dNil))) rest))) (iEnv s r most count e4 e5 e6 e7 e8 e9 e10) st = o :=
    fun k => sSeq_at (sSet_at a1) (sSeq_at (sSet_at b1) (sSeq_at (sSet_at (rCall (rCons (rV rfl) rNil) c1)) k))
  have t1 : dB (dEq (dVar 5) (dC (.int 1))) (iEnv s r most count e4 (some (.int kind)) (some (.int (a : Int))) (some (.str y)) e8 e9 e10) s3 = .ok (decide (kind = 1)) s3 := rB (rOp (rV rfl) rC rfl)
  have t2 : dAnd (dB (dEq (dVar 5) (dC (.int 2)))) (dB (dGt (dVar 2) (dC (.int 4)))) (iEnv s r most count e4 (some (.int kind)) (some (.int (a : Int))) (some (.str y)) e8 e9 e10) s3 = .ok (decide (kind = 2) && decide (4 < count)) s3 := pAnd (rB (rOp (rV rfl) rC rfl)) (rB (rOp (rV rfl) rC rfl))
  have hr3 : lcell s3 r = some (ls.map lW) := by rw [f3.cell ne lr, hr]
  have wok : ∀ (c : Cmd) (b : Nat) (o : Str), c.ok → a ≤ 100 → b ≤ 100 → (o = "left" ∨ o = "right") → Line.ok (.work o (List.replicate a (Cmd.two "knit" y) ++ [c] ++ List.replicate b (Cmd.two "purl" y))) := by
    intro c b o hc ha hb ho
    refine ⟨ho, fun x hx => ?_, by simp only [List.length_append, List.length_replicate, List.length_singleton]; omega⟩
    simp only [List.mem_append, List.mem_singleton] at hx
    rcases hx with (hx | hx) | hx
    · rw [List.eq_of_mem_replicate hx]; exact ⟨.inl rfl, c2⟩
    · rw [hx]; exact hc
    · rw [List.eq_of_mem_replicate hx]; exact ⟨.inr (.inl rfl), c2⟩
  by_cases q1 : kind = 1
  · obtain ⟨v, s4, d1, d2, d3, d4, d5⟩ := tk_run (env := iEnv s r most count e4 (some (.int kind)) (some (.int (a : Int))) (some (.str y)) (some (.cell s3.length)) e9 e10) (e := dC (.int 13)) (st := s3 ++ [.lst []]) rfl rC c3.app (by decide) (by decide)
    obtain ⟨n, rfl⟩ : ∃ n : Nat, v = (n : Int) := ⟨v.toNat, by omega⟩
    have ls3 := c3.lt
    have hx4 : lcell s4 s3.length = some (([] : List (Int × Str)).map eW) := by rw [d5.cell (by omega) (by simp), lcell_new]; rfl
    obtain ⟨ex, g9, s5, x1, x2, x3, x4, x5, x6⟩ := wx_loop (r := r) (most := most) (e4 := e4) (e5 := some (.int kind)) (e6 := some (.int (a : Int))) (e7 := some (.str y)) (e10 := e10) (count := count) (by omega) (by omega) (x := s3.length) (by omega) n 0 [] e9 s4 s3 d4 (Fr.trans Fr.app d5) (Nat.le_refl _) hx4 (by simp; omega) (fun e he => by cases he)
    have nx : s3.length ≠ r := by omega
    have hr5 : lcell s5 r = some (ls.map lW) := by rw [x6.cell ne lr3, hr3]
    have hr6 : lcell (s5.set s3.length .dead) r = some (ls.map lW) := by rw [lcell_set_ne nx, hr5]
    refine ⟨.move ex, count, some (.int kind), some (.int (a : Int)), some (.str y), some (.cell s3.length), g9, e10, (s5.set s3.length .dead).set r (.lst (ls.map lW ++ [lW (.move ex)])), pre (sIf_t (t1.trans (by rw [decide_eq_true q1])) ?_), ⟨x3, by rw [x4, List.length_nil]; omega⟩, ?_, (x5.write (by omega)).write ne, (((f.trans f3).trans x6).write (by have := (f.trans f3).len; omega)).write hb, h0, h1⟩
    · refine sSeq_at (sSet_at (rCell (rLst rNil l0))) ?_
      refine sSeq_at (rFor (rR1 (n := n) (rCons d1 rNil) (sm_nat (by omega))) x1) ?_
      exact app_run rfl (rTup (rCons rC (rCons (rFz (rV rfl) x2) rNil)) l2) hr5 hr6 (by rw [List.length_map]; omega)
    · rw [lcell_set (by rw [List.length_set]; exact lcell_lt hr5), List.map_append]
      rfl
  · cases q2 : (decide (kind = 2) && decide (4 < count)) with
    | true =>
      have hc : 4 < count := by simp only [Bool.and_eq_true, decide_eq_true_eq] at q2; exact q2.2
      obtain ⟨n, lean, side, y2, s4, j1, j2, j3, j4, j5, j6, j7⟩ := join_run (left := 2) c3 (by decide)
      obtain ⟨b, hbn⟩ : ∃ b : Nat, (b : Int) = count - a - 2 := ⟨(count - a - 2).toNat, by omega⟩
      have rr := row_run (st := s3) (st1 := s4) (env := iEnv s r most count e4 (some (.int kind)) (some (.int (a : Int))) (some (.str y)) e8 e9 e10) (y := y) (a := a) (b := b) (dm := dCall m_join (dCons (dVar 0) (dCons (dC (.int 2)) dNil))) (db := dSub (dSub (dVar 2) (dVar 6)) (dC (.int 2))) (c := .join n lean side y2) rfl rfl (rCall (rCons (rV rfl) (rCons rC rNil)) j1) (by rw [hbn]; exact rOp (rOp (rV rfl) (rV rfl) rfl) rC rfl) (by omega) (by omega)
      generalize hcs : List.replicate a (Cmd.two "knit" y) ++ [Cmd.join n lean side y2] ++ List.replicate b (Cmd.two "purl" y) = cs at rr
      obtain ⟨o, s5, p1, p2, p3, p4⟩ := pick_lr (env := iEnv s r most count e4 (some (.int kind)) (some (.int (a : Int))) (some (.str y)) e8 e9 (some (.lst (cs.map cW)))) (a := "right") (b := "left") rfl j6
      have hr4 : lcell s4 r = some (ls.map lW) := by rw [j7.cell ne lr3, hr3]
      have hr5 : lcell s5 r = some (ls.map lW) := by rw [p4.cell ne (lcell_lt hr4), hr4]
      refine ⟨.work o cs, count - 1, some (.int kind), some (.int (a : Int)), some (.str y), e8, e9, some (.lst (cs.map cW)), s5.set r (.lst (ls.map lW ++ [lW (.work o cs)])), pre (sIf_f (t1.trans (by rw [decide_eq_false q1])) (sIf_t (t2.trans (by rw [q2])) ?_)), by rw [← hcs]; exact wok _ b o ⟨⟨by omega, by omega⟩, j3, j4, j5⟩ (by omega) (by omega) (by rcases p2 with h | h; exact .inr h; exact .inl h), ?_, p3.write ne, (((f.trans f3).trans j7).trans p4).write hb, by omega, by omega⟩
      · exact sSeq_at (sSet_at rr) (sSeq_at (app_run rfl (rTup (rCons rC (rCons p1 (rCons (rV rfl) rNil))) l3) hr4 hr5 (by rw [List.length_map]; omega)) (sSet_at (rOp (rV rfl) rC rfl)))
      · rw [lcell_set (lcell_lt hr5), List.map_append]
        rfl
    | false =>
      obtain ⟨b, hbn⟩ : ∃ b : Nat, (b : Int) = count - a - 1 := ⟨(count - a - 1).toNat, by omega⟩
      have rr := row_run (st := s3) (st1 := s3) (env := iEnv s r most count e4 (some (.int kind)) (some (.int (a : Int))) (some (.str y)) e8 e9 e10) (y := y) (a := a) (b := b) (dm := dTup (dCons (dC (.str "pass")) dNil)) (db := dSub (dSub (dVar 2) (dVar 6)) (dC (.int 1))) (c := .one "pass") rfl rfl (rTup (rCons rC rNil) l1) (by rw [hbn]; exact rOp (rOp (rV rfl) (rV rfl) rfl) rC rfl) (by omega) (by omega)
      generalize hcs : List.replicate a (Cmd.two "knit" y) ++ [Cmd.one "pass"] ++ List.replicate b (Cmd.two "purl" y) = cs at rr
      obtain ⟨o, s5, p1, p2, p3, p4⟩ := pick_lr (env := iEnv s r most count e4 (some (.int kind)) (some (.int (a : Int))) (some (.str y)) e8 e9 (some (.lst (cs.map cW)))) (a := "right") (b := "left") rfl c3
      have hr5 : lcell s5 r = some (ls.map lW) := by rw [p4.cell ne lr3, hr3]
      refine ⟨.work o cs, count, some (.int kind), some (.int (a : Int)), some (.str y), e8, e9, some (.lst (cs.map cW)), s5.set r (.lst (ls.map lW ++ [lW (.work o cs)])), pre (sIf_f (t1.trans (by rw [decide_eq_false q1])) (sIf_f (t2.trans (by rw [q2])) ?_)), by rw [← hcs]; exact wok _ b o (.inl rfl) (by omega) (by omega) (by rcases p2 with h | h; exact .inr h; exact .inl h), ?_, p3.write ne, ((f.trans f3).trans p4).write hb, h0, h1⟩
      · exact sSeq_at (sSet_at rr) (app_run rfl (rTup (rCons rC (rCons p1 (rCons (rV rfl) rNil))) l3) hr3 hr5 (by rw [List.length_map]; omega))
      · rw [lcell_set (lcell_lt hr5), List.map_append]
        rfl
end
end K01


set_option maxRecDepth 100000
set_option maxHeartbeats 4000000
namespace K01
open PySem L2 Evl Sh
section
variable {ns : List Int} {s r : Nat} {st : Store} {most : Int}
theorem wi_loop : ∀ (n : Nat) (k : Int) (ls : List Line) (count : Int) (e4 e5 e6 e7 e8 e9 e10 : Option W) (st st0 : Store), StOk ns st s → lcell st r = some (ls.map lW) → r ≠ s → 3 ≤ count → count ≤ 60 → ls.length + n ≤ 100 → Fr s st0 st → st0.length ≤ r → (∀ l ∈ ls, Line.ok l) →
    ∃ (ls' : List Line) (count' : Int) (e4' e5' e6' e7' e8' e9' e10' : Option W) (st' : Store), forGo (fun _ => True) (gN 4) wiBody (rngW k n) (iEnv s r most count e4 e5 e6 e7 e8 e9 e10) st = .nx (iEnv s r most count' e4' e5' e6' e7' e8' e9' e10') st' ∧ lcell st' r = some (ls'.map lW) ∧ (∀ l ∈ ls', Line.ok l) ∧ ls'.length = ls.length + n ∧
      StOk ns st' s ∧ Fr s st0 st'
  | 0, k, ls, count, e4, e5, e6, e7, e8, e9, e10, st, st0, ok, hr, ne, h0, h1, hz, f, hb, hl => ⟨ls, count, e4, e5, e6, e7, e8, e9, e10, st, forGo_nil True.intro, hr, hl, rfl, ok, f⟩
  | n + 1, k, ls, count, e4, e5, e6, e7, e8, e9, e10, st, st0, ok, hr, ne, h0, h1, hz, f, hb, hl => by
    obtain ⟨l, c1, f5, f6, f7, f8, f9, f10, st1, a1, a2, a4, a5, a6, a7, a8⟩ := wi_turn (most := most) (e4 := some (.int k)) (e5 := e5) (e6 := e6) (e7 := e7) (e8 := e8) (e9 := e9) (e10 := e10) ok hr ne h0 h1 (by omega) f hb
    obtain ⟨ls2, c2, g4, g5, g6, g7, g8, g9, g10, st2, b1, b2, b3, b5, b6, b7⟩ := wi_loop n (k + 1) (ls ++ [l]) c1 (some (.int k)) f5 f6 f7 f8 f9 f10 st1 st0 a5 a4 ne a7 a8 (by rw [List.length_append, List.length_singleton]; omega) a6 hb (fun x hx => by
      rcases List.mem_append.mp hx with hx | hx
      · exact hl x hx
      · rw [List.mem_singleton.mp hx]
        exact a2)
    refine ⟨ls2, c2, g4, g5, g6, g7, g8, g9, g10, st2, ?_, b2, b3, by rw [b5, List.length_append, List.length_singleton]; omega, b6, b7⟩
    rw [rngW_succ, forGo_nx (env1 := iEnv s r most count (some (.int k)) e5 e6 e7 e8 e9 e10) (st1 := st) True.intro rfl a1]
    exact b1
theorem wide_run (ok : StOk ns st s) : ∃ (ls : List Line) (st' : Store), m_wide [.cell s, .int 60] st = .ok (.lst (ls.map lW)) st' ∧ (∀ l ∈ ls, Line.ok l) ∧ 1 ≤ ls.length ∧ ls.length ≤ 20 ∧ StOk ns st' s := by
  have l1 : (1 : Nat) ≤ sizeLine := line_ge (by decide)
  have l3 : (3 : Nat) ≤ sizeLine := line_ge (by decide)
  obtain ⟨v, st1, a1, a2, a3, a4, a5⟩ := tk_run (env := [some (.cell s), some (.int 60), none, none, none, none, none, none, none, none, none]) (e := dSub (dVar 1) (dC (.int 7))) (k := 53) (st := st) rfl (rOp (x := .int 60) (y := .int 7) (rV rfl) rC rfl) ok (by decide) (by decide)
  obtain ⟨n, hn⟩ : ∃ n : Nat, (n : Int) = 8 + v := ⟨(8 + v).toNat, by omega⟩
  obtain ⟨cs, st2, b1, b2, b3, b4, b5⟩ := tucks_run (te := dTup (dCons (dC (.str "tuck")) (dCons (dCall m_yarn (dCons (dVar 0) dNil)) dNil))) rfl (env := [some (.cell s), some (.int 60), some (.int (n : Int)), none, none, none, none, none, none, none, none]) rfl n 0 [] st1 st a4 a5 (by simp; omega) (fun c hc => by cases hc)
  rw [List.length_nil, Nat.zero_add] at b3
  generalize hl0 : Line.work "right" cs = l0
  have k0 : Line.ok l0 := by
    rw [← hl0]
    exact ⟨.inr rfl, fun c hc => (b2 c hc).1, by omega⟩
  have lw : lW l0 = .tup [.str "work", .str "right", .lst (cs.map cW)] := by rw [← hl0]; rfl
  have hr : lcell (st2 ++ [.lst [lW l0]]) st2.length = some ([l0].map lW) := lcell_new
  have ls2 := b4.lt
  obtain ⟨u, st3, c1, c2, c3, c4, c5⟩ := tk_run (env := iEnv s st2.length 60 (n : Int) none none none none none none none) (e := dC (.int 13)) (st := st2 ++ [.lst [lW l0]]) rfl rC b4.app (by decide) (by decide)
  obtain ⟨k, rfl⟩ : ∃ k : Nat, u = (k : Int) := ⟨u.toNat, by omega⟩
  have hr3 : lcell st3 st2.length = some ([l0].map lW) := by rw [c5.cell (by omega) (by simp), hr]
  obtain ⟨ls, c', g4, g5, g6, g7, g8, g9, g10, st4, d1, d2, d3, d5, d6, d7⟩ := wi_loop (most := 60) k 0 [l0] (n : Int) none none none none none none none st3 st c4 hr3 (by omega) (by omega) (by omega) (by simp; omega) ((b5.trans Fr.app).trans c5) b5.len (fun l hl => by rw [List.mem_singleton.mp hl]; exact k0)
  rw [List.length_singleton] at d5
  refine ⟨ls, st4.set st2.length .dead, body_rt rfl ?_, d3, by omega, by omega, d6.write (by omega)⟩
  have e2 : sSet 2 (dAdd (dC (.int 8)) (dCall m_take (dCons (dVar 0) (dCons (dSub (dVar 1) (dC (.int 7))) dNil)))) [some (.cell s), some (.int 60), none, none, none, none, none, none, none, none, none] st = .nx [some (.cell s), some (.int 60), some (.int (n : Int)), none, none, none, none, none, none, none, none] st1 := by
    rw [hn]
    exact sSet_at (rOp rC a1 rfl)
  have e3 : sSet 3 (dCell (dLst (dCons (dTup (dCons (dC (.str "work")) (dCons (dC (.str "right")) (dCons (dPure (dLc (iR1 (dCons (dVar 2) dNil)) (gN 4) tYesW (dTup (dCons (dC (.str "tuck")) (dCons (dCall m_yarn (dCons (dVar 0) dNil)) dNil))) [4])) dNil)))) dNil)))
      [some (.cell s), some (.int 60), some (.int (n : Int)), none, none, none, none, none, none, none, none] st1 = .nx (iEnv s st2.length 60 (n : Int) none none none none none none none) (st2 ++ [.lst [lW l0]]) := by
    rw [lw]
    exact sSet_at (rCell (rLst (rCons (rTup (rCons rC (rCons rC (rCons (rPure (rLc (rR1 (n := n) (rCons (rV rfl) rNil) (sm_nat (by omega))) b1)) rNil))) l3) rNil) l1))
  unfold b_wide
  refine sSeq_at e2 (sSeq_at e3 ?_)
  refine sSeq_at (rFor (rR1 (n := k) (rCons c1 rNil) (sm_nat (by omega))) d1) ?_
  exact sRet_at (rFz (rV rfl) d2)
end
/-! ### what fits a text -/
theorem okDs_of {l : List W} (h : ∀ w ∈ l, okD w = true) : okDs l = true := by
  induction l with
  | nil => rfl
  | cons x l ih =>
    show (okD x && okDs l) = true
    rw [h x List.mem_cons_self, ih fun w hw => h w (List.mem_cons_of_mem _ hw)]
    rfl
theorem wtDs_le {l : List W} {k : Nat} (h : ∀ w ∈ l, wtD w ≤ k) : wtDs l ≤ l.length * (k + 1) := by
  induction l with
  | nil => exact Nat.zero_le _
  | cons x l ih =>
    have a := h x List.mem_cons_self
    have b := ih fun w hw => h w (List.mem_cons_of_mem _ hw)
    show wtD x + 1 + wtDs l ≤ (l.length + 1) * (k + 1)
    rw [Nat.add_mul]
    omega
theorem dpDs_le {l : List W} {k : Nat} (h : ∀ w ∈ l, dpD w ≤ k) : dpDs l ≤ k := by
  induction l with
  | nil => exact Nat.zero_le _
  | cons x l ih =>
    have a := h x List.mem_cons_self
    have b := ih fun w hw => h w (List.mem_cons_of_mem _ hw)
    show max (dpD x) (dpDs l) ≤ k
    omega
structure Sm (w : W) (k p : Nat) : Prop where
  ok : okD w = true
  wt : wtD w ≤ k
  dp : dpD w ≤ p
theorem Sm.lst {l : List W} {k p n : Nat} (h : ∀ w ∈ l, Sm w k p) (hn : l.length ≤ n) : Sm (.lst l) (n * (k + 1)) (p + 1) :=
  ⟨okDs_of fun w hw => (h w hw).ok, Nat.le_trans (wtDs_le fun w hw => (h w hw).wt) (Nat.mul_le_mul_right _ hn), Nat.succ_le_succ (dpDs_le fun w hw => (h w hw).dp)⟩
theorem sm_str {x : Str} (k : Nat) (h : okD (.str x) = true) (h2 : wtD (.str x) ≤ k) : Sm (.str x) k 0 := ⟨h, h2, Nat.le_refl _⟩
theorem sm_int {i : Int} (h : -1000000 ≤ i ∧ i ≤ 1000000) : Sm (.int i) 31 0 := ⟨decide_eq_true (by omega), Nat.le_refl _, Nat.le_refl _⟩
theorem sm_cmd {c : Cmd} (h : c.ok) : Sm (cW c) 60 1 := by
  have s1 : ∀ x : Str, x = "left" ∨ x = "right" → okD (.str x) = true ∧ wtD (.str x) ≤ 5 := by
    intro x hx
    rcases hx with rfl | rfl <;> exact ⟨by decide +kernel, by decide +kernel⟩
  have s2 : ∀ x : Str, x = "knit" ∨ x = "purl" → okD (.str x) = true ∧ wtD (.str x) ≤ 4 := by
    intro x hx
    rcases hx with rfl | rfl <;> exact ⟨by decide +kernel, by decide +kernel⟩
  have s3 : ∀ x : Str, x = "knit" ∨ x = "purl" ∨ x = "tuck" → okD (.str x) = true ∧ wtD (.str x) ≤ 4 := by
    intro x hx
    rcases hx with rfl | rfl | rfl <;> exact ⟨by decide +kernel, by decide +kernel⟩
  have s4 : ∀ x : Str, x = "pass" ∨ x = "drop" → okD (.str x) = true ∧ wtD (.str x) ≤ 4 := by
    intro x hx
    rcases hx with rfl | rfl <;> exact ⟨by decide +kernel, by decide +kernel⟩
  have j : okD (.str "join") = true ∧ wtD (.str "join") ≤ 4 := ⟨by decide +kernel, by decide +kernel⟩
  cases c with
  | join n lean side y =>
    obtain ⟨h1, h2, h3, h4⟩ := h
    obtain ⟨a1, a2⟩ := s1 _ h2
    obtain ⟨b1, b2⟩ := s2 _ h3
    obtain ⟨c1, c2⟩ := h4
    refine ⟨?_, ?_, Nat.le_refl _⟩
    · show (okD (.str "join") && (okD (.int n) && (okD (.str lean) && (okD (.str side) && (okD (.str y) && true))))) = true
      rw [j.1, a1, b1, c1, show okD (.int n) = true from decide_eq_true (by omega)]
      rfl
    · show wtD (.str "join") + 1 + (31 + 1 + (wtD (.str lean) + 1 + (wtD (.str side) + 1 + (wtD (.str y) + 1 + 0)))) ≤ 60
      have := j.2
      omega
  | two k y =>
    obtain ⟨h1, c1, c2⟩ := h
    obtain ⟨a1, a2⟩ := s3 _ h1
    refine ⟨?_, ?_, Nat.le_refl _⟩
    · show (okD (.str k) && (okD (.str y) && true)) = true
      rw [a1, c1]
      rfl
    · show wtD (.str k) + 1 + (wtD (.str y) + 1 + 0) ≤ 60
      omega
  | one k =>
    obtain ⟨a1, a2⟩ := s4 _ h
    refine ⟨?_, ?_, Nat.le_refl _⟩
    · show (okD (.str k) && true) = true
      rw [a1]
      rfl
    · show wtD (.str k) + 1 + 0 ≤ 60
      omega
theorem sm_line {l : Line} (h : Wk l) : Sm (lW l) 26000 3 := by
  have s1 : ∀ x : Str, x = "left" ∨ x = "right" → okD (.str x) = true ∧ wtD (.str x) ≤ 5 := by
    intro x hx
    rcases hx with rfl | rfl <;> exact ⟨by decide +kernel, by decide +kernel⟩
  have j : okD (.str "work") = true ∧ wtD (.str "work") ≤ 4 := ⟨by decide +kernel, by decide +kernel⟩
  have j2 : okD (.str "move") = true ∧ wtD (.str "move") ≤ 4 := ⟨by decide +kernel, by decide +kernel⟩
  cases l with
  | work d cs =>
    obtain ⟨a1, a2⟩ := s1 _ h.1
    have q := Sm.lst (l := cs.map cW) (k := 60) (p := 1) (n := 400) (fun w hw => by obtain ⟨c, hc, rfl⟩ := List.mem_map.mp hw; exact sm_cmd (h.2.1 c hc)) (by rw [List.length_map]; exact h.2.2)
    have q1 := q.wt
    have q2 := q.dp
    refine ⟨?_, ?_, ?_⟩
    · show (okD (.str "work") && (okD (.str d) && (okD (.lst (cs.map cW)) && true))) = true
      rw [j.1, a1, q.ok]
      rfl
    · show wtD (.str "work") + 1 + (wtD (.str d) + 1 + (wtD (.lst (cs.map cW)) + 1 + 0)) ≤ 26000
      have := j.2
      omega
    · show max 0 (max 0 (max (dpD (.lst (cs.map cW))) 0)) + 1 ≤ 3
      omega
  | move ex =>
    have q := Sm.lst (l := ex.map eW) (k := 60) (p := 1) (n := 60) (fun w hw => by
      obtain ⟨e, he, rfl⟩ := List.mem_map.mp hw
      obtain ⟨h1, h2⟩ := h.1 e he
      obtain ⟨a1, a2⟩ := s1 _ h2
      refine ⟨?_, ?_, Nat.le_refl _⟩
      · show (okD (.int e.1) && (okD (.str e.2) && true)) = true
        rw [a1, show okD (.int e.1) = true from decide_eq_true (by omega)]
        rfl
      · show 31 + 1 + (wtD (.str e.2) + 1 + 0) ≤ 60
        omega) (by rw [List.length_map]; exact h.2)
    have q1 := q.wt
    have q2 := q.dp
    refine ⟨?_, ?_, ?_⟩
    · show (okD (.str "move") && (okD (.lst (ex.map eW)) && true)) = true
      rw [j2.1, q.ok]
      rfl
    · show wtD (.str "move") + 1 + (wtD (.lst (ex.map eW)) + 1 + 0) ≤ 26000
      have := j2.2
      omega
    · show max 0 (max (dpD (.lst (ex.map eW))) 0) + 1 ≤ 3
      omega
end K01


set_option maxRecDepth 100000
set_option maxHeartbeats 4000000
namespace K01
open PySem L2 Evl Sh
theorem aft_le : ∀ cs : List Cmd, aft cs ≤ cs.length
  | [] => Nat.le_refl _
  | c :: cs => by
    have ih := aft_le cs
    have : c.aft ≤ 1 := by
      cases c with
      | one k =>
        show (if k = "drop" then 0 else 1) ≤ 1
        split <;> omega
      | two k y => exact Nat.le_refl _
      | join n a b y => exact Nat.le_refl _
    unfold aft at *
    rw [List.map_cons, List.sum_cons, List.length_cons]
    omega
theorem aft_cons (c : Cmd) (cs : List Cmd) : aft (c :: cs) = c.aft + aft cs := by
  unfold aft
  rw [List.map_cons, List.sum_cons]
theorem goL_inl {w : Int} : ∀ {cs : List Cmd} {i : Nat} {t l : Int} {j : Nat}, goL w cs i t l = .inl j → j ≤ i + cs.length
  | [], i, t, l, j, h => by cases h
  | c :: cs, i, t, l, j, h => by
    rw [goL] at h
    rw [List.length_cons]
    split at h
    · cases h
      omega
    · have := goL_inl h
      omega
theorem goL_inr {w : Int} : ∀ {cs : List Cmd} {i : Nat} {t l t' l' : Int}, goL w cs i t l = .inr (t', l') → l' = l + (aft cs : Int)
  | [], i, t, l, t', l', h => by
    cases h
    show l = l + 0
    omega
  | c :: cs, i, t, l, t', l', h => by
    rw [goL] at h
    split at h
    · cases h
    · have := goL_inr h
      rw [aft_cons]
      omega
theorem goE_some {w : Int} : ∀ {es : List (Int × Str)} {i j : Nat}, goE w es i = some j → j ≤ i + es.length
  | [], i, j, h => by cases h
  | e :: es, i, j, h => by
    rw [goE] at h
    rw [List.length_cons]
    split at h
    · cases h
      omega
    · have := goE_some h
      omega
theorem lineR_inl {w : Int} {l : Line} {j : Nat} (hl : Wk l) (h : lineR w l = .inl j) : j ≤ 400 := by
  cases l with
  | work d cs =>
    have hz := hl.2.2
    unfold lineR at h
    cases q : goL w cs 0 0 0 with
    | inl k =>
      simp only [q] at h
      cases h
      have := goL_inl q
      omega
    | inr p =>
      obtain ⟨t, a⟩ := p
      simp only [q] at h
      split at h
      · cases h
        exact hz
      · cases h
  | move ex =>
    have hz := hl.2
    unfold lineR at h
    cases q : goE w ex 0 with
    | some k =>
      simp only [q] at h
      cases h
      have := goE_some q
      omega
    | none =>
      simp only [q] at h
      cases h
theorem lineR_inr {w w' : Int} {l : Line} (hl : Wk l) (hw : 0 ≤ w ∧ w ≤ 400) (h : lineR w l = .inr w') : 0 ≤ w' ∧ w' ≤ 400 := by
  cases l with
  | work d cs =>
    have hz := hl.2.2
    unfold lineR at h
    cases q : goL w cs 0 0 0 with
    | inl k =>
      simp only [q] at h
      cases h
    | inr p =>
      obtain ⟨t, a⟩ := p
      simp only [q] at h
      split at h
      · cases h
      · cases h
        have := goL_inr q
        have := aft_le cs
        omega
  | move ex =>
    unfold lineR at h
    cases q : goE w ex 0 with
    | some k =>
      simp only [q] at h
      cases h
    | none =>
      simp only [q] at h
      cases h
      exact hw
theorem goC_small : ∀ (ls : List Line) (i : Nat) (ws : List Int) (w : Int), (∀ l ∈ ls, Wk l) → (∀ x ∈ ws, 0 ≤ x ∧ x ≤ 400) → (0 ≤ w ∧ w ≤ 400) →
    (match goC ls i ws w with
    | .inl (n, j) => n ≤ i + ls.length ∧ j ≤ 400
    | .inr ws' => (∀ x ∈ ws', 0 ≤ x ∧ x ≤ 400) ∧ ws'.length = ws.length + ls.length)
  | [], i, ws, w, hl, hs, hw => ⟨hs, rfl⟩
  | l :: ls, i, ws, w, hl, hs, hw => by
    rw [goC]
    cases q : lineR w l with
    | inl j => exact ⟨by omega, lineR_inl (hl l List.mem_cons_self) q⟩
    | inr w' =>
      have k := lineR_inr (hl l List.mem_cons_self) hw q
      have ih := goC_small ls (i + 1) (ws ++ [w']) w' (fun x hx => hl x (List.mem_cons_of_mem _ hx)) (fun x hx => by
        rcases List.mem_append.mp hx with hx | hx
        · exact hs x hx
        · rw [List.mem_singleton.mp hx]
          exact k) k
      simp only []
      cases q2 : goC ls (i + 1) (ws ++ [w']) w' with
      | inl p =>
        rw [q2] at ih
        obtain ⟨n, j⟩ := p
        exact ⟨by have := ih.1; rw [List.length_cons]; omega, ih.2⟩
      | inr ws' =>
        rw [q2] at ih
        refine ⟨ih.1, ?_⟩
        have := ih.2
        rw [List.length_append, List.length_singleton] at this
        rw [List.length_cons]
        omega
theorem sm_due {ls : List Line} (hl : ∀ l ∈ ls, Wk l) (hz : ls.length ≤ 100) : Sm (dueW (goC ls 0 [0] 0)) 4000 3 := by
  have g := goC_small ls 0 [0] 0 hl (fun x hx => by rw [List.mem_singleton.mp hx]; omega) (by omega)
  cases q : goC ls 0 [0] 0 with
  | inl p =>
    obtain ⟨n, j⟩ := p
    rw [q] at g
    obtain ⟨g1, g2⟩ := g
    refine ⟨?_, ?_, ?_⟩
    · show (okD (.int (n : Int)) && (okD (.int (j : Int)) && true)) = true
      rw [show okD (.int (n : Int)) = true from decide_eq_true (by omega), show okD (.int (j : Int)) = true from decide_eq_true (by omega)]
      rfl
    · show 31 + 1 + (31 + 1 + 0) ≤ 4000
      decide
    · show 1 ≤ 3
      decide
  | inr ws =>
    rw [q] at g
    obtain ⟨g1, g2⟩ := g
    have s := Sm.lst (l := ws.map W.int) (k := 31) (p := 0) (n := 101) (fun w hw => by
      obtain ⟨x, hx, rfl⟩ := List.mem_map.mp hw
      have := g1 x hx
      exact sm_int (by omega)) (by rw [List.length_map, g2, List.length_singleton]; omega)
    have j : okD (.str "counts") = true ∧ wtD (.str "counts") ≤ 6 := ⟨by decide +kernel, by decide +kernel⟩
    have s1 := s.wt
    have s2 := s.dp
    refine ⟨?_, ?_, ?_⟩
    · show (okD (.str "counts") && (okD (.lst (ws.map W.int)) && true)) = true
      rw [j.1, s.ok]
      rfl
    · show wtD (.str "counts") + 1 + (wtD (.lst (ws.map W.int)) + 1 + 0) ≤ 4000
      have := j.2
      omega
    · show max 0 (max (dpD (.lst (ws.map W.int))) 0) + 1 ≤ 3
      omega
theorem oNe_of {x y : W} {b : Bool} {st : Store} (h : oEq x y st = .ok (.bl b) st) : oNe x y st = .ok (.bl (!b)) st := by
  unfold oEq at h
  unfold oNe
  cases q : eqAny x y st with
  | none => rw [q] at h; cases h
  | some c =>
    rw [q] at h
    simp only [] at h
    cases h
    rfl
theorem law_true (ns : List Int) (_ : ns.length ≤ 63) : ∃ st, m_law [.fz (ns.map W.int)] [] = .ok (.bl true) st := by
  have l0 : (0 : Nat) ≤ sizeLine := Nat.zero_le _
  have l1 : (1 : Nat) ≤ sizeLine := line_ge (by decide)
  obtain ⟨c0, s1, ok1⟩ := state_ok ns []
  obtain ⟨ls1, cN, st1, a1, a2, _, a4, a5, a6, _⟩ := chart_run (most := 7) (lines := 6) ok1 (by decide) (by decide) (by decide) (by decide)
  -- perhaps a wide one
  have w1 : ∃ (ls : List Line) (st2 : Store), (∀ l ∈ ls, Line.ok l) ∧ 1 ≤ ls.length ∧ ls.length ≤ 20 ∧ StOk ns st2 0 ∧ sIf (dB (dEq (dCall m_take (dCons (dVar 1) (dCons (dC (.int 8)) dNil))) (dC (.int 1)))) (sSet 2 (dCall m_wide (dCons (dVar 1) (dCons (dC (.int 60)) dNil)))) sNil
      [some (.fz (ns.map W.int)), some (.cell 0), some (.lst (ls1.map lW)), none] st1 = .nx [some (.fz (ns.map W.int)), some (.cell 0), some (.lst (ls.map lW)), none] st2 := by
    obtain ⟨v, st', b1, b2, b3, b4, b5⟩ := take_fr a6 (k := 8) (by decide) (by decide)
    have t : dB (dEq (dCall m_take (dCons (dVar 1) (dCons (dC (.int 8)) dNil))) (dC (.int 1))) [some (.fz (ns.map W.int)), some (.cell 0), some (.lst (ls1.map lW)), none] st1 = .ok (decide (v = 1)) st' := rB (rOp (rCall (rCons (rV rfl) (rCons rC rNil)) b1) rC rfl)
    by_cases q : v = 1
    · obtain ⟨ls, st2, c1, c2, c3, c4, c5⟩ := wide_run b4
      exact ⟨ls, st2, c2, c3, c4, c5, sIf_t (t.trans (by rw [decide_eq_true q])) (sSet_at (rCall (rCons (rV rfl) (rCons rC rNil)) c1))⟩
    · exact ⟨ls1, st', a2, a4, by omega, b4, sIf_f (t.trans (by rw [decide_eq_false q])) sNil_at⟩
  obtain ⟨ls2, st2, d1, d2, d3, d4, d5⟩ := w1
  -- perhaps spoilt
  have w2 : ∃ (ls : List Line) (st3 : Store), (∀ l ∈ ls, Wk l) ∧ ls.length = ls2.length ∧ StOk ns st3 0 ∧ sIf (dB (dEq (dCall m_take (dCons (dVar 1) (dCons (dC (.int 2)) dNil))) (dC (.int 1)))) (sSet 2 (dCall m_spoilt (dCons (dVar 1) (dCons (dVar 2) dNil)))) sNil
      [some (.fz (ns.map W.int)), some (.cell 0), some (.lst (ls2.map lW)), none] st2 = .nx [some (.fz (ns.map W.int)), some (.cell 0), some (.lst (ls.map lW)), none] st3 := by
    obtain ⟨v, st', b1, b2, b3, b4, b5⟩ := take_fr d4 (k := 2) (by decide) (by decide)
    have t : dB (dEq (dCall m_take (dCons (dVar 1) (dCons (dC (.int 2)) dNil))) (dC (.int 1))) [some (.fz (ns.map W.int)), some (.cell 0), some (.lst (ls2.map lW)), none] st2 = .ok (decide (v = 1)) st' := rB (rOp (rCall (rCons (rV rfl) (rCons rC rNil)) b1) rC rfl)
    by_cases q : v = 1
    · obtain ⟨ls, st3, c1, c2, c3, c4⟩ := spoilt_run b4 d1 d2 (by omega)
      exact ⟨ls, st3, c2, c3, c4, sIf_t (t.trans (by rw [decide_eq_true q])) (sSet_at (rCall (rCons (rV rfl) (rCons (rV rfl) rNil)) c1))⟩
    · exact ⟨ls2, st', fun l hl => Wk.of (d1 l hl), rfl, b4, sIf_f (t.trans (by rw [decide_eq_false q])) sNil_at⟩
  obtain ⟨ls3, st3, e1, e2, e3, e4⟩ := w2
  -- perhaps the first line put last
  have w3 : ∃ (ls : List Line) (st4 : Store), (∀ l ∈ ls, Wk l) ∧ ls.length ≤ 20 ∧ sIf (dB (dEq (dCall m_take (dCons (dVar 1) (dCons (dC (.int 9)) dNil))) (dC (.int 1)))) (sSet 2 (dPure (dOpF oCat (dPure (dSl (dVar 2) (oSome (dC (.int 1))) oNone)) (dPure (dSl (dVar 2) oNone (oSome (dC (.int 1)))))))) sNil
      [some (.fz (ns.map W.int)), some (.cell 0), some (.lst (ls3.map lW)), none] st3 = .nx [some (.fz (ns.map W.int)), some (.cell 0), some (.lst (ls.map lW)), none] st4 := by
    obtain ⟨v, st', b1, b2, b3, b4, b5⟩ := take_fr e3 (k := 9) (by decide) (by decide)
    have t : dB (dEq (dCall m_take (dCons (dVar 1) (dCons (dC (.int 9)) dNil))) (dC (.int 1))) [some (.fz (ns.map W.int)), some (.cell 0), some (.lst (ls3.map lW)), none] st3 = .ok (decide (v = 1)) st' := rB (rOp (rCall (rCons (rV rfl) (rCons rC rNil)) b1) rC rfl)
    by_cases q : v = 1
    · refine ⟨ls3.drop 1 ++ ls3.take 1, st', fun l hl => ?_, by simp only [List.length_append, List.length_drop, List.length_take]; omega, sIf_t (t.trans (by rw [decide_eq_true q])) ?_⟩
      · rcases List.mem_append.mp hl with h | h
        · exact e1 l (List.mem_of_mem_drop h)
        · exact e1 l (List.mem_of_mem_take h)
      · have c1 : dSl (dVar 2) (oSome (dC (.int 1))) oNone [some (.fz (ns.map W.int)), some (.cell 0), some (.lst (ls3.map lW)), none] st' = .ok ((ls3.map lW).drop 1) st' := by
          rw [← cut_from]
          exact rSl (rV rfl) (rSome rC) rfl rfl
        have c2 : dSl (dVar 2) oNone (oSome (dC (.int 1))) [some (.fz (ns.map W.int)), some (.cell 0), some (.lst (ls3.map lW)), none] st' = .ok ((ls3.map lW).take 1) st' := by
          rw [← cut_to (show 1 ≤ (ls3.map lW).length by rw [List.length_map]; omega)]
          exact rSl (rV rfl) rfl (rSome rC) rfl
        rw [List.map_append, List.map_drop, List.map_take]
        exact sSet_at (rPure (rOpF (rPure c1) (rPure c2) (oCat_at rfl rfl (by simp only [List.length_drop, List.length_take, List.length_map]; omega))))
    · exact ⟨ls3, st', e1, by omega, sIf_f (t.trans (by rw [decide_eq_false q])) sNil_at⟩
  obtain ⟨ls, st4, f1, f2, f3⟩ := w3
  obtain ⟨st5, g1⟩ := check_run (ls := []) (fun l hl => by cases hl) (by decide) st4
  have pw : (2 : Nat) ^ 20 = 1048576 := by decide
  have sc := Sm.lst (l := ls.map lW) (k := 26000) (p := 3) (n := 20) (fun w hw => by obtain ⟨l, hl, rfl⟩ := List.mem_map.mp hw; exact sm_line (f1 l hl)) (by rw [List.length_map]; exact f2)
  have sc1 := sc.wt
  have sc2 := sc.dp
  have sd := sm_due f1 (by omega)
  have sd1 := sd.wt
  have sd2 := sd.dp
  have rc : ∀ st, cRepr [.lst (ls.map lW)] st = .ok (.str (shownW (.lst (ls.map lW)))) st := fun st => repr_at st sc.ok (by omega) (by omega) rfl
  generalize shownW (.lst (ls.map lW)) = text at rc
  have rd : ∀ st, cRepr [dueW (goC ls 0 [0] 0)] st = .ok (.str (shownW (dueW (goC ls 0 [0] 0)))) st := fun st => repr_at st sd.ok (by omega) (by omega) (by cases goC ls 0 [0] 0 <;> rfl)
  obtain ⟨st6, h1⟩ := told_run (fun l hl => f1 l hl) (by omega) st5
  obtain ⟨st7, h2⟩ := due_run (fun l hl => f1 l hl) (by omega) st6
  generalize dueW (goC ls 0 [0] 0) = due at rd h1 h2
  generalize shownW due = dt at rd
  have ne0 : oNe (.lst [.int 0]) (.lst [.int 0]) st5 = .ok (.bl false) st5 := oNe_of (eq_self_lst st5 (by decide) (by decide))
  refine ⟨st7, body_rt rfl ?_⟩
  unfold b_law
  refine sSeq_at (sSet_at (rCall (rCons (rV rfl) rNil) s1)) ?_
  refine sSeq_at (sSet_at (rCall (rCons (rV rfl) (rCons rC (rCons rC rNil))) a1)) ?_
  refine sSeq_at d5 (sSeq_at e4 (sSeq_at f3 ?_))
  refine sSeq_at (sIf_f (st1 := st5) (rB (rOp (x := .lst [.int 0]) (y := .lst [.int 0]) (rCallB (rCons (w := .lst []) (rPure (rLst rNil l0)) rNil) g1) (rPure (rLst (rCons rC rNil) l1)) ne0)) sNil_at) ?_
  refine sSeq_at (sSet_at (rCallB (rCons (rV rfl) rNil) (rc st5))) ?_
  refine sRet_at (rAndVT (st1 := st7) (rOp (x := .str dt) (y := .str dt) (rCallB (rCons (rCall (rCons (rV rfl) rNil) h1) rNil) (rd st6)) (rCallB (rCons (rCall (rCons (rV rfl) rNil) h2) rNil) (rd st7)) ?_) (rOp (x := .str text) (y := .str text) (rCallB (rCons (rV rfl) rNil) (rc st7)) (rV rfl) ?_))
  · rw [oEq_str, decide_eq_true rfl]
  · rw [oEq_str, decide_eq_true rfl]
end K01


set_option maxRecDepth 100000
set_option maxHeartbeats 4000000
namespace K01
open PySem L2 Evl Sh
abbrev SI_WrongChart : Stmt := (clsBody (topS 2)).getD 0 (.Pass ⟨0, 0, 0, 0⟩)
theorem sci_WrongChart : FnScope ["self", "line", "item"] ["self", "line", "item"] (defScope SI_WrongChart) := ⟨rfl, rfl, rfl, by decide +kernel, rfl, by decide +kernel, by decide +kernel⟩
theorem all_mk {l : PySem.W.OpenLaw} {w : World} {K : PySem.W.Frag} {h : Heap} {mg : MG} {fa : Addr} (X : K.In h) (G : h.Ns mainGlobals mg) (hfa : mg "law" = some (.ref fa))
    {c_KnitError c_WrongChart d_COLUMNS_TAKEN : Addr}
    (a_KnitError : PySem.W.nsIn K mainGlobals "KnitError" = some (some (.ref c_KnitError)))
    (a_WrongChart : PySem.W.nsIn K mainGlobals "WrongChart" = some (some (.ref c_WrongChart)))
    {nm_WrongChart q_WrongChart : Str} {N_WrongChart : Addr} {bs_WrongChart bm_WrongChart : List Value} {sn_WrongChart : List Str} {sub_WrongChart : List Value} {ab_WrongChart : Bool} {col_WrongChart : Option Bool} {dd_WrongChart : Option Addr} {k0_WrongChart k1_WrongChart k2_WrongChart k3_WrongChart k5_WrongChart : Option Value} {fI_WrongChart : Addr}
    (xL_WrongChart : K.lookup c_WrongChart = some (excClassObj nm_WrongChart q_WrongChart c_WrongChart N_WrongChart bs_WrongChart bm_WrongChart true sn_WrongChart sub_WrongChart ab_WrongChart col_WrongChart dd_WrongChart k0_WrongChart k1_WrongChart k2_WrongChart k3_WrongChart k5_WrongChart "ValueError.__new__"))
    (rv_WrongChart : PySem.HandSPX.refsVE bm_WrongChart = true)
    (sa_WrongChart : PySem.W.findIn K (.ref c_WrongChart) "__setattr__" = some (some (.builtin "object.__setattr__")))
    (eC_WrongChart : PySem.W.subIn K (.ref c_WrongChart) (.type "BaseException") = some true)
    (tC_WrongChart : PySem.W.typeIn K (.ref c_WrongChart) = some (.type "type"))
    (kC_WrongChart : PySem.W.keepIn K (.ref c_WrongChart) = true)
    (i1_WrongChart : PySem.W.findIn K (.ref c_WrongChart) "__init__" = some (some (.ref fI_WrongChart)))
    (i2_WrongChart : PySem.W.typeIn K (.ref fI_WrongChart) = some (.type "function"))
    {odI_WrongChart anI_WrongChart : Option Addr} {slI_WrongChart : Array (Option Value)} {ocI_WrongChart kVI_WrongChart dcI_WrongChart pmI_WrongChart cdI_WrongChart ctI_WrongChart : Value}
    (li_WrongChart : K.lookup fI_WrongChart = some ⟨ocI_WrongChart, odI_WrongChart, .func (PySem.W.fnOf "__init__" "WrongChart.__init__" (defArgs SI_WrongChart) (defBody SI_WrongChart) (defScope SI_WrongChart) .none kVI_WrongChart dcI_WrongChart pmI_WrongChart anI_WrongChart cdI_WrongChart ctI_WrongChart), slI_WrongChart⟩)
    (ci_WrongChart : PySem.W.codeIn K cdI_WrongChart "WrongChart.__init__" = true)
    (kI_WrongChart : PySem.W.keepIn K (.ref fI_WrongChart) = true)
    (n_WrongChart_line : PySem.W.findIn K (.ref c_WrongChart) "line" = some none)
    (n_WrongChart_item : PySem.W.findIn K (.ref c_WrongChart) "item" = some none)
    (ga_WrongChart : PySem.W.findIn K (.ref c_WrongChart) "__getattribute__" = some (some (.builtin "BaseException.__getattribute__")))
    (gg_WrongChart : PySem.W.findIn K (.ref c_WrongChart) "__getattr__" = some none)
    (hC_WrongChart : PySem.W.hasDictIn K c_WrongChart = true)
    (ha_WrongChart : PySem.W.findIn K (.ref c_WrongChart) "__class__" = some (some (.builtin "object.__class__")))
    (hn : PySem.W.specialIn K (.builtin "object.__class__") "__get__" = some (some (.builtin "getset_descriptor.__get__")))
    (ht : PySem.W.takesIn K (.builtin "object.__class__") = some true)
    (hm_WrongChart : PySem.W.mroIn K c_WrongChart (.type "object") = some true)
    (a_COLUMNS_TAKEN : PySem.W.nsIn K mainGlobals "COLUMNS_TAKEN" = some (some (.ref d_COLUMNS_TAKEN)))
    {es_COLUMNS_TAKEN : Array DictEntry} {nn_COLUMNS_TAKEN : Nat}
    (xL_COLUMNS_TAKEN : K.lookup d_COLUMNS_TAKEN = some { cls := .type "dict", data := .dict es_COLUMNS_TAKEN nn_COLUMNS_TAKEN })
    (tl_COLUMNS_TAKEN : PySem.W.KeysLit w.params es_COLUMNS_TAKEN.toList)
    {u_COLUMNS_TAKEN_0 : Value}
    (e_COLUMNS_TAKEN_0 : PySem.W.nsIn K d_COLUMNS_TAKEN "knit" = some (some u_COLUMNS_TAKEN_0))
    (v_COLUMNS_TAKEN_0 : ∃ t, u_COLUMNS_TAKEN_0 = .int 1 t)
    {u_COLUMNS_TAKEN_1 : Value}
    (e_COLUMNS_TAKEN_1 : PySem.W.nsIn K d_COLUMNS_TAKEN "purl" = some (some u_COLUMNS_TAKEN_1))
    (v_COLUMNS_TAKEN_1 : ∃ t, u_COLUMNS_TAKEN_1 = .int 1 t)
    {u_COLUMNS_TAKEN_2 : Value}
    (e_COLUMNS_TAKEN_2 : PySem.W.nsIn K d_COLUMNS_TAKEN "tuck" = some (some u_COLUMNS_TAKEN_2))
    (v_COLUMNS_TAKEN_2 : ∃ t, u_COLUMNS_TAKEN_2 = .int 0 t)
    {u_COLUMNS_TAKEN_3 : Value}
    (e_COLUMNS_TAKEN_3 : PySem.W.nsIn K d_COLUMNS_TAKEN "pass" = some (some u_COLUMNS_TAKEN_3))
    (v_COLUMNS_TAKEN_3 : ∃ t, u_COLUMNS_TAKEN_3 = .int 1 t)
    {u_COLUMNS_TAKEN_4 : Value}
    (e_COLUMNS_TAKEN_4 : PySem.W.nsIn K d_COLUMNS_TAKEN "drop" = some (some u_COLUMNS_TAKEN_4))
    (v_COLUMNS_TAKEN_4 : ∃ t, u_COLUMNS_TAKEN_4 = .int 1 t)
    {u_MOST_JOINED : Value}
    (a_MOST_JOINED : PySem.W.nsIn K mainGlobals "MOST_JOINED" = some (some u_MOST_JOINED))
    (v_MOST_JOINED : ∃ t, u_MOST_JOINED = .int 4 t)
    (ib_WrongChart : PySem.W.isClsIn K c_WrongChart = true)
    (su_WrongChart_WrongChart : PySem.W.subIn K (.ref c_WrongChart) (.ref c_WrongChart) = some true)
    (ib_KnitError : PySem.W.isClsIn K c_KnitError = true)
    (tC_KnitError : PySem.W.typeIn K (.ref c_KnitError) = some (.type "type"))
    (su_WrongChart_KnitError : PySem.W.subIn K (.ref c_WrongChart) (.ref c_KnitError) = some true)
    (su_WrongChart_ValueError : PySem.W.subIn K (.ref c_WrongChart) (.type "ValueError") = some true)
    {f0 : Addr} {od0 an0 : Option Addr} {sl0 : Array (Option Value)} {oc0 kV0 dc0 pm0 cd0 ct0 : Value}
    (a0 : PySem.W.nsIn K mainGlobals "columns_taken" = some (some (.ref f0)))
    (l0 : K.lookup f0 = some ⟨oc0, od0, .func (PySem.W.fnOf "columns_taken" "columns_taken" (defArgs S_columns_taken) (defBody S_columns_taken) (defScope S_columns_taken) .none kV0 dc0 pm0 an0 cd0 ct0), sl0⟩)
    (c0 : PySem.W.codeIn K cd0 "columns_taken" = true)
    (k0 : PySem.W.keepIn K (.ref f0) = true)
    {f1 : Addr} {od1 an1 : Option Addr} {sl1 : Array (Option Value)} {oc1 kV1 dc1 pm1 cd1 ct1 : Value}
    (a1 : PySem.W.nsIn K mainGlobals "width_behind" = some (some (.ref f1)))
    (l1 : K.lookup f1 = some ⟨oc1, od1, .func (PySem.W.fnOf "width_behind" "width_behind" (defArgs S_width_behind) (defBody S_width_behind) (defScope S_width_behind) .none kV1 dc1 pm1 an1 cd1 ct1), sl1⟩)
    (c1 : PySem.W.codeIn K cd1 "width_behind" = true)
    (k1 : PySem.W.keepIn K (.ref f1) = true)
    {f2 : Addr} {od2 an2 : Option Addr} {sl2 : Array (Option Value)} {oc2 kV2 dc2 pm2 cd2 ct2 : Value}
    (a2 : PySem.W.nsIn K mainGlobals "check_exchanges" = some (some (.ref f2)))
    (l2 : K.lookup f2 = some ⟨oc2, od2, .func (PySem.W.fnOf "check_exchanges" "check_exchanges" (defArgs S_check_exchanges) (defBody S_check_exchanges) (defScope S_check_exchanges) .none kV2 dc2 pm2 an2 cd2 ct2), sl2⟩)
    (c2 : PySem.W.codeIn K cd2 "check_exchanges" = true)
    (k2 : PySem.W.keepIn K (.ref f2) = true)
    {f3 : Addr} {od3 an3 : Option Addr} {sl3 : Array (Option Value)} {oc3 kV3 dc3 pm3 cd3 ct3 : Value}
    (a3 : PySem.W.nsIn K mainGlobals "check_chart" = some (some (.ref f3)))
    (l3 : K.lookup f3 = some ⟨oc3, od3, .func (PySem.W.fnOf "check_chart" "check_chart" (defArgs S_check_chart) (defBody S_check_chart) (defScope S_check_chart) .none kV3 dc3 pm3 an3 cd3 ct3), sl3⟩)
    (c3 : PySem.W.codeIn K cd3 "check_chart" = true)
    (k3 : PySem.W.keepIn K (.ref f3) = true)
    {f4 : Addr} {od4 an4 : Option Addr} {sl4 : Array (Option Value)} {oc4 kV4 dc4 pm4 cd4 ct4 : Value}
    (a4 : PySem.W.nsIn K mainGlobals "_law_state" = some (some (.ref f4)))
    (l4 : K.lookup f4 = some ⟨oc4, od4, .func (PySem.W.fnOf "_law_state" "_law_state" (defArgs S_state) (defBody S_state) (defScope S_state) .none kV4 dc4 pm4 an4 cd4 ct4), sl4⟩)
    (c4 : PySem.W.codeIn K cd4 "_law_state" = true)
    (k4 : PySem.W.keepIn K (.ref f4) = true)
    {f5 : Addr} {od5 an5 : Option Addr} {sl5 : Array (Option Value)} {oc5 kV5 dc5 pm5 cd5 ct5 : Value}
    (a5 : PySem.W.nsIn K mainGlobals "_law_take" = some (some (.ref f5)))
    (l5 : K.lookup f5 = some ⟨oc5, od5, .func (PySem.W.fnOf "_law_take" "_law_take" (defArgs S_take) (defBody S_take) (defScope S_take) .none kV5 dc5 pm5 an5 cd5 ct5), sl5⟩)
    (c5 : PySem.W.codeIn K cd5 "_law_take" = true)
    (k5 : PySem.W.keepIn K (.ref f5) = true)
    {f6 : Addr} {od6 an6 : Option Addr} {sl6 : Array (Option Value)} {oc6 kV6 dc6 pm6 cd6 ct6 : Value}
    (a6 : PySem.W.nsIn K mainGlobals "_law_yarn" = some (some (.ref f6)))
    (l6 : K.lookup f6 = some ⟨oc6, od6, .func (PySem.W.fnOf "_law_yarn" "_law_yarn" (defArgs S_yarn) (defBody S_yarn) (defScope S_yarn) .none kV6 dc6 pm6 an6 cd6 ct6), sl6⟩)
    (c6 : PySem.W.codeIn K cd6 "_law_yarn" = true)
    (k6 : PySem.W.keepIn K (.ref f6) = true)
    {f7 : Addr} {od7 an7 : Option Addr} {sl7 : Array (Option Value)} {oc7 kV7 dc7 pm7 cd7 ct7 : Value}
    (a7 : PySem.W.nsIn K mainGlobals "_law_join" = some (some (.ref f7)))
    (l7 : K.lookup f7 = some ⟨oc7, od7, .func (PySem.W.fnOf "_law_join" "_law_join" (defArgs S_join) (defBody S_join) (defScope S_join) .none kV7 dc7 pm7 an7 cd7 ct7), sl7⟩)
    (c7 : PySem.W.codeIn K cd7 "_law_join" = true)
    (k7 : PySem.W.keepIn K (.ref f7) = true)
    {f8 : Addr} {od8 an8 : Option Addr} {sl8 : Array (Option Value)} {oc8 kV8 dc8 pm8 cd8 ct8 : Value}
    (a8 : PySem.W.nsIn K mainGlobals "_law_commands" = some (some (.ref f8)))
    (l8 : K.lookup f8 = some ⟨oc8, od8, .func (PySem.W.fnOf "_law_commands" "_law_commands" (defArgs S_commands) (defBody S_commands) (defScope S_commands) .none kV8 dc8 pm8 an8 cd8 ct8), sl8⟩)
    (c8 : PySem.W.codeIn K cd8 "_law_commands" = true)
    (k8 : PySem.W.keepIn K (.ref f8) = true)
    {f9 : Addr} {od9 an9 : Option Addr} {sl9 : Array (Option Value)} {oc9 kV9 dc9 pm9 cd9 ct9 : Value}
    (a9 : PySem.W.nsIn K mainGlobals "_law_count" = some (some (.ref f9)))
    (l9 : K.lookup f9 = some ⟨oc9, od9, .func (PySem.W.fnOf "_law_count" "_law_count" (defArgs S_count) (defBody S_count) (defScope S_count) .none kV9 dc9 pm9 an9 cd9 ct9), sl9⟩)
    (c9 : PySem.W.codeIn K cd9 "_law_count" = true)
    (k9 : PySem.W.keepIn K (.ref f9) = true)
    {f10 : Addr} {od10 an10 : Option Addr} {sl10 : Array (Option Value)} {oc10 kV10 dc10 pm10 cd10 ct10 : Value}
    (a10 : PySem.W.nsIn K mainGlobals "_law_chart" = some (some (.ref f10)))
    (l10 : K.lookup f10 = some ⟨oc10, od10, .func (PySem.W.fnOf "_law_chart" "_law_chart" (defArgs S_chart) (defBody S_chart) (defScope S_chart) .none kV10 dc10 pm10 an10 cd10 ct10), sl10⟩)
    (c10 : PySem.W.codeIn K cd10 "_law_chart" = true)
    (k10 : PySem.W.keepIn K (.ref f10) = true)
    {f11 : Addr} {od11 an11 : Option Addr} {sl11 : Array (Option Value)} {oc11 kV11 dc11 pm11 cd11 ct11 : Value}
    (a11 : PySem.W.nsIn K mainGlobals "_law_wide" = some (some (.ref f11)))
    (l11 : K.lookup f11 = some ⟨oc11, od11, .func (PySem.W.fnOf "_law_wide" "_law_wide" (defArgs S_wide) (defBody S_wide) (defScope S_wide) .none kV11 dc11 pm11 an11 cd11 ct11), sl11⟩)
    (c11 : PySem.W.codeIn K cd11 "_law_wide" = true)
    (k11 : PySem.W.keepIn K (.ref f11) = true)
    {f12 : Addr} {od12 an12 : Option Addr} {sl12 : Array (Option Value)} {oc12 kV12 dc12 pm12 cd12 ct12 : Value}
    (a12 : PySem.W.nsIn K mainGlobals "_law_odd_join" = some (some (.ref f12)))
    (l12 : K.lookup f12 = some ⟨oc12, od12, .func (PySem.W.fnOf "_law_odd_join" "_law_odd_join" (defArgs S_odd_join) (defBody S_odd_join) (defScope S_odd_join) .none kV12 dc12 pm12 an12 cd12 ct12), sl12⟩)
    (c12 : PySem.W.codeIn K cd12 "_law_odd_join" = true)
    (k12 : PySem.W.keepIn K (.ref f12) = true)
    {f13 : Addr} {od13 an13 : Option Addr} {sl13 : Array (Option Value)} {oc13 kV13 dc13 pm13 cd13 ct13 : Value}
    (a13 : PySem.W.nsIn K mainGlobals "_law_spoilt" = some (some (.ref f13)))
    (l13 : K.lookup f13 = some ⟨oc13, od13, .func (PySem.W.fnOf "_law_spoilt" "_law_spoilt" (defArgs S_spoilt) (defBody S_spoilt) (defScope S_spoilt) .none kV13 dc13 pm13 an13 cd13 ct13), sl13⟩)
    (c13 : PySem.W.codeIn K cd13 "_law_spoilt" = true)
    (k13 : PySem.W.keepIn K (.ref f13) = true)
    {f14 : Addr} {od14 an14 : Option Addr} {sl14 : Array (Option Value)} {oc14 kV14 dc14 pm14 cd14 ct14 : Value}
    (a14 : PySem.W.nsIn K mainGlobals "_law_takes" = some (some (.ref f14)))
    (l14 : K.lookup f14 = some ⟨oc14, od14, .func (PySem.W.fnOf "_law_takes" "_law_takes" (defArgs S_takes) (defBody S_takes) (defScope S_takes) .none kV14 dc14 pm14 an14 cd14 ct14), sl14⟩)
    (c14 : PySem.W.codeIn K cd14 "_law_takes" = true)
    (k14 : PySem.W.keepIn K (.ref f14) = true)
    {f15 : Addr} {od15 an15 : Option Addr} {sl15 : Array (Option Value)} {oc15 kV15 dc15 pm15 cd15 ct15 : Value}
    (a15 : PySem.W.nsIn K mainGlobals "_law_work" = some (some (.ref f15)))
    (l15 : K.lookup f15 = some ⟨oc15, od15, .func (PySem.W.fnOf "_law_work" "_law_work" (defArgs S_work) (defBody S_work) (defScope S_work) .none kV15 dc15 pm15 an15 cd15 ct15), sl15⟩)
    (c15 : PySem.W.codeIn K cd15 "_law_work" = true)
    (k15 : PySem.W.keepIn K (.ref f15) = true)
    {f16 : Addr} {od16 an16 : Option Addr} {sl16 : Array (Option Value)} {oc16 kV16 dc16 pm16 cd16 ct16 : Value}
    (a16 : PySem.W.nsIn K mainGlobals "_law_due" = some (some (.ref f16)))
    (l16 : K.lookup f16 = some ⟨oc16, od16, .func (PySem.W.fnOf "_law_due" "_law_due" (defArgs S_due) (defBody S_due) (defScope S_due) .none kV16 dc16 pm16 an16 cd16 ct16), sl16⟩)
    (c16 : PySem.W.codeIn K cd16 "_law_due" = true)
    (k16 : PySem.W.keepIn K (.ref f16) = true)
    {f17 : Addr} {od17 an17 : Option Addr} {sl17 : Array (Option Value)} {oc17 kV17 dc17 pm17 cd17 ct17 : Value}
    (a17 : PySem.W.nsIn K mainGlobals "_law_told" = some (some (.ref f17)))
    (l17 : K.lookup f17 = some ⟨oc17, od17, .func (PySem.W.fnOf "_law_told" "_law_told" (defArgs S_told) (defBody S_told) (defScope S_told) .none kV17 dc17 pm17 an17 cd17 ct17), sl17⟩)
    (c17 : PySem.W.codeIn K cd17 "_law_told" = true)
    (k17 : PySem.W.keepIn K (.ref f17) = true)
    {f18 : Addr} {od18 an18 : Option Addr} {sl18 : Array (Option Value)} {oc18 kV18 dc18 pm18 cd18 ct18 : Value}
    (a18 : PySem.W.nsIn K mainGlobals "law" = some (some (.ref f18)))
    (l18 : K.lookup f18 = some ⟨oc18, od18, .func (PySem.W.fnOf "law" "law" (defArgs S_law) (defBody S_law) (defScope S_law) .none kV18 dc18 pm18 an18 cd18 ct18), sl18⟩)
    (c18 : PySem.W.codeIn K cd18 "law" = true)
    (k18 : PySem.W.keepIn K (.ref f18) = true)
    (z_ValueError : PySem.W.nsIn K mainGlobals "ValueError" = some none)
    (z_abs : PySem.W.nsIn K mainGlobals "abs" = some none)
    (z_enumerate : PySem.W.nsIn K mainGlobals "enumerate" = some none)
    (z_int : PySem.W.nsIn K mainGlobals "int" = some none)
    (z_isinstance : PySem.W.nsIn K mainGlobals "isinstance" = some none)
    (z_len : PySem.W.nsIn K mainGlobals "len" = some none)
    (z_list : PySem.W.nsIn K mainGlobals "list" = some none)
    (z_min : PySem.W.nsIn K mainGlobals "min" = some none)
    (z_range : PySem.W.nsIn K mainGlobals "range" = some none)
    (z_repr : PySem.W.nsIn K mainGlobals "repr" = some none)
    (z_sum : PySem.W.nsIn K mainGlobals "sum" = some none)
    : ∃ fd : FuncData, (∀ (s : Shared) (u : Value), BindsTo s fd ⟨[u], []⟩ [("script", u)]) ∧ ∀ base : Heap, K.In base → base.Ns mainGlobals mg → RunAt callerA l.prog w K mg base fa fd ["script"] (spM K mg m_law) := by
  have e := hfa.symm.trans (PySem.W.mg_of X G a18)
  cases e
  have F0 := fun_mk (st := S_columns_taken) l0 c0 k0
  have F1 := fun_mk (st := S_width_behind) l1 c1 k1
  have F2 := fun_mk (st := S_check_exchanges) l2 c2 k2
  have F3 := fun_mk (st := S_check_chart) l3 c3 k3
  have F4 := fun_mk (st := S_state) l4 c4 k4
  have F5 := fun_mk (st := S_take) l5 c5 k5
  have F6 := fun_mk (st := S_yarn) l6 c6 k6
  have F7 := fun_mk (st := S_join) l7 c7 k7
  have F8 := fun_mk (st := S_commands) l8 c8 k8
  have F9 := fun_mk (st := S_count) l9 c9 k9
  have F10 := fun_mk (st := S_chart) l10 c10 k10
  have F11 := fun_mk (st := S_wide) l11 c11 k11
  have F12 := fun_mk (st := S_odd_join) l12 c12 k12
  have F13 := fun_mk (st := S_spoilt) l13 c13 k13
  have F14 := fun_mk (st := S_takes) l14 c14 k14
  have F15 := fun_mk (st := S_work) l15 c15 k15
  have F16 := fun_mk (st := S_due) l16 c16 k16
  have F17 := fun_mk (st := S_told) l17 c17 k17
  have F18 := fun_mk (st := S_law) l18 c18 k18
  have b0 := F0.binds (ps := ["command"]) fun _ _ _ _ _ _ us hl => match us, hl with | [_], _ => rfl
  have b1 := F1.binds (ps := ["commands", "width", "line"]) fun _ _ _ _ _ _ us hl => match us, hl with | [_, _, _], _ => rfl
  have b2 := F2.binds (ps := ["exchanges", "width", "line"]) fun _ _ _ _ _ _ us hl => match us, hl with | [_, _, _], _ => rfl
  have b3 := F3.binds (ps := ["chart"]) fun _ _ _ _ _ _ us hl => match us, hl with | [_], _ => rfl
  have b4 := F4.binds (ps := ["script"]) fun _ _ _ _ _ _ us hl => match us, hl with | [_], _ => rfl
  have b5 := F5.binds (ps := ["state", "many"]) fun _ _ _ _ _ _ us hl => match us, hl with | [_, _], _ => rfl
  have b6 := F6.binds (ps := ["state"]) fun _ _ _ _ _ _ us hl => match us, hl with | [_], _ => rfl
  have b7 := F7.binds (ps := ["state", "left"]) fun _ _ _ _ _ _ us hl => match us, hl with | [_, _], _ => rfl
  have b8 := F8.binds (ps := ["state", "count", "most"]) fun _ _ _ _ _ _ us hl => match us, hl with | [_, _, _], _ => rfl
  have b9 := F9.binds (ps := ["commands"]) fun _ _ _ _ _ _ us hl => match us, hl with | [_], _ => rfl
  have b10 := F10.binds (ps := ["state", "most", "lines"]) fun _ _ _ _ _ _ us hl => match us, hl with | [_, _, _], _ => rfl
  have b11 := F11.binds (ps := ["state", "most"]) fun _ _ _ _ _ _ us hl => match us, hl with | [_, _], _ => rfl
  have b12 := F12.binds (ps := ["state"]) fun _ _ _ _ _ _ us hl => match us, hl with | [_], _ => rfl
  have b13 := F13.binds (ps := ["state", "chart"]) fun _ _ _ _ _ _ us hl => match us, hl with | [_, _], _ => rfl
  have b14 := F14.binds (ps := ["command"]) fun _ _ _ _ _ _ us hl => match us, hl with | [_], _ => rfl
  have b15 := F15.binds (ps := ["commands", "count"]) fun _ _ _ _ _ _ us hl => match us, hl with | [_, _], _ => rfl
  have b16 := F16.binds (ps := ["chart"]) fun _ _ _ _ _ _ us hl => match us, hl with | [_], _ => rfl
  have b17 := F17.binds (ps := ["chart"]) fun _ _ _ _ _ _ us hl => match us, hl with | [_], _ => rfl
  have z_ValueError := PySem.W.mg_none_of X G z_ValueError
  have z_abs := PySem.W.mg_none_of X G z_abs
  have z_enumerate := PySem.W.mg_none_of X G z_enumerate
  have z_int := PySem.W.mg_none_of X G z_int
  have z_isinstance := PySem.W.mg_none_of X G z_isinstance
  have z_len := PySem.W.mg_none_of X G z_len
  have z_list := PySem.W.mg_none_of X G z_list
  have z_min := PySem.W.mg_none_of X G z_min
  have z_range := PySem.W.mg_none_of X G z_range
  have z_repr := PySem.W.mg_none_of X G z_repr
  have z_sum := PySem.W.mg_none_of X G z_sum
  have FI_WrongChart := fun_mk (st := SI_WrongChart) li_WrongChart ci_WrongChart kI_WrongChart
  have bI_WrongChart := FI_WrongChart.binds (ps := ["self", "line", "item"]) fun _ _ _ _ _ _ us hl => match us, hl with | [_, _, _], _ => rfl
  refine ⟨PySem.W.fnOf "law" "law" (defArgs S_law) (defBody S_law) (defScope S_law) .none kV18 dc18 pm18 an18 cd18 ct18, fun s v => .of_eq rfl, fun base _ _ => ?_⟩
  have EX_WrongChart := exCls2 (P := l.prog) (w := w) (base := base) (x := "WrongChart") (PySem.W.mg_of X G a_WrongChart) ⟨⟨_, _, _, _, _, _, _, _, _, _, _, _, _, _, _, xL_WrongChart, rv_WrongChart⟩, sa_WrongChart, eC_WrongChart, tC_WrongChart, kC_WrongChart⟩ FI_WrongChart i1_WrongChart i2_WrongChart bI_WrongChart sci_WrongChart rfl n_WrongChart_line n_WrongChart_item ⟨.inl rfl, .inl rfl, .inl rfl⟩ ⟨by decide, by decide⟩ ⟨by decide, by decide⟩
  have h_columns_taken := has_columns_taken (P := l.prog) (w := w) (base := base) F0 (PySem.W.mg_of X G a0) b0 (PySem.W.mg_of X G a_COLUMNS_TAKEN) (tab_int xL_COLUMNS_TAKEN tl_COLUMNS_TAKEN e_COLUMNS_TAKEN_0 v_COLUMNS_TAKEN_0 (tab_int xL_COLUMNS_TAKEN tl_COLUMNS_TAKEN e_COLUMNS_TAKEN_1 v_COLUMNS_TAKEN_1 (tab_int xL_COLUMNS_TAKEN tl_COLUMNS_TAKEN e_COLUMNS_TAKEN_2 v_COLUMNS_TAKEN_2 (tab_int xL_COLUMNS_TAKEN tl_COLUMNS_TAKEN e_COLUMNS_TAKEN_3 v_COLUMNS_TAKEN_3 (tab_int xL_COLUMNS_TAKEN tl_COLUMNS_TAKEN e_COLUMNS_TAKEN_4 v_COLUMNS_TAKEN_4 tab_nil)))))
  have h_width_behind := has_width_behind (P := l.prog) (w := w) (base := base) F1 (PySem.W.mg_of X G a1) b1 h_columns_taken z_enumerate z_len (gint_mk X G a_MOST_JOINED v_MOST_JOINED) EX_WrongChart
  have h_check_exchanges := has_check_exchanges (P := l.prog) (w := w) (base := base) F2 (PySem.W.mg_of X G a2) b2 z_enumerate EX_WrongChart
  have h_check_chart := has_check_chart (P := l.prog) (w := w) (base := base) F3 (PySem.W.mg_of X G a3) b3 h_width_behind h_check_exchanges z_enumerate
  have h_state := has_state (P := l.prog) (w := w) (base := base) F4 (PySem.W.mg_of X G a4) b4 z_abs z_int z_len
  have h_take := has_take (P := l.prog) (w := w) (base := base) F5 (PySem.W.mg_of X G a5) b5 z_abs z_int z_len
  have h_yarn := has_yarn (P := l.prog) (w := w) (base := base) F6 (PySem.W.mg_of X G a6) b6 h_take
  have h_join := has_join (P := l.prog) (w := w) (base := base) F7 (PySem.W.mg_of X G a7) b7 h_take h_yarn z_min
  have h_commands := has_commands (P := l.prog) (w := w) (base := base) F8 (PySem.W.mg_of X G a8) b8 h_take h_yarn h_join z_int z_range
  have h_count := has_count (P := l.prog) (w := w) (base := base) F9 (PySem.W.mg_of X G a9) b9 z_int z_sum
  have h_chart := has_chart (P := l.prog) (w := w) (base := base) F10 (PySem.W.mg_of X G a10) b10 h_take h_yarn h_commands h_count z_len z_range
  have h_wide := has_wide (P := l.prog) (w := w) (base := base) F11 (PySem.W.mg_of X G a11) b11 h_take h_yarn h_join z_range
  have h_odd_join := has_odd_join (P := l.prog) (w := w) (base := base) F12 (PySem.W.mg_of X G a12) b12 h_take h_yarn
  have h_spoilt := has_spoilt (P := l.prog) (w := w) (base := base) F13 (PySem.W.mg_of X G a13) b13 h_take h_odd_join z_len z_list
  have h_takes := has_takes (P := l.prog) (w := w) (base := base) F14 (PySem.W.mg_of X G a14) b14 z_int
  have h_work := has_work (P := l.prog) (w := w) (base := base) F15 (PySem.W.mg_of X G a15) b15 h_takes z_int z_len z_range
  have h_due := has_due (P := l.prog) (w := w) (base := base) F16 (PySem.W.mg_of X G a16) b16 h_work z_len z_range
  have h_told := has_told (P := l.prog) (w := w) (base := base) F17 (PySem.W.mg_of X G a17) b17 h_check_chart z_ValueError z_isinstance (PySem.W.mg_of X G a_WrongChart) (exm_own eC_WrongChart ib_WrongChart tC_WrongChart su_WrongChart_WrongChart) ⟨ga_WrongChart, gg_WrongChart, eC_WrongChart, hC_WrongChart, ha_WrongChart, hn, ht, hm_WrongChart⟩ ib_WrongChart (PySem.W.mg_of X G a_KnitError) (kit_own ib_KnitError tC_KnitError su_WrongChart_KnitError) (kit_bi (by decide +kernel) su_WrongChart_ValueError) ⟨ga_WrongChart, gg_WrongChart, eC_WrongChart, hC_WrongChart⟩ n_WrongChart_line n_WrongChart_item
  exact run_law (P := l.prog) (w := w) F18 h_check_chart h_state h_take h_chart h_wide h_spoilt h_due h_told z_repr
end K01
open PySem PySem.W PyProof.Rows
set_option maxHeartbeats 0 in
theorem PySem.Challenge.cw_heldloops_k01_checked_charts_holds : PySem.Challenge.rw_heldloops_k01_checked_charts.Holds := by
  w_on; o_law; k_head; (case hw => w_witness2)
  k_fill
  refine Sh.end_of (l := PySem.Challenge.rw_heldloops_k01_checked_charts) (n := 63) (x := "script") (f := K01.m_law) rfl (by decide) rfl (fun w h Y => PySem.W.kIn_of Y) ?F K01.law_true
  case F =>
    intro w mg fa h KX G hmg
    refine' K01.all_mk KX G hmg ?a_KnitError ?a_WrongChart ?xL_WrongChart ?rv_WrongChart ?sa_WrongChart ?eC_WrongChart ?tC_WrongChart ?kC_WrongChart ?i1_WrongChart ?i2_WrongChart ?li_WrongChart ?ci_WrongChart ?kI_WrongChart ?n_WrongChart_line ?n_WrongChart_item ?ga_WrongChart ?gg_WrongChart ?hC_WrongChart ?ha_WrongChart ?hn ?ht ?hm_WrongChart ?a_COLUMNS_TAKEN ?xL_COLUMNS_TAKEN ?tl_COLUMNS_TAKEN ?e_COLUMNS_TAKEN_0 ?v_COLUMNS_TAKEN_0 ?e_COLUMNS_TAKEN_1 ?v_COLUMNS_TAKEN_1 ?e_COLUMNS_TAKEN_2 ?v_COLUMNS_TAKEN_2 ?e_COLUMNS_TAKEN_3 ?v_COLUMNS_TAKEN_3 ?e_COLUMNS_TAKEN_4 ?v_COLUMNS_TAKEN_4 ?a_MOST_JOINED ?v_MOST_JOINED ?ib_WrongChart ?su_WrongChart_WrongChart ?ib_KnitError ?tC_KnitError ?su_WrongChart_KnitError ?su_WrongChart_ValueError ?a0 ?l0 ?c0 ?k0 ?a1 ?l1 ?c1 ?k1 ?a2 ?l2 ?c2 ?k2 ?a3 ?l3 ?c3 ?k3 ?a4 ?l4 ?c4 ?k4 ?a5 ?l5 ?c5 ?k5 ?a6 ?l6 ?c6 ?k6 ?a7 ?l7 ?c7 ?k7 ?a8 ?l8 ?c8 ?k8 ?a9 ?l9 ?c9 ?k9 ?a10 ?l10 ?c10 ?k10 ?a11 ?l11 ?c11 ?k11 ?a12 ?l12 ?c12 ?k12 ?a13 ?l13 ?c13 ?k13 ?a14 ?l14 ?c14 ?k14 ?a15 ?l15 ?c15 ?k15 ?a16 ?l16 ?c16 ?k16 ?a17 ?l17 ?c17 ?k17 ?a18 ?l18 ?c18 ?k18 ?z_ValueError ?z_abs ?z_enumerate ?z_int ?z_isinstance ?z_len ?z_list ?z_min ?z_range ?z_repr ?z_sum
    (case a_KnitError => k_is)
    (case a_WrongChart => k_is)
    (case xL_WrongChart => k_is)
    (case rv_WrongChart => first | (decide +kernel) | k_is)
    (case sa_WrongChart => k_is)
    (case eC_WrongChart => k_is)
    (case tC_WrongChart => k_is)
    (case kC_WrongChart => k_is)
    (case i1_WrongChart => k_is)
    (case i2_WrongChart => k_is)
    (case li_WrongChart => k_is)
    (case ci_WrongChart => k_is)
    (case kI_WrongChart => k_is)
    (case n_WrongChart_line => k_is)
    (case n_WrongChart_item => k_is)
    (case ga_WrongChart => k_is)
    (case gg_WrongChart => k_is)
    (case hC_WrongChart => k_is)
    (case ha_WrongChart => k_is)
    (case hn => k_is)
    (case ht => k_is)
    (case hm_WrongChart => k_is)
    (case a_COLUMNS_TAKEN => k_is)
    (case xL_COLUMNS_TAKEN => k_is)
    (case tl_COLUMNS_TAKEN => repeat (first | exact True.intro | refine ⟨⟨_, _, rfl, rfl⟩, ?_⟩))
    (case e_COLUMNS_TAKEN_0 => k_is)
    (case v_COLUMNS_TAKEN_0 => exact ⟨_, rfl⟩)
    (case e_COLUMNS_TAKEN_1 => k_is)
    (case v_COLUMNS_TAKEN_1 => exact ⟨_, rfl⟩)
    (case e_COLUMNS_TAKEN_2 => k_is)
    (case v_COLUMNS_TAKEN_2 => exact ⟨_, rfl⟩)
    (case e_COLUMNS_TAKEN_3 => k_is)
    (case v_COLUMNS_TAKEN_3 => exact ⟨_, rfl⟩)
    (case e_COLUMNS_TAKEN_4 => k_is)
    (case v_COLUMNS_TAKEN_4 => exact ⟨_, rfl⟩)
    (case a_MOST_JOINED => k_is)
    (case v_MOST_JOINED => exact ⟨_, rfl⟩)
    (case ib_WrongChart => k_is)
    (case su_WrongChart_WrongChart => k_is)
    (case ib_KnitError => k_is)
    (case tC_KnitError => k_is)
    (case su_WrongChart_KnitError => k_is)
    (case su_WrongChart_ValueError => k_is)
    (case a0 => k_is)
    (case l0 => k_is)
    (case c0 => k_is)
    (case k0 => k_is)
    (case a1 => k_is)
    (case l1 => k_is)
    (case c1 => k_is)
    (case k1 => k_is)
    (case a2 => k_is)
    (case l2 => k_is)
    (case c2 => k_is)
    (case k2 => k_is)
    (case a3 => k_is)
    (case l3 => k_is)
    (case c3 => k_is)
    (case k3 => k_is)
    (case a4 => k_is)
    (case l4 => k_is)
    (case c4 => k_is)
    (case k4 => k_is)
    (case a5 => k_is)
    (case l5 => k_is)
    (case c5 => k_is)
    (case k5 => k_is)
    (case a6 => k_is)
    (case l6 => k_is)
    (case c6 => k_is)
    (case k6 => k_is)
    (case a7 => k_is)
    (case l7 => k_is)
    (case c7 => k_is)
    (case k7 => k_is)
    (case a8 => k_is)
    (case l8 => k_is)
    (case c8 => k_is)
    (case k8 => k_is)
    (case a9 => k_is)
    (case l9 => k_is)
    (case c9 => k_is)
    (case k9 => k_is)
    (case a10 => k_is)
    (case l10 => k_is)
    (case c10 => k_is)
    (case k10 => k_is)
    (case a11 => k_is)
    (case l11 => k_is)
    (case c11 => k_is)
    (case k11 => k_is)
    (case a12 => k_is)
    (case l12 => k_is)
    (case c12 => k_is)
    (case k12 => k_is)
    (case a13 => k_is)
    (case l13 => k_is)
    (case c13 => k_is)
    (case k13 => k_is)
    (case a14 => k_is)
    (case l14 => k_is)
    (case c14 => k_is)
    (case k14 => k_is)
    (case a15 => k_is)
    (case l15 => k_is)
    (case c15 => k_is)
    (case k15 => k_is)
    (case a16 => k_is)
    (case l16 => k_is)
    (case c16 => k_is)
    (case k16 => k_is)
    (case a17 => k_is)
    (case l17 => k_is)
    (case c17 => k_is)
    (case k17 => k_is)
    (case a18 => k_is)
    (case l18 => k_is)
    (case c18 => k_is)
    (case k18 => k_is)
    (case z_ValueError => k_is)
    (case z_abs => k_is)
    (case z_enumerate => k_is)
    (case z_int => k_is)
    (case z_isinstance => k_is)
    (case z_len => k_is)
    (case z_list => k_is)
    (case z_min => k_is)
    (case z_range => k_is)
    (case z_repr => k_is)
    (case z_sum => k_is)
